/- Part 3. -/
import Derived.StillTailTactics
import Derived.Test.YtacpfpghokcdlaaGreatDoorXB2
open Go.Proofs.Tryz
namespace Go.Proofs.YtacpfpghokcdlaaGreatDoor
set_option maxRecDepth 100000
section
open Go.Lib renaming hid → J
open Go.RowKit
theorem Kb (ls:List Nat) (n:Nat):cn ls n≤ls.length:=by
 unfold cn;split
 ·omega
 ·exact List.count_le_length
theorem zl4 (ls:List Nat) (hl:ls.length≤320) (n:Nat):sp ls n≤n*10485760:=by
 induction n with
 | zero=>simp [sp]
 | succ n ih=>
  rw [sp];have h1:=Kb ls n;have h2:2^(15-n)≤2^15:=Nat.pow_le_pow_right (by omega) (by omega);have h3:cn ls n*2^(15-n)≤320*2^15:=Nat.mul_le_mul (by omega) h2;omega
theorem Xv (ls:List Nat) (hl:ls.length≤320) (n:Nat):fp ls n≤n*320:=by
 induction n with
 | zero=>simp [fp]
 | succ n ih=>
  rw [fp];have h1:=Kb ls n;omega
theorem zb4 (k:Nat) (hk:k<16):(32768:Int)/2^k=((2^(15-k):Nat):Int):=by
 have:∀ k,k<16→(32768:Int)/2^k=((2^(15-k):Nat):Int):=by decide
 exact this k hk
theorem zks (ls:List Nat) (hl:ls.length≤320) (k:Nat) (hk:k<16):wrap64 ((sp ls k:Int)+wrap64 ((cn ls k:Int)*(32768/2^k)))=(sp ls (k+1):Nat):=by
 have h1:=Kb ls k;have h2:=zl4 ls hl k;rw [zb4 k hk,←Int.natCast_mul,sp];have h3:2^(15-k)≤2^15:=Nat.pow_le_pow_right (by omega) (by omega);have h4:cn ls k*2^(15-k)≤320*2^15:=Nat.mul_le_mul (by omega) h3;generalize cn ls k*2^(15-k)=z at *;unfold wrap64;omega
set_option maxHeartbeats 800000 in
theorem vJ (ls:List Nat) (hl:ls.length≤320) (w:World) :
  Calls prog 149 #[.agg (ia 16 (cn ls))] w fun e w'=>e=.returned (.int .i64 (room ls:Nat))∧Below w.heap.size w w':=by
 go_enter func149,ntmps149;go_upto_region 1 with (refine qr rfl 195 (.tmp 0) rfl (ia 16 (cn ls)) rfl ?_;intro W hb ht hs;have HS:=J hs;clear hs)
 have HB:=J (ht.below (Nat.le_refl _) (fun _ h=>h.elim));clear ht HS;go_wp2_with (refine wpList_load_row rfl 195 (.tmp 1) rfl w.heap.size rfl 195 _ hb 16 3 underlying195 i61 ?_);go_loop [3,7] (fun sv i=>∃ k:Nat,k≤16∧i=.int .i64 k∧sv=.int .i64 (sp ls k:Nat)) (fun _ i=>16-(intOf i).toNat)
 case atStart=>exact ⟨0,by omega,rfl,rfl⟩
 case round=>
  obtain ⟨k,hk,rfl,rfl⟩:=hrel;by_cases hlt:k<16
  ·have hkk:(k:Int)<16:=by omega
   go_wp2_with (refine ji rfl 195 (.tmp 6) (.tmp 7) rfl (ia 16 (cn ls)) rfl .i64 k rfl 16 3 underlying195 hlt a3 s3 _ (zw 16 _ k hlt) ?_);go_round
   case rel=>exact ⟨k+1,by omega,by go_num,by rw [zks ls hl k hlt]⟩
   case measure=>simp [intOf];omega
  ·have hk':k=16:=by omega
   subst hk';go_wp2;go_ret;exact ⟨rfl,HB.out⟩
set_option maxHeartbeats 800000 in
theorem zhK (ls:List Nat) (hl:ls.length≤320) (w:World) :
  Calls prog 170 #[.agg (ia 16 (cn ls))] w fun e w'=>e=.returned (.int .i64 (many ls:Nat))∧Below w.heap.size w w':=by
 go_enter func170,ntmps170;go_upto_region 1 with (refine qr rfl 195 (.tmp 0) rfl (ia 16 (cn ls)) rfl ?_;intro W hb ht hs;have HS:=J hs;clear hs)
 have HB:=J (ht.below (Nat.le_refl _) (fun _ h=>h.elim));clear ht HS;go_wp2_with (refine wpList_load_row rfl 195 (.tmp 1) rfl w.heap.size rfl 195 _ hb 16 3 underlying195 i61 ?_);go_loop [3,7] (fun sv i=>∃ k:Nat,k≤16∧i=.int .i64 k∧sv=.int .i64 (fp ls k:Nat)) (fun _ i=>16-(intOf i).toNat)
 case atStart=>exact ⟨0,by omega,rfl,rfl⟩
 case round=>
  obtain ⟨k,hk,rfl,rfl⟩:=hrel;by_cases hlt:k<16
  ·have hkk:(k:Int)<16:=by omega
   have h1:=Kb ls k;have h2:=Xv ls hl k;go_wp2_with (refine ji rfl 195 (.tmp 6) (.tmp 7) rfl (ia 16 (cn ls)) rfl .i64 k rfl 16 3 underlying195 hlt a3 s3 _ (zw 16 _ k hlt) ?_);go_round
   case rel=>exact ⟨k+1,by omega,by go_num,by rw [fp];go_num⟩
   case measure=>simp [intOf];omega
  ·have hk':k=16:=by omega
   subst hk';go_wp2;go_ret;exact ⟨rfl,HB.out⟩
structure Three (w:World) (p q r:Nat) (A B C:Array Value) (wr:World):Prop where
 a:Blk wr p 195 A
 b:Blk wr q 195 B
 c:Blk wr r 195 C
 below:Below w.heap.size w wr
 lo:w.heap.size≤p∧p<q∧q<r
theorem Three.setC {w wr:World}{p q r:Nat}{A B C:Array Value}(h:Three w p q r A B C wr) (i:Nat) (u:Value):Three w p q r A B (C.setIfInBounds i u) (wr.setCell ⟨r,i,none⟩ u):=by
 have:=h.lo;exact ⟨h.a.other i u (by omega),h.b.other i u (by omega),h.c.setCell i u,h.below.setCell (by show w.heap.size≤r;omega) _,h.lo⟩
theorem Three.setB {w wr W:World}{p q r:Nat}{A B B' C:Array Value}(h:Three w p q r A B C wr) (hb:Blk W q 195 B') (t:Touch (fun k=>k=q) wr W):Three w p q r A B' C W:=by
 have:=h.lo;exact ⟨h.a.touch t (by omega),hb,h.c.touch t (by omega),h.below.trans (t.below h.below.size fun k hk=>by omega),h.lo⟩
theorem Three.drew {w wr:World}{p q r:Nat}{A B C:Array Value}(h:Three w p q r A B C wr):Three w p q r A B C wr.drew:=⟨h.a,h.b,h.c,zQ h.below,h.lo⟩
def upf (f:Nat→Nat) (k i:Nat):Nat:=if i<k then f i else 0
theorem zco (f:Nat→Nat):ia 16 (upf f 16)=ia 16 f:=zq fun i hi=>by simp [upf,hi]
theorem zcC (f:Nat→Nat) (k:Nat):(ia 16 (upf f k)).setIfInBounds k (.int .i64 (f k:Nat))=ia 16 (upf f (k+1)):=by
 refine jW 16 _ _ k (f k) fun i _=>?_
 unfold upf;by_cases h:i=k
 ·subst h;simp
 ·rw [if_neg h]
  by_cases h1:i<k
  ·simp [h1,show i<k+1 by omega]
  ·simp [h1,show ¬i<k+1 by omega]
theorem zcb (f:Nat→Nat) (h:f 0=0):upf f 1=fun _=>0:=by
 funext i
 unfold upf;split
 ·rw [show i=0 by omega,h]
 ·rfl
theorem zgE {ls:List Nat}(H:Ok ls) (n:Nat) (hn:n≤15):fc ls n≤32768:=by
 have h1:=zcQ ls n hn;have h2:sp ls n≤room ls:=QB ls (by omega);have h3:=H.few;have h4:fc ls n*1≤fc ls n*2^(15-n):=Nat.mul_le_mul_left _ (Nat.two_pow_pos _);omega
set_option maxRecDepth 100000 in
set_option maxHeartbeats 800000 in
theorem zby (ls:List Nat) (H:Ok ls) (w:World) :
  Calls prog 150 #[.agg (ia 16 (cn ls))] w fun e w'=>e=.returned (.agg (ia 16 (fc ls)))∧Below w.heap.size w w':=by
 have HO:=J H;clear H;go_enter func150,ntmps150;go_upto_region 2 with (first
  | (refine qr rfl 195 (.tmp 0) rfl (ia 16 (cn ls)) rfl ?_;intro W hb ht hs;have HS:=J hs;clear hs)
  | (refine zP rfl 195 rfl _ z61 ?_;intro W hb ht hs;have HS:=J hs;clear hs))
 rename_i W1 hb1 ht1 HS1 W2 hb2 ht2 HS2 K1 hK1 K0 hK0;obtain ⟨p,hp⟩:=exq (w.heap.size);obtain ⟨q,hq⟩:=exq (W1.heap.size);obtain ⟨r,hr⟩:=exq (W2.heap.size);have H3:Hid (Three w p q r (ia 16 (cn ls)) (ia 16 fun _=>0) (ia 16 fun _=>0) W):=by
  subst hp hq hr;have h1:=HS1.out;have h2:=HS2.out;exact J ⟨(hb1.touch ht2 (fun h=>h)).touch ht (fun h=>h),hb2.touch ht (fun h=>h),hb,(ht1.trans (ht2.trans ht)).below (Nat.le_refl _) (fun _ h=>h.elim),by omega,by omega,by omega⟩
 rw [←hp,←hq,←hr];clear hp hq hr hb1 ht1 HS1 hb2 ht2 HS2 hb ht HS;go_wp2;go_loopw [4] (fun i wr=>∃ k:Nat,1≤k∧k≤16∧i=.int .i64 k∧Three w p q r (ia 16 (cn ls)) (ia 16 fun _=>0) (ia 16 (upf (fc ls) k)) wr) (fun i _=>16-(intOf i).toNat)
 case atStart=>exact ⟨1,by omega,by omega,rfl,by rw [zcb _ rfl];exact H3.out⟩
 case round=>
  obtain ⟨k,hk1,hk,rfl,hrel⟩:=hrel;have HR:=J hrel;clear hrel H3;by_cases hlt:k<16
  ·have hkk:(k:Int)≤15:=by omega
   obtain ⟨j,rfl⟩:∃ j,k=j+1:=⟨k-1,by omega⟩;have g1:=(HR.out.c.cell j).trans (zw 16 _ j (by omega));have g2:=(HR.out.a.cell j).trans (zw 16 _ j (by omega));have g3:=HR.out.c.free (j+1);have g4:=(HR.out.c.cell (j+1)).trans (zw 16 _ (j+1) hlt);have b1:=zgE HO.out j (by omega);have b2:=Kb ls j;have b3:=HO.out.len;rw [show upf (fc ls) (j+1) j=fc ls j by unfold upf;rw [if_pos (by omega)]] at g1;have e1:IntKind.i64.wrap (j:Int)=j:=by rw [IntKind.wrap_i64];omega
   have e2:(j:Int)<16:=by omega
   have e3:(j:Int)+1<16:=by omega
   have e4:(0:Int)≤(j:Int)+1:=by omega
   have e5:((j:Int)+1).toNat=j+1:=by omega
   have e6:IntKind.i64.wrap ((fc ls j:Int)+cn ls j)=(fc ls j:Int)+cn ls j:=by rw [IntKind.wrap_i64];omega
   have e7:IntKind.i64.wrap (((fc ls j:Int)+cn ls j)*2)=(fc ls (j+1):Nat):=by rw [IntKind.wrap_i64,fc];omega
   go_wp2;go_still_tail 12,(by kernel_rfl)
   change wpList _ _ _ _ _ wr.drew;go_wp2;go_roundw;case rel=>
    refine ⟨j+1+1,by omega,by omega,by go_num,?_⟩;have:=(HR.out.setC (j+1) (.int .i64 (fc ls (j+1):Nat))).drew;rw [zcC] at this;exact this
   case measure=>simp [intOf];omega
  ·have hk':k=16:=by omega
   subst hk';rw [zco] at HR;go_wp2_with (first
    | (refine wpList_load_row rfl 195 (.tmp 3) rfl r rfl 195 _ HR.out.c 16 3 underlying195 i61 ?_)
    | (refine wpList_store_row rfl 195 (.tmp 2) (.tmp 21) rfl rfl q rfl _ rfl 195 _ HR.out.b i61 (by simp only [qW]) (jS 16 _) ?_;intro W4 hb4 ht4 hs4;have HB:=J (HR.out.setB hb4 ht4);clear hb4 ht4 hs4))
   exact bodyPost_ret (yX results150 _ _ _ q rfl 195 _ HB.out.b 16 3 underlying195 i61) rfl ⟨rfl,HB.out.below⟩
set_option maxRecDepth 100000 in
set_option maxHeartbeats 800000 in
theorem yy (ls:List Nat) (hl:ls.length≤320) (w:World) :
  Calls prog 171 #[.agg (ia 16 (cn ls))] w fun e w'=>e=.returned (.agg (ia 16 (fp ls)))∧Below w.heap.size w w':=by
 go_enter func171,ntmps171;go_upto_region 2 with (first
  | (refine qr rfl 195 (.tmp 0) rfl (ia 16 (cn ls)) rfl ?_;intro W hb ht hs;have HS:=J hs;clear hs)
  | (refine zP rfl 195 rfl _ z61 ?_;intro W hb ht hs;have HS:=J hs;clear hs))
 rename_i W1 hb1 ht1 HS1 W2 hb2 ht2 HS2 K1 hK1 K0 hK0;obtain ⟨p,hp⟩:=exq (w.heap.size);obtain ⟨q,hq⟩:=exq (W1.heap.size);obtain ⟨r,hr⟩:=exq (W2.heap.size);have H3:Hid (Three w p q r (ia 16 (cn ls)) (ia 16 fun _=>0) (ia 16 fun _=>0) W):=by
  subst hp hq hr;have h1:=HS1.out;have h2:=HS2.out;exact J ⟨(hb1.touch ht2 (fun h=>h)).touch ht (fun h=>h),hb2.touch ht (fun h=>h),hb,(ht1.trans (ht2.trans ht)).below (Nat.le_refl _) (fun _ h=>h.elim),by omega,by omega,by omega⟩
 rw [←hp,←hq,←hr];clear hp hq hr hb1 ht1 HS1 hb2 ht2 HS2 hb ht HS;go_wp2;go_loopw [4] (fun i wr=>∃ k:Nat,1≤k∧k≤16∧i=.int .i64 k∧Three w p q r (ia 16 (cn ls)) (ia 16 fun _=>0) (ia 16 (upf (fp ls) k)) wr) (fun i _=>16-(intOf i).toNat)
 case atStart=>exact ⟨1,by omega,by omega,rfl,by rw [zcb _ rfl];exact H3.out⟩
 case round=>
  obtain ⟨k,hk1,hk,rfl,hrel⟩:=hrel;have HR:=J hrel;clear hrel H3;by_cases hlt:k<16
  ·have hkk:(k:Int)≤15:=by omega
   obtain ⟨j,rfl⟩:∃ j,k=j+1:=⟨k-1,by omega⟩;have g1:=(HR.out.c.cell j).trans (zw 16 _ j (by omega));have g2:=(HR.out.a.cell j).trans (zw 16 _ j (by omega));have g3:=HR.out.c.free (j+1);have g4:=(HR.out.c.cell (j+1)).trans (zw 16 _ (j+1) hlt);have b1:=Xv ls hl j;have b2:=Kb ls j;rw [show upf (fp ls) (j+1) j=fp ls j by unfold upf;rw [if_pos (by omega)]] at g1;have e1:IntKind.i64.wrap (j:Int)=j:=by rw [IntKind.wrap_i64];omega
   have e2:(j:Int)<16:=by omega
   have e3:(j:Int)+1<16:=by omega
   have e4:(0:Int)≤(j:Int)+1:=by omega
   have e5:((j:Int)+1).toNat=j+1:=by omega
   have e6:IntKind.i64.wrap ((fp ls j:Int)+cn ls j)=(fp ls (j+1):Nat):=by rw [IntKind.wrap_i64,fp];omega
   go_wp2;go_still_tail 11,(by kernel_rfl)
   change wpList _ _ _ _ _ wr.drew;go_wp2;go_roundw;case rel=>
    refine ⟨j+1+1,by omega,by omega,by go_num,?_⟩;have:=(HR.out.setC (j+1) (.int .i64 (fp ls (j+1):Nat))).drew;rw [zcC] at this;exact this
   case measure=>simp [intOf];omega
  ·have hk':k=16:=by omega
   subst hk';rw [zco] at HR;go_wp2_with (first
    | (refine wpList_load_row rfl 195 (.tmp 3) rfl r rfl 195 _ HR.out.c 16 3 underlying195 i61 ?_)
    | (refine wpList_store_row rfl 195 (.tmp 2) (.tmp 20) rfl rfl q rfl _ rfl 195 _ HR.out.b i61 (by simp only [qW]) (jS 16 _) ?_;intro W4 hb4 ht4 hs4;have HB:=J (HR.out.setB hb4 ht4);clear hb4 ht4 hs4))
   exact bodyPost_ret (yX results171 _ _ _ q rfl 195 _ HB.out.b 16 3 underlying195 i61) rfl ⟨rfl,HB.out.below⟩
end
section
open Go.RowKit
def cc (vw vo:Value) (f g:Nat→Nat):Array Value:=
 va 34 fun i=>if i=0 then vw else if i=1 then vo else if i<18 then .int .i64 (f (i-2):Nat) else .int .i64 (g (i-18):Nat)
def il (f:Nat→Nat):List Value:=(List.range 16).map fun i => .int .i64 (f i:Nat)
theorem zji (vw vo:Value) (f g:Nat→Nat):(cc vw vo f g)[0]? = some vw:=zw 34 _ 0 (by omega)
theorem zhM (vw vo:Value) (f g:Nat→Nat):(cc vw vo f g)[1]? = some vo:=zw 34 _ 1 (by omega)
theorem zl8 (vw vo:Value) (f g:Nat→Nat) (j:Nat) (h:j<16):(cc vw vo f g)[2+j]? = some (.int .i64 (f j:Nat)):=by
 rw [cc,zw 34 _ (2+j) (by omega)];rw [if_neg (by omega),if_neg (by omega),if_pos (by omega),show 2+j-2=j by omega]
theorem zl9 (vw vo:Value) (f g:Nat→Nat) (j:Nat) (h:j<16):(cc vw vo f g)[18+j]? = some (.int .i64 (g j:Nat)):=by
 rw [cc,zw 34 _ (18+j) (by omega)];rw [if_neg (by omega),if_neg (by omega),if_neg (by omega),show 18+j-18=j by omega]
theorem zjx (vw vo u:Value) (f g:Nat→Nat):(cc vw vo f g).setIfInBounds 0 u=cc u vo f g:=by
 unfold cc;rw [qF];refine zq fun i _=>?_
 by_cases h:i=0
 ·simp [h]
 ·simp [h]
theorem zi0 (vw vo u:Value) (f g:Nat→Nat):(cc vw vo f g).setIfInBounds 1 u=cc vw u f g:=by
 unfold cc;rw [qF];refine zq fun i _=>?_
 by_cases h:i=1
 ·simp [h]
 ·simp [h]
theorem zlS {w:World}{p:Nat}{vw vo:Value}{f g:Nat→Nat}(h:Blk w p 197 (cc vw vo f g)):w.rangeAt p 2 (il f):=fun j v hv=>by
 have hj:j<16:=by have:=(List.getElem?_eq_some_iff.1 hv).1;simpa [il] using this
 rw [h.cell,zl8 _ _ _ _ _ hj,←hv];simp [il,hj]
theorem zgW {w:World}{p:Nat}{vw vo:Value}{f g:Nat→Nat}(h:Blk w p 197 (cc vw vo f g)):w.rangeAt p 18 (il g):=fun j v hv=>by
 have hj:j<16:=by have:=(List.getElem?_eq_some_iff.1 hv).1;simpa [il] using this
 rw [h.cell,zl9 _ _ _ _ _ hj,←hv];simp [il,hj]
theorem zmr {w:World}{p:Nat}{f:Nat→Nat}(h:Blk w p 195 (ia 16 f)):w.rangeAt p 0 (il f):=fun j v hv=>by
 have hj:j<16:=by have:=(List.getElem?_eq_some_iff.1 hv).1;simpa [il] using this
 rw [Nat.zero_add,h.cell,zw 16 _ j hj,←hv];simp [il,hj]
theorem zkE (f:Nat→Nat):(prog.info? 195).map (·.size)=some (il f).length:=by rw [show (il f).length=16 by simp [il]];kernel_rfl
theorem qX {ops:Array Oper}{rest:List Oper}{op:Oper}{a:Act}{w:World}{Q:Exit→Act→World→Prop}(hgd:op.guard=none) (x:Operand) (ho:op.op=.load 195 x)
  (b o:Nat) (hx:a.eval x=.pointer (some ⟨b,o,none⟩)) (f:Nat→Nat) (hc:w.rangeAt b o (il f))
  (h:wpList prog ops Q rest (a.put op.dst (.agg (ia 16 f))) w):wpList prog ops Q (op::rest) a w:=
 wpList_load_mid hgd 195 x ho b o hx (il f) _ hc underlying195 rfl (zkE f) h
def y7 (ls:List Nat) (i:Nat):Value:=if i%2=0 then .int .u32 (rv (ln ls (i/2)) (cd ls (i/2)):Nat) else .int .i64 (ln ls (i/2):Nat)
def jG (ls:List Nat) (k i:Nat):Value:=if i/2<k then y7 ls i else if i%2=0 then .int .u32 0 else .int .i64 0
def jZ (ls:List Nat) (k:Nat) (F:Nat→Value):Prop:=∀ s,s<k→ln ls s≠0→F (fp ls (ln ls s)+rk ls s)=.int .i64 (s:Nat)
structure zg (w:World) (p:Nat) (ls:List Nat):Prop where
 ok:Ok ls
 blk:∃ gw go F,Blk w p 197 (cc (.slice (some ⟨gw,0,none⟩) ls.length ls.length) (.slice (some ⟨go,0,none⟩) (many ls) (many ls)) (fc ls) (cn ls))∧
  Blk w gw 218 (va (ls.length*2) (y7 ls))∧Blk w go 3 (va (many ls) F)∧jZ ls ls.length F
theorem zg.below {w w':World}{p:Nat}{ls:List Nat}(h:zg w p ls) (hb:Below w.heap.size w w'):zg w' p ls:=by
 obtain ⟨ho,gw,go,F,h1,h2,h3,h4⟩:=h;exact ⟨ho,gw,go,F,h1.below hb,h2.below hb,h3.below hb,h4⟩
structure Gv (w:World) (pc gw go pp pk:Nat) (CC W O P K:Array Value) (wr:World):Prop where
 c:Blk wr pc 197 CC
 wd:Blk wr gw 218 W
 od:Blk wr go 3 O
 pl:Blk wr pp 195 P
 cs:Blk wr pk 195 K
 touch:Touch (fun k=>k=pc) w wr
 lo:pc<w.heap.size∧w.heap.size≤gw∧gw<go∧go<pp∧pp<pk
section
variable {w wr:World}{pc gw go pp pk:Nat}{CC W O P K:Array Value}
theorem Gv.drew (h:Gv w pc gw go pp pk CC W O P K wr):Gv w pc gw go pp pk CC W O P K wr.drew:=⟨h.c,h.wd,h.od,h.pl,h.cs,h.touch.drew,h.lo⟩
theorem Gv.setW (h:Gv w pc gw go pp pk CC W O P K wr) (i:Nat) (u:Value):Gv w pc gw go pp pk CC (W.setIfInBounds i u) O P K (wr.setCell ⟨gw,i,none⟩ u):=by
 have:=h.lo;exact ⟨h.c.other i u (by omega),h.wd.setCell i u,h.od.other i u (by omega),h.pl.other i u (by omega),h.cs.other i u (by omega),h.touch.setCell _ _ (.inr (by show w.heap.size≤gw;omega)),h.lo⟩
theorem Gv.setO (h:Gv w pc gw go pp pk CC W O P K wr) (i:Nat) (u:Value):Gv w pc gw go pp pk CC W (O.setIfInBounds i u) P K (wr.setCell ⟨go,i,none⟩ u):=by
 have:=h.lo;exact ⟨h.c.other i u (by omega),h.wd.other i u (by omega),h.od.setCell i u,h.pl.other i u (by omega),h.cs.other i u (by omega),h.touch.setCell _ _ (.inr (by show w.heap.size≤go;omega)),h.lo⟩
theorem Gv.setP (h:Gv w pc gw go pp pk CC W O P K wr) (i:Nat) (u:Value):Gv w pc gw go pp pk CC W O (P.setIfInBounds i u) K (wr.setCell ⟨pp,i,none⟩ u):=by
 have:=h.lo;exact ⟨h.c.other i u (by omega),h.wd.other i u (by omega),h.od.other i u (by omega),h.pl.setCell i u,h.cs.other i u (by omega),h.touch.setCell _ _ (.inr (by show w.heap.size≤pp;omega)),h.lo⟩
theorem Gv.setK (h:Gv w pc gw go pp pk CC W O P K wr) (i:Nat) (u:Value):Gv w pc gw go pp pk CC W O P (K.setIfInBounds i u) (wr.setCell ⟨pk,i,none⟩ u):=by
 have:=h.lo;exact ⟨h.c.other i u (by omega),h.wd.other i u (by omega),h.od.other i u (by omega),h.pl.other i u (by omega),h.cs.setCell i u,h.touch.setCell _ _ (.inr (by show w.heap.size≤pk;omega)),h.lo⟩
end
def jJ (b:Nat→Nat) (ls:List Nat) (k n:Nat):Nat:=b n+if n=0 then 0 else (ls.take k).count n
theorem Xz (b:Nat→Nat) (ls:List Nat):jJ b ls 0=b:=by funext n;simp [jJ]
theorem XX (b:Nat→Nat){ls:List Nat}{k:Nat}(hk:k<ls.length) (h:ln ls k=0):jJ b ls (k+1)=jJ b ls k:=by
 funext n
 unfold jJ;rw [qw hk,List.count_append,h];by_cases e:n=0
 ·simp [e]
 ·simp [e,Ne.symm e]
theorem UH (b:Nat→Nat){ls:List Nat}{k:Nat}(hk:k<ls.length) (h:ln ls k≠0) (n:Nat):jJ b ls (k+1) n=if n=ln ls k then jJ b ls k (ln ls k)+1 else jJ b ls k n:=by
 unfold jJ;rw [qw hk,List.count_append,List.count_singleton];by_cases e:n=ln ls k
 ·subst e;simp [h];omega
 ·simp [e,Ne.symm e]
theorem uy (b:Nat→Nat){ls:List Nat}{k:Nat}(h:ln ls k≠0):jJ b ls k (ln ls k)=b (ln ls k)+rk ls k:=by
 unfold jJ rk;rw [if_neg h]
theorem zdR (ls:List Nat):jG ls 0=fun i=>if i%2=0 then .int .u32 0 else .int .i64 0:=by
 funext i
 simp [jG]
theorem zc2 {ls:List Nat}{k:Nat}(h:ln ls k=0):jG ls (k+1)=jG ls k:=by
 funext i
 unfold jG;by_cases h1:i/2<k
 ·simp [h1,show i/2<k+1 by omega]
 ·by_cases h2:i/2=k
  ·rw [if_pos (by omega),if_neg h1]
   unfold y7;rw [h2,h];rfl
  ·simp [h1,show ¬i/2<k+1 by omega]
theorem zd2 (n:Nat) (ls:List Nat) (k:Nat):((va n (jG ls k)).setIfInBounds (k*2) (.int .u32 (rv (ln ls k) (cd ls k):Nat))).setIfInBounds (k*2+1) (.int .i64 (ln ls k:Nat))=va n (jG ls (k+1)):=by
 rw [qF,qF];refine zq fun i _=>?_
 unfold jG;by_cases h0:i=k*2+1
 ·subst h0
  rw [if_pos rfl,if_pos (by omega)];unfold y7;rw [if_neg (by omega),show (k*2+1)/2=k by omega]
 ·rw [if_neg h0]
  by_cases h1:i=k*2
  ·subst h1
   rw [if_pos rfl,if_pos (by omega)];unfold y7;rw [if_pos (by omega),show k*2/2=k by omega]
  ·rw [if_neg h1]
   by_cases h2:i/2<k
   ·simp [h2,show i/2<k+1 by omega]
   ·simp [h2,show ¬i/2<k+1 by omega]
theorem zgo (ls:List Nat):va (ls.length*2) (jG ls ls.length)=va (ls.length*2) (y7 ls):=by
 refine zq fun i hi=>?_
 unfold jG;rw [if_pos (by omega)]
theorem QD {ls:List Nat}{k:Nat}{F:Nat→Value}(h:jZ ls k F) (hk:ln ls k≠0):jZ ls (k+1) (fun i=>if i=fp ls (ln ls k)+rk ls k then .int .i64 (k:Nat) else F i):=by
 intro s hs hl;show (if _ then _ else _)=_;by_cases e:s=k
 ·subst e;rw [if_pos rfl]
 ·rw [if_neg (fun x=>e (zkI hl hk x))]
  exact h s (by omega) hl
theorem Xh {ls:List Nat}{k:Nat}{F:Nat→Value}(h:jZ ls k F) (hk:ln ls k=0):jZ ls (k+1) F:=by
 intro s hs hl;by_cases e:s=k
 ·subst e;exact absurd hk hl
 ·exact h s (by omega) hl
end
section
open Go.Lib renaming hid → J
open Go.RowKit
def zmJ (w:World) (pc:Nat) (ls:List Nat) (e:Ending) (w':World):Prop:=e=.returned (.tuple #[])∧zg w' pc ls∧Touch (fun k=>k=pc) w w'
theorem wz (n:Nat):va (n*2) (fun i=>(Value.agg #[.int .u32 0,.int .i64 0]).cells[i%(Value.agg #[.int .u32 0,.int .i64 0]).cells.size]!)=va (n*2) (fun i=>if i%2=0 then .int .u32 0 else .int .i64 0):=by
 refine zq fun i _=>?_
 show #[Value.int .u32 0,.int .i64 0][i%2]! = _;rcases Nat.mod_two_eq_zero_or_one i with h | h <;> rw [h] <;> rfl
theorem iz (n:Nat):va (n*1) (fun i=>(Value.int .i64 0).cells[i%(Value.int .i64 0).cells.size]!)=va n (fun _ => .int .i64 0):=by
 rw [Nat.mul_one];refine zq fun i _=>?_
 show #[Value.int .i64 0][i%1]! = _;rw [Nat.mod_one];rfl
structure St (w:World) (pc gw go:Nat) (CC W O:Array Value) (wr:World):Prop where
 c:Blk wr pc 197 CC
 wd:Blk wr gw 218 W
 od:Blk wr go 3 O
 touch:Touch (fun k=>k=pc) w wr
 lo:pc<w.heap.size∧w.heap.size≤gw∧gw<go
theorem St.grow {w wr w':World}{pc gw go:Nat}{CC W O:Array Value}(h:St w pc gw go CC W O wr) (hb:Below wr.heap.size wr w'):St w pc gw go CC W O w':=
 ⟨h.c.below hb,h.wd.below hb,h.od.below hb,h.touch.trans' (Touch.of_below hb) (fun _ e _=>e),h.lo⟩
theorem St.other {w wr w':World}{pc gw go g:Nat}{CC W O:Array Value}(h:St w pc gw go CC W O wr) (ht:Touch (fun k=>k=g) wr w') (hg:go<g) (hw:w.heap.size≤g):St w pc gw go CC W O w':=by
 have:=h.lo;exact ⟨h.c.touch ht (by omega),h.wd.touch ht (by omega),h.od.touch ht (by omega),h.touch.trans' ht (fun i e hi=>by omega),h.lo⟩
theorem St.go {w wr w':World}{pc gw go:Nat}{CC W O:Array Value}(h:St w pc gw go CC W O wr) (hb:Touch (fun _=>False) wr w'):St w pc gw go CC W O w':=
 h.grow (hb.below (Nat.le_refl _) fun _ h=>h.elim)
def GvK (w:World) (pc gw go pp pk N:Nat) (ls:List Nat) (k:Nat) (wr:World):Prop:=
 ∃ F,jZ ls k F∧Gv w pc gw go pp pk (cc (.slice (some ⟨gw,0,none⟩) N N) (.slice (some ⟨go,0,none⟩) (many ls) (many ls)) (fc ls) (cn ls)) (va (N*2) (jG ls k)) (va (many ls) F) (ia 16 (jJ (fp ls) ls k)) (ia 16 (jJ (fc ls) ls k)) wr
set_option maxHeartbeats 3200000 in
theorem zge (ao:Option Addr) (c:Nat) (zs:List Int) (ls:List Nat) (w:World) (pc:Nat) (h:IS w ao zs) (H:Ok ls) (hlen:ls.length=zs.length) (hz:∀ k,k<zs.length→zs.getD k 0=(ln ls k:Nat))
  (hb:Blk w pc 197 (cc (.slice none 0 0) (.slice none 0 0) (fc ls) (cn ls))) (hne:∀ b off,ao=some ⟨b,off,none⟩→zs≠[]→¬b=pc) :
  Calls prog 151 #[.pointer (some ⟨pc,0,none⟩),.slice ao zs.length c] w (zmJ w pc ls):=by
 have HI:=J h;have HO:=J H;have HL:=J hlen;have HZ:=J hz;have HB:=J hb;have HN:=J hne;have hl:=H.len;have hzl:zs.length≤320:=by omega
 have hmany:many ls≤5120:=Xv ls hl 16;clear h H hlen hz hb hne hl;have hpc:=HB.out.lt;have hf0:=HB.out.free 0;have hc0:=(HB.out.cell 0).trans (zji _ _ _ _);go_enter func151,ntmps151;go_upto_region 1 with (refine zy rfl 193 (.tmp 10) (.tmp 10) rfl 218 (.agg #[.int .u32 0,.int .i64 0]) 2 16 zs.length underlying193 (by kernel_rfl) .i64 .i64 _ _ rfl rfl rfl rfl (by omega) (by omega) ?_;intro W hb1 ht1 hs1;have hg0:=(HB.out.touch ht1 (fun h=>h)).free 0;have hd0:=((HB.out.touch ht1 (fun h=>h)).cell 0).trans (zji _ _ _ _);have HS1:=J hs1;clear hs1)
 obtain ⟨gw,hgw⟩:=exq (w.heap.size);have HS1:=HS1.out;rw [←hgw];rw [←hgw,wz,←zdR ls] at hb1;rw [←hgw] at HS1;have HC1:=J (Blk.setCell (HB.out.touch ht1 (fun h=>h)) 0 (.slice (some ⟨gw,0,none⟩) zs.length zs.length));rw [zjx] at HC1;have HW1:=J (hb1.other 0 (.slice (some ⟨gw,0,none⟩) zs.length zs.length) (g':=pc) (by omega));have HT1:=J ((ht1.mono (T:=fun k=>k=pc) (fun _ h=>h.elim)).setCell ⟨pc,0,none⟩ (.slice (some ⟨gw,0,none⟩) zs.length zs.length) (.inl rfl));have HS1':Hid ((W.setCell ⟨pc,0,none⟩ (.slice (some ⟨gw,0,none⟩) zs.length zs.length)).heap.size=gw+1):=J (by simpa [World.setCell] using HS1);have HG:=J hgw;clear hgw hb1 ht1 HS1 hg0 hd0 hf0 hc0;generalize W.setCell ⟨pc,0,none⟩ (.slice (some ⟨gw,0,none⟩) zs.length zs.length)=W1 at *;clear HB;go_upto_region 2 with (first
  | (refine qX rfl (.tmp 17) rfl pc 18 rfl (cn ls) (zgW HC1.out) ?_)
  | (go_at_call 170;(refine (zhK ls HO.out.len _).mono ?_);rintro e w2 ⟨rfl,hb2⟩;have HB2:=J hb2;clear hb2)
  | (refine zy rfl 40 (.tmp 19) (.tmp 19) rfl 3 (.int .i64 0) 1 8 (many ls) underlying40 (by kernel_rfl) .i64 .i64 _ _ rfl rfl rfl rfl (by omega) (by omega) ?_;intro W hb1 ht1 hs1;have HC2:=J ((HC1.out.below HB2.out).touch ht1 (fun h=>h));have hg0:=HC2.out.free 1;have hd0:=(HC2.out.cell 1).trans (zhM _ _ _ _);have HS2:=J hs1;clear hs1))
 obtain ⟨go,hgo⟩:=exq (w2.heap.size);rw [←hgo];rw [←hgo,iz] at hb1;have HG2:=J hgo;have hlt2:gw<go:=by
  have:=HB2.out.size;have:=HS1'.out;rw [hgo];omega
 have HA:Hid (St w pc gw go (cc (.slice (some ⟨gw,0,none⟩) zs.length zs.length) (.slice (some ⟨go,0,none⟩) (many ls) (many ls)) (fc ls) (cn ls)) (va (zs.length*2) (jG ls 0)) (va (many ls) fun _ => .int .i64 0) (W.setCell ⟨pc,1,none⟩ (.slice (some ⟨go,0,none⟩) (many ls) (many ls)))):=by
  have hlt1:pc<gw:=by rw [HG.out];exact hpc
  refine J ⟨?_,((HW1.out.below HB2.out).touch ht1 (fun h=>h)).other _ _ (by omega),hb1.other _ _ (by omega),?_,hpc,by rw [HG.out];exact Nat.le_refl _,hlt2⟩
  ·have:=HC2.out.setCell 1 (.slice (some ⟨go,0,none⟩) (many ls) (many ls))
   rwa [zi0] at this
  ·exact (HT1.out.trans' ((Touch.of_below HB2.out).trans ht1) (fun _ h _=>h.elim)).setCell _ _ (.inl rfl)
 clear HC2 HB2 HW1 HT1 HC1 hb1 ht1 hg0 hd0 HS2 HG2 hgo HS1';generalize W.setCell ⟨pc,1,none⟩ (.slice (some ⟨go,0,none⟩) (many ls) (many ls))=W2 at *;go_upto_region 3 with (first
  | (refine qX rfl (.tmp 25) rfl pc 18 rfl (cn ls) (zgW HA.out.c) ?_)
  | (go_at_call 171;(refine (yy ls HO.out.len _).mono ?_);rintro e w3 ⟨rfl,hb3⟩;have HA3:=J (HA.out.grow hb3);clear hb3)
  | (refine zP rfl 195 rfl _ z61 ?_;intro W3 hb3 ht3 hs3;have HA4:=J (HA3.out.go ht3);have HS3:=J hs3;clear hs3)
  | (refine wpList_store_row rfl 195 (.tmp 4) (.tmp 27) rfl rfl w3.heap.size rfl _ rfl 195 _ hb3 i61 (by simp only [qW]) (jS 16 _) ?_;intro W4 hb4 ht4 hs4;have HS4:=J hs4;clear hs4))
 obtain ⟨pp,hpp⟩:=exq (w3.heap.size);have hgp:go<pp:=by rw [hpp];exact HA3.out.od.lt
 have hwp:w.heap.size≤pp:=by have:=HA3.out.lo;omega
 rw [←hpp];rw [←hpp] at ht4 hb4;have HA5:=J (HA4.out.other ht4 hgp hwp);have HP5:=J hb4;clear HA3 HA4 HA hb3 ht3 HS3 hb4 ht4 HS4 hpp;go_upto_region 4 with (first
  | (refine qX rfl (.tmp 30) rfl pc 2 rfl (fc ls) (zlS HA5.out.c) ?_)
  | (refine zP rfl 195 rfl _ z61 ?_;intro W6 hb6 ht6 hs6;have HS6:=J hs6;clear hs6)
  | (refine wpList_store_row rfl 195 (.tmp 5) (.tmp 31) rfl rfl W4.heap.size rfl _ rfl 195 _ hb6 i61 (by simp only [qW]) (jS 16 _) ?_;intro W7 hb7 ht7 hs7;have HS7:=J hs7;clear hs7))
 obtain ⟨pk,hpk⟩:=exq (W4.heap.size);have hpk2:pp<pk:=by rw [hpk];exact HP5.out.lt
 rw [←hpk];rw [←hpk] at ht7 hb7;have HR0:Hid (Gv w pc gw go pp pk (cc (.slice (some ⟨gw,0,none⟩) zs.length zs.length) (.slice (some ⟨go,0,none⟩) (many ls) (many ls)) (fc ls) (cn ls)) (va (zs.length*2) (jG ls 0)) (va (many ls) fun _ => .int .i64 0) (ia 16 (fp ls)) (ia 16 (fc ls)) W7):=by
  have H:=(HA5.out.go ht6).other ht7 (by omega) (by omega);have:=HA5.out.lo;exact J ⟨H.c,H.wd,H.od,(HP5.out.touch ht6 (fun h=>h)).touch ht7 (by omega),hb7,H.touch,by omega,by omega,by omega,by omega,by omega⟩
 clear HA5 HP5 hb6 ht6 HS6 hb7 ht7 HS7 hpk;go_wp2;have HR1:Hid (GvK w pc gw go pp pk zs.length ls 0 W7):=J ⟨_,(fun s h=>absurd h (Nat.not_lt_zero s)),by rw [Xz,Xz];exact HR0.out⟩
 clear HR0;go_loopw [34] (fun i wr=>∃ k:Nat,k≤zs.length∧i=.int .i64 k∧GvK w pc gw go pp pk zs.length ls k wr) (fun i _=>zs.length-(intOf i).toNat)
 case atStart=>exact ⟨0,Nat.zero_le _,rfl,HR1.out⟩
 case round=>
  obtain ⟨k,hk,rfl,F,hF,hrel⟩:=hrel;have HF:=J hF;have HR:=J hrel;clear hrel hF HR1;by_cases hlt:k<zs.length
  ·have hkk:(k:Int)<zs.length:=by omega
   have hkl:k<ls.length:=by rw [HL.out];exact hlt
   obtain ⟨b,off,rfl,hcell⟩:=(HI.out.touch HR.out.touch (fun b off e hx=>HN.out b off e hx)).at hlt;obtain ⟨n,hn⟩:=exq (ln ls k);have hn15:n≤15:=by rw [hn];exact z6 HO.out k
   rw [HZ.out k hlt,←hn] at hcell;have HX:=J hn;clear hn;by_cases h0:n=0
   ·subst h0
    go_wp2;go_roundw;case rel=>exact ⟨k+1,by omega,by go_num,F,Xh HF.out HX.out.symm,by rw [zc2 HX.out.symm,XX _ hkl HX.out.symm,XX _ hkl HX.out.symm];exact HR.out⟩
    case measure=>simp [intOf];omega
   ·have hb0:((n:Int) == 0)=false:=by simp;omega
    have hn0:1≤n:=by omega
    have hl0:ln ls k≠0:=by rw [←HX.out];exact h0
    have hx:=zjR HO.out hl0;have hp15:2^ln ls k≤2^15:=Nat.pow_le_pow_right (by omega) (z6 HO.out k);have hy:=zjW HO.out hl0;obtain ⟨x,hxe⟩:=exq (cd ls k);obtain ⟨y,hye⟩:=exq (fp ls (ln ls k)+rk ls k);rw [←hxe] at hx;rw [←hye] at hy;have hx15:x<32768:=by omega
    clear hx hp15;have HXE:=J hxe;have HYE:=J hye;have HL0:=J hl0;clear hxe hye hl0 h0;have g0:=(HR.out.c.cell 0).trans (zji _ _ _ _);have g1:=(HR.out.cs.cell n).trans (zw 16 _ n (by omega));rw [show jJ (fc ls) ls k n=x by rw [HXE.out,HX.out,uy _ HL0.out];rfl] at g1;have g2:=HR.out.wd.free (k*2);have g3:=HR.out.wd.free (k*2+1);have g4:=(HR.out.wd.cell (k*2)).trans (zw _ _ (k*2) (by omega));have g5:=(HR.out.wd.cell (k*2+1)).trans (zw _ _ (k*2+1) (by omega));have e1:(n:Int)<16:=by omega
    have e2:(n:Int)≤32:=by omega
    have e3:IntKind.u32.wrap (x:Int)=x:=by rw [IntKind.wrap_u32'];omega
    have hlo:=HR.out.lo;have n1:¬pc=gw:=by omega
    have n2:¬gw=pc:=by omega
    have n3:¬pk=gw:=by omega
    have n4:¬gw=pk:=by omega
    have HLO:=J hlo;clear hlo;go_wp2_with fail
    go_region_held3 (fun w'=>w'.cell? ⟨pc,0,none⟩=some (.slice (some ⟨gw,0,none⟩) zs.length zs.length)∧w'.cell? ⟨pk,n,none⟩=some (.int .i64 (x:Nat))) (go_keep)
     (first | (go_at_call 164;refine (xz x n _ (by omega) (by omega)).mono ?_;rintro e w' ⟨rfl,rfl⟩))
    have HR8:=J (((HR.out.setW (k*2) (.int .u32 (rv n x:Nat))).setW (k*2+1) (.int .i64 (n:Nat))).drew);rw [show rv n x=rv (ln ls k) (cd ls k) by rw [HX.out,HXE.out],show (n:Int)=(ln ls k:Nat) by rw [HX.out],zd2] at HR8;rw [show rv (ln ls k) (cd ls k)=rv n x by rw [HX.out,HXE.out],show ((ln ls k:Nat):Int)=n by rw [HX.out]] at HR8;clear HR g0 g1 g2 g3 g4 g5 n1 n2 n3 n4;rename_i hSw;clear hSw;generalize ((wr.setCell ⟨gw,k*2,none⟩ (.int .u32 (rv n x:Nat))).setCell ⟨gw,k*2+1,none⟩ (.int .i64 (n:Nat))).drew=w8 at *;have g0:=(HR8.out.c.cell 1).trans (zhM _ _ _ _);have g1:=(HR8.out.pl.cell n).trans (zw 16 _ n (by omega));rw [show jJ (fp ls) ls k n=y by rw [HYE.out,HX.out,uy _ HL0.out]] at g1;have g2:=HR8.out.od.free y;have g3:=(HR8.out.od.cell y).trans (zw _ _ y hy);have e4:(y:Int)<many ls:=by omega
    have e5:(0:Int)≤y:=by omega
    go_wp2;go_still_tail 9,(by kernel_rfl)
    change wpList _ _ _ _ _ w8.drew;go_upto_region 10 with (fail)
    have HR9:=J ((HR8.out.setO y (.int .i64 (k:Nat))).drew);rw [qF] at HR9;clear HR8 g0 g1 g2 g3 e4 e5;generalize (w8.setCell ⟨go,y,none⟩ (.int .i64 (k:Nat))).drew=w9 at *;have g1:=(HR9.out.cs.cell n).trans (zw 16 _ n (by omega));have g2:=HR9.out.cs.free n;rw [show jJ (fc ls) ls k n=x by rw [HXE.out,HX.out,uy _ HL0.out];rfl] at g1;go_upto_region 11 with (fail)
    have HR10:=J (HR9.out.setK n (.int .i64 ((x+1:Nat):Int)));rw [jW 16 _ (jJ (fc ls) ls (k+1)) n (x+1) (fun i _=>by rw [UH _ hkl HL0.out,HXE.out,HX.out,uy _ HL0.out];rfl)] at HR10;clear HR9 g1 g2;rw [show ((x:Int)+1)=((x+1:Nat):Int) by omega];generalize w9.setCell ⟨pk,n,none⟩ (.int .i64 ((x+1:Nat):Int))=w10 at *;have g1:=(HR10.out.pl.cell n).trans (zw 16 _ n (by omega));have g2:=HR10.out.pl.free n;rw [show jJ (fp ls) ls k n=y by rw [HYE.out,HX.out,uy _ HL0.out]] at g1;go_wp2;have HR11:=HR10.out.setP n (.int .i64 ((y+1:Nat):Int));rw [jW 16 _ (jJ (fp ls) ls (k+1)) n (y+1) (fun i _=>by rw [UH _ hkl HL0.out,HYE.out,HX.out,uy _ HL0.out])] at HR11;go_roundw;case rel=>exact ⟨k+1,by omega,by go_num,_,by have:=QD HF.out HL0.out;rw [←HYE.out] at this;exact this,by simpa using HR11⟩
    case measure=>simp [intOf];omega
  ·have hk':k=zs.length:=by omega
   subst hk';go_wp2;go_end0;have h1:=HR.out;rw [←HL.out,zgo] at h1;exact ⟨rfl,⟨HO.out,gw,go,F,h1.c,h1.wd,h1.od,by have:=HF.out;rwa [←HL.out] at this⟩,h1.touch⟩
set_option maxHeartbeats 800000 in
theorem zeP (ao:Option Addr) (c:Nat) (zs:List Int) (w:World) (h:IS w ao zs) (hv:Vd zs) (hm:32768<room (nat zs)) :
  Calls prog 119 #[.slice ao zs.length c] w fun e w'=>e=.returned (.tuple #[.pointer none,.int .i64 10])∧Below w.heap.size w w':=by
 have HI:=J h;have HV:=J hv;have HL:Hid ((nat zs).length≤320):=J (by rw [xt];exact hv.len);have hm':(32768:Int)<(room (nat zs):Nat):=by omega
 clear h hv;go_enter func119,ntmps119;go_wp2_with (first
  | (go_at_call 148;(refine (Qb ao c zs _ HI.out HV.out).mono ?_);rintro e w1 ⟨rfl,hb1⟩;have HB1:=J hb1;clear hb1)
  | (refine zP rfl 195 rfl _ z61 ?_;intro W2 hb2 ht2 hs2;have HS2:=J hs2;have HT2:=J (HB1.out.trans ((ht2.below (Nat.le_refl _) (fun _ h=>h.elim)).mono HB1.out.size));clear hs2)
  | (refine wpList_store_row rfl 195 (.tmp 4) (.tmp 10) rfl rfl w1.heap.size rfl _ rfl 195 _ hb2 i61 (by simp only [qW]) (jS 16 _) ?_;intro W3 hb3 ht3 hs3;have HS3:=J hs3;have HT3:=J (HT2.out.trans (ht3.below (B:=w.heap.size) HT2.out.size (fun k hk=>by have:=HB1.out.size;omega)));clear hs3)
  | (refine wpList_load_row rfl 195 (.tmp 4) rfl w1.heap.size rfl 195 _ hb3 16 3 underlying195 i61 ?_)
  | (go_at_call 149;(refine (vJ (nat zs) HL.out _).mono ?_);rintro e w4 ⟨rfl,hb4⟩;have HT4:=J (HT3.out.trans (hb4.mono HT3.out.size));clear hb4))
 go_ret2
 exact ⟨rfl,HT4.out⟩
theorem b68 (f g:Nat→Nat):∀ W,(Instr.build 197 #[(3,.agg (il g).toArray),(2,.agg (il f).toArray)]).run prog W=.ok (.agg (cc (.slice none 0 0) (.slice none 0 0) f g)) W:=fun W=>by
 kernel_rfl
theorem zaQ {a:Act}{o:Oper}(t:TypeId) (i j:Nat) (x y:Operand) (vx vy V:Value) (ho:o.op=.build t #[(i,x),(j,y)]) (hx:a.eval x=vx) (hy:a.eval y=vy)
  (hz:∀ W,(Instr.build t #[(i,vx),(j,vy)]).run prog W=.ok V W) (W:World):(execOp a.eval o).run prog W=.ok (.value V) W:=by
 unfold execOp;simp only [ho,hx,hy,List.map_toArray,List.map_cons,List.map_nil,Sem.run_bind,hz,Result.andThen_ok,Sem.run_pure]
theorem QV {ops:Array Oper}{o:Oper}{a:Act}{w:World}{K:Act→World→Prop}{Q:Exit→Act→World→Prop}{E:Prop}
  (hg:o.guard=none) (t:TypeId) (x:Operand) (ho:o.op=.box t x) (z:Array Value) (hx:a.eval x=.agg z)
  (h:∀ W,Blk W w.heap.size t z→Touch (fun _=>False) w W→W.heap.size=w.heap.size+1→K (a.put o.dst (.pointer (some ⟨w.heap.size,0,none⟩))) W) :
  if Region.wanted o (yielded ops a.tmps)=true then Oper.wp prog o a w K Q else E:=by
 have hw:Region.wanted o (yielded ops a.tmps)=true:=by simp [Region.wanted,hg]
 rw [if_pos hw];have hr:(Instr.box t (.agg z)).run prog w=.ok (.pointer (some ⟨w.heap.size,0,none⟩)) (w.alloc (.cells z t)):=by
  simp [Instr.box,newVar,newRow,Value.cells,go_sem]
 unfold Oper.wp execOp;simp only [ho,hx,Sem.run_bind,Sem.run_pure,hr,Result.andThen_ok];exact h _ (Blk.made w t z) ((Touch.refl _ w).alloc _) (by simp)
theorem zeh (ls:List Nat) (H:Ok ls) (w:World) :
  Calls prog 150 #[.agg (il (cn ls)).toArray] w fun e w'=>e=.returned (.agg (il (fc ls)).toArray)∧Below w.heap.size w w':=zby ls H w
theorem uO {w w':World}{b o:Nat}{cs:List Value}(h:w.rangeAt b o cs) (hb:Below w.heap.size w w'):w'.rangeAt b o cs:=fun j v hv=>by
 have:=h j v hv;exact (hb.cell (World.block_lt_of_cell? w _ this)).trans this
theorem IS.lt {w:World}{ao:Option Addr}{zs:List Int}(h:IS w ao zs):∀ b off,ao=some ⟨b,off,none⟩→zs≠[]→b<w.heap.size:=by
 intro b off e hx;rcases h with h0 | ⟨b',off',rfl,hc⟩
 ·exact absurd h0 hx
 ·have e:=Option.some.inj e
  simp only [Addr.mk.injEq] at e;rw [←e.1];exact World.block_lt_of_cell? w _ (hc 0 (by cases zs with | nil=>exact absurd rfl hx | cons=>simp))
def zjO (w:World) (ls:List Nat) (e:Ending) (w':World):Prop:=∃ p,e=.returned (.tuple #[.pointer (some ⟨p,0,none⟩),.int .i64 0])∧zg w' p ls∧Below w.heap.size w w'
set_option maxHeartbeats 1600000 in
theorem zgi (ao:Option Addr) (c:Nat) (zs:List Int) (w:World) (h:IS w ao zs) (hv:Vd zs) (hm:room (nat zs)≤32768) :
  Calls prog 119 #[.slice ao zs.length c] w (zjO w (nat zs)):=by
 have HI:=J h;have HV:=J hv;have HO:Hid (Ok (nat zs)):=J ⟨by rw [xt];exact hv.len,fun x hx=>by
  obtain ⟨z,hz,rfl⟩:=List.mem_map.1 hx;have:=hv.all z hz;omega,hm⟩
 have hm':decide ((32768:Int)<(room (nat zs):Nat))=false:=by simp;omega
 clear h hv;go_enter func119,ntmps119;go_upto_region 6 with (first
  | (go_at_call 148;(refine (Qb ao c zs _ HI.out HV.out).mono ?_);rintro e w1 ⟨rfl,hb1⟩;have HB1:=J hb1;clear hb1)
  | (refine zP rfl 195 rfl _ z61 ?_;intro W2 hb2 ht2 hs2;have HS2:=J hs2;have HT2:=J (HB1.out.trans ((ht2.below (Nat.le_refl _) (fun _ h=>h.elim)).mono HB1.out.size));clear hs2)
  | (refine wpList_store_row rfl 195 (.tmp 4) (.tmp 10) rfl rfl w1.heap.size rfl _ rfl 195 _ hb2 i61 (by simp only [qW]) (jS 16 _) ?_;intro W3 hb3 ht3 hs3;have HS3:=J hs3;have HT3:=J (HT2.out.trans (ht3.below (B:=w.heap.size) HT2.out.size (fun k hk=>by have:=HB1.out.size;omega)));clear hs3)
  | (refine wpList_load_row rfl 195 (.tmp 4) rfl w1.heap.size rfl 195 _ hb3 16 3 underlying195 i61 ?_)
  | (go_at_call 149;(refine (vJ (nat zs) HO.out.len _).mono ?_);rintro e w4 ⟨rfl,hb4⟩;have HT4:=J (HT3.out.trans (hb4.mono HT3.out.size));have HB4:=J (hb3.below hb4);clear hb4))
 obtain ⟨q,hq⟩:=exq (w1.heap.size);rw [←hq];rw [←hq] at HB4;clear hq HB1 hb2 ht2 HS2 HT2 hb3 ht3 HS3 HT3;have hr:=zmr HB4.out;refine wp_region_held_drew (S:=fun w'=>w'.rangeAt q 0 (il (cn (nat zs)))) (by kernel_rfl) hr (fun hHeld=>?_)
 refine wpAnyH_take (i:=0) (oi:={ dst:=some 17,op:=Op.load 195 (Operand.tmp 4),type:=195,pos := "huff.go:54",after := #[],guard:=none }) rfl (by kernel_rfl) (by kernel_rfl) (by kernel_rfl) (fun _ _ _ h=>h) (yieldsIf_load_mid rfl 195 _ rfl q 0 rfl (il (cn (nat zs))) _ (fun _ h=>h) underlying195 rfl (zkE _)) hHeld ?_;simp only [Act.put,List.setIfInBounds_toArray,List.set_cons_zero,List.set_cons_succ];refine wpAnyH_take (i:=1) (oi:={ dst:=some 18,op:=Op.load 195 (Operand.tmp 4),type:=195,pos := "huff.go:54",after := #[],guard:=none }) rfl (by kernel_rfl) (by kernel_rfl) (by kernel_rfl) (fun _ _ _ h=>h) (yieldsIf_load_mid rfl 195 _ rfl q 0 rfl (il (cn (nat zs))) _ (fun _ h=>h) underlying195 rfl (zkE _)) hHeld ?_;simp only [Act.put,List.setIfInBounds_toArray,List.set_cons_zero,List.set_cons_succ];refine wpAnyH_ready (rs:=[2]) (by kernel_rfl) (by simp) ?_;refine AllReadyH.cons (o:={ dst:=some 19,op:=Op.call { callee:=Callee.value (Operand.func 150),args := #[Operand.tmp 18],argTypes := #[195] },type:=195,pos := "huff.go:54",after := #[{ on:=1,ground:=Ground.data }],guard:=none }) rfl (fun K hK=>?_) AllReadyH.nil;go_wp2_with (first | (go_at_call 150;(refine (zeh (nat zs) HO.out _).mono ?_);rintro e w5 ⟨rfl,hb5⟩;have HB5:=J hb5;clear hb5));refine hK.out _ _ (uO (w:=w4.drew) hHeld HB5.out) (fun hHeld2=>?_);clear hK K;have HBD:=J (b68 (fc (nat zs)) (cn (nat zs)));refine wpAnyH_take (i:=3) (v:=.agg (cc (.slice none 0 0) (.slice none 0 0) (fc (nat zs)) (cn (nat zs)))) (oi:={ dst:=some 20,op:=Op.build 197 #[(3,Operand.tmp 17),(2,Operand.tmp 19)],type:=197,pos := "huff.go:54",after := #[{ on:=0,ground:=Ground.data },{ on:=2,ground:=Ground.data }],guard:=none }) rfl (by kernel_rfl) (by kernel_rfl) (by kernel_rfl) (fun _ _ _ h=>h) (Or.inl ⟨by rfl,fun W _=>zaQ 197 3 2 (.tmp 17) (.tmp 19) (.agg (il (cn (nat zs))).toArray) (.agg (il (fc (nat zs))).toArray) _ rfl rfl rfl HBD.out W⟩) hHeld2 ?_
 simp only [Act.put,List.setIfInBounds_toArray,List.set_cons_zero,List.set_cons_succ];refine wpAnyH_ready (rs:=[4]) (by kernel_rfl) (by simp) ?_;refine AllReadyH.cons (o:={ dst:=some 21,op:=Op.box 197 (Operand.tmp 20),type:=87,pos := "huff.go:54",after := #[{ on:=3,ground:=Ground.data }],guard:=none }) rfl (fun K hK=>?_) AllReadyH.nil;refine QV rfl 197 (.tmp 20) rfl _ rfl ?_;intro W6 hb6 ht6 hs6;refine hK.out _ _ (uO hHeld2 (ht6.below (Nat.le_refl _) (fun _ h=>h.elim))) (fun hHeld3=>?_);clear hK K;simp only [Act.put,List.setIfInBounds_toArray,List.set_cons_zero,List.set_cons_succ];refine wpAnyH_take (i:=5) (v:=.pointer (some ⟨w5.heap.size,0,none⟩)) (oi:={ dst:=some 6,op:=Op.assign (Operand.tmp 21),type:=87,pos := "huff.go:54",after := #[{ on:=4,ground:=Ground.data },{ on:=2,ground:=Ground.chain },{ on:=0,ground:=Ground.phase },{ on:=1,ground:=Ground.phase },{ on:=2,ground:=Ground.phase },{ on:=3,ground:=Ground.phase },{ on:=4,ground:=Ground.phase }],guard:=none }) rfl (by kernel_rfl) (by kernel_rfl) (by kernel_rfl) (fun _ _ _ h=>h) (Or.inl ⟨by rfl,fun W _=>by go_simp⟩) hHeld3 ?_;simp only [Act.put,List.setIfInBounds_toArray,List.set_cons_zero,List.set_cons_succ];refine wpAnyH_done (by kernel_rfl) ?_ _;clear hHeld hHeld2 hHeld3 hr;obtain ⟨pc,hpc⟩:=exq (w5.heap.size);rw [←hpc];rw [←hpc] at hb6;have hlo:w.heap.size≤pc:=by
  have h1:=HT4.out.size;have h2:w4.heap.size≤w5.heap.size:=HB5.out.size;omega
 have HT6:Hid (Below w.heap.size w W6):=J ((zQ HT4.out).trans ((HB5.out.trans ((ht6.below (Nat.le_refl _) (fun _ h=>h.elim)).mono HB5.out.size)).mono HT4.out.size));have HB6:=J hb6;have HS6:=J hs6;clear hb6 ht6 hs6 hpc HBD HB5 HB4 HT4;go_wp2_with (first | (go_at_call 151;(refine (zge ao c zs (nat zs) _ pc (HI.out.below HT6.out) HO.out (xt zs) (fun k hk=>(HV.out.ln hk).1) HB6.out (fun b off e hx hb=>by have:=HI.out.lt b off e hx;omega)).mono ?_);rintro e w7 ⟨rfl,hc7,ht7⟩;have HC7:=J hc7;have HT7:=J ht7;clear hc7 ht7))
 go_ret2
 exact ⟨pc,rfl,HC7.out,HT6.out.trans (HT7.out.below HT6.out.size (fun k hk=>by omega))⟩
structure zkS (w:World) (p gw s:Nat) (ls:List Nat):Prop where
 c:w.cell? ⟨p,0,none⟩=some (.slice (some ⟨gw,0,none⟩) ls.length ls.length)
 b:w.cell? ⟨gw,s*2,none⟩=some (.int .u32 (rv (ln ls s) (cd ls s):Nat))
 l:w.cell? ⟨gw,s*2+1,none⟩=some (.int .i64 (ln ls s:Nat))
theorem zg.word {w:World}{p:Nat}{ls:List Nat}(h:zg w p ls):∃ gw,w.cell? ⟨p,0,none⟩=some (.slice (some ⟨gw,0,none⟩) ls.length ls.length)∧∀ s,s<ls.length→zkS w p gw s ls:=by
 obtain ⟨_,gw,go,F,h1,h2,h3,h4⟩:=h;have hc:=(h1.cell 0).trans (zji _ _ _ _);refine ⟨gw,hc,fun s hs=>⟨hc,?_,?_⟩⟩
 ·rw [h2.cell,zw _ _ _ (by omega)]
  unfold y7;rw [if_pos (by omega),show s*2/2=s by omega]
 ·rw [h2.cell,zw _ _ _ (by omega)]
  unfold y7;rw [if_neg (by omega),show (s*2+1)/2=s by omega]
set_option maxHeartbeats 800000 in
theorem zho (p s:Nat) (ls:List Nat) (w:World) (h:zg w p ls) (hs:ln ls s≠0) (V n:Nat) (hV:rv (ln ls s) (cd ls s)=V) (hn:ln ls s=n) :
  Calls prog 163 #[.pointer (some ⟨p,0,none⟩),.int .i64 s] w fun e w'=>e=.returned (.tuple #[.int .u32 V,.int .i64 n,.bool true])∧∃ nq,w'=w.drewN nq:=by
 have hlt:=jA hs;have hl:=h.ok.len;obtain ⟨gw,_,hw⟩:=h.word;have W:=hw s hlt;obtain ⟨c0,c1,c2⟩:=W;rw [hV] at c1;rw [hn] at c2 hs;clear hw h hV hn;have hlt':(s:Int)<ls.length:=by omega
 have d1:decide ((s:Int)<0)=false:=by simp
 have d2:decide ((ls.length:Int)≤s)=false:=by simp;omega
 have d2':decide (ls.length≤s)=false:=by simp;omega
 have d3:((n:Int) == 0)=false:=by simp;omega
 go_enter func163,ntmps163;go_wp2;go_quiet (fail)
 go_wp2;go_ret3
 exact ⟨rfl,_,rfl⟩
theorem uP (p:Nat) (ls:List Nat) (w:World) (h:zg w p ls) :
  Calls prog 104 #[.pointer (some ⟨p,0,none⟩)] w fun e w'=>e=.returned (.int .i64 (many ls:Nat))∧w=w':=by
 obtain ⟨_,gw,go,F,h1,_⟩:=h;have hc:=(h1.cell 1).trans (zhM _ _ _ _);clear h1;go_enter func104,ntmps104;go_wp2;go_ret;exact ⟨rfl,rfl⟩
theorem U0 {a b:Bool}(h:a=b):Ending.returned (.bool a)=.returned (.bool b):=by rw [h]
theorem yE (p:Nat) (ls:List Nat) (w:World) (h:zg w p ls) :
  Calls prog 139 #[.pointer (some ⟨p,0,none⟩)] w fun e w'=>e=.returned (.bool (decide (room ls=32768)))∧Below w.heap.size w w':=by
 have HO:=J h.ok;obtain ⟨_,gw,go,F,h1,_⟩:=h;have HC:=J h1;clear h1;have HD:Hid (((room ls:Int) == 32768)=decide (room ls=32768)):=J (by rw [Bool.eq_iff_iff];simp;omega);go_enter func139,ntmps139;go_wp2_with (first
  | (refine qX rfl (.tmp 5) rfl p 18 rfl (cn ls) (zgW HC.out) ?_)
  | (go_at_call 149;(refine (vJ ls HO.out.len _).mono ?_);rintro e w2 ⟨rfl,hb2⟩;have HB2:=J hb2;clear hb2))
 go_ret;exact ⟨U0 HD.out,HB2.out⟩
def cst (ls:List Nat) (zs:List Int):Nat→Nat
 | 0=>0
 | k+1=>cst ls zs k+if 0<zs.getD k 0∧zs.getD k 0≤1099511627776 then (zs.getD k 0).toNat*ln ls k else 0
theorem zlp {ls:List Nat}(H:Ok ls) (zs:List Int) (k:Nat):cst ls zs k≤k*(1099511627776*15):=by
 induction k with
 | zero=>exact Nat.zero_le _
 | succ k ih=>
  rw [cst,Nat.add_mul,Nat.one_mul];refine Nat.add_le_add ih ?_;split
  ·rename_i h
   exact Nat.mul_le_mul (by have:=h.2;omega) (z6 H k)
  ·exact Nat.zero_le _
theorem zcG {ls:List Nat}(H:Ok ls){zs:List Int}{k:Nat}(hk:k≤320) (h0:0<zs.getD k 0) (h1:zs.getD k 0≤1099511627776) (x:Int) (n:Nat) (hx:x=zs.getD k 0) (hn:n=ln ls k) :
  wrap64 ((cst ls zs k:Int)+wrap64 (x*n))=(cst ls zs (k+1):Nat):=by
 subst hx hn;have hb:=zlp H zs k;have hb2:k*(1099511627776*15)≤320*(1099511627776*15):=Nat.mul_le_mul_right _ hk;rw [cst,if_pos ⟨h0,h1⟩];obtain ⟨y,hy⟩:=Int.eq_ofNat_of_zero_le (Int.le_of_lt h0);rw [hy] at h1 ⊢;have h3:y*ln ls k≤1099511627776*15:=Nat.mul_le_mul (by omega) (z6 H k);rw [Int.toNat_natCast,←Int.natCast_mul];generalize y*ln ls k=q at *;generalize cst ls zs k=r at *;unfold wrap64;omega
def zk4 (ls:List Nat) (A:Nat) (w:World) (e:Ending) (w':World):Prop:=
 ((∃ s:Nat,Beg ls A s∧e=.returned (.tuple #[.int .i64 s,.int .i64 (ln ls s:Nat)]))∨(room ls≤A∧e=.returned (.tuple #[.int .i64 0,.int .i64 0])))∧∃ nq,w'=w.drewN nq
theorem zmn (A n:Nat) (_hn:n≤15):(A:Int)/2^(15-n)=((A/2^(15-n):Nat):Int):=by simp
theorem zfp (ls:List Nat):sp ls 1=0:=by simp [sp,cn]
theorem zlc (ls:List Nat):fp ls 1=0:=by simp [fp,cn]
set_option maxHeartbeats 1600000 in
theorem jm (p A:Nat) (ls:List Nat) (w:World) (h:zg w p ls) (hA:A<32768) :
  Calls prog 165 #[.pointer (some ⟨p,0,none⟩),.int .i64 A] w (zk4 ls A w):=by
 have HO:=J h.ok;have hll:=h.ok.len;have HC:=J h;clear h;go_enter func165,ntmps165;go_wp2;go_loopw [6,7] (fun sv i wr=>∃ n q:Nat,1≤n∧n≤16∧i=.int .i64 n∧sv=.int .i64 (fp ls n:Nat)∧sp ls n≤A∧wr=w.drewN q) (fun _ i _=>16-(intOf i).toNat)
 case atStart=>exact ⟨1,0,by omega,by omega,rfl,by rw [zlc];rfl,by rw [zfp];omega,rfl⟩
 case round=>
  obtain ⟨n,q,hn1,hn,rfl,rfl,hsp,rfl⟩:=hrel;by_cases hlt:n≤15
  ·have hnn:(n:Int)≤15:=by omega
   obtain ⟨_,gw,go,F,h1,h2,h3,h4⟩:=HC.out;have g0:=(h1.cell 1).trans (zhM _ _ _ _);have g1:=(h1.cell (2+n)).trans (zl8 _ _ _ _ n (by omega));have g2:=(h1.cell (18+n)).trans (zl9 _ _ _ _ n (by omega));have H3:=J h3;have H4:=J h4;clear h1 h2 h3 h4;have hge:=zcg hlt hsp;have hol:=zcM (ls:=ls) (A:=A) hlt;have b1:=zgE HO.out n hlt;have b2:=Kb ls n;have b3:=Xv ls hll n;have b4:A/2^(15-n)≤A:=Nat.div_le_self _ _;have e1:IntKind.i64.wrap (15-(n:Int))=((15-n:Nat):Int):=by rw [IntKind.wrap_i64];omega
   have e2:=zmn A n hlt;obtain ⟨D,hD⟩:=exq (A/2^(15-n));obtain ⟨f,hf⟩:=exq (fc ls n);obtain ⟨g,hg⟩:=exq (cn ls n);obtain ⟨y,hy⟩:=exq (fp ls n);rw [←hD] at hge hol b4 e2;rw [←hf] at hge hol b1 g1;rw [←hg] at hol b2 g2;rw [←hy] at b3;rw [←hy];have HD:=J hD;have HF:=J hf;have HG:=J hg;have HY:=J hy;have HOL:=J hol;clear hD hf hg hy hol;have e3:IntKind.i64.wrap ((D:Int)-f)=((D-f:Nat):Int):=by rw [IntKind.wrap_i64];omega
   have e4:(n:Int)<16:=by omega
   obtain ⟨o,ho⟩:=exq (D-f);rw [←ho] at e3;have HOo:=J ho;have bo:o<32768:=by omega
   clear ho;by_cases hit:o<g
   ·obtain ⟨s,hs,hls,hrs⟩:=zai (ls:=ls) (n:=n) (r:=o) (by omega) (by rw [←HG.out];exact hit)
    have hl0:ln ls s≠0:=by omega
    have HB:Hid (Beg ls A s):=J (zaa (by omega) (by rw [←HF.out,←HD.out];exact hge) hls (by rw [hrs,←HF.out,←HD.out,HOo.out]));have hym:=zjW HO.out hl0;have hcell:=(H3.out.cell (y+o)).trans (zw _ _ (y+o) (by rw [HY.out];rw [hls,hrs] at hym;exact hym));rw [show F (y+o)=.int .i64 (s:Nat) by rw [HY.out,←hls,←hrs];rw [H4.out s hs hl0]] at hcell;rw [hls,hrs,←HY.out] at hym;have HLS:=J hls;clear hls hrs hl0 hs;have hit':(o:Int)<g:=by omega
    have e5:(y:Int)+o<many ls:=by omega
    have e6:(0:Int)≤(y:Int)+o:=by omega
    have e7:((y:Int)+o).toNat=y+o:=by omega
    go_wp2;go_quiet (fail)
    go_wp2;go_ret2
    exact ⟨.inl ⟨s,HB.out,by rw [HLS.out];rfl⟩,_,rfl⟩
   ·have hit':decide ((o:Int)<g)=false:=by simp;omega
    have hit2:decide (o<g)=false:=by simpa using hit
    go_wp2;go_quiet (fail)
    go_wp2;go_roundw;case rel=>exact ⟨n+1,_,by omega,by omega,by go_num,by rw [fp,←HY.out,←HG.out];go_num,by
     have h5:=HOL.out;have h6:=HOo.out;omega,rfl⟩
    case measure=>simp [intOf];omega
  ·have hn16:n=16:=by omega
   subst hn16;go_wp2;go_ret2
   exact ⟨.inr ⟨hsp,rfl⟩,_,rfl⟩
end
section
open Go.RowKit
theorem zlC {ls:List Nat}(H:Ok ls){s:Nat}(_hs:ln ls s≠0):rv (ln ls s) (cd ls s)<4294967296∧rv (ln ls s) (cd ls s)%2^ln ls s=rv (ln ls s) (cd ls s):=by
 have h1:=ve (ln ls s) (cd ls s);have h2:2^ln ls s≤2^15:=Nat.pow_le_pow_right (by omega) (z6 H s);exact ⟨by omega,Nat.mod_eq_of_lt h1⟩
def ahead (bs:List Nat) (at_:Nat):Nat:=rv 15 (pk bs at_ 15)
theorem uf (bs:List Nat) (at_:Nat):ahead bs at_<32768:=ve 15 _
theorem vX (bs:List Nat) (at_ n:Nat):pk bs at_ n<2^n:=Nat.mod_lt _ (Nat.two_pow_pos n)
def Finds (p A:Nat) (ls:List Nat) (t m:Nat):Prop:=∀ W,zg W p ls→Calls prog 165 #[.pointer (some ⟨p,0,none⟩),.int .i64 A] W fun e w'=>e=.returned (.tuple #[.int .i64 t,.int .i64 m])∧∃ nq,w'=W.drewN nq
theorem zdf {p A:Nat}{ls:List Nat}(H:Ok ls) (hA:A<32768){s:Nat}(hb:Beg ls A s):Finds p A ls s (ln ls s):=fun W hW=>(jm p A ls W hW hA).mono fun e w' k=>by
 refine ⟨?_,k.2⟩;rcases k.1 with ⟨t,ht,he⟩ | ⟨hro,_⟩
 ·obtain rfl:=Qo H hb ht
  exact he
 ·exact absurd hb (vu H hro s)
theorem zfD {p A:Nat}{ls:List Nat}(H:Ok ls) (hA:A<32768) (hr:room ls≤A):Finds p A ls 0 0:=fun W hW=>(jm p A ls W hW hA).mono fun e w' k=>by
 refine ⟨?_,k.2⟩;rcases k.1 with ⟨t,ht,_⟩ | ⟨_,he⟩
 ·exact absurd ht (vu H hr t)
 ·exact he
theorem vL {p A:Nat}{ls:List Nat}(H:Ok ls) (hA:A<32768):(∃ s,Beg ls A s∧Finds p A ls s (ln ls s))∨(room ls≤A∧Finds p A ls 0 0):=by
 by_cases hr:room ls≤A
 ·exact .inr ⟨hr,zfD H hA hr⟩
 ·left
  have key:∀ n,n≤16→A<sp ls n→∃ s,Beg ls A s:=by
   intro n;induction n with
   | zero=>intro _ h;simp [sp] at h
   | succ n ih=>
    intro hn h;by_cases h1:A<sp ls n
    ·exact ih (by omega) h1
    ·have hge:=zcg (ls:=ls) (A:=A) (n:=n) (by omega) (by omega)
     have hlt:=(zcM (ls:=ls) (A:=A) (n:=n) (by omega)).2 h;have hn0:n≠0:=by
      intro e;subst e;rw [zfp] at h;omega
     obtain ⟨s,_,hls,hrs⟩:=zai (ls:=ls) (n:=n) (r:=A/2^(15-n)-fc ls n) hn0 (by omega);exact ⟨s,zaa hn0 hge hls hrs⟩
  obtain ⟨s,hs⟩:=key 16 (Nat.le_refl _) (by unfold room at hr;omega);exact ⟨s,hs,zdf H hA hs⟩
end
end Go.Proofs.YtacpfpghokcdlaaGreatDoor
