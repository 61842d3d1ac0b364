/- Part 6. -/
import Derived.Shelf.Spec.SlicesGrow
import Derived.Test.YtacpfpghokcdlaaGreatDoorChecked
import Derived.Test.YtacpfpghokcdlaaGreatDoorXB5
open Go.Proofs.Tryz
namespace Go.Proofs.YtacpfpghokcdlaaGreatDoor
set_option maxRecDepth 100000
section
open Go.Lib renaming hid → J
open Go.RowKit
theorem KW (n:Nat) (w:World) (h1:1≤n) (hn:n≤1000) :
  Calls prog 152 #[.slice none 0 0,.int .i64 n] w fun e w'=>∃ c,e=.returned (.slice (some ⟨w.heap.size,0,none⟩) 0 c)∧w'.ownsRow w.heap.size 3 1 (.slice (some ⟨w.heap.size,0,none⟩) 0 c) 0 []∧Below w.heap.size w w':=by
 obtain ⟨i,hi,hz0,hz1,hz2⟩:=info_parts (P:=prog) (e:=3) (z:=.int .i64 0) (size:=1) (bytes:=8) (by kernel_rfl);have hold:(Builtin.firstCells i.size 0 (.slice none 0 0)).run prog w.drew=.ok ([]:List Value).toArray w.drew:=run_firstCells_none w.drew i.size 0 0 0;have hns:Builtin.nextslicecap (0+n) 0=n:=by unfold Builtin.nextslicecap;rw [if_pos (by omega)];omega
 have hrz:∀ ty,(Builtin.append_ #[40,3] ty #[.slice none 0 0,.int .i64 (n:Nat)]).run prog w =
   .ok (.slice (some ⟨w.heap.size,0,none⟩) n (grownCap w n 0 3)) (w.drew.alloc (.cells (([]:List Value).toArray++Builtin.zeroCells (Value.int .i64 0).cells n++Builtin.zeroCells (Value.int .i64 0).cells (grownCap w n 0 3-n)) 3)):=fun ty=>by
  have h:=Lib.run_append_grow_zeros w 40 3 ty 3 i (.int .i64 0) .i64 .i64 underlying40 underlying3 hi hz0 none 0 0 [] hold n (by omega) (by omega) (by omega) (by omega) (by rw [hz2];omega) (by rw [hns,hz2];omega);rw [Nat.zero_add] at h;exact h
 have hGn:n≤grownCap w n 0 3:=grownCap_ge w _ _ _;have hGm:grownCap w n 0 3≤maxLen:=grownCap_le_maxLen w n 0 3 (by unfold maxLen;omega);obtain ⟨G,hG⟩:=exq (grownCap w n 0 3);rw [←hG] at hrz hGn hGm;have hG63:G≤9223372036854775807:=by unfold maxLen at hGm;omega
 have HRZ:=J hrz;have HM:=J hGm;clear hold hG hi hz0 hz1 hz2 hns hrz hGm;go_enter func152,ntmps152;go_wp2_with (at_builtin;refine Lib.wpList_append_run _ rfl _ _ _ _ rfl _ _ rfl rfl _ _ (HRZ.out _) ?_);go_ret;refine ⟨G,rfl,⟨rfl,.inr ⟨w.heap.size,G,_,rfl,Nat.le_refl _,Blk.made w.drew 3 _,Nat.zero_le _,HM.out,?_,?_⟩⟩,(zQ (Below.refl _ _)).alloc (Nat.le_refl _) _⟩
 ·simp [size_zeroCells];omega
 ·simp
def cat (Z:Nat→List Int) (k:Nat):List Int:=(List.range k).flatMap Z
theorem xy (Z:Nat→List Int):cat Z 0=[]:=rfl
theorem jy (Z:Nat→List Int) (k:Nat):cat Z (k+1)=cat Z k++Z k:=by simp [cat,List.range_succ]
structure J8 (w:World) (q:Nat) (A:Nat→Option Addr) (C:Nat→Nat) (Z:Nat→List Int):Prop where
 cell:∀ k,k<4→w.cell? ⟨q,k,none⟩=some (.slice (A k) (Z k).length (C k))
 is:∀ k,k<4→IS w (A k) (Z k)
 some_:∀ k,k<4→A k=none→C k=0
 len:∀ k,k<4→(Z k).length≤200
theorem J8.below {w w':World}{q:Nat}{A:Nat→Option Addr}{C:Nat→Nat}{Z:Nat→List Int}(h:J8 w q A C Z) (hb:Below w.heap.size w w'):J8 w' q A C Z:=
 ⟨fun k hk=>(hb.cell (World.block_lt_of_cell? w _ (h.cell k hk))).trans (h.cell k hk),fun k hk=>(h.is k hk).below hb,h.some_,h.len⟩
theorem J8.cat_le {w:World}{q:Nat}{A:Nat→Option Addr}{C:Nat→Nat}{Z:Nat→List Int}(h:J8 w q A C Z):∀ k,k≤4→(cat Z k).length≤200*k:=by
 intro k;induction k with
 | zero=>intro _;simp [xy]
 | succ k ih=>
  intro hk;rw [jy,List.length_append];have:=ih (by omega);have:=h.len k (by omega);omega
def zlG (w:World) (zs:List Int) (e:Ending) (w':World):Prop:=∃ ao c,e=.returned (.slice ao zs.length c)∧w'.ownsRow w.heap.size 3 1 (.slice ao zs.length c) zs.length (iv zs)∧Below w.heap.size w w'
set_option maxHeartbeats 1600000 in
theorem zaM (q:Nat) (A:Nat→Option Addr) (C:Nat→Nat) (Z:Nat→List Int) (w:World) (h:J8 w q A C Z) (h1:1≤(cat Z 4).length) :
  Calls prog 120 #[.slice (some ⟨q,0,none⟩) 4 4] w (zlG w (cat Z 4)):=by
 have hle:=h.cat_le;have H:=J h;clear h;go_enter func120,ntmps120;go_wp2;go_loop [3,11] (fun v iv'=>∃ k:Nat,k≤4∧iv' = .int .i64 k∧v=.int .i64 ((cat Z k).length:Nat)) (fun _ iv'=>4-(intOf iv').toNat)
 case atStart=>exact ⟨0,by omega,rfl,by simp [xy]⟩
 case round=>
  obtain ⟨k,hk,rfl,rfl⟩:=hrel;by_cases hlt:k<4
  ·have hc:=H.out.cell k hlt
   have hl:=H.out.len k hlt;have hs:=hle k hk;have hlt':(k:Int)<4:=by omega
   obtain ⟨m,hm⟩:=exq ((cat Z k).length);have HS:Hid ((cat Z (k+1)).length=m+(Z k).length):=J (by rw [jy,List.length_append,hm]);rw [←hm] at hs ⊢;have d0:decide (((m:Int)+(Z k).length)<0)=false:=by simp;omega
   clear hm;go_wp2;go_round
   case rel=>exact ⟨k+1,by omega,by go_num,by rw [HS.out];go_num⟩
   case measure=>simp [intOf];omega
  ·have hk4:k=4:=by omega
   have hge:(4:Int)≤k:=by omega
   have hs:=hle 4 (by omega);obtain ⟨m,hm⟩:=exq ((cat Z k).length);have hm4:(cat Z 4).length=m:=by rw [hm,hk4]
   rw [hm4] at hs h1;rw [←hm];have HM:=J hm4;clear hm hm4 hk4;go_wp2_with (go_at_call 152;(refine (KW m _ h1 (by omega)).mono ?_);rintro e w2 ⟨c,rfl,ho,hb⟩;have HO:=J ho;have HB:=J hb;clear ho hb);go_loopw [6,27] (fun v iv' wr=>∃ (k:Nat) (ao:Option Addr) (c:Nat),k≤4∧iv' = .int .i64 k∧v=.slice ao (cat Z k).length c∧wr.ownsRow w.heap.size 3 1 (.slice ao (cat Z k).length c) (cat Z k).length (iv (cat Z k))∧Below w.heap.size w wr) (fun _ iv' _=>4-(intOf iv').toNat)
   case atStart=>exact ⟨0,some ⟨w.heap.size,0,none⟩,c,by omega,rfl,by simp [xy],by simpa [xy,iv] using HO.out,HB.out⟩
   case round=>
    clear HO HB;obtain ⟨k,ao,c,hk,rfl,rfl,ho,hb⟩:=hrel;have HO:=J ho;have HB:=J hb;clear ho hb;by_cases hlt:k<4
    ·have H2:=J (H.out.below HB.out)
     have hc:=H2.out.cell k hlt;have hl:=H2.out.len k hlt;have hs:=hle k hk;have hlt':(k:Int)<4:=by omega
     have HCA:=J ((H2.out.is k hlt).cells (c:=C k) fun _=>H2.out.some_ k hlt);obtain ⟨ys,hys⟩:=exq (cat Z k);have hys1:Hid (cat Z (k+1)=ys++Z k):=J (by rw [jy,hys]);rw [←hys] at HO hs ⊢;have hsz:=HB.out.size;clear hys;go_wp2_with (refine ze kg rfl (.tmp 31) (.tmp 32) rfl w.heap.size (.slice ao ys.length c) (.slice (A k) (Z k).length (C k)) ys.length (Z k).length (iv ys) (iv (Z k)) rfl rfl HO.out HCA.out (by simp [Qy]) (zbn _) hsz (by omega) (by omega) ?_;intro ao2 c2 w4 hA;have HA:=J hA;clear hA);go_roundw;case rel=>
      refine ⟨k+1,ao2,c2,by omega,by go_num,?_,?_,HB.out.trans (HA.out.below HO.out hsz)⟩
      ·rw [hys1.out,List.length_append]
      ·have:=HA.out.own
       rw [jM] at this;rw [hys1.out,List.length_append];exact this
     case measure=>simp [intOf];omega
    ·have hge:(4:Int)≤k:=by omega
     have hk4:=J (show k=4 by omega);go_wp2;go_ret;have e:=hk4.out;subst e;exact ⟨ao,c,rfl,HO.out,HB.out⟩
theorem zib {w:World}{g n x:Nat}(h:Blk w g 3 (fill n x n).toArray):IS w (some ⟨g,0,none⟩) (List.replicate n (x:Int)):=by
 refine .inr ⟨g,0,rfl,fun j hj=>?_⟩;rw [List.length_replicate] at hj;rw [Nat.zero_add,h.cell,List.getElem?_toArray,yO _ _ _ _ hj,if_pos hj];simp [List.getD,hj]
def zhX (k:Nat):List Int:=if k=0 then List.replicate 144 8 else if k=1 then List.replicate 112 9 else if k=2 then List.replicate 24 7 else List.replicate 8 8
def qo:List Int:=cat zhX 4
def xT:List Int:=List.replicate 32 5
theorem Qg:nat qo=zU:=by decide +kernel
theorem KP:nat xT=ql:=by decide +kernel
theorem jz:qo.length=288:=by decide +kernel
theorem uz:xT.length=32:=by decide +kernel
theorem jk (b x n:Nat) (w:World) (h1:1≤n) (hn:n≤1000) (hb:w.heap[b]? = some (.cells #[.int .i64 (x:Nat)] 3 (0,0))) :
  Calls prog 121 #[.slice (some ⟨b,0,none⟩) 1 1,.int .i64 n] w fun e w'=>∃ g,e=.returned (.slice (some ⟨g,0,none⟩) n n)∧IS w' (some ⟨g,0,none⟩) (List.replicate n (x:Int))∧Below w.heap.size w w':=
 (zbo b x n w h1 hn (cell_of_row w b 0 _ 3 (0,0) hb)).mono fun _ _ k=>⟨w.heap.size,k.1,zib k.2.1,k.2.2⟩
def zjP (w:World) (e:Ending) (w':World):Prop:=
 ∃ a1 c1 a2 c2,e=.returned (.tuple #[.slice a1 288 c1,.slice a2 32 c2])∧IS w' a1 qo∧IS w' a2 xT∧Below w.heap.size w w'
theorem za4 {w1 w2 w3 w4:World}{g0 g1 g2 g3:Nat}(i0:IS w1 (some ⟨g0,0,none⟩) (List.replicate 144 8)) (i1:IS w2 (some ⟨g1,0,none⟩) (List.replicate 112 9)) (i2:IS w3 (some ⟨g2,0,none⟩) (List.replicate 24 7)) (i3:IS w4 (some ⟨g3,0,none⟩) (List.replicate 8 8))
  (b1:Below w1.heap.size w1 w2) (b2:Below w2.heap.size w2 w3) (b3:Below w3.heap.size w3 w4) :
  J8 (w4.alloc (.cells #[.slice (some ⟨g0,0,none⟩) 144 144,.slice (some ⟨g1,0,none⟩) 112 112,.slice (some ⟨g2,0,none⟩) 24 24,.slice (some ⟨g3,0,none⟩) 8 8] 40)) w4.heap.size
   (fun k=>some ⟨if k=0 then g0 else if k=1 then g1 else if k=2 then g2 else g3,0,none⟩) (fun k=>if k=0 then 144 else if k=1 then 112 else if k=2 then 24 else 8) zhX:=by
 have hA:=(Below.refl w4.heap.size w4).alloc (Nat.le_refl _) (.cells #[.slice (some ⟨g0,0,none⟩) 144 144,.slice (some ⟨g1,0,none⟩) 112 112,.slice (some ⟨g2,0,none⟩) 24 24,.slice (some ⟨g3,0,none⟩) 8 8] 40);have k3:=i3.below hA;have k2:=(i2.below b3).below hA;have k1:=((i1.below b2).below b3).below hA;have k0:=(((i0.below b1).below b2).below b3).below hA;refine ⟨fun k hk=>?_,fun k hk=>?_,fun k hk h=>by simp at h,fun k hk=>?_⟩
 ·rw [(Blk.made w4 40 _).cell k]
  match k,hk with
  | 0,_=>rfl
  | 1,_=>rfl
  | 2,_=>rfl
  | 3,_=>rfl
 ·match k,hk with
  | 0,_=>exact k0
  | 1,_=>exact k1
  | 2,_=>exact k2
  | 3,_=>exact k3
 ·match k,hk with
  | 0,_=>decide
  | 1,_=>decide
  | 2,_=>decide
  | 3,_=>decide
set_option maxHeartbeats 1600000 in
theorem Qe (w:World):Calls prog 79 #[] w (zjP w):=by
 go_enter func79,ntmps79;go_wp2_with fail
 refine (jk _ 8 144 _ (by omega) (by omega) (Blk.made w 3 _)).mono ?_;rintro e w1 ⟨g0,rfl,i0,b0⟩;have B0:=J (((Below.refl w.heap.size w).alloc (Nat.le_refl _) _).trans (b0.mono (by simp)));have I0:=J i0;clear i0 b0;go_wp2_with fail
 refine (jk _ 9 112 _ (by omega) (by omega) (Blk.made w1 3 _)).mono ?_;rintro e w2 ⟨g1,rfl,i1,b1⟩;have B1:=J (((Below.refl w1.heap.size w1).alloc (Nat.le_refl _) _).trans (b1.mono (by simp)));have I1:=J i1;clear i1 b1;go_wp2_with fail
 refine (jk _ 7 24 _ (by omega) (by omega) (Blk.made w2 3 _)).mono ?_;rintro e w3 ⟨g2,rfl,i2,b2⟩;have B2:=J (((Below.refl w2.heap.size w2).alloc (Nat.le_refl _) _).trans (b2.mono (by simp)));have I2:=J i2;clear i2 b2;go_wp2_with fail
 refine (jk _ 8 8 _ (by omega) (by omega) (Blk.made w3 3 _)).mono ?_;rintro e w4 ⟨g3,rfl,i3,b3⟩;have B3:=J (((Below.refl w3.heap.size w3).alloc (Nat.le_refl _) _).trans (b3.mono (by simp)));have I3:=J i3;clear i3 b3;go_wp2_with fail
 refine (zaM _ _ _ zhX _ (za4 I0.out I1.out I2.out I3.out B1.out B2.out B3.out) (by decide +kernel)).mono ?_;rintro e w5 ⟨a1,c1,rfl,o1,b5⟩;have hl:(cat zhX 4).length=288:=jz;rw [hl] at o1 ⊢;have I5:Hid (IS w5 a1 qo):=J (j9 o1 jz);have B5:=J (((Below.refl w4.heap.size w4).alloc (Nat.le_refl _) _).trans (b5.mono (by simp)));clear o1 b5 hl;go_wp2_with fail
 refine (jk _ 5 32 _ (by omega) (by omega) (Blk.made w5 3 _)).mono ?_;rintro e w6 ⟨g6,rfl,i6,b6⟩;have B6:=J (((Below.refl w5.heap.size w5).alloc (Nat.le_refl _) _).trans (b6.mono (by simp)));have I6:=J i6;clear i6 b6;go_wp2;go_ret2
 have s0:=B0.out.size;have s1:=B1.out.size;have s2:=B2.out.size;have s3:=B3.out.size;have s5:=B5.out.size;exact ⟨a1,c1,_,32,rfl,I5.out.below B6.out,I6.out,B0.out.trans ((B1.out.mono (by omega)).trans ((B2.out.mono (by omega)).trans ((B3.out.mono (by omega)).trans ((B5.out.mono (by omega)).trans (B6.out.mono (by omega))))))⟩
def zlL (w:World) (ls:List Nat) (e:Ending) (w':World):Prop:=∃ pc,e=.returned (.pointer (some ⟨pc,0,none⟩))∧zg w' pc ls∧Below w.heap.size w w'
theorem xR (ao:Option Addr) (c n:Nat) (zs:List Int) (w:World) (h:IS w ao zs) (hl:zs.length=n) (hv:Vd zs) (hm:room (nat zs)≤32768):Calls prog 100 #[.slice ao n c] w (zlL w (nat zs)):=by
 subst hl;have HN:=J (zgi ao c zs w h hv hm);clear h hv hm;go_enter func100,ntmps100;go_wp2_with (first
  | (go_at_call 119;(refine HN.out.mono ?_);rintro e w2 ⟨pc,rfl,hc,hb⟩;have HC:=J hc;have HB:=J hb;clear hc hb)
  | (go_at_call 60;(with_reducible refine (zE _ _).mono ?_);rintro e w4 ⟨rfl,rfl⟩))
 go_ret;exact ⟨pc,rfl,HC.out,HB.out⟩
theorem uJ (ao:Option Addr) (c n:Nat) (zs:List Int) (w:World) (h:IS w ao zs) (hl:zs.length=n) (hv:Vd zs) (hm:32768<room (nat zs)):Calls prog 100 #[.slice ao n c] w fun e w'=>e=pan 10∧Below w.heap.size w w':=by
 subst hl;have HN:=J (zeP ao c zs w h hv hm);clear h hv hm;go_enter func100,ntmps100;go_wp2_with (first
  | (go_at_call 119;(refine HN.out.mono ?_);rintro e w2 ⟨rfl,hb⟩;have HB:=J hb;clear hb)
  | (go_at_call 60;(refine (qa 10 _).mono ?_);rintro e w4 ⟨rfl,rfl⟩))
 exact ⟨rfl,rfl,HB.out⟩
theorem zdH (ao:Option Addr) (c:Nat) (zs:List Int) (x:Int) (w:World) (h:IS w ao zs) (hl:zs.length≤1000) :
  Calls prog 168 #[.slice ao zs.length c,.int .i64 x] w fun e w'=>(∃ j:Int,e=.returned (.int .i64 j)∧(0≤j↔x∈zs))∧w=w':=by
 have HI:=J h;clear h;go_enter func168,ntmps168;go_wp2;go_loop [8] (fun iv'=>∃ k:Nat,k≤zs.length∧iv' = .int .i64 k∧Hid (x∉zs.take k)) (fun iv'=>zs.length-(intOf iv').toNat)
 case atStart=>exact ⟨0,Nat.zero_le _,rfl,J (by simp)⟩
 case round=>
  obtain ⟨k,hk,rfl,hn⟩:=hrel;by_cases hlt:k<zs.length
  ·obtain ⟨b,off,rfl,hc⟩:=HI.out.at hlt
   obtain ⟨y,hy⟩:=exq (zs.getD k 0);rw [←hy] at hc;have HY:Hid (zs.take (k+1)=zs.take k++[y]):=J (by rw [List.take_succ_eq_append_getElem hlt,hy];simp [List.getD,hlt]);have HM:Hid (y∈zs):=J (by rw [hy];exact jD hlt);clear hy;have hlt':(k:Int)<zs.length:=by omega
   by_cases he:x=y
   ·have d1:(x == y)=true:=by simpa using he
    have HE:=J he;clear he;go_wp2;go_ret;exact ⟨⟨k,rfl,⟨fun _=>by rw [HE.out];exact HM.out,fun _=>by omega⟩⟩,rfl⟩
   ·have d1:(x == y)=false:=by simpa using he
    have HE:=J he;clear he;go_wp2;go_round
    case rel=>exact ⟨k+1,by omega,by go_num,J (by rw [HY.out];intro hm;rcases List.mem_append.1 hm with hm | hm;exact hn.out hm;exact HE.out (List.mem_singleton.1 hm))⟩
    case measure=>simp [intOf];omega
  ·have hge:(zs.length:Int)≤k:=by omega
   have HN2:Hid (x∉zs):=J (by have:=hn.out;rwa [List.take_of_length_le (by omega)] at this);go_wp2;go_ret;exact ⟨⟨-1,rfl,⟨fun h=>by omega,fun h=>absurd h HN2.out⟩⟩,rfl⟩
theorem qv (ao:Option Addr) (c:Nat) (zs:List Int) (x:Int) (w:World) (h:IS w ao zs) (hl:zs.length≤1000) :
  Calls prog 141 #[.slice ao zs.length c,.int .i64 x] w fun e w'=>e=.returned (.bool (decide (x∈zs)))∧w=w':=by
 have HI:=J (zdH ao c zs x w h hl);clear h;go_enter func141,ntmps141;go_wp2_with (go_at_call 168;(refine HI.out.mono ?_);rintro e w2 ⟨⟨j,rfl,hj⟩,rfl⟩;have HJ:=J hj;clear hj);go_ret;exact ⟨U0 (by have:=HJ.out;simp only [this]),rfl⟩
theorem zjn {zs:List Int}(hv:Vd zs):(1:Int)∈zs↔1∈nat zs:=by
 unfold nat;rw [List.mem_map];constructor
 ·intro h;exact ⟨1,h,rfl⟩
 ·rintro ⟨z,hz,he⟩
  have:=hv.all z hz;have:z=1:=by omega
  rwa [this] at hz
theorem zat (p:Nat) (ao:Option Addr) (c n:Nat) (zs:List Int) (w:World) (h:zg w p (nat zs)) (hi:IS w ao zs) (hl:zs.length=n) (hv:Vd zs) :
  Calls prog 103 #[.pointer (some ⟨p,0,none⟩),.slice ao n c] w fun e w'=>e=.returned (.bool (whole (nat zs)))∧Below w.heap.size w w':=by
 subst hl;have hlen:=hv.len;have HC:=J (yE p (nat zs) w h);by_cases h1:room (nat zs)=32768
 ·have hw:whole (nat zs)=true:=by unfold whole;simp [h1]
  rw [hw];simp only [h1,decide_true] at HC;clear h hi hv h1 hw;go_enter func103,ntmps103;go_wp2_with (go_at_call 139;(refine HC.out.mono ?_);rintro e w2 ⟨rfl,hb⟩;have HB:=J hb;clear hb);go_ret;exact ⟨rfl,HB.out⟩
 ·simp only [h1,decide_false] at HC
  have HS:=J fun W (hb:Below w.heap.size w W)=>uP p (nat zs) W (h.below hb)
  obtain ⟨m,hm⟩:=exq (many (nat zs));rw [←hm] at HS;have hmb:m≤10000:=by
   rw [hm];have:=Xv (nat zs) (by rw [xt];exact hlen) 16;unfold many;omega
  by_cases h2:m=1
  ·have hw:whole (nat zs)=decide ((1:Int)∈zs):=by
    unfold whole;rw [←hm];simp [h1,h2,zjn hv]
   rw [hw];have HK:=J fun W (hb:Below w.heap.size w W)=>qv ao c zs 1 W (hi.below hb) (by omega)
   obtain ⟨b,hb0⟩:=exq (decide ((1:Int)∈zs));rw [←hb0] at HK ⊢;have d1:((m:Int) == 1)=true:=by simp [h2]
   clear h hi hv h1 hw h2 hm hb0;go_enter func103,ntmps103;go_wp2_with (first
    | (go_at_call 139;(refine HC.out.mono ?_);rintro e w2 ⟨rfl,hb⟩;have HB:=J hb;clear hb)
    | (go_at_call 104;(refine (HS.out _ HB.out).mono ?_);rintro e w3 ⟨rfl,rfl⟩)
    | (go_at_call 141;(refine (HK.out _ HB.out).mono ?_);rintro e w3 ⟨rfl,rfl⟩))
   go_ret;exact ⟨rfl,HB.out⟩
  ·have hw:whole (nat zs)=false:=by
    unfold whole;rw [←hm];simp [h1,h2]
   rw [hw];have d1:((m:Int) == 1)=false:=by simp;omega
   clear h hi hv h1 hw h2 hm;go_enter func103,ntmps103;go_wp2_with (first
    | (go_at_call 139;(refine HC.out.mono ?_);rintro e w2 ⟨rfl,hb⟩;have HB:=J hb;clear hb)
    | (go_at_call 104;(refine (HS.out _ HB.out).mono ?_);rintro e w3 ⟨rfl,rfl⟩))
   go_ret;exact ⟨rfl,HB.out⟩
section
variable {B K p pb:Nat}{g:Option Nat}{bs:List Nat}{lim:Nat}{w:World}{ov:Value}{s:Sta}
theorem RS.setFix (h:RS B K p pb g bs lim w ov s) (K':Nat) (v:Value) (hv:Qd w K' v) :
  RS B K' p pb g bs lim (w.setCell ⟨p,5,none⟩ v) ov s∧Mv p pb w ov (w.setCell ⟨p,5,none⟩ v) ov:=by
 obtain ⟨n1,n2,n3⟩:=h.ne;have ht:Touch (fun k=>k=p) w (w.setCell ⟨p,5,none⟩ v):=(Touch.refl _ w).setCell _ _ (.inl rfl);have hT:Touch (FT p pb ov) w (w.setCell ⟨p,5,none⟩ v):=ht.mono fun i hi => .inl hi
 obtain ⟨fx,hb,hf⟩:=h.blk;exact ⟨⟨⟨v,hb.setCell 5 _,hv.safe hT h.safe⟩,h.ob.touch ht fun k hk e=>by rcases hk with hk | hk;exact n1 (e.symm.trans hk);exact (n3 k hk).1 e,zd h.own ht fun i hi e=>(n2 i hi).1 e,h.hp,h.row,h.len,h.lim_,h.in_,h.out,h.steps,h.blocks,h.bytes⟩,hT,fun _ x => .inl x⟩
def zmF (B p pb:Nat) (g:Option Nat) (bs:List Nat) (lim:Nat) (w:World) (ov:Value) (s:Sta) (fl ol:List Nat) (e:Ending) (w':World):Prop:=
 ∃ p1 p2,e=.returned (.agg #[.pointer (some ⟨p1,0,none⟩),.pointer (some ⟨p2,0,none⟩)])∧zg w' p1 fl∧zg w' p2 ol∧(∃ K',K'≤w'.heap.size∧RS B K' p pb g bs lim w' ov s)∧Mv p pb w ov w' ov
theorem zcA:Vd qo:=⟨by decide +kernel,by decide +kernel⟩
theorem zcH:Vd xT:=⟨by decide +kernel,by decide +kernel⟩
theorem zec:room (nat qo)≤32768:=by decide +kernel
theorem zdc:room (nat xT)≤32768:=by decide +kernel
theorem zhc {w4 W:World}{p1 p2 r:Nat}(hrw:w.heap.size≤r) (h:RS B K p pb g bs lim w ov s) (hb:Below w.heap.size w w4) (hv:Blk w4 r 111 #[.pointer none,.pointer none]) (k1:zg w4 p1 zU) (k2:zg w4 p2 ql)
  (hq:Blk W w4.heap.size 111 #[.pointer (some ⟨p1,0,none⟩),.pointer (some ⟨p2,0,none⟩)]) (ht:Touch (fun _=>False) w4 W) :
  (∃ fx5,W.cell? ⟨p,5,none⟩=some fx5)∧W.frozen? ⟨p,5,none⟩=false∧p≠r∧p≠w4.heap.size∧r≠w4.heap.size∧W.cell? ⟨r,0,none⟩=some (.pointer none)∧W.cell? ⟨r,1,none⟩=some (.pointer none)∧
  W.frozen? ⟨r,0,none⟩=false∧W.frozen? ⟨r,1,none⟩=false∧W.cell? ⟨w4.heap.size,0,none⟩=some (.pointer (some ⟨p1,0,none⟩))∧W.cell? ⟨w4.heap.size,1,none⟩=some (.pointer (some ⟨p2,0,none⟩))∧
  ∀ W6,Touch (fun k=>k=r) (W.setCell ⟨p,5,none⟩ (.pointer (some ⟨w4.heap.size,0,none⟩))) W6→(∃ K',K'≤W6.heap.size∧RS B K' p pb g bs lim W6 ov s)∧Mv p pb w ov W6 ov∧zg W6 p1 zU∧zg W6 p2 ql:=by
 have hbW:Below w4.heap.size w4 W:=ht.below (Nat.le_refl _) fun _ h=>h.elim
 obtain ⟨h5,m5⟩:=h.grow (hb.trans (hbW.mono hb.size));obtain ⟨fx5,hb5,_⟩:=h5.blk;have v5:=hv.below hbW;have c1:=k1.below hbW;have c2:=k2.below hbW;have hx:Qd W W.heap.size (.pointer (some ⟨w4.heap.size,0,none⟩)):=.inr ⟨_,p1,p2,rfl,hq,c1.in_,c2.in_,hq.lt⟩;obtain ⟨h6,m6⟩:=h5.setFix _ _ hx;have i1:=c1.in_;have i2:=c2.in_;have hpr:p≠r:=by
  rintro rfl;rw [Blk,hb5] at v5;simp at v5
 obtain ⟨fx0,hb0,_⟩:=h.blk;have hp0:=hb0.lt;have hsz:=hb.size;have hr0:=hv.lt;have hsf:=h5.safe;have d1:=i1.safe m6.touch hsf;have d2:=i2.safe m6.touch hsf;have hq6:=hq.safe m6.touch hsf (by decide);have hv6:=v5.safe m6.touch hsf (by decide);have hb6:=hb5.setCell 5 (.pointer (some ⟨w4.heap.size,0,none⟩));refine ⟨⟨fx5,(hb5.cell 5).trans rfl⟩,hb5.free 5,hpr,by omega,by omega,(v5.cell 0).trans rfl,(v5.cell 1).trans rfl,v5.free 0,v5.free 1,(hq.cell 0).trans rfl,(hq.cell 1).trans rfl,?_⟩;intro W6 ht6;have e1:=d1.aside hv6 ht6 ⟨by decide,by decide,fun h=>absurd h (by decide)⟩
 have e2:=d2.aside hv6 ht6 ⟨by decide,by decide,fun h=>absurd h (by decide)⟩
 obtain ⟨sv,o1,o2,o3⟩:=h6.ob.blk;refine ⟨⟨W.heap.size,Nat.le_trans (by simp) ht6.size,⟨_,hb6.touch ht6 hpr,.inr ⟨_,p1,p2,rfl,hq6.touch ht6 (by omega),e1,e2,hq.lt⟩⟩,h6.ob.touch ht6 ?_,zd h6.own ht6 ?_,h6.hp,h6.row,h6.len,h6.lim_,h6.in_,h6.out,h6.steps,h6.blocks,h6.bytes⟩,?_,e1.at_,e2.at_⟩
 ·rintro k (rfl | hk) e
  ·subst e
   rw [Blk,o1] at hv6;simp at hv6
  ·subst e
   rw [←o2] at hk;obtain ⟨cs,hc⟩:=zZ o3 hk;rw [Blk,hc] at hv6;simp at hv6
 ·intro k hk e
  subst e;obtain ⟨cs,hc⟩:=zZ h6.own hk;rw [Blk,hc] at hv6;simp at hv6
 ·exact ⟨(m5.trans m6).touch.trans' ht6 (fun i hi hlt=>by omega),fun k hk => .inl hk⟩
set_option maxHeartbeats 1600000 in
theorem vR (h:RS B K p pb g bs lim w ov s) (hK:K≤w.heap.size):Calls prog 63 #[.pointer (some ⟨p,0,none⟩)] w (zmF B p pb g bs lim w ov s zU ql):=by
 obtain ⟨fx,hb,hf⟩:=h.blk;rcases hf with rfl | ⟨q,p1,p2,rfl,hq,hc1,hc2,_⟩
 ·have c5:=(hb.cell 5).trans (show _=some (.pointer none) from rfl)
  have hpl:=hb.lt;have H:=J h;have e1:∀ W:World,(binOp BinOp.eql 47 (.pointer none) (.pointer none)).run prog W=.ok (.bool true) W:=fun _=>by kernel_rfl
  clear h hb;go_enter func63,ntmps63;go_wp2_with (go_at_call 79;(refine (Qe _).mono ?_);rintro e w2 ⟨a1,c1,a2,c2,rfl,i1,i2,hb2⟩;have I1:=J i1;have I2:=J i2;have HB2:=J hb2;clear i1 i2 hb2);obtain ⟨r,hr⟩:=exq (w.heap.size);have HV:Hid (Blk w2 r 111 #[.pointer none,.pointer none]):=J (by rw [hr];exact (Blk.made w 111 _).below HB2.out);have HBw:Hid (Below r w w2):=J (by rw [hr];exact ((Below.refl _ w).alloc (Nat.le_refl _) _).trans (HB2.out.mono (by simp)));have HRr:=J hr;rw [←hr];clear hr HB2;refine (xR a1 c1 288 qo _ I1.out jz zcA zec).mono ?_;rintro e w3 ⟨p1,rfl,k1,b3⟩;have K1:=J k1;have B3:=J b3;have I3:=J (I2.out.below b3);clear k1 b3 I1 I2;go_wp2_with fail
  refine (xR a2 c2 32 xT _ I3.out uz zcH zdc).mono ?_;rintro e w4 ⟨p2,rfl,k2,b4⟩;have hB4:Below w.heap.size w w4:=by
   have s0:=HBw.out.size;have s3:=B3.out.size;have hr:=HRr.out;rw [hr] at HBw;exact HBw.out.trans ((B3.out.mono (by omega)).trans (b4.mono (by omega)))
  have FF:=J fun W hq ht=>zhc (W:=W) (by rw [HRr.out];exact Nat.le_refl _) H.out hB4 ((HV.out.below B3.out).below b4) (Qg ▸ K1.out.below b4) (KP ▸ k2) hq ht
  clear hB4 b4 k2 K1 B3 I3 HBw HV H;go_wp2_with (refine qr rfl 111 (.tmp 19) rfl #[.pointer (some ⟨p1,0,none⟩),.pointer (some ⟨p2,0,none⟩)] rfl ?_;intro W hbq htq hsq;obtain ⟨⟨fx5,k5⟩,f5,n1,n2,n3,r0,r1,g0,g1,q0,q1,FIN⟩:=FF.out W hbq htq;have FI:=J FIN;clear hbq htq hsq FIN;obtain ⟨q,hq⟩:=exq (w4.heap.size);rw [←hq] at n2 n3 q0 q1 FI ⊢;clear hq);refine bodyPost_ret (v:=.agg #[.pointer (some ⟨p1,0,none⟩),.pointer (some ⟨p2,0,none⟩)]) (by simp [results,results63,go_sem,r0,r1]) rfl ?_;obtain ⟨f1,f2,f3,f4⟩:=FI.out _ (((Touch.refl (fun k=>k=r) (W.setCell ⟨p,5,none⟩ (.pointer (some ⟨q,0,none⟩)))).setCell ⟨r,0,none⟩ (.pointer (some ⟨p1,0,none⟩)) (.inl rfl)).setCell ⟨r,1,none⟩ (.pointer (some ⟨p2,0,none⟩)) (.inl rfl));exact ⟨p1,p2,rfl,f3,f4,f1,f2⟩
 ·have c5:=(hb.cell 5).trans (show _=some (.pointer (some ⟨q,0,none⟩)) from rfl)
  have q0:=(hq.cell 0).trans (show _=some (.pointer (some ⟨p1,0,none⟩)) from rfl);have q1:=(hq.cell 1).trans (show _=some (.pointer (some ⟨p2,0,none⟩)) from rfl);have hpl:=hb.lt;have hql:=hq.lt;have H:=J h;have C1:=J hc1.at_;have C2:=J hc2.at_;clear h hb hq hc1 hc2;go_enter func63,ntmps63;go_wp2;refine bodyPost_ret (v:=.agg #[.pointer (some ⟨p1,0,none⟩),.pointer (some ⟨p2,0,none⟩)]) (by simp [results,results63,go_sem]) rfl ?_;have hA:Below w.heap.size w (w.alloc (.cells #[.pointer (some ⟨p1,0,none⟩),.pointer (some ⟨p2,0,none⟩)] 111)):=(Below.refl _ w).alloc (Nat.le_refl _) _;obtain ⟨h2,m2⟩:=H.out.grow hA;exact ⟨p1,p2,rfl,C1.out.below hA,C2.out.below hA,⟨K,Nat.le_trans hK hA.size,h2⟩,m2⟩
end
end
end Go.Proofs.YtacpfpghokcdlaaGreatDoor
namespace Go.Proofs.YtacpfpghokcdlaaGreatDoor.Z
set_option maxRecDepth 100000
section
open Go.Lib renaming hid → J
open Go.RowKit
def spl (s:Int):Nat:=if s=16 then 3 else if s=17 then 3 else if s=18 then 11 else 1
def spm (s:Int):Nat:=if s=16 then 6 else if s=17 then 10 else if s=18 then 138 else 1
theorem zu (s:Int) (w:World):Calls prog 181 #[.int .i64 s] w fun e w'=>e=.returned (.tuple #[.int .i64 (spl s:Nat),.int .i64 (spm s:Nat)])∧w'=w:=by
 by_cases h1:s=16
 ·subst h1
  go_enter func181,ntmps181;go_wp2;go_ret2
  exact ⟨rfl,rfl⟩
 ·have b1:(s == 16)=false:=by simp [h1]
  by_cases h2:s=17
  ·subst h2
   go_enter func181,ntmps181;go_wp2;go_ret2
   exact ⟨rfl,rfl⟩
  ·have b2:(s == 17)=false:=by simp [h2]
   by_cases h3:s=18
   ·subst h3
    go_enter func181,ntmps181;go_wp2;go_ret2
    exact ⟨rfl,rfl⟩
   ·have b3:(s == 18)=false:=by simp [h3]
    have e1:=J (show spl s=1 by simp [spl,h1,h2,h3]);have e2:=J (show spm s=1 by simp [spm,h1,h2,h3]);rw [e1.out,e2.out];clear h1 h2 h3;go_enter func181,ntmps181;go_wp2;go_ret2
    exact ⟨rfl,rfl⟩
end
section
open Go.RowKit
def Bad (l m n:Int):Prop:=n<l∨m<n
instance (l m n:Int):Decidable (Bad l m n):=inferInstanceAs (Decidable (_∨_))
structure Kept (w:World) (p q:Nat) (l m:Int):Prop where
 lo:w.cell? ⟨p,0,none⟩=some (.int .i64 l)
 hi:w.cell? ⟨q,0,none⟩=some (.int .i64 m)
def zW (p q:Nat):Value:=.func (.func 185) #[] #[.pointer (some ⟨p,0,none⟩),.pointer (some ⟨q,0,none⟩)]
def Xe (l m:Int) (w:World) (e:Ending) (w':World):Prop:=∃ p q,e=.returned (zW p q)∧Kept w' p q l m∧Below w.heap.size w w'∧w.heap.size≤p∧w.heap.size≤q
theorem zm (l m:Int) (w:World):Calls prog 174 #[.int .i64 l,.int .i64 m] w (Xe l m w):=by
 go_enter func174,ntmps174;go_wp2;go_ret;refine ⟨_,_,rfl,?_,((Below.refl _ w).alloc (Nat.le_refl _) _).alloc (by simp) _,Nat.le_refl _,by simp⟩;exact ⟨by simp,by simp⟩
theorem y5 (p q:Nat) (l m n:Int) (w:World) (hK:Kept w p q l m) (h:Bad l m n) :
  Calls prog 185 #[.int .i64 n,.pointer (some ⟨p,0,none⟩),.pointer (some ⟨q,0,none⟩)] w fun e w'=>e=.returned (.bool true)∧w'=w:=by
 have h1:=hK.lo;have h2:=hK.hi;clear hK;by_cases c:n<l
 ·go_enter func185,ntmps185
  go_wp2;go_ret;exact ⟨rfl,rfl⟩
 ·have c2:m<n:=by rcases h with h | h;exact absurd h c;exact h
  have c':l≤n:=Int.not_lt.mp c;clear h c;go_enter func185,ntmps185;go_wp2;go_ret;exact ⟨rfl,rfl⟩
theorem qM (p q:Nat) (l m n:Int) (w:World) (hK:Kept w p q l m) (h:¬Bad l m n) :
  Calls prog 185 #[.int .i64 n,.pointer (some ⟨p,0,none⟩),.pointer (some ⟨q,0,none⟩)] w fun e w'=>e=.returned (.bool false)∧w'=w:=by
 have h1:=hK.lo;have h2:=hK.hi;have c1:l≤n:=Int.not_lt.mp fun c=>h (.inl c)
 have c2:n≤m:=Int.not_lt.mp fun c=>h (.inr c)
 clear hK h;have d2:decide (m<n)=false:=decide_eq_false (by omega);have d1:decide (n<l)=false:=decide_eq_false (by omega);go_enter func185,ntmps185;go_wp2;go_ret;exact ⟨rfl,rfl⟩
def icl (r:List (Int × Int)):List Value:=r.flatMap fun x=>[.int .i64 x.1,.int .i64 x.2]
theorem jw (x:Int × Int) (r:List (Int × Int)):icl (x::r)=.int .i64 x.1 :: .int .i64 x.2::icl r:=rfl
theorem Xp (a b:List (Int × Int)):icl a++icl b=icl (a++b):=by simp [icl]
theorem QP (r:List (Int × Int)):(icl r).length=r.length*2:=by
 induction r with
 | nil=>rfl
 | cons x r ih=>rw [jw,List.length_cons,List.length_cons,ih,List.length_cons];omega
def itm (r:List (Int × Int)) (k:Nat):Int × Int:=r.getD k (0,0)
theorem zal (r:List (Int × Int)) (k:Nat) (h:k<r.length):(icl r)[k*2]? = some (.int .i64 (itm r k).1)∧(icl r)[k*2+1]? = some (.int .i64 (itm r k).2):=by
 induction r generalizing k with
 | nil=>simp at h
 | cons x r ih=>
  cases k with
  | zero=>exact ⟨rfl,rfl⟩
  | succ k=>
   have:=ih k (by simpa using h);rw [jw,show (k+1)*2=k*2+1+1 by omega,List.getElem?_cons_succ,List.getElem?_cons_succ,List.getElem?_cons_succ,List.getElem?_cons_succ];exact this
def TS (w:World) (ao:Option Addr) (r:List (Int × Int)):Prop:=r=[]∨∃ b off,ao=some ⟨b,off,none⟩∧w.rangeAt b off (icl r)
theorem TS.on {w w':World}{ao:Option Addr}{r:List (Int × Int)}(h:TS w ao r) (hb:Below w.heap.size w w'):TS w' ao r:=by
 rcases h with h | ⟨b,off,rfl,hc⟩
 ·exact .inl h
 ·exact .inr ⟨b,off,rfl,fun j v hv=>by
   have:=hc j v hv;exact (hb.cell (World.block_lt_of_cell? w _ this)).trans this⟩
theorem TS.at {w:World}{ao:Option Addr}{r:List (Int × Int)}(h:TS w ao r){k:Nat}(hk:k<r.length) :
  ∃ b off,ao=some ⟨b,off,none⟩∧w.cell? ⟨b,off+k*2,none⟩=some (.int .i64 (itm r k).1)∧w.cell? ⟨b,off+k*2+1,none⟩=some (.int .i64 (itm r k).2):=by
 rcases h with rfl | ⟨b,off,rfl,hc⟩
 ·simp at hk
 ·have:=zal r k hk
  exact ⟨b,off,rfl,hc _ _ this.1,by have:=hc _ _ this.2;rwa [←Nat.add_assoc] at this⟩
theorem uH {w:World}{base e:Nat}{ao:Option Addr}{c n:Nat}{r:List (Int × Int)}(h:w.ownsRow base e 2 (.slice ao n c) n (icl r)) (hn:r.length=n):TS w ao r:=by
 subst hn;rcases h.2 with ⟨e,h0⟩ | ⟨g,cap,cur,e,hbg,hh,hnc,hcm,hcs,htake⟩
 ·exact .inl (List.eq_nil_of_length_eq_zero h0)
 ·simp only [Value.slice.injEq] at e
  obtain ⟨rfl,_,rfl⟩:=e;refine .inr ⟨g,0,rfl,fun j v hv=>?_⟩;have hj:j<r.length*2:=by
   have:=(List.getElem?_eq_some_iff.1 hv).1;rwa [QP] at this
  rw [Nat.zero_add,World.ownsRow.cellAt h j (by omega),hv]
theorem kT {x:Int}(h:x≤15):spl x=1∧spm x=1:=by
 unfold spl spm;constructor
 ·rw [if_neg (by omega),if_neg (by omega),if_neg (by omega)]
 ·rw [if_neg (by omega),if_neg (by omega),if_neg (by omega)]
end
section
open Go.Lib renaming hid → J
open Go.RowKit
def tv (s:Int) (ts:List Int):Int:=if s=16 then ts.getD (ts.length-1) 0 else if s=17 then 0 else if s=18 then 0 else s
set_option maxHeartbeats 4000000 in
theorem zgg (ao:Option Addr) (c:Nat) (s:Int) (ts:List Int) (w:World) (h:IS w ao ts) (hs:s=16→ts≠[]) (hl:ts.length≤1000) :
  Calls prog 184 #[.int .i64 s,.slice ao ts.length c] w fun e w'=>e=.returned (.int .i64 (tv s ts))∧w'=w:=by
 by_cases h1:s=16
 ·subst h1
  have hn:0<ts.length:=List.length_pos_iff.2 (hs rfl);obtain ⟨b,o,rfl,q1⟩:=h.at (k:=ts.length-1) (by omega);obtain ⟨x,hx⟩:=exq (ts.getD (ts.length-1) 0);have e0:=J (show tv 16 ts=x by rw [tv,if_pos rfl,hx]);rw [e0.out];rw [←hx] at q1;clear hx hs h;obtain ⟨k,hk⟩:=exq (ts.length-1);obtain ⟨L,hL⟩:=exq (ts.length);rw [←hk] at q1;rw [←hL] at hk hl hn ⊢;have e1:IntKind.i64.wrap ((L:Int)-1)=k:=by rw [IntKind.wrap_i64];omega
  have hk2:(k:Int)<L:=by omega
  clear hk hL;go_enter func184,ntmps184;go_wp2;go_ret;exact ⟨rfl,rfl⟩
 ·have b1:(s == 16)=false:=by simp [h1]
  clear hs h;by_cases h2:s=17
  ·subst h2
   go_enter func184,ntmps184;go_wp2;go_ret;exact ⟨rfl,rfl⟩
  ·have b2:(s == 17)=false:=by simp [h2]
   by_cases h3:s=18
   ·subst h3
    go_enter func184,ntmps184;go_wp2;go_ret;exact ⟨rfl,rfl⟩
   ·have b3:(s == 18)=false:=by simp [h3]
    have e1:=J (show tv s ts=s by simp [tv,h1,h2,h3]);rw [e1.out];clear h1 h2 h3;go_enter func184,ntmps184;go_wp2;go_ret;exact ⟨rfl,rfl⟩
end
section
open Go.RowKit
def Wi (s x:Int) (n:Nat):Prop:=Bad 0 18 s∨Bad 0 ((spm s:Int)-spl s) x∨(s=16∧n=0)∨(320-n:Int)<spl s+x
instance (s x:Int) (n:Nat):Decidable (Wi s x n):=inferInstanceAs (Decidable (_∨_))
theorem JG (s:Int):1≤spl s∧spl s≤11∧spl s≤spm s∧spm s≤138:=by
 unfold spl spm;by_cases h1:s=16
 ·simp [h1]
 ·by_cases h2:s=17
  ·simp [h2]
  ·by_cases h3:s=18
   ·simp [h3]
   ·simp [h1,h2,h3]
def un:List (Int × Int)→List Int→Option (List Int)
 | [],ts=>some ts
 | (s,x)::r,ts=>if Wi s x ts.length then none else un r (ts++List.replicate ((spl s:Int)+x).toNat (tv s ts))
theorem zN {ρ : Operand→Value}{o:Oper}{w:World}(x y:Operand) (ts:Array TypeId) (f:Nat) (caps:Array Value) (v:Value) (hF:∀ A:Array Value,(callFunc f A).run prog w=.ok (.enter f A) w) (ho:o.op=.call { callee:=.value x,args := #[y],argTypes:=ts }) (hx : ρ x=.func (.func f) #[] caps) (hy : ρ y=v) :
  (execOp ρ o).run prog w=.ok (.enter f (#[v]++caps)) w:=by
 unfold execOp;simp [ho,hx,hy,hF,go_sem]
theorem zB {ρ : Operand→Value}{o:Oper}{w:World}(x y z:Operand) (ts:Array TypeId) (f:Nat) (caps:Array Value) (v u:Value) (hF:∀ A:Array Value,(callFunc f A).run prog w=.ok (.enter f A) w) (ho:o.op=.call { callee:=.value x,args := #[y,z],argTypes:=ts }) (hx : ρ x=.func (.func f) #[] caps) (hy : ρ y=v) (hz : ρ z=u) :
  (execOp ρ o).run prog w=.ok (.enter f (#[v,u]++caps)) w:=by
 unfold execOp;simp [ho,hx,hy,hz,hF,go_sem]
theorem qu (A:Array Value) (w:World):(callFunc 185 A).run prog w=.ok (.enter 185 A) w:=by kernel_rfl
theorem qh (A:Array Value) (w:World):(callFunc 174 A).run prog w=.ok (.enter 174 A) w:=by kernel_rfl
theorem zk {ops:Array Oper}{o:Oper}{a:Act}{w:World}{K:Act→World→Prop}{Q:Exit→Act→World→Prop}{E:Prop}(hw:Region.wanted o (yielded ops a.tmps)=true) (f:FuncId) (args:Array Value)
  (hr:(execOp a.eval o).run prog w=.ok (.enter f args) w) (R:Value→World→Prop) (hc:Calls prog f args w fun e w'=>∃ v,e=.returned v∧R v w') (h:∀ v w',R v w'→K (a.put o.dst v) w') :
  if Region.wanted o (yielded ops a.tmps)=true then Oper.wp prog o a w K Q else E:=by
 rw [if_pos hw];unfold Oper.wp;rw [hr];exact hc.mono (by rintro e w' ⟨v,rfl,hR⟩;exact h v w' hR)
end
end Go.Proofs.YtacpfpghokcdlaaGreatDoor.Z
namespace Go.Proofs.YtacpfpghokcdlaaGreatDoor
set_option maxRecDepth 100000
section
variable {P:Program}{md:Region.Mode}{ops:Array Oper}{Q:Exit→Act→World→Prop}{S:World→Prop}{fuel:Nat}{listed:Array Bool}{w:World}{l:List Value}{ds:List Deferred}{oi:Oper}{k:Nat}
theorem tA (i:Nat) (v:Value) (hS:S w) (h:wpAnyH P md ops Q S fuel (listed.setIfInBounds i true) ⟨(l.set k v).toArray,ds⟩ w) (hi:ops[i]? = some oi:=by rfl) (hk:oi.dst=some k:=by rfl) (hs:Region.noSelect ops=true:=by kernel_rfl) (hf:Region.free md ops listed i=true:=by kernel_rfl)
  (hr:(Region.ready md ops listed).contains i=true:=by kernel_rfl) (hw:Region.wanted oi (yielded ops l.toArray)=true:=by rfl) (hy:∀ W,S W→(execOp (Act.eval ⟨l.toArray,ds⟩) oi).run P W=.ok (.value v) W:=by (intro W hSw;obtain ⟨hs1,hs2,hs3⟩:=hSw;go_simp))
  (hQ:∀ c a w,Q (.panic c) (a.put oi.dst v) w→Q (.panic c) a w:=by (intro c a w h;exact h)):wpAnyH P md ops Q S (fuel+1) listed ⟨l.toArray,ds⟩ w:=by
 refine wpAnyH_take hi hs hf hr hQ (.inl ⟨hw,hy⟩) hS ?_;rw [hk];unfold Act.put;simpa using h
theorem tB (i:Nat) (hS:S w) (h:wpAnyH P md ops Q S fuel (listed.setIfInBounds i true) ⟨l.toArray,ds⟩ w) (hi:ops[i]? = some oi:=by rfl) (hk:oi.dst=some k:=by rfl) (hs:Region.noSelect ops=true:=by kernel_rfl) (hf:Region.free md ops listed i=true:=by kernel_rfl)
  (hr:(Region.ready md ops listed).contains i=true:=by kernel_rfl) (hw:Region.wanted oi (yielded ops l.toArray)=false:=by rfl) (hl:l.set k undef=l:=by rfl)
  (hQ:∀ c a w,Q (.panic c) (a.put oi.dst undef) w→Q (.panic c) a w:=by (intro c a w h;exact h)):wpAnyH P md ops Q S (fuel+1) listed ⟨l.toArray,ds⟩ w:=by
 refine wpAnyH_take hi hs hf hr hQ (.inr ⟨hw,rfl⟩) hS ?_;rw [hk];unfold Act.put;simpa [hl] using h
end
end Go.Proofs.YtacpfpghokcdlaaGreatDoor
