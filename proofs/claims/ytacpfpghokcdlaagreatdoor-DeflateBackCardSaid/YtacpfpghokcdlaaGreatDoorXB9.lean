/- Part 9. -/
import Derived.Test.YtacpfpghokcdlaaGreatDoorXB8
open Go.Proofs.Tryz
namespace Go.Proofs.YtacpfpghokcdlaaGreatDoor
set_option maxRecDepth 100000
section
open Go.Lib renaming hid → J
open Go.RowKit
theorem zcI {w:World}{ao:Option Addr}{zs:List Int}(h:IS w ao zs) (k:Nat):IS w ao (zs.take k):=by
 rcases h with rfl | ⟨b,off,rfl,hc⟩
 ·exact .inl (by simp)
 ·refine .inr ⟨b,off,rfl,fun j hj=>?_⟩
  rw [List.length_take] at hj;rw [hc j (by omega)];simp only [List.getD_eq_getElem?_getD];rw [List.getElem?_take_of_lt (by omega)]
theorem zb8 {w:World}{b off:Nat}{zs:List Int}(h:IS w (some ⟨b,off,none⟩) zs) (k:Nat):IS w (some ⟨b,off+k,none⟩) (zs.drop k):=by
 rcases h with rfl | ⟨b',off',he,hc⟩
 ·exact .inl (by simp)
 ·simp only [Option.some.injEq,Addr.mk.injEq,and_true] at he
  obtain ⟨rfl,rfl⟩:=he;refine .inr ⟨b,off+k,rfl,fun j hj=>?_⟩;rw [List.length_drop] at hj;rw [Nat.add_assoc,hc (k+j) (by omega)];simp only [List.getD_eq_getElem?_getD,List.getElem?_drop]
theorem zcy (l:List Nat) (k:Nat):(zn l).take k=zn (l.take k):=by simp [zn]
theorem zcq (l:List Nat) (k:Nat):(zn l).drop k=zn (l.drop k):=by simp [zn]
theorem zgs {l:List Nat}(h:∀ x∈l,x≤15) (hl:l.length≤320):Vd (zn l):=⟨by rw [zH];exact hl,fun z hz=>by
 unfold zn at hz;obtain ⟨x,hx,rfl⟩:=List.mem_map.1 hz;have:=h x hx;omega⟩
theorem Kw (p:Nat) (ao:Option Addr) (c n:Nat) (ls:List Nat) (w:World) (h:zg w p ls) (hi:IS w ao (zn ls)) (hl:(zn ls).length=n) (hv:Vd (zn ls)) :
  Calls prog 103 #[.pointer (some ⟨p,0,none⟩),.slice ao n c] w fun e w'=>e=.returned (.bool (whole ls))∧Below w.heap.size w w':=by
 have:=zat p ao c n (zn ls) w (by rw [xi];exact h) hi hl hv;rw [xi] at this;exact this
section
variable {B K p pb:Nat}{g:Option Nat}{bs:List Nat}{lim:Nat}{w:World}{ov:Value}{s:Sta}
def CD (B K p pb:Nat) (g:Option Nat) (bs:List Nat) (lim:Nat) (w:World) (ov:Value) (r:Res (List Nat × List Nat)) (e:Ending) (w':World):Prop:=
 match r with
 | .bad er=>X5 p pb w ov er e w'
 | .ok c s=>∃ p1 p2,e=.returned (.agg #[.pointer (some ⟨p1,0,none⟩),.pointer (some ⟨p2,0,none⟩)])∧zg w' p1 c.1∧zg w' p2 c.2∧∃ ov',RS B K p pb g bs lim w' ov' s∧Mv p pb w ov w' ov'
theorem CD.bad {R:Res (List Nat × List Nat)}{er:Nat}{w':World}(e:R=.bad er) (ht:Touch (FT p pb ov) w w'):CD B K p pb g bs lim w ov R (pan er) w':=by
 subst e;exact ⟨rfl,ht⟩
structure Tx (B K p pb:Nat) (g:Option Nat) (bs:List Nat) (lim:Nat) (w:World) (ov:Value) (r:Nat) (wr:World) (ov':Value) (s':Sta):Prop where
 rs:RS B K p pb g bs lim wr ov' s'
 mv:Mv p pb w ov wr ov'
 tab:Tab wr
 res:Blk wr r 111 #[.pointer none,.pointer none]
 hB:2<B
 hK:K≤wr.heap.size
theorem Tx.on {r:Nat}{wr w2:World}{ov' ov2:Value}{s' s2:Sta}(h:Tx B K p pb g bs lim w ov r wr ov' s') (k:RS B K p pb g bs lim w2 ov2 s2) (m:Mv p pb wr ov' w2 ov2):Tx B K p pb g bs lim w ov r w2 ov2 s2:=
 ⟨k,h.mv.trans m,h.tab.touch m.touch fun h0=>by have:=h.rs.base 2 h0;have:=h.hB;omega,h.res.safe m.touch h.rs.safe (by decide),h.hB,Nat.le_trans h.hK m.touch.size⟩
theorem Tx.grow {r:Nat}{wr w2:World}{ov':Value}{s':Sta}(h:Tx B K p pb g bs lim w ov r wr ov' s') (hb:Below wr.heap.size wr w2):Tx B K p pb g bs lim w ov r w2 ov' s':=by
 obtain ⟨k,m⟩:=h.rs.grow hb;exact h.on k m
set_option maxHeartbeats 6400000 in
theorem Kg (hK:K≤w.heap.size) (hB:2<B) (hT:Tab w) (h:RS B K p pb g bs lim w ov s) :
  Calls prog 64 #[.pointer (some ⟨p,0,none⟩)] w (CD B K p pb g bs lim w ov (kn bs s)):=by
 obtain ⟨R,hR⟩:=exq (kn bs s);rw [←hR];unfold kn at hR;have HR:=J hR;clear hR;obtain ⟨r,hr⟩:=exq (w.heap.size);have HRW:=J hr;have HKW:=J hK;have HX0:Hid (Tx B K p pb g bs lim w ov r (w.alloc (.cells #[.pointer none,.pointer none] 111)) ov s):=J (by
  have hA:Below w.heap.size w (w.alloc (.cells #[.pointer none,.pointer none] 111)):=(Below.refl _ w).alloc (Nat.le_refl _) _;obtain ⟨h1,m1⟩:=h.grow hA;exact ⟨h1,m1,hT.below hA,by rw [hr];exact Blk.made _ _ _,hB,Nat.le_trans hK hA.size⟩)
 obtain ⟨W,hW⟩:=exq (w.alloc (.cells #[.pointer none,.pointer none] 111));clear h hT hB hK;go_enter func64,ntmps64;go_wp2_with fail
 rw [←hW] at HX0 ⊢;rw [←hr];clear hr hW;refine (zY HX0.out.rs 5 (by omega)).mono ?_;rintro e w1 h1;have hR:=HR.out;cases hr1:rdN bs 5 s with
 | bad er=>
  rw [hr1] at h1 hR;obtain ⟨rfl,ht⟩:=h1;have HR1:=J hR;clear hr1 hR;go_wp2;exact ⟨rfl,CD.bad HR1.out (HX0.out.mv.bad ht)⟩
 | ok l s1=>
 rw [hr1] at h1;rw [hr1,Res.bind_ok] at hR;obtain ⟨rfl,ov1,h1,m1⟩:=h1;have hl32:l<32:=qE hr1;have HX1:=J (HX0.out.on h1 m1);have HR1:=J hR;clear hr1 hR h1 m1 HX0 HR;go_wp2_with fail
 refine (zY HX1.out.rs 5 (by omega)).mono ?_;rintro e w2 h2;have hR:=HR1.out;cases hr2:rdN bs 5 s1 with
 | bad er=>
  rw [hr2] at h2 hR;obtain ⟨rfl,ht⟩:=h2;have HR2:=J hR;clear hr2 hR;go_wp2;exact ⟨rfl,CD.bad HR2.out (HX1.out.mv.bad ht)⟩
 | ok d s2=>
 rw [hr2] at h2;rw [hr2,Res.bind_ok] at hR;obtain ⟨rfl,ov2,h2,m2⟩:=h2;have hd32:d<32:=qE hr2;have HX2:=J (HX1.out.on h2 m2);have HR2:=J hR;clear hr2 hR h2 m2 HX1 HR1;go_wp2_with fail
 refine (zY HX2.out.rs 4 (by omega)).mono ?_;rintro e w3 h3;have hR:=HR2.out;cases hr3:rdN bs 4 s2 with
 | bad er=>
  rw [hr3] at h3 hR;obtain ⟨rfl,ht⟩:=h3;have HR3:=J hR;clear hr3 hR;go_wp2;exact ⟨rfl,CD.bad HR3.out (HX2.out.mv.bad ht)⟩
 | ok c s3=>
 rw [hr3] at h3;rw [hr3,Res.bind_ok] at hR;obtain ⟨rfl,ov3,h3,m3⟩:=h3;have hc16:c<16:=qE hr3;have HX3:=J (HX2.out.on h3 m3);have HR3:=J hR;clear hr3 hR h3 m3 HX2 HR2;by_cases hbad:29<l∨29<d
 ·have hR:=HR3.out
  rw [if_pos hbad] at hR;have HR4:=J hR;clear hR HR3;by_cases hl:29<l
  ·have e1:decide ((l:Int)≤29)=false:=by simp;omega
   clear hbad hl;go_wp2_with (go_at_call 60;(refine (qa 10 _).mono ?_);rintro e w7 ⟨rfl,rfl⟩);exact ⟨rfl,CD.bad HR4.out HX3.out.mv.touch⟩
  ·have e1:decide ((l:Int)≤29)=true:=by simp;omega
   have e2:decide ((d:Int)≤29)=false:=by simp;omega
   clear hbad hl;go_wp2_with (go_at_call 60;(refine (qa 10 _).mono ?_);rintro e w7 ⟨rfl,rfl⟩);exact ⟨rfl,CD.bad HR4.out HX3.out.mv.touch⟩
 have hR:=HR3.out;rw [if_neg hbad] at hR;have e1:decide ((l:Int)≤29)=true:=by simp;omega
 have e2:decide ((d:Int)≤29)=true:=by simp;omega
 have hl29:l≤29:=by omega
 have hd29:d≤29:=by omega
 obtain ⟨n4,hn4⟩:=exq (4+c);have e4:(4:Int)+(c:Int)=(n4:Nat):=by omega
 have hn19:n4≤19:=by omega
 rw [←hn4] at hR;have HR4:=J hR;clear hR hbad hn4 HR3;go_wp2_with (go_at_call 60;(with_reducible refine (zE _ _).mono ?_);rintro e w7 ⟨rfl,rfl⟩);clear e1 e2 e4;refine (U7 HX3.out.hK HX3.out.hB HX3.out.tab HX3.out.rs hn19).mono ?_;rintro e w4 h4;have hR:=HR4.out;have hown:∀ {β : Type} (k:List Nat→Sta→Res β),((rdO bs n4 [] s3).bind fun o s4=>if room (zp o)≠32768 then .bad 10 else k o s4)=(zdw bs n4 s3).bind k:=fun k=>by
  unfold zdw;cases rdO bs n4 [] s3 with
  | bad e=>rfl
  | ok o s4=>simp only [Res.bind_ok];split <;> rfl
 rw [hown] at hR;clear hown;cases hr4:zdw bs n4 s3 with
 | bad er=>
  rw [hr4] at h4 hR;obtain ⟨rfl,ht⟩:=h4;have HR5:=J hR;clear hr4 hR;go_wp2;exact ⟨rfl,CD.bad HR5.out (HX3.out.mv.bad ht)⟩
 | ok o s4=>
 rw [hr4] at h4;rw [hr4,Res.bind_ok] at hR;obtain ⟨pc,rfl,hc4,ov4,h4,m4⟩:=h4;have HX4:=J (HX3.out.on h4 m4);have HC4:=J hc4;obtain ⟨A,hA⟩:=exq (257+l);obtain ⟨D,hD⟩:=exq (1+d);obtain ⟨N,hN⟩:=exq (A+D);have hN2:258+l+d=N:=by omega
 have e5:(257:Int)+(l:Int)=(A:Nat):=by omega
 have e6:(A:Int)+1+(d:Int)=(N:Nat):=by omega
 have hA1:257≤A:=by omega
 have hA2:A≤286:=by omega
 have hD1:1≤D:=by omega
 have hD2:D≤30:=by omega
 rw [hN2,←hA] at hR;have HR5:=J hR;have HN:=J hN;have hN3:N≤320:=by omega
 have hN4:1≤N:=by omega
 have HAD:=J (And.intro hA hD);clear hr4 hR h4 m4 hc4 HX3 HR4 hN hN2 hA hD;go_wp2_with fail
 refine (Uy HX4.out.hK HX4.out.rs HC4.out (qk o) hN4 hN3).mono ?_;rintro e w5 h5;have hR:=HR5.out;cases hr5:lens bs (zp o) N s4 with
 | bad er=>
  rw [hr5] at h5 hR;obtain ⟨rfl,ht⟩:=h5;have HR6:=J hR;clear hr5 hR;go_wp2;exact ⟨rfl,CD.bad HR6.out (HX4.out.mv.bad ht)⟩
 | ok row s5=>
 rw [hr5] at h5;rw [hr5,Res.bind_ok] at hR;obtain ⟨a,c7,rfl,⟨i5,k5⟩,ov5,h5,m5⟩:=h5;obtain ⟨hlen,hsm⟩:=zi9 (qk o) HX4.out.rs.in_ hr5;rw [hlen] at k5 ⊢;have HX5:=J (HX4.out.on h5 m5);obtain ⟨b,off,rfl,q0⟩:=i5.at (k:=256) (by rw [zH];omega);rw [Jc] at q0;obtain ⟨x,hx⟩:=exq (row.getD 256 0);rw [←hx] at q0 hR;have HROW:=J (And.intro hlen hsm);have HI5:=J i5;have HR6:=J hR;have hND:N-A=D:=by have:=HN.out;omega
 have hAN:A<N:=by have:=HN.out;omega
 have hAN':(A:Int)≤N:=by omega
 have hc7:(N:Int)≤c7:=by omega
 have hAc:(A:Int)≤c7:=by omega
 have hne:¬(c7=A):=by omega
 have hx16:x≤15:=by
  rw [hx,List.getD_eq_getElem?_getD,List.getElem?_eq_getElem (by omega)];exact hsm _ (List.getElem_mem _)
 have HQ0:=J q0;clear hr5 hR h5 m5 hlen hsm i5 HX4 HR5 HC4 hx q0;go_wp2_with fail
 go_quiet (fail)
 obtain ⟨h6,m6⟩:=HX5.out.rs.drewN nq;have HX6:=J (HX5.out.on h6 m6);have HI6:Hid (IS (w5.drewN nq) (some ⟨b,off,none⟩) (zn row)):=J (HI5.out.drewN nq);have q6:(w5.drewN nq).cell? ⟨b,off+256,none⟩=some (.int .i64 (x:Nat)):=HQ0.out;obtain ⟨W6,hW6⟩:=exq (w5.drewN nq);rw [←hW6] at HX6 HI6 q6 ⊢;clear h6 m6 HX5 HI5 HQ0 hW6 hND hAN hAN' hc7 hAc hne e5 e6;have e7:(256:Int)<A:=by omega
 by_cases hx0:x=0
 ·have hR:=HR6.out
  rw [if_pos hx0] at hR;have HR7:=J hR;have d1:decide ((0:Int)<x)=false:=by simp;omega
  have d2:decide (0<x)=false:=by simp;omega
  clear hR hx0;go_wp2_with (go_at_call 60;(refine (qa 10 _).mono ?_);rintro e w7 ⟨rfl,rfl⟩);exact ⟨rfl,CD.bad HR7.out HX6.out.mv.touch⟩
 have hR:=HR6.out;rw [if_neg hx0] at hR;have HR7:=J hR;have d1:decide ((0:Int)<x)=true:=by simp;omega
 have d2:decide (0<x)=true:=by simp;omega
 obtain ⟨fl,hfl⟩:=exq (row.take A);obtain ⟨ol,hol⟩:=exq (row.drop A);have HFO:=J (And.intro hfl hol);have HI1:Hid (IS W6 (some ⟨b,off,none⟩) (zn fl)):=J (by rw [hfl,←zcy];exact zcI HI6.out A);have HI2:Hid (IS W6 (some ⟨b,off+A,none⟩) (zn ol)):=J (by rw [hol,←zcq];exact zb8 HI6.out A);have HL1:Hid ((zn fl).length=A):=J (by rw [zH,hfl,List.length_take,HROW.out.1];have:=HN.out;omega);have HL2:Hid ((zn ol).length=D):=J (by rw [zH,hol,List.length_drop,HROW.out.1];have:=HN.out;omega);have HV1:Hid (Vd (zn fl)):=J (zgs (fun y hy=>HROW.out.2 y (by rw [hfl] at hy;exact List.mem_of_mem_take hy)) (by have:=HL1.out;rw [zH] at this;omega))
 have HV2:Hid (Vd (zn ol)):=J (zgs (fun y hy=>HROW.out.2 y (by rw [hol] at hy;exact List.mem_of_mem_drop hy)) (by have:=HL2.out;rw [zH] at this;omega))
 have HFIT:Hid (fits row A=(decide (room fl≤32768∧room ol≤32768) && whole fl && (whole ol || decide (many ol=0)))):=J (by rw [hfl,hol];rfl);clear hR hx0 hfl hol HI6 HR6;go_wp2_with (go_at_call 60;(with_reducible refine (zE _ _).mono ?_);rintro e w7 ⟨rfl,rfl⟩);clear d1 d2 q6 e7;by_cases c1':32768<room fl
 ·have c1:¬room fl≤32768:=by omega
  have HR8:Hid (R=.bad 10):=J (by have:=HR7.out;rw [HFIT.out] at this;rw [this,if_neg (by simp [c1])]);refine (uJ (some ⟨b,off,none⟩) c7 A (zn fl) _ HI1.out HL1.out HV1.out (by rw [xi];omega)).mono ?_;rintro e w7 ⟨rfl,hb⟩;have HX7:=J (HX6.out.grow hb);clear c1 c1' hb;go_wp2;exact ⟨rfl,CD.bad HR8.out HX7.out.mv.touch⟩
 have c1:room fl≤32768:=by omega
 refine (xR (some ⟨b,off,none⟩) c7 A (zn fl) _ HI1.out HL1.out HV1.out (by rw [xi];exact c1)).mono ?_;rintro e w7 ⟨p1,rfl,hc1,hb⟩;rw [xi] at hc1;have HX7:=J (HX6.out.grow hb);have HC1:=J hc1;have HJ1:=J (HI1.out.below hb);have HJ2:=J (HI2.out.below hb);clear hc1 hb HI1 HI2 HX6;go_wp2_with fail
 by_cases c2':32768<room ol
 ·have c2:¬room ol≤32768:=by omega
  have HR8:Hid (R=.bad 10):=J (by have:=HR7.out;rw [HFIT.out] at this;rw [this,if_neg (by simp [c2])]);refine (uJ (some ⟨b,off+A,none⟩) (c7-A) D (zn ol) _ HJ2.out HL2.out HV2.out (by rw [xi];omega)).mono ?_;rintro e w8 ⟨rfl,hb⟩;have HX8:=J (HX7.out.grow hb);clear c1 c2 c1' c2' hb;go_wp2;exact ⟨rfl,CD.bad HR8.out HX8.out.mv.touch⟩
 have c2:room ol≤32768:=by omega
 refine (xR (some ⟨b,off+A,none⟩) (c7-A) D (zn ol) _ HJ2.out HL2.out HV2.out (by rw [xi];exact c2)).mono ?_;rintro e w8 ⟨p2,rfl,hc2,hb⟩;rw [xi] at hc2;have hA8:Below w8.heap.size w8 (w8.alloc (.cells #[.pointer (some ⟨p1,0,none⟩),.pointer (some ⟨p2,0,none⟩)] 111)):=(Below.refl _ w8).alloc (Nat.le_refl _) _;have HX8:=J ((HX7.out.grow hb).grow hA8);have HD1:=J ((HC1.out.below hb).below hA8);have HD2:=J (hc2.below hA8);have HK1:=J ((HJ1.out.below hb).below hA8);have HK2:=J ((HJ2.out.below hb).below hA8);have HQ:Hid (Blk (w8.alloc (.cells #[.pointer (some ⟨p1,0,none⟩),.pointer (some ⟨p2,0,none⟩)] 111)) w8.heap.size 111 #[.pointer (some ⟨p1,0,none⟩),.pointer (some ⟨p2,0,none⟩)]):=J (Blk.made _ _ _);have HCC:Hid (room fl≤32768∧room ol≤32768):=J ⟨c1,c2⟩;clear hc2 hb hA8 HX7 HC1 HJ1 HJ2 c1 c2 c1' c2';go_wp2_with fail
 obtain ⟨q,hq⟩:=exq (w8.heap.size);obtain ⟨W8,hW8⟩:=exq (w8.alloc (.cells #[.pointer (some ⟨p1,0,none⟩),.pointer (some ⟨p2,0,none⟩)] 111));rw [←hW8,←hq] at HQ ⊢;rw [←hW8] at HX8 HD1 HD2 HK1 HK2;clear hq hW8;refine (Kw p1 (some ⟨b,off,none⟩) c7 A fl _ HD1.out HK1.out HL1.out HV1.out).mono ?_;rintro e w9 ⟨rfl,hb⟩;have HX9:=J (HX8.out.grow hb);have HE1:=J (HD1.out.below hb);have HE2:=J (HD2.out.below hb);have HK9:=J (HK2.out.below hb);have HQ9:=J (HQ.out.below hb);have q1:=(HQ.out.below hb).cell 1;have q0:=(HQ.out.below hb).cell 0;clear hb HX8 HD1 HD2 HK1 HK2 HQ;have hBool:∀ x:Bool,x=true∨x=false:=fun x=>by cases x <;> simp
 obtain ⟨y1,hy1⟩:=exq (whole fl);rw [←hy1];have HY1:=J hy1;clear hy1;rcases hBool y1 with rfl | rfl
 ·go_wp2_with (go_at_call 60;(with_reducible refine (zE _ _).mono ?_);rintro e w7 ⟨rfl,rfl⟩)
  refine (Kw p2 (some ⟨b,off+A,none⟩) (c7-A) D ol _ HE2.out HK9.out HL2.out HV2.out).mono ?_;rintro e w10 ⟨rfl,hb⟩;have HX10:=J (HX9.out.grow hb);have HF1:=J (HE1.out.below hb);have HF2:=J (HE2.out.below hb);have HQ10:=J (HQ9.out.below hb);have t0:=(HQ9.out.below hb).cell 0;have t1:=(HQ9.out.below hb).cell 1;have r0:=HX10.out.res.cell 0;have r1:=HX10.out.res.cell 1;have g0:=HX10.out.res.free 0;have g1:=HX10.out.res.free 1;clear hb HX9 HE1 HE2 HK9 q0 q1 hBool;have FIN:Hid (R=.ok (fl,ol) s5→CD B K p pb g bs lim w ov R (.returned (.agg #[.pointer (some ⟨p1,0,none⟩),.pointer (some ⟨p2,0,none⟩)])) ((w10.setCell ⟨r,0,none⟩ (.pointer (some ⟨p1,0,none⟩))).setCell ⟨r,1,none⟩ (.pointer (some ⟨p2,0,none⟩)))):=J fun hRe=>by
   have hts:Touch (fun k=>k=r) w10 ((w10.setCell ⟨r,0,none⟩ (.pointer (some ⟨p1,0,none⟩))).setCell ⟨r,1,none⟩ (.pointer (some ⟨p2,0,none⟩))):=((Touch.refl (fun k=>k=r) w10).setCell ⟨r,0,none⟩ _ (.inl rfl)).setCell ⟨r,1,none⟩ _ (.inl rfl);have hrw:w.heap.size≤r:=Nat.le_of_eq HRW.out.symm;obtain ⟨f1,f2⟩:=xB HX10.out.rs HX10.out.mv HX10.out.res (.inr ⟨.inr rfl,Nat.le_trans HKW.out hrw⟩) hrw hts;have a1:=HF1.out.in_.aside HX10.out.res hts ⟨by decide,by decide,fun h=>absurd h (by decide)⟩
   have a2:=HF2.out.in_.aside HX10.out.res hts ⟨by decide,by decide,fun h=>absurd h (by decide)⟩
   subst hRe;exact ⟨p1,p2,rfl,a1.at_,a2.at_,ov5,f1,f2⟩
  obtain ⟨y2,hy2⟩:=exq (whole ol);rw [←hy2];have HY2:=J hy2;clear hy2;have hBool:∀ x:Bool,x=true∨x=false:=fun x=>by cases x <;> simp
  rcases hBool y2 with rfl | rfl
  ·have HRE:Hid (R=.ok (fl,ol) s5):=J (by
    have:=HR7.out;rw [HFIT.out,←HY1.out,←HY2.out,←HFO.out.1,←HFO.out.2] at this;rw [this,if_pos (by simp [HCC.out.1,HCC.out.2])])
   clear hBool;go_wp2_with (go_at_call 60;(with_reducible refine (zE _ _).mono ?_);rintro e w7 ⟨rfl,rfl⟩);refine bodyPost_ret (v:=.agg #[.pointer (some ⟨p1,0,none⟩),.pointer (some ⟨p2,0,none⟩)]) (by simp [results,results64,go_sem,r0,r1]) rfl ?_;exact FIN.out HRE.out
  ·have hS:=uP p2 ol w10 HF2.out
   obtain ⟨m,hm⟩:=exq (many ol);rw [←hm] at hS;have HS:=J hS;have HM:=J hm;clear hm hS hBool;by_cases hm0:m=0
   ·have d1:((m:Int) == 0)=true:=by simp [hm0]
    have HRE:Hid (R=.ok (fl,ol) s5):=J (by
     have:=HR7.out;rw [HFIT.out,←HY1.out,←HY2.out,←HFO.out.1,←HFO.out.2,←HM.out] at this;rw [this,if_pos (by simp [HCC.out.1,HCC.out.2,hm0])])
    clear hm0;go_wp2_with (first
     | (go_at_call 104;(refine HS.out.mono ?_);rintro e w7 ⟨rfl,rfl⟩)
     | (go_at_call 60;(with_reducible refine (zE _ _).mono ?_);rintro e w7 ⟨rfl,rfl⟩))
    refine bodyPost_ret (v:=.agg #[.pointer (some ⟨p1,0,none⟩),.pointer (some ⟨p2,0,none⟩)]) (by simp [results,results64,go_sem,r0,r1]) rfl ?_;exact FIN.out HRE.out
   ·have d1:((m:Int) == 0)=false:=by simp;omega
    have HRE:Hid (R=.bad 10):=J (by
     have:=HR7.out;rw [HFIT.out,←HY2.out,←HM.out] at this;rw [this,if_neg (by simp [hm0])])
    clear hm0;go_wp2_with (first
     | (go_at_call 104;(refine HS.out.mono ?_);rintro e w7 ⟨rfl,rfl⟩)
     | (go_at_call 60;(refine (qa 10 _).mono ?_);rintro e w7 ⟨rfl,rfl⟩))
    exact ⟨rfl,CD.bad HRE.out HX10.out.mv.touch⟩
 ·have HRE:Hid (R=.bad 10):=J (by
   have:=HR7.out;rw [HFIT.out,←HY1.out] at this;rw [this,if_neg (by simp)])
  clear hBool;go_wp2_with (go_at_call 60;(refine (qa 10 _).mono ?_);rintro e w7 ⟨rfl,rfl⟩);exact ⟨rfl,CD.bad HRE.out HX9.out.mv.touch⟩
end
end
section
variable {bs b':List Nat}{lim:Nat}{α β : Type}
theorem zkQ {ls:List Nat}(H:Ok ls){y a:Nat}(hy:ln ls y≠0):Beg ls (ahead bs a) y↔pk bs a (ln ls y)=rv (ln ls y) (cd ls y):=by
 constructor
 ·intro hb
  have hle:=z6 H y;have h2:=hb.2;unfold ahead at h2;have h3:=Jy (ln ls y) (15-ln ls y) (pk bs a 15);rw [show ln ls y+(15-ln ls y)=15 by omega,h2] at h3;rw [h3,zgJ];unfold pk;rw [Nat.mod_mod_of_dvd _ (Nat.pow_dvd_pow 2 hle)]
 ·intro h
  exact zf0 H hy h
def OkW (ls:List Nat):Prop:=Ok ls∧(room ls=32768∨∀ y,ln ls y≤1)
theorem J6 {ls:List Nat}{s:Sta}{y:Nat}(h0:¬s.at_=8*bs.length) (h:yH ls (ahead bs s.at_)=some y):rdS bs ls s=if s.at_+ln ls y≤8*bs.length then .ok y { s with at_:=s.at_+ln ls y } else .bad 15:=by
 unfold rdS;rw [if_neg h0,h]
theorem zgF {ls:List Nat}{s:Sta}(h0:¬s.at_=8*bs.length) (h:yH ls (ahead bs s.at_)=none):rdS bs ls s=.bad 10:=by
 unfold rdS;rw [if_neg h0,h]
theorem ku:OkW zU:=⟨⟨by decide,by decide,by decide +kernel⟩,.inl (by decide +kernel)⟩
theorem kC:OkW ql:=⟨⟨by decide,by decide,by decide +kernel⟩,.inl (by decide +kernel)⟩
end
end Go.Proofs.YtacpfpghokcdlaaGreatDoor
namespace Go.Proofs.YtacpfpghokcdlaaGreatDoor.V.M
set_option maxRecDepth 100000
structure Tok where
 lit:Nat
 len:Nat
 dist:Nat
def back (far:Nat):Nat→List Nat→List Nat
 | 0,l=>l
 | n+1,l=>back far n (l++[l.getD (l.length-far) 0])
theorem xw (far n:Nat):∀ l,(back far n l).length=l.length+n:=by
 induction n with
 | zero=>intro l;rfl
 | succ n ih=>intro l;rw [back,ih];simp;omega
theorem jC (far n:Nat):∀ l,back far (n+1) l=back far n l++[(back far n l).getD ((back far n l).length-far) 0]:=by
 induction n with
 | zero=>intro l;rfl
 | succ n ih=>intro l;rw [back,ih];rfl
theorem zc9 (far n:Nat) (l:List Nat):(back far n l).take l.length=l:=by
 induction n with
 | zero=>simp [back]
 | succ n ih=>
  rw [jC,List.take_append_of_le_length (by rw [xw];omega)];exact ih
def zce (t:Tok):Prop:=(t.len=0∧t.dist=0)∨(3≤t.len∧t.len≤258∧1≤t.dist∧t.dist≤32768∧t.lit=0)
instance (t:Tok):Decidable (zce t):=inferInstanceAs (Decidable (_∨_))
def tells (t:Tok):Nat:=max t.len 1
theorem xm (t:Tok):1≤tells t:=Nat.le_max_right _ _
def one (t:Tok) (l:List Nat):List Nat:=if t.len=0 then l++[t.lit] else back t.dist t.len l
theorem Q7 (t:Tok) (l:List Nat):(one t l).length=l.length+tells t:=by
 unfold one tells;split
 ·rename_i h;simp [h]
 ·rw [xw];omega
theorem zfL (t:Tok) (l:List Nat):(one t l).take l.length=l:=by
 unfold one;split
 ·simp
 ·exact zc9 _ _ _
def ex:List Tok→List Nat→Option (List Nat)
 | [],l=>some l
 | t::ts,l=>if zce t∧t.dist≤l.length then ex ts (one t l) else none
theorem jH (x y:List Tok):∀ l,ex (x++y) l=(ex x l).bind (ex y):=by
 induction x with
 | nil=>intro l;rfl
 | cons t x ih=>
  intro l;rw [List.cons_append,ex,ex];split
  ·exact ih _
  ·rfl
theorem zbX {x:List Tok}{l m:List Nat}(h:ex x l=some m) (t:Tok):ex (x++[t]) l=if zce t∧t.dist≤m.length then some (one t m) else none:=by
 rw [jH,h];rfl
def sum (x:List Tok):Nat:=(x.map tells).sum
theorem sum_cons (t:Tok) (x:List Tok):sum (t::x)=tells t+sum x:=by simp [sum]
theorem Xx (x:List Tok) (t:Tok):sum (x++[t])=sum x+tells t:=by simp [sum]
theorem xX (x:List Tok):x.length≤sum x:=by
 induction x with
 | nil=>exact Nat.le_refl _
 | cons t x ih=>rw [sum_cons,List.length_cons];have:=xm t;omega
theorem xk {x:List Tok}:∀ {l m:List Nat},ex x l=some m→m.length=l.length+sum x:=by
 induction x with
 | nil=>intro l m h;cases h;rfl
 | cons t x ih=>
  intro l m h;rw [ex] at h;split at h
  ·rw [ih h,Q7,sum_cons];omega
  ·cases h
theorem zcc {x:List Tok}:∀ {l m:List Nat},ex x l=some m→m.take l.length=l:=by
 induction x with
 | nil=>intro l m h;cases h;exact List.take_length
 | cons t x ih=>
  intro l m h;rw [ex] at h;split at h
  ·have h1:=ih h
   have h2:=zfL t l;have h3:=Q7 t l;have:(m.take (one t l).length).take l.length=m.take l.length:=by rw [List.take_take,Nat.min_eq_left (by omega)]
   rw [←this,h1,h2]
  ·cases h
theorem J0 {x:List Tok}{a:List Nat}(h:ex x []=some a) (k:Nat):ex (x.take k) []=some (a.take (sum (x.take k)))∧sum (x.take k)≤a.length:=by
 have h0:ex (x.take k++x.drop k) []=some a:=by rw [List.take_append_drop];exact h
 rw [jH] at h0;cases h1:ex (x.take k) [] with
 | none=>rw [h1] at h0;cases h0
 | some m=>
  rw [h1] at h0;have h2:ex (x.drop k) m=some a:=h0;have h3:=zcc h2;have h4:=xk h1;have h5:=xk h2;simp at h4;rw [←h4];exact ⟨by rw [h3],by omega⟩
def same (b:List Nat) (at_ dist:Nat):Nat→Nat
 | 0=>0
 | most+1=>if at_<b.length∧1≤dist∧dist≤at_∧b.getD at_ 0=b.getD (at_-dist) 0 then 1+same b (at_+1) dist most else 0
theorem zb2 (b:List Nat) (dist:Nat):∀ most at_,same b at_ dist most≤most:=by
 intro most;induction most with
 | zero=>intro at_;exact Nat.le_refl _
 | succ m ih=>intro at_;rw [same];split;have:=ih (at_+1);omega;omega
theorem zf6 (b:List Nat) (dist:Nat):∀ most at_,at_≤b.length→at_+same b at_ dist most≤b.length:=by
 intro most;induction most with
 | zero=>intro at_ h;exact h
 | succ m ih=>intro at_ h;rw [same];split;have:=ih (at_+1) (by omega);omega;omega
theorem Xr (b:List Nat) (dist:Nat):∀ most at_ k,k<same b at_ dist most→b.getD (at_+k) 0=b.getD (at_+k-dist) 0∧1≤dist∧dist≤at_:=by
 intro most;induction most with
 | zero=>intro at_ k h;simp [same] at h
 | succ m ih=>
  intro at_ k h;rw [same] at h;split at h
  ·rename_i hc
   cases k with
   | zero=>exact ⟨hc.2.2.2,hc.2.1,hc.2.2.1⟩
   | succ k=>
    have:=ih (at_+1) k (by omega);rw [show at_+(k+1)=at_+1+k by omega];exact ⟨this.1,hc.2.1,hc.2.2.1⟩
  ·omega
theorem zd7 (b:List Nat) (dist:Nat):∀ n at_,at_+n≤b.length→1≤dist→dist≤at_→(∀ k,k<n→b.getD (at_+k) 0=b.getD (at_+k-dist) 0)→back dist n (b.take at_)=b.take (at_+n):=by
 intro n;induction n with
 | zero=>intro at_ _ _ _ _;rfl
 | succ n ih=>
  intro at_ hl h1 hd hs;have hlen:(b.take at_).length=at_:=by rw [List.length_take];omega
  have h0:=hs 0 (by omega);have hstep:b.take at_++[(b.take at_).getD ((b.take at_).length-dist) 0]=b.take (at_+1):=by
   rw [hlen,List.take_succ_eq_append_getElem (by omega)];congr 2
   rw [Nat.add_zero] at h0;have e1:b[at_]=b.getD at_ 0:=by rw [List.getD_eq_getElem?_getD,List.getElem?_eq_getElem (by omega)];rfl
   rw [e1,h0];simp only [List.getD_eq_getElem?_getD];rw [List.getElem?_take_of_lt (by omega)]
  rw [back,hstep,ih (at_+1) (by omega) h1 (by omega) fun k hk=>by
   have:=hs (k+1) (by omega);rwa [show at_+(k+1)=at_+1+k by omega] at this]
  congr 1
  omega
theorem zb5 (b:List Nat) (at_:Nat) (h:at_<b.length):one ⟨b.getD at_ 0,0,0⟩ (b.take at_)=b.take (at_+1):=by
 unfold one;rw [if_pos rfl,List.take_succ_eq_append_getElem h];congr 2
 rw [List.getD_eq_getElem?_getD,List.getElem?_eq_getElem h];rfl
theorem vZ (b:List Nat) (at_ dist n:Nat) (hn:1≤n) (hl:at_+n≤b.length) (h1:1≤dist) (hd:dist≤at_) (hs:∀ k,k<n→b.getD (at_+k) 0=b.getD (at_+k-dist) 0):one ⟨0,n,dist⟩ (b.take at_)=b.take (at_+n):=by
 unfold one;rw [if_neg (by show ¬n=0;omega)];exact zd7 b dist n at_ hl h1 hd hs
def four (b:List Nat) (at_ d:Nat):Prop:=at_+4≤b.length∧1≤d∧d≤at_∧∀ k,k<4→b.getD (at_+k) 0=b.getD (at_+k-d) 0
def zbk (b:List Nat):Prop:=∀ at_ d,d≤32768→¬four b at_ d
end Go.Proofs.YtacpfpghokcdlaaGreatDoor.V.M
namespace Go.Proofs.YtacpfpghokcdlaaGreatDoor
set_option maxRecDepth 100000
def val:List (Nat × Nat)→Nat
 | []=>0
 | c::r=>c.1+2^c.2*val r
def wid:List (Nat × Nat)→Nat
 | []=>0
 | c::r=>c.2+wid r
structure Str (bs:List Nat) (p:Nat) (cs:List (Nat × Nat)):Prop where
 is_:∃ R,num bs/2^p=val cs+2^wid cs*R
 len:p+wid cs≤8*bs.length
section
variable {bs:List Nat}{lim:Nat}{s:Sta}
theorem Str.next {p X k:Nat}{cs:List (Nat × Nat)}(h:Str bs p ((X,k)::cs)) (hX:X<2^k):pk bs p k=X∧p+k≤8*bs.length∧Str bs (p+k) cs:=by
 obtain ⟨⟨R,hR⟩,hl⟩:=h;have e:num bs/2^p=X+2^k*(val cs+2^wid cs*R):=by
  rw [hR,val,wid,Nat.pow_add,Nat.mul_add,Nat.mul_assoc,Nat.add_assoc]
 simp only [wid] at hl;refine ⟨?_,by omega,⟨R,?_⟩,by omega⟩
 ·unfold pk
  rw [e,Nat.add_mul_mod_self_left,Nat.mod_eq_of_lt hX]
 ·rw [Nat.pow_add,←Nat.div_div_eq_div_mul,e,Nat.add_mul_div_left _ _ (Nat.two_pow_pos k),Nat.div_eq_of_lt hX,Nat.zero_add]
theorem qf {X k:Nat}{cs:List (Nat × Nat)}(h:Str bs s.at_ ((X,k)::cs)) (hX:X<2^k):rdN bs k s=.ok X { s with at_:=s.at_+k }∧Str bs (s.at_+k) cs:=by
 obtain ⟨h1,h2,h3⟩:=h.next hX;refine ⟨?_,h3⟩;unfold rdN;rw [if_pos h2,h1]
def cp (ls:List Nat) (y:Nat):Nat × Nat:=(rv (ln ls y) (cd ls y),ln ls y)
theorem kM {ls:List Nat}(H:Ok ls){y:Nat}(hy:ln ls y≠0){cs:List (Nat × Nat)}(h:Str bs s.at_ (cp ls y::cs)):rdS bs ls s=.ok y { s with at_:=s.at_+ln ls y }∧Str bs (s.at_+ln ls y) cs:=by
 obtain ⟨h1,h2,h3⟩:=h.next (ve _ _);refine ⟨?_,h3⟩;have hb:=(zkQ H hy).2 h1;rw [J6 (by omega) (kq H hb),if_pos h2]
theorem zh (l r:List (Nat × Nat)):wid (l++r)=wid l+wid r:=by
 induction l with
 | nil=>simp [wid]
 | cons c l ih=>simp only [List.cons_append,wid,ih];omega
theorem zfR {y b n:Nat}(h:lenOf y=some (b,n)):257≤y∧y≤285:=by
 unfold lenOf at h;split at h
 ·cases h
 ·omega
theorem ziU (far:Nat):∀ n l,back far n l=V.M.back far n l:=by
 intro n;induction n with
 | zero=>intro l;rfl
 | succ n ih=>intro l;exact ih _
def zlg (fl ol:List Nat) (t:V.M.Tok) (ps:List (Nat × Nat)):Prop:=
 (t.len=0∧t.lit<256∧ln fl t.lit≠0∧ps=[cp fl t.lit]) ∨
 (t.len≠0∧∃ y b n v d b2 n2 v2,lenOf y=some (b,n)∧v<2^n∧t.len=b+v∧xu d=some (b2,n2)∧v2<2^n2∧t.dist=b2+v2∧ln fl y≠0∧ln ol d≠0∧ps=[cp fl y,(v,n),cp ol d,(v2,n2)])
def U8 (fl ol:List Nat):List V.M.Tok→List (Nat × Nat)→Prop
 | [],ps=>ps=[]
 | t::r,ps=>∃ p1 p2,ps=p1++p2∧zlg fl ol t p1∧U8 fl ol r p2
theorem zeH {fl ol:List Nat}(H:Ok fl) (K:Ok ol){t:V.M.Tok}{ps cs:List (Nat × Nat)}(hp:zlg fl ol t ps) (hd:t.dist≤s.out.length) (h:Str bs s.at_ (ps++cs)) (hlim:s.out.length+V.M.tells t≤lim) :
  xF bs lim fl ol s=xF bs lim fl ol ⟨s.at_+wid ps,V.M.one t s.out,s.steps+1,s.blocks⟩∧Str bs (s.at_+wid ps) cs:=by
 have hin:s.at_≤8*bs.length:=by have:=h.len;omega
 have h1t:=V.M.xm t;rcases hp with ⟨h0,h8,hn,rfl⟩ | ⟨h0,y,b,n,v,d,b2,n2,v2,hy,hv,hl,hd2,hv2,hdd,hny,hnd,rfl⟩
 ·obtain ⟨r1,S1⟩:=kM H hn (cs:=cs) (by simpa using h)
  rw [yG hin,r1,Res.bind_ok,if_pos h8,if_neg (by simp only;omega)];simp only [wid,cp,Nat.add_zero];refine ⟨?_,S1⟩;unfold V.M.one;rw [if_pos h0]
 ·have hs1:=zfR hy
  obtain ⟨r1,S1⟩:=kM H hny (cs:=(v,n)::cp ol d::(v2,n2)::cs) (by simpa using h);obtain ⟨r2,S2⟩:=qf (s:=⟨s.at_+ln fl y,s.out,s.steps+1,s.blocks⟩) S1 hv;obtain ⟨r3,S3⟩:=kM (s:=⟨s.at_+ln fl y+n,s.out,s.steps+1,s.blocks⟩) K hnd S2;obtain ⟨r4,S4⟩:=qf (s:=⟨s.at_+ln fl y+n+ln ol d,s.out,s.steps+1,s.blocks⟩) S3 hv2;rw [yG hin,r1,Res.bind_ok,if_neg (by omega),if_neg (by omega)];have hag:again bs lim ol y ⟨s.at_+ln fl y,s.out,s.steps+1,s.blocks⟩=.ok () ⟨s.at_+ln fl y+n+ln ol d+n2,back (b2+v2) (b+v) s.out,s.steps+1,s.blocks⟩:=by
   unfold again;rw [hy];unfold grown;simp only;rw [r2,Res.bind_ok,Res.bind_ok,r3,Res.bind_ok,hd2];simp only;rw [r4,Res.bind_ok,Res.bind_ok];have hT:V.M.tells t=t.len:=by unfold V.M.tells;omega
   simp only;rw [if_neg (by omega),if_neg (by omega)]
  simp only;rw [hag,Res.bind_ok];simp only [wid,cp];rw [show s.at_+(ln fl y+(n+(ln ol d+(n2+0))))=s.at_+ln fl y+n+ln ol d+n2 by omega];refine ⟨?_,S4⟩;unfold V.M.one;rw [if_neg h0,hl,hdd,ziU]
theorem XH {fl ol:List Nat}(H:Ok fl) (K:Ok ol) (h256:ln fl 256≠0) (cs:List (Nat × Nat)):∀ (r:List V.M.Tok) (ps:List (Nat × Nat)) (s:Sta) (m:List Nat),U8 fl ol r ps→V.M.ex r s.out=some m→m.length≤lim→Str bs s.at_ (ps++cp fl 256::cs)→
  xF bs lim fl ol s=.ok () ⟨s.at_+wid ps+ln fl 256,m,s.steps+r.length+1,s.blocks⟩∧Str bs (s.at_+wid ps+ln fl 256) cs:=by
 intro r;induction r with
 | nil=>
  intro ps s m hp he _ h;cases hp;cases he;have hin:s.at_≤8*bs.length:=by have:=h.len;omega
  obtain ⟨r1,S1⟩:=kM H h256 (cs:=cs) (by simpa using h);rw [yG hin,r1,Res.bind_ok,if_neg (by decide),if_pos rfl];exact ⟨rfl,S1⟩
 | cons t r ih=>
  intro ps s m hp he hl h;obtain ⟨p1,p2,rfl,h1,h2⟩:=hp;rw [V.M.ex] at he;split at he
  ·rename_i hr
   have hml:=V.M.xk he;rw [V.M.Q7] at hml;obtain ⟨e1,S1⟩:=zeH (lim:=lim) H K h1 hr.2 (cs:=p2++cp fl 256::cs) (by simpa using h) (by omega);obtain ⟨e2,S2⟩:=ih p2 ⟨s.at_+wid p1,V.M.one t s.out,s.steps+1,s.blocks⟩ m h2 he hl S1;rw [e1,e2,zh,List.length_cons];simp only at S2;rw [show s.at_+(wid p1+wid p2)+ln fl 256=s.at_+wid p1+wid p2+ln fl 256 by omega,show s.steps+(r.length+1)+1=s.steps+1+r.length+1 by omega];exact ⟨rfl,S2⟩
  ·cases he
def qS (own:List Nat) (x:Nat × Nat):List (Nat × Nat):=if 16≤x.1∧x.1≤18 then [cp own x.1,(x.2,xb x.1)] else [cp own x.1]
def UQ (own:List Nat) (x:Nat × Nat):Prop:=ln own x.1≠0∧(16≤x.1∧x.1≤18→x.2<2^xb x.1)∧(¬(16≤x.1∧x.1≤18)→x.2=0)
theorem ziw {own:List Nat}(H:Ok own){x:Nat × Nat}(hx:UQ own x){cs:List (Nat × Nat)}(h:Str bs s.at_ (qS own x++cs)):itm bs own s=.ok x { s with at_:=s.at_+wid (qS own x) }∧Str bs (s.at_+wid (qS own x)) cs:=by
 obtain ⟨y,v⟩:=x;obtain ⟨h1,h2,h3⟩:=hx;simp only at h1 h2 h3;unfold qS at h ⊢;by_cases c:16≤y∧y≤18
 ·rw [if_pos c] at h ⊢
  obtain ⟨r1,S1⟩:=kM H h1 (cs:=(v,xb y)::cs) (by simpa using h);obtain ⟨r2,S2⟩:=qf (s:={ s with at_:=s.at_+ln own y }) S1 (h2 c);unfold itm;rw [r1,Res.bind_ok,if_pos c,r2,Res.bind_ok];simp only [wid,cp];rw [show s.at_+(ln own y+(xb y+0))=s.at_+ln own y+xb y by omega];exact ⟨rfl,S2⟩
 ·rw [if_neg c] at h ⊢
  obtain ⟨r1,S1⟩:=kM H h1 (cs:=cs) (by simpa using h);unfold itm;rw [r1,Res.bind_ok,if_neg c,h3 c];simp only [wid,cp,Nat.add_zero];exact ⟨by first | rfl | trivial,S1⟩
def unT:List (Nat × Nat)→List Nat→Option (List Nat)
 | [],row=>some row
 | x::r,row=>match told x.1 x.2 row with | none=>none | some t=>unT r (row++t)
theorem zcO:∀ {its:List (Nat × Nat)}{row full:List Nat},unT its row=some full→row.length≤full.length:=by
 intro its;induction its with
 | nil=>intro row full h;cases h;exact Nat.le_refl _
 | cons x r ih=>
  intro row full h;rw [unT] at h;split at h
  ·cases h
  ·have:=ih h
   rw [List.length_append] at this;omega
theorem zgQ {y v:Nat}{row t:List Nat}(h:told y v row=some t):1≤t.length:=by
 unfold told at h;split at h
 ·cases h;simp
 ·split at h
  ·split at h
   ·cases h
   ·cases h;simp;omega
  ·split at h
   ·cases h;simp;omega
   ·split at h
    ·cases h;simp;omega
    ·cases h
theorem zhk {own:List Nat}(H:Ok own){n:Nat}{full:List Nat}(hn:full.length=n) (cs:List (Nat × Nat)):∀ (its:List (Nat × Nat)) (row:List Nat) (s:Sta),(∀ x∈its,UQ own x)→unT its row=some full→its≠[]→
  Str bs s.at_ (its.flatMap (qS own)++cs)→run (8*bs.length) (yx bs own n) row s=.ok full { s with at_:=s.at_+wid (its.flatMap (qS own)) }∧Str bs (s.at_+wid (its.flatMap (qS own))) cs:=by
 intro its;induction its with
 | nil=>intro row s _ _ h;exact absurd rfl h
 | cons x r ih=>
  intro row s ho hu _ h;rw [unT] at hu;cases ht:told x.1 x.2 row with
  | none=>rw [ht] at hu;cases hu
  | some t=>
   rw [ht] at hu;simp only at hu;rw [List.flatMap_cons,List.append_assoc] at h;have hin:s.at_≤8*bs.length:=by have:=h.len;omega
   obtain ⟨e1,S1⟩:=ziw H (ho x (List.mem_cons_self ..)) h;have hle:=zcO hu;have hnx:yx bs own n row s=.ok (decide ((row++t).length=n),row++t) { s with at_:=s.at_+wid (qS own x) }:=by
    unfold yx;rw [e1,Res.bind_ok,ht];simp only;rw [if_neg (by omega)]
   rw [xl (xS own n) row hin,hnx,Res.bind_ok,List.flatMap_cons,zh];simp only [decide_eq_true_eq];by_cases hr:r=[]
   ·subst hr
    cases hu;rw [if_pos hn];simp only [List.flatMap_nil,wid,Nat.add_zero];exact ⟨by first | rfl | trivial,by simpa using S1⟩
   ·have hlt:¬(row++t).length=n:=by
     obtain ⟨z,r2,rfl⟩:=List.exists_cons_of_ne_nil hr;rw [unT] at hu;cases ht2:told z.1 z.2 (row++t) with
     | none=>rw [ht2] at hu;cases hu
     | some t2=>
      rw [ht2] at hu;have h4:=zcO hu;have h5:=zgQ ht2;rw [List.length_append] at h4;omega
    rw [if_neg hlt];obtain ⟨e2,S2⟩:=ih (row++t) { s with at_:=s.at_+wid (qS own x) } (fun z hz=>ho z (List.mem_cons_of_mem _ hz)) hu hr S1;rw [e2,←Nat.add_assoc];exact ⟨rfl,S2⟩
theorem ziD (cs:List (Nat × Nat)):∀ (o l:List Nat) (s:Sta),(∀ x∈o,x<8)→Str bs s.at_ (o.map (fun x=>(x,3))++cs)→rdO bs o.length l s=.ok (l++o) { s with at_:=s.at_+3*o.length }∧Str bs (s.at_+3*o.length) cs:=by
 intro o;induction o with
 | nil=>intro l s _ h;exact ⟨by simp [rdO],by simpa using h⟩
 | cons x o ih=>
  intro l s ho h;obtain ⟨r1,S1⟩:=qf (s:=s) (X:=x) (k:=3) (cs:=o.map (fun x=>(x,3))++cs) (by simpa using h) (ho x (List.mem_cons_self ..))
  obtain ⟨r2,S2⟩:=ih (l++[x]) { s with at_:=s.at_+3 } (fun z hz=>ho z (List.mem_cons_of_mem _ hz)) S1;rw [List.length_cons,rdO,r1,Res.bind_ok,r2];simp only at S2;rw [show s.at_+3*(o.length+1)=s.at_+3+3*o.length by omega];exact ⟨by simp,S2⟩
def ye (fl ol o:List Nat) (its:List (Nat × Nat)):List (Nat × Nat):=(fl.length-257,5)::(ol.length-1,5)::(o.length-4,4)::(o.map (fun x=>(x,3))++its.flatMap (qS (zp o)))
theorem zd3 {fl ol o:List Nat}{its cs:List (Nat × Nat)}(hf:257≤fl.length∧fl.length≤286) (hol:1≤ol.length∧ol.length≤30) (ho:4≤o.length∧o.length≤19) (ho8:∀ x∈o,x<8) (H:Ok (zp o)) (hroom:room (zp o)=32768)
  (hits:∀ x∈its,UQ (zp o) x) (hu:unT its []=some (fl++ol)) (h256:(fl++ol).getD 256 0≠0) (hfit:fits (fl++ol) fl.length=true) (h:Str bs s.at_ (ye fl ol o its++cs)) :
  kn bs s=.ok (fl,ol) { s with at_:=s.at_+wid (ye fl ol o its) }∧Str bs (s.at_+wid (ye fl ol o its)) cs:=by
 have hne:its≠[]:=fun e=>by
  subst e;have h1:=congrArg List.length (Option.some.inj hu);rw [List.length_append] at h1;have h2:([]:List Nat).length=0:=rfl;omega
 unfold ye at h ⊢;obtain ⟨r1,S1⟩:=qf (s:=s) h (by omega);obtain ⟨r2,S2⟩:=qf (s:={ s with at_:=s.at_+5 }) S1 (by omega);obtain ⟨r3,S3⟩:=qf (s:={ s with at_:=s.at_+5+5 }) S2 (by omega);obtain ⟨r4,S4⟩:=ziD (its.flatMap (qS (zp o))++cs) o [] { s with at_:=s.at_+5+5+4 } ho8 (by simpa using S3);obtain ⟨r5,S5⟩:=zhk H (n:=(fl++ol).length) rfl cs its [] { s with at_:=s.at_+5+5+4+3*o.length } hits hu hne S4;have hw3:∀ l:List Nat,wid (l.map fun x=>(x,3))=3*l.length:=fun l=>by
  induction l with
  | nil=>rfl
  | cons x l ih=>simp only [List.map_cons,wid,ih,List.length_cons];omega
 have ew:wid ((fl.length-257,5)::(ol.length-1,5)::(o.length-4,4)::(o.map (fun x=>(x,3))++its.flatMap (qS (zp o))))=5+5+4+3*o.length+wid (its.flatMap (qS (zp o))):=by
  simp only [wid,zh,hw3];omega
 rw [ew];unfold kn;rw [r1,Res.bind_ok,r2,Res.bind_ok,r3,Res.bind_ok,if_neg (by omega),show 4+(o.length-4)=o.length by omega,r4,Res.bind_ok,List.nil_append,if_neg (by omega)];unfold lens;have en:258+(fl.length-257)+(ol.length-1)=(fl++ol).length:=by rw [List.length_append];omega
 rw [en,r5,Res.bind_ok,if_neg h256,show 257+(fl.length-257)=fl.length by omega,if_pos hfit,List.take_left,List.drop_left];rw [show s.at_+(5+5+4+3*o.length+wid (its.flatMap (qS (zp o))))=s.at_+5+5+4+3*o.length+wid (its.flatMap (qS (zp o))) by omega];exact ⟨rfl,S5⟩
theorem zgY (hL:Nat){fl ol o m:List Nat}{its ps cs:List (Nat × Nat)}{r:List V.M.Tok}(hf:257≤fl.length∧fl.length≤286) (hol:1≤ol.length∧ol.length≤30) (ho:4≤o.length∧o.length≤19) (ho8:∀ x∈o,x<8) (H:Ok (zp o)) (hroom:room (zp o)=32768)
  (hits:∀ x∈its,UQ (zp o) x) (hu:unT its []=some (fl++ol)) (h256:ln fl 256≠0) (h256':(fl++ol).getD 256 0≠0) (hfit:fits (fl++ol) fl.length=true) (Hf:Ok fl) (Ho:Ok ol) (hl:hL<2)
  (hp:U8 fl ol r ps) (he:V.M.ex r s.out=some m) (hm:m.length≤lim) (h:Str bs s.at_ ((hL,1)::(2,2)::(ye fl ol o its++(ps++cp fl 256::cs)))) :
  xJ bs lim () s=.ok (decide (hL=1),()) ⟨s.at_+3+wid (ye fl ol o its)+wid ps+ln fl 256,m,s.steps+r.length+1,s.blocks+1⟩∧Str bs (s.at_+3+wid (ye fl ol o its)+wid ps+ln fl 256) cs:=by
 obtain ⟨r1,S1⟩:=qf (s:=s) h (by omega);obtain ⟨r2,S2⟩:=qf (s:={ s with at_:=s.at_+1 }) S1 (by decide);obtain ⟨r3,S3⟩:=zd3 (s:={ s with at_:=s.at_+1+2 }) hf hol ho ho8 H hroom hits hu h256' hfit S2;obtain ⟨r4,S4⟩:=XH (lim:=lim) Hf Ho h256 cs r ps { s with at_:=s.at_+1+2+wid (ye fl ol o its) } m hp he hm S3;unfold xJ blk;rw [r1,Res.bind_ok,r2,Res.bind_ok,if_neg (by decide),if_neg (by decide),if_pos rfl,r3,Res.bind_ok];simp only;rw [r4,Res.bind_ok];exact ⟨rfl,S4⟩
theorem zht (hL:Nat){m:List Nat}{ps cs:List (Nat × Nat)}{r:List V.M.Tok}(hl:hL<2) (hp:U8 zU ql r ps) (he:V.M.ex r s.out=some m) (hm:m.length≤lim) (h:Str bs s.at_ ((hL,1)::(1,2)::(ps++cp zU 256::cs))) :
  xJ bs lim () s=.ok (decide (hL=1),()) ⟨s.at_+3+wid ps+7,m,s.steps+r.length+1,s.blocks+1⟩∧Str bs (s.at_+3+wid ps+7) cs:=by
 obtain ⟨r1,S1⟩:=qf (s:=s) h (by omega);obtain ⟨r2,S2⟩:=qf (s:={ s with at_:=s.at_+1 }) S1 (by decide);obtain ⟨r4,S4⟩:=XH (lim:=lim) ku.1 kC.1 (by decide +kernel) cs r ps { s with at_:=s.at_+1+2 } m hp he hm S2;have e7:ln zU 256=7:=by decide +kernel
 rw [e7] at r4 S4;unfold xJ blk;rw [r1,Res.bind_ok,r2,Res.bind_ok,if_neg (by decide),if_pos rfl,r4,Res.bind_ok];exact ⟨rfl,S4⟩
inductive yN (bs:List Nat) (lim:Nat):Sta→Sta→Prop where
 | last {s t:Sta} (h:xJ bs lim () s=.ok (true,()) t):yN bs lim s t
 | more {s u t:Sta} (h:xJ bs lim () s=.ok (false,()) u) (k:yN bs lim u t):yN bs lim s t
theorem yN.run (hb:Bs bs){t:Sta}(hs:s.at_≤8*bs.length) (h:yN bs lim s t):Go.Proofs.YtacpfpghokcdlaaGreatDoor.run (8*bs.length) (xJ bs lim) () s=.ok () t:=by
 induction h with
 | last h=>rw [xl (xp hb) () hs,h];rfl
 | more h k ih=>
  have:=xp hb () _ _ _ hs h;rw [xl (xp hb) () hs,h,Res.bind_ok];exact ih this.2
theorem yN.infl (hb:Bs bs){t:Sta}(h:yN bs lim st0 t):Go.Proofs.YtacpfpghokcdlaaGreatDoor.infl bs lim=.ok () t:=h.run hb (Nat.zero_le _)
end
theorem yS (a b:List (Nat × Nat)):val (a++b)=val a+2^wid a*val b:=by
 induction a with
 | nil=>simp [val,wid]
 | cons c a ih=>simp only [List.cons_append,val,wid,ih];rw [Nat.pow_add,Nat.mul_add,Nat.mul_assoc,Nat.add_assoc]
theorem zR (x k:Nat):val [(x,k)]=x∧wid [(x,k)]=k:=by simp [val,wid]
def xI (ps:List (Nat × Nat)):Prop:=∀ c∈ps,c.1<2^c.2
theorem xI.app {a b:List (Nat × Nat)}(h:xI a) (k:xI b):xI (a++b):=fun c hc=>by
 rcases List.mem_append.1 hc with h1 | h1
 ·exact h c h1
 ·exact k c h1
theorem zld {ps:List (Nat × Nat)}(h:xI ps):val ps<2^wid ps:=by
 induction ps with
 | nil=>simp [val,wid]
 | cons c r ih=>
  have h1:=h c (List.mem_cons_self ..);have h2:=ih fun x hx=>h x (List.mem_cons_of_mem _ hx)
  simp only [val,wid];rw [Nat.pow_add];have h3:2^c.2*(val r+1)≤2^c.2*2^wid r:=Nat.mul_le_mul_left _ h2;rw [Nat.mul_add] at h3;omega
def jL (out:List Nat) (ps:List (Nat × Nat)):Prop:=Bs out∧WI out (wid ps)∧num out=val ps
theorem jL.str {out:List Nat}{ps:List (Nat × Nat)}(h:jL out ps):Str out 0 (ps++[]):=by
 rw [List.append_nil];exact ⟨⟨0,by rw [h.2.2];simp⟩,by have:=h.2.1.lo;omega⟩
inductive Steps (bs:List Nat) (lim:Nat) (s:Sta):Sta→Prop where
 | refl:Steps bs lim s s
 | step {u t:Sta} (h:Steps bs lim s u) (k:xJ bs lim () u=.ok (false,()) t):Steps bs lim s t
theorem Steps.chain {bs:List Nat}{lim:Nat}{s u t:Sta}(h:Steps bs lim s u) (k:yN bs lim u t):yN bs lim s t:=by
 induction h with
 | refl=>exact k
 | step h1 h2 ih=>exact ih (.more h2 k)
def zdh (lim pos:Nat) (o:List Nat) (last:Bool) (ps:List (Nat × Nat)) (o':List Nat):Prop:=
 ∀ bs cs s,Bs bs→s.at_=pos→s.out=o→Str bs pos (ps++cs)→∃ st,xJ bs lim () s=.ok (last,()) ⟨pos+wid ps,o',st,s.blocks+1⟩∧Str bs (pos+wid ps) cs
def NL (lim:Nat) (P:List (Nat × Nat)) (o:List Nat) (k:Nat):Prop:=
 ∀ bs cs,Bs bs→Str bs 0 (P++cs)→∃ st,Steps bs lim st0 ⟨wid P,o,st,k⟩∧Str bs (wid P) cs
theorem NL.nil (lim:Nat):NL lim [] [] 0:=fun bs cs _ h=>⟨0,.refl,by simpa [wid] using h⟩
theorem NL.snoc {lim k:Nat}{P ps:List (Nat × Nat)}{o o':List Nat}(h:NL lim P o k) (b:zdh lim (wid P) o false ps o'):NL lim (P++ps) o' (k+1):=fun bs cs hb hs=>by
 rw [List.append_assoc] at hs;obtain ⟨st,h1,h2⟩:=h bs (ps++cs) hb hs;obtain ⟨st2,h3,h4⟩:=b bs cs ⟨wid P,o,st,k⟩ hb rfl rfl h2;rw [zh];exact ⟨st2,h1.step h3,h4⟩
theorem NL.done {lim k:Nat}{P ps:List (Nat × Nat)}{o o' out:List Nat}(h:NL lim P o k) (b:zdh lim (wid P) o true ps o') (ho:jL out (P++ps)):∃ st,infl out lim=.ok () ⟨wid (P++ps),o',st,k+1⟩:=by
 have hs:=ho.str;rw [List.append_assoc] at hs;obtain ⟨st,h1,h2⟩:=h out (ps++[]) ho.1 hs;obtain ⟨st2,h3,h4⟩:=b out [] ⟨wid P,o,st,k⟩ ho.1 rfl rfl h2;rw [zh];exact ⟨st2,(h1.chain (.last h3)).infl ho.1⟩
def xe (pos:Nat) (b:List Nat) (last:Bool):List (Nat × Nat):=
 (if last then 1 else 0,1)::(0,2)::(0,up8 (pos+3)-(pos+3))::(b.length,16)::(65535-b.length,16)::b.map fun x=>(x,8)
theorem uI (b:List Nat):wid (b.map fun x=>(x,8))=8*b.length:=by
 induction b with
 | nil=>rfl
 | cons x b ih=>simp only [List.map_cons,wid,ih,List.length_cons];omega
theorem KK (b:List Nat):val (b.map fun x=>(x,8))=num b:=by
 induction b with
 | nil=>rfl
 | cons x b ih=>simp only [List.map_cons,val,num,ih]
theorem yn (n:Nat):n≤up8 n∧up8 n<n+8∧up8 n%8=0:=by unfold up8;omega
theorem xO (pos:Nat) (b:List Nat) (last:Bool):pos+wid (xe pos b last)=up8 (pos+3)+32+8*b.length:=by
 have:=yn (pos+3);simp only [xe,wid,uI];omega
theorem Je (pos:Nat){b:List Nat}(hb:Bs b) (hl:b.length≤65535) (last:Bool):xI (xe pos b last):=by
 intro c hc;simp only [xe,List.mem_cons,List.mem_map] at hc;rcases hc with rfl | rfl | rfl | rfl | rfl | ⟨x,hx,rfl⟩
 ·show (if last then 1 else 0)<2^1
  split <;> omega
 ·decide
 ·exact Nat.two_pow_pos _
 ·show b.length<2^16
  omega
 ·show 65535-b.length<2^16
  omega
 ·exact hb x hx
theorem zer {bs:List Nat}(hbs:Bs bs) (cs:List (Nat × Nat)):∀ (b:List Nat) (q:Nat),Bs b→Str bs (8*q) (b.map (fun x=>(x,8))++cs)→(bs.drop q).take b.length=b∧Str bs (8*(q+b.length)) cs:=by
 intro b;induction b with
 | nil=>intro q _ h;exact ⟨by simp,by simpa using h⟩
 | cons x b ih=>
  intro q hb h;have hx:x<256:=hb x (List.mem_cons_self ..);obtain ⟨h1,h2,h3⟩:=h.next (X:=x) (k:=8) (cs:=b.map (fun x=>(x,8))++cs) hx;rw [show 8*q+8=8*(q+1) by omega] at h3;obtain ⟨h4,h5⟩:=ih (q+1) (fun y hy=>hb y (List.mem_cons_of_mem _ hy)) h3;have hq:q<bs.length:=by omega
  have hg:bs[q]=x:=by
   have e:=jr hbs q;unfold pk at h1;rw [show 2^(8*q)=256^q by rw [Nat.pow_mul]] at h1;have e2:bs.getD q 0=bs[q]:=by simp [List.getD,hq]
   rw [←e2,e];exact h1
  refine ⟨?_,by rw [List.length_cons,show q+(b.length+1)=q+1+b.length by omega];exact h5⟩;rw [List.drop_eq_getElem_cons hq,List.length_cons,List.take_succ_cons,hg,h4]
theorem yr {lim pos:Nat}{o b:List Nat}(last:Bool) (hb:Bs b) (hl:b.length≤65535) (hlim:o.length+b.length≤lim):zdh lim pos o last (xe pos b last) (o++b):=by
 intro bs cs s hbs hat ho hs;subst hat ho;obtain ⟨hL,hLe⟩:=exq (if last then 1 else 0:Nat);have hL2:hL<2^1:=by rw [hLe];split <;> omega
 have hu:=yn (s.at_+3);simp only [xe,List.cons_append] at hs;rw [←hLe] at hs;obtain ⟨r1,S1⟩:=qf (s:=s) hs hL2;obtain ⟨r2,S2⟩:=qf (s:={ s with at_:=s.at_+1 }) S1 (by decide);obtain ⟨_,_,S3⟩:=S2.next (Nat.two_pow_pos _);simp only at S3;rw [show s.at_+1+2+(up8 (s.at_+3)-(s.at_+3))=up8 (s.at_+3) by omega] at S3;obtain ⟨r4,S4⟩:=qf (s:={ s with at_:=up8 (s.at_+3) }) S3 (by omega);obtain ⟨r5,S5⟩:=qf (s:={ s with at_:=up8 (s.at_+3)+16 }) S4 (by omega);simp only at S5;obtain ⟨q,hq⟩:∃ q,up8 (s.at_+3)+16+16=8*q:=⟨(up8 (s.at_+3)+32)/8,by omega⟩;rw [hq] at S5;have hin:=S5.len;rw [zh,uI] at hin;obtain ⟨h4,h5⟩:=zer hbs cs b q hb S5;refine ⟨s.steps+b.length,?_,?_⟩
 ·unfold xJ blk
  rw [r1,Res.bind_ok,r2,Res.bind_ok,if_pos rfl];unfold stored;simp only;rw [show s.at_+1+2=s.at_+3 by omega,r4,Res.bind_ok,r5,Res.bind_ok,if_neg (by simp)];simp only;rw [hq,if_neg (by omega),if_neg (by omega),Res.bind_ok,show 8*q/8=q by omega,h4];have hw:=xO s.at_ b last;have e1:8*q+8*b.length=s.at_+wid (xe s.at_ b last):=by omega
  rw [e1,hLe];cases last <;> rfl
 ·rw [xO,show up8 (s.at_+3)+32+8*b.length=8*(q+b.length) by omega]
  exact h5
end Go.Proofs.YtacpfpghokcdlaaGreatDoor
namespace Go.Proofs.YtacpfpghokcdlaaGreatDoor.Y
set_option maxRecDepth 100000
def pre (l:List Nat) (k:Nat):Nat:=(l.take k).sum
theorem pre_nil (k:Nat):pre [] k=0:=by simp [pre]
theorem qV (a:Nat) (l:List Nat) (k:Nat):pre (a::l) (k+1)=a+pre l k:=by simp [pre]
theorem zff (l:List Nat) (k:Nat) (h:k<l.length):pre l (k+1)=pre l k+l.getD k 0:=by
 induction l generalizing k with
 | nil=>simp at h
 | cons a l ih=>
  cases k with
  | zero=>simp [pre]
  | succ k=>
   rw [qV,qV,ih k (by simpa using h)];simp only [List.getD_cons_succ];omega
def Up (l:List Nat):Prop:=l.Pairwise (· ≤ ·)
theorem Up.tail {a:Nat}{l:List Nat}(h:Up (a::l)):Up l:=(List.pairwise_cons.1 h).2
theorem Up.getD {l:List Nat}(h:Up l){i j:Nat}(hij:i≤j) (hj:j<l.length):l.getD i 0≤l.getD j 0:=by
 by_cases e:i=j
 ·subst e;exact Nat.le_refl _
 ·have:=List.pairwise_iff_getElem.1 h i j (by omega) hj (by omega)
  simpa [List.getD,show i<l.length by omega,hj] using this
def qI:List Nat→List Nat
 | a::b::t=>(a+b)::qI t
 | _=>[]
theorem kX:∀ l:List Nat,(qI l).length=l.length/2
 | []=>rfl
 | [_]=>by simp [qI]
 | a::b::t=>by simp [qI,kX t];omega
theorem Qf:∀ (l:List Nat) (p:Nat),2*p≤l.length→pre (qI l) p=pre l (2*p)
 | [],p,h=>by simp [qI,pre]
 | [_],p,h=>by
  have:p=0:=by simp at h;omega
  subst this;simp [pre]
 | a::b::t,0,_=>by simp [pre]
 | a::b::t,p+1,h=>by
  rw [qI,qV,Qf t p (by simp at h;omega),show 2*(p+1)=2*p+1+1 by omega,qV,qV];omega
theorem Jq:∀ (l:List Nat) (p:Nat),2*p+1<l.length→(qI l).getD p 0=l.getD (2*p) 0+l.getD (2*p+1) 0
 | [],p,h=>by simp at h
 | [_],p,h=>by simp at h
 | a::b::t,0,_=>by simp [qI]
 | a::b::t,p+1,h=>by
  rw [qI,List.getD_cons_succ,Jq t p (by simp at h;omega),show 2*(p+1)=2*p+1+1 by omega,List.getD_cons_succ,List.getD_cons_succ,List.getD_cons_succ,List.getD_cons_succ]
def mrg:List Nat→List Nat→List (Nat × Bool)
 | [],ds=>ds.map fun d=>(d,false)
 | c::cs,[]=>(c,true)::mrg cs []
 | c::cs,d::ds=>if d<c then (d,false)::mrg (c::cs) ds else (c,true)::mrg cs (d::ds)
termination_by cs ds=>cs.length+ds.length
theorem xc (cs:List Nat):mrg cs []=cs.map fun c=>(c,true):=by
 induction cs with
 | nil=>simp [mrg]
 | cons c cs ih=>rw [mrg,ih];rfl
theorem kr {c d:Nat}(cs ds:List Nat) (h:d<c):mrg (c::cs) (d::ds)=(d,false)::mrg (c::cs) ds:=by rw [mrg,if_pos h]
theorem jg {c d:Nat}(cs ds:List Nat) (h:¬d<c):mrg (c::cs) (d::ds)=(c,true)::mrg cs (d::ds):=by rw [mrg,if_neg h]
theorem x8:∀ cs ds,(mrg cs ds).length=cs.length+ds.length
 | [],ds=>by simp [mrg]
 | c::cs,[]=>by rw [xc];simp
 | c::cs,d::ds=>by
  by_cases h:d<c
  ·rw [kr _ _ h,List.length_cons,x8 (c::cs) ds];simp only [List.length_cons];omega
  ·rw [jg _ _ h,List.length_cons,x8 cs (d::ds)];simp only [List.length_cons];omega
termination_by cs ds=>cs.length+ds.length
def cost (r:List (Nat × Bool)):List Nat:=r.map (·.1)
theorem jE (r:List (Nat × Bool)):(cost r).length=r.length:=by simp [cost]
theorem kW (cs:List Nat):cost (cs.map fun c=>(c,true))=cs:=by simp [cost,Function.comp_def]
theorem zaK (cs:List Nat):cost (cs.map fun c=>(c,false))=cs:=by simp [cost,Function.comp_def]
theorem zh6 {cs ds:List Nat}{x:Nat}:x∈cost (mrg cs ds)→x∈cs∨x∈ds:=by
 induction cs,ds using mrg.induct with
 | case1 ds=>intro h;right;simpa [mrg,cost] using h
 | case2 c cs ih=>intro h;left;simpa [xc,cost] using h
 | case3 c cs d ds hlt ih=>
  intro h;rw [kr _ _ hlt,cost,List.map_cons,List.mem_cons] at h;rcases h with h | h
  ·right;simp [h]
  ·rcases ih h with h | h
   ·exact .inl h
   ·exact .inr (by simp [h])
 | case4 c cs d ds hlt ih=>
  intro h;rw [jg _ _ hlt,cost,List.map_cons,List.mem_cons] at h;rcases h with h | h
  ·left;simp [h]
  ·rcases ih h with h | h
   ·exact .inl (by simp [h])
   ·exact .inr h
def qm (r:List (Nat × Bool)) (k:Nat):Nat:=(r.take k).countP (·.2)
theorem js (r:List (Nat × Bool)):qm r 0=0:=by simp [qm]
theorem xM (a:Nat × Bool) (r:List (Nat × Bool)) (k:Nat):qm (a::r) (k+1)=(if a.2 then 1 else 0)+qm r k:=by
 simp only [qm,List.take_succ_cons,List.countP_cons];split <;> omega
theorem zch (r:List (Nat × Bool)) (k:Nat):qm r k≤k:=by
 unfold qm;exact Nat.le_trans List.countP_le_length (by simp;omega)
theorem kR (cs:List Nat) (k:Nat) (h:k≤cs.length):qm (cs.map fun c=>(c,true)) k=k:=by
 induction cs generalizing k with
 | nil=>simp at h;subst h;simp [qm]
 | cons c cs ih=>
  cases k with
  | zero=>simp [qm]
  | succ k=>rw [List.map_cons,xM,ih k (by simpa using h)];simp;omega
theorem Kc (ds:List Nat) (k:Nat):qm (ds.map fun d=>(d,false)) k=0:=by
 induction ds generalizing k with
 | nil=>simp [qm]
 | cons d ds ih=>
  cases k with
  | zero=>simp [qm]
  | succ k=>rw [List.map_cons,xM,ih];simp
structure zjY (cs ds:List Nat) (k m:Nat):Prop where
 cnt:qm (mrg cs ds) k=m
 mle:m≤k
 mc:m≤cs.length
 md:k-m≤ds.length
 sum:pre (cost (mrg cs ds)) k=pre cs m+pre ds (k-m)
 lo:∀ i j,m≤i→i<cs.length→j<k-m→ds.getD j 0<cs.getD i 0
theorem split {cs ds:List Nat}(hc:Up cs) (k:Nat) (hk:k≤cs.length+ds.length):∃ m,zjY cs ds k m:=by
 induction cs,ds using mrg.induct generalizing k with
 | case1 ds=>
  refine ⟨0,⟨by rw [mrg,Kc],Nat.zero_le _,Nat.zero_le _,by simpa using hk,?_,fun i j _ hi=>by simp at hi⟩⟩
  rw [mrg,zaK,pre_nil];simp
 | case2 c cs ih=>
  have hk':k≤(c::cs).length:=by simpa using hk
  refine ⟨k,⟨by rw [xc,kR _ _ hk'],Nat.le_refl _,hk',by simp,?_,fun i j _ _ hj=>by omega⟩⟩
  rw [xc,kW];simp [pre]
 | case3 c cs d ds hlt ih=>
  cases k with
  | zero=>exact ⟨0,⟨js _,Nat.le_refl _,Nat.zero_le _,by simp,by simp [pre],fun i j _ _ hj=>by omega⟩⟩
  | succ k=>
   obtain ⟨m,S⟩:=ih hc k (by simp only [List.length_cons] at hk ⊢;omega);have e:k+1-m=k-m+1:=by have:=S.mle;omega
   refine ⟨m,⟨?_,by have:=S.mle;omega,S.mc,?_,?_,fun i j hi hi2 hj=>?_⟩⟩
   ·rw [kr _ _ hlt,xM,S.cnt];simp
   ·rw [e];have:=S.md;simp;omega
   ·rw [kr _ _ hlt,cost,List.map_cons,qV,e,qV]
    have:=S.sum;rw [cost] at this;rw [this];omega
   ·cases j with
    | zero=>
     have:=hc.getD (Nat.zero_le i) hi2;simp only [List.getD_cons_zero] at this ⊢;omega
    | succ j=>
     rw [List.getD_cons_succ];exact S.lo i j hi hi2 (by omega)
 | case4 c cs d ds hlt ih=>
  cases k with
  | zero=>exact ⟨0,⟨js _,Nat.le_refl _,Nat.zero_le _,by simp,by simp [pre],fun i j _ _ hj=>by omega⟩⟩
  | succ k=>
   obtain ⟨m,S⟩:=ih hc.tail k (by simp only [List.length_cons] at hk ⊢;omega);have e:k+1-(m+1)=k-m:=by omega
   refine ⟨m+1,⟨?_,by have:=S.mle;omega,by have:=S.mc;simp;omega,?_,?_,fun i j hi hi2 hj=>?_⟩⟩
   ·rw [jg _ _ hlt,xM,S.cnt];simp;omega
   ·rw [e];exact S.md
   ·rw [jg _ _ hlt,cost,List.map_cons,qV,e,qV]
    have:=S.sum;rw [cost] at this;rw [this];omega
   ·cases i with
    | zero=>omega
    | succ i=>
     rw [List.getD_cons_succ];exact S.lo i j (by omega) (by simpa using hi2) (by omega)
def row (cs:List Nat):Nat→List (Nat × Bool)
 | 0=>cs.map fun c=>(c,true)
 | d+1=>mrg cs (qI (cost (row cs d)))
theorem xA (cs:List Nat):(row cs 0).length=cs.length:=by simp [row]
theorem QL (cs:List Nat) (d:Nat):(row cs (d+1)).length=cs.length+(row cs d).length/2:=by
 rw [row,x8,kX,jE]
theorem zhq (cs:List Nat) (d e:Nat) (h:cs.length≤2^e*2^(d+1)):2*cs.length≤(row cs d).length+2^(e+1):=by
 induction d generalizing e with
 | zero=>
  rw [xA,Nat.pow_succ];omega
 | succ d ih=>
  have:=ih (e+1) (by rw [Nat.pow_succ 2 e,Nat.mul_assoc,Nat.mul_comm 2,←Nat.pow_succ];exact h);rw [QL];rw [Nat.pow_succ 2 (e+1)] at this;omega
theorem zbE (cs:List Nat) (d:Nat) (h:cs.length≤2^(d+1)):2*cs.length-2≤(row cs d).length:=by
 have:=zhq cs d 0 (by omega);omega
end Go.Proofs.YtacpfpghokcdlaaGreatDoor.Y
