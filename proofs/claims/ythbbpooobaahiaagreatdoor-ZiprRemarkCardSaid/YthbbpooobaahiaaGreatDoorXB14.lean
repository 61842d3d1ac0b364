/- Part 14. -/
import Derived.Test.YthbbpooobaahiaaGreatDoorXB13
namespace Go.Proofs.YthbbpooobaahiaaGreatDoor.Zz
set_option maxRecDepth 100000
section
open Go.RowKit
abbrev spotKs:List Int:=[1,0,0,0,0,0,1,1,1,0,0]
theorem spotKs_ok:Ks spotKs:=by intro k hk;simp at hk;omega
theorem spotKs_kt:kt spotKs=30:=by simp [kt,kw]
def SpotTo (ys:List Nat) (r:Rw) (w:World) (e:Ending) (w':World):Prop:=
 Below w.heap.size w w'∧((spotE ys r≠0∧e=zpan (spotE ys r))∨(spotE ys r=0∧e = .returned (.agg (spe (spotS ys r)).toArray)))
theorem SpotTo.bad {ys:List Nat} {r:Rw} {w w':World} (er:Nat) (h:spotE ys r=er) (h0:er≠0) (hb:Below w.heap.size w w'):SpotTo ys r w (zpan er) w':=⟨hb,.inl ⟨by rw [h];exact h0,by rw [h]⟩⟩
theorem Blk.made2 (w:World) (o o':Obj) (t:TypeId) (cs:Array Value):Blk (((w.alloc o).alloc o').alloc (.cells cs t)) (w.heap.size+2) t cs:=by
 have:=Blk.made1 (w.alloc o) o' t cs
 rwa [alloc_size] at this
structure Rfit (r:Rw):Prop where
 at_:r.at_<4294967296
 packed:r.packed<4294967296
 plain:r.plain<4294967296
 sum:r.sum<4294967296
 name:r.name.size≤65535
 flags:r.flags<65536
theorem spotE_from {ys:List Nat} {r:Rw} {D s0 s1 s2:Nat} (h1:r.at_+30≤ys.length) (h2:nu4 ys r.at_=67324752) (h3:nu2 ys (r.at_+6)=r.flags) (h4:nu2 ys (r.at_+8)=r.method) (h5:r.at_+30+r.name.size≤ys.length) (h6:nu2 ys (r.at_+26)=r.name.size)
  (h7:txt ((ys.drop (r.at_+30)).take r.name.size)=r.name) (hD:spData ys r=D) (h8:D≤ys.length) (e0:s0=nu4 ys (r.at_+14)) (e1:s1=nu4 ys (r.at_+18)) (e2:s2=nu4 ys (r.at_+22)) :
  spotE ys r=if ¬(s0=r.sum∧s1=r.packed∧s2=r.plain)∧¬(fBehind r.flags=true∧s0=0∧s1=0∧s2=0) then 10 else if ys.length<D+r.packed then 15
   else if fBehind r.flags=true∧signed ys r (D+r.packed)=false∧sumsAt ys (D+r.packed) r=false then 10 else 0:=by
 have hs:sumsAt ys (r.at_+14) r=decide (s0=r.sum∧s1=r.packed∧s2=r.plain):=by
  unfold sumsAt
  rw [e0,e1,e2,Nat.add_assoc r.at_ 14 4,Nat.add_assoc r.at_ 14 8]
  simp [show r.at_+14+12≤ys.length by omega]
 unfold spotE
 rw [hD,hs,e0,e1,e2]
 refine ite_congr (propext ⟨?_,?_⟩) (fun _=>rfl) (fun _=>rfl)
 ·rintro (h | h | h | h | h | h | h | h | h)
  ·omega
  ·exact absurd h2 h
  ·exact absurd h3 h
  ·exact absurd h4 h
  ·omega
  ·exact absurd h6 h
  ·exact absurd h7 h
  ·omega
  ·exact ⟨by simpa using h.1,h.2⟩
 ·rintro ⟨h,h'⟩
  exact .inr (.inr (.inr (.inr (.inr (.inr (.inr (.inr ⟨by simpa using h,h'⟩)))))))
theorem res48 {t:Array Value} {W:World} {q:Nat} {x0 x1 x2 x3:Value} (h2:t[4]? = some (.pointer (some ⟨q,0,none⟩))) (h:Blk W q 93 #[x0,x1,x2,x3]) :
  (results Tryz.f48 t).run Tryz.prog W = .ok (.agg #[x0,x1,x2,x3]) W:=by
 have e0:=(h.cell 0).trans (show _=some x0 from rfl)
 have e1:=(h.cell 1).trans (show _=some x1 from rfl)
 have e2:=(h.cell 2).trans (show _=some x2 from rfl)
 have e3:=(h.cell 3).trans (show _=some x3 from rfl)
 unfold results Tryz.f48
 go_simp
set_option maxHeartbeats 6400000 in
theorem spotOf_any (r:Rw) (ra:Option Addr) (rc:Nat) (ao:Option Addr) (cc:Nat) (ys:List Nat) (w:World) (hf:Rfit r) (h:Cu.Sl w ao cc ys) (hm:ys.length≤1000000) :
  Calls Tryz.prog 48 #[.agg (rcl r ra rc),.slice ao ys.length cc] w (SpotTo ys r w):=by
 obtain ⟨b1,b2,b3,b4,b5,b6⟩:=hf
 have HS:=Lib.hid h
 have hbs:Bs ys:=h.bs
 have hle:=h.le
 have hbig:=h.big
 unfold maxLen at hbig
 obtain ⟨w0,hw0⟩:∃ w0,w0=((w.alloc (.cells (rcl r ra rc) 49)).alloc (.cells #[.int .i64 0,.int .i64 0,.int .i64 0,.int .i64 0] 93)).alloc (.cells #[.int .i64 1,.int .i64 0,.int .i64 0,.int .i64 0,.int .i64 0,.int .i64 0,.int .i64 1,.int .i64 1,.int .i64 1,.int .i64 0,.int .i64 0] 82):=⟨_,rfl⟩
 have hb0:Below w.heap.size w w0:=by rw [hw0];exact (((Below.refl _ w).alloc (Nat.le_refl _) _).alloc (by simp) _).alloc (by simp;omega) _
 have hks:Cu.KSrc w0 (some ⟨w.heap.size+2,0,none⟩) spotKs:=ksrc_lit (t:=82) (by rw [hw0];exact Blk.made2 _ _ _ _ _)
 have hrow:Blk w0 w.heap.size 49 (rcl r ra rc):=by
  rw [hw0];exact ((Blk.made w 49 _).below ((Below.refl _ _).alloc (Nat.le_refl _) _)).below ((Below.refl _ _).alloc (Nat.le_refl _) _)
 have hres:Blk w0 (w.heap.size+1) 93 #[.int .i64 0,.int .i64 0,.int .i64 0,.int .i64 0]:=by
  rw [hw0];exact (Blk.made1 w _ 93 _).below ((Below.refl _ _).alloc (Nat.le_refl _) _)
 have HB0:=Lib.hid hb0
 have HQ:=Lib.hid hrow
 have HR:=Lib.hid hres
 by_cases f1:r.at_+30≤ys.length
 case neg=>
  have K1:=Lib.hid (numbers_no ao cc ys r.at_ _ 11 spotKs w0 (h.below hb0) hks spotKs_ok hm (by decide) (by rw [spotKs_kt];omega))
  have HE:Hid (spotE ys r=10):=Lib.hid (by unfold spotE;rw [if_pos (.inl (by omega))])
  clear h hks hres hb0 hrow
  go_enter Tryz.func48,Tryz.ntmps48
  go_wp2_with fail
  rw [←hw0]
  clear hw0
  refine K1.out.mono ?_
  rintro e w1 ⟨hb1,g,rfl⟩
  have HB1:=Lib.hid (HB0.out.trans (hb1.mono HB0.out.size))
  clear hb1
  go_upto_region 2 with fail
  refine wp_region_still_tail 23 (by kernel_rfl) (by kernel_rfl) (Stl.out ?_)
  simp only [List.take_succ_cons,List.take_zero,List.drop_succ_cons,List.drop_zero]
  refine tS (.bool false) ?_
  dsimp only [List.set]
  refine tS (.bool false) ?_
  dsimp only [List.set]
  refine tN ?_
  dsimp only [List.set]
  refine tN ?_
  dsimp only [List.set]
  refine tN ?_
  dsimp only [List.set]
  refine tN ?_
  dsimp only [List.set]
  refine tS (.bool false) ?_
  dsimp only [List.set]
  refine tS (.bool false) ?_
  dsimp only [List.set]
  refine tN ?_
  dsimp only [List.set]
  refine tN ?_
  dsimp only [List.set]
  refine tN ?_
  dsimp only [List.set]
  refine tN ?_
  dsimp only [List.set]
  refine tN ?_
  dsimp only [List.set]
  refine tN ?_
  dsimp only [List.set]
  refine tS (.bool false) ?_
  dsimp only [List.set]
  refine tS (.bool false) ?_
  dsimp only [List.set]
  refine tN ?_
  dsimp only [List.set]
  refine tN ?_
  dsimp only [List.set]
  refine tN ?_
  dsimp only [List.set]
  refine tN ?_
  dsimp only [List.set]
  refine tN ?_
  dsimp only [List.set]
  refine tN ?_
  dsimp only [List.set]
  refine tS (.bool false) ?_
  dsimp only [List.set]
  refine tE ?_
  go_wp2_with (go_at_call 43;refine (zmust_no 10 _).mono ?_;rintro e w' ⟨rfl,rfl⟩)
  exact ⟨rfl,SpotTo.bad 10 HE.out (by decide) (below_drewN HB1.out 1)⟩
 case pos=>
 have K1:=Lib.hid (numbers_ok ao cc ys r.at_ _ 11 spotKs w0 (h.below hb0) hks spotKs_ok hm (by decide) (by rw [spotKs_kt];omega))
 clear h hks hres hb0 hrow
 go_enter Tryz.func48,Tryz.ntmps48
 go_wp2_with fail
 rw [←hw0]
 clear hw0
 refine K1.out.mono ?_
 rintro e w1 ⟨hb1,g,rfl,hg,hN⟩
 have c0:w1.cell? ⟨g,0,none⟩=some (.int .i64 (nu4 ys r.at_:Nat)):=hN 0 (by simp [nsAt])
 have c2:w1.cell? ⟨g,2,none⟩=some (.int .i64 (nu2 ys (r.at_+6):Nat)):=hN 2 (by simp [nsAt])
 have c3:w1.cell? ⟨g,3,none⟩=some (.int .i64 (nu2 ys (r.at_+8):Nat)):=hN 3 (by simp [nsAt])
 have c6:w1.cell? ⟨g,6,none⟩=some (.int .i64 (nu4 ys (r.at_+14):Nat)):=hN 6 (by simp [nsAt])
 have c7:w1.cell? ⟨g,7,none⟩=some (.int .i64 (nu4 ys (r.at_+18):Nat)):=hN 7 (by simp [nsAt])
 have c8:w1.cell? ⟨g,8,none⟩=some (.int .i64 (nu4 ys (r.at_+22):Nat)):=hN 8 (by simp [nsAt])
 have c9:w1.cell? ⟨g,9,none⟩=some (.int .i64 (nu2 ys (r.at_+26):Nat)):=hN 9 (by simp [nsAt])
 have c10:w1.cell? ⟨g,10,none⟩=some (.int .i64 (nu2 ys (r.at_+28):Nat)):=hN 10 (by simp [nsAt])
 obtain ⟨sg,hsg⟩:∃ x,x=nu4 ys r.at_:=⟨_,rfl⟩
 rw [←hsg] at c0
 obtain ⟨ff,hff⟩:∃ x,x=nu2 ys (r.at_+6):=⟨_,rfl⟩
 rw [←hff] at c2
 obtain ⟨mf,hmf⟩:∃ x,x=nu2 ys (r.at_+8):=⟨_,rfl⟩
 rw [←hmf] at c3
 obtain ⟨s0,hs0⟩:∃ x,x=nu4 ys (r.at_+14):=⟨_,rfl⟩
 rw [←hs0] at c6
 obtain ⟨s1,hs1⟩:∃ x,x=nu4 ys (r.at_+18):=⟨_,rfl⟩
 rw [←hs1] at c7
 obtain ⟨s2,hs2⟩:∃ x,x=nu4 ys (r.at_+22):=⟨_,rfl⟩
 rw [←hs2] at c8
 obtain ⟨nl,hnl⟩:∃ x,x=nu2 ys (r.at_+26):=⟨_,rfl⟩
 rw [←hnl] at c9
 obtain ⟨xl,hxl⟩:∃ x,x=nu2 ys (r.at_+28):=⟨_,rfl⟩
 rw [←hxl] at c10
 have Hsg:=Lib.hid hsg
 have Hff:=Lib.hid hff
 have Hmf:=Lib.hid hmf
 have Hs0:=Lib.hid hs0
 have Hs1:=Lib.hid hs1
 have Hs2:=Lib.hid hs2
 have Hnl:=Lib.hid hnl
 have Hxl:=Lib.hid hxl
 have HB1:=Lib.hid (HB0.out.trans (hb1.mono HB0.out.size))
 have hq1:=HQ.out.below hb1
 have q1:=(hq1.cell 1).trans (show _=some (.int .i64 (r.flags:Nat)) from rfl)
 have q2:=(hq1.cell 2).trans (show _=some (.int .i64 (r.method:Nat)) from rfl)
 have HQ1:=Lib.hid hq1
 have HR1:=Lib.hid (HR.out.below hb1)
 have hsl:=nu4_lt hbs (r.at_+14)
 have hlm:nl<65536∧xl<65536:=by rw [Hnl.out,Hxl.out];exact ⟨nu2_lt hbs _,nu2_lt hbs _⟩
 have hgl:g<w1.heap.size:=World.block_lt_of_cell? w1 _ c0
 have hwg:w.heap.size+1<g:=by have:=HR.out.lt;omega
 clear hN hb1 hq1 K1 hsg hff hmf hs0 hs1 hs2 hnl hxl
 by_cases d0:sg=67324752
 case neg=>
  have z0:((sg:Int) == 67324752)=false:=by simp;omega
  have HE:Hid (spotE ys r=10):=Lib.hid (by unfold spotE;rw [if_pos (.inr (.inl (by rw [←Hsg.out];exact d0)))])
  go_upto_region 2 with fail
  refine wp_region_still_tail 23 (by kernel_rfl) (by kernel_rfl) (Stl.out ?_)
  simp only [List.take_succ_cons,List.take_zero,List.drop_succ_cons,List.drop_zero]
  refine tS (.bool true) ?_
  dsimp only [List.set]
  refine tS (.bool true) ?_
  dsimp only [List.set]
  refine tS (.slice (some ⟨g,0,none⟩) 11 11) ?_
  dsimp only [List.set]
  refine tS (.pointer (some ⟨g,0,none⟩)) ?_
  dsimp only [List.set]
  refine tS (.int .i64 (sg:Nat)) ?_
  dsimp only [List.set]
  refine tS (.bool false) ?_
  dsimp only [List.set]
  refine tS (.bool false) ?_
  dsimp only [List.set]
  refine tS (.bool false) ?_
  dsimp only [List.set]
  refine tN ?_
  dsimp only [List.set]
  refine tN ?_
  dsimp only [List.set]
  refine tN ?_
  dsimp only [List.set]
  refine tN ?_
  dsimp only [List.set]
  refine tN ?_
  dsimp only [List.set]
  refine tN ?_
  dsimp only [List.set]
  refine tS (.bool false) ?_
  dsimp only [List.set]
  refine tS (.bool false) ?_
  dsimp only [List.set]
  refine tN ?_
  dsimp only [List.set]
  refine tN ?_
  dsimp only [List.set]
  refine tN ?_
  dsimp only [List.set]
  refine tN ?_
  dsimp only [List.set]
  refine tN ?_
  dsimp only [List.set]
  refine tN ?_
  dsimp only [List.set]
  refine tS (.bool false) ?_
  dsimp only [List.set]
  refine tE ?_
  go_wp2_with (go_at_call 43;refine (zmust_no 10 _).mono ?_;rintro e w' ⟨rfl,rfl⟩)
  exact ⟨rfl,SpotTo.bad 10 HE.out (by decide) (below_drewN HB1.out 1)⟩
 case pos=>
 by_cases d1:ff=r.flags
 case neg=>
  have z0:((sg:Int) == 67324752)=true:=by simp;omega
  have z1:((ff:Int) == (r.flags:Int))=false:=by simp;omega
  have HE:Hid (spotE ys r=10):=Lib.hid (by unfold spotE;rw [if_pos (.inr (.inr (.inl (by rw [←Hff.out];exact d1))))])
  go_upto_region 2 with fail
  refine wp_region_still_tail 23 (by kernel_rfl) (by kernel_rfl) (Stl.out ?_)
  simp only [List.take_succ_cons,List.take_zero,List.drop_succ_cons,List.drop_zero]
  refine tS (.bool true) ?_
  dsimp only [List.set]
  refine tS (.bool true) ?_
  dsimp only [List.set]
  refine tS (.slice (some ⟨g,0,none⟩) 11 11) ?_
  dsimp only [List.set]
  refine tS (.pointer (some ⟨g,0,none⟩)) ?_
  dsimp only [List.set]
  refine tS (.int .i64 (sg:Nat)) ?_
  dsimp only [List.set]
  refine tS (.bool true) ?_
  dsimp only [List.set]
  refine tS (.bool true) ?_
  dsimp only [List.set]
  refine tS (.bool true) ?_
  dsimp only [List.set]
  refine tS (.slice (some ⟨g,0,none⟩) 11 11) ?_
  dsimp only [List.set]
  refine tS (.pointer (some ⟨g,2,none⟩)) ?_
  dsimp only [List.set]
  refine tS (.int .i64 (ff:Nat)) ?_
  dsimp only [List.set]
  refine tS (.pointer (some ⟨w.heap.size,1,none⟩)) ?_
  dsimp only [List.set]
  refine tS (.int .i64 (r.flags:Nat)) ?_
  dsimp only [List.set]
  refine tS (.bool false) ?_
  dsimp only [List.set]
  refine tS (.bool false) ?_
  dsimp only [List.set]
  refine tS (.bool false) ?_
  dsimp only [List.set]
  refine tN ?_
  dsimp only [List.set]
  refine tN ?_
  dsimp only [List.set]
  refine tN ?_
  dsimp only [List.set]
  refine tN ?_
  dsimp only [List.set]
  refine tN ?_
  dsimp only [List.set]
  refine tN ?_
  dsimp only [List.set]
  refine tS (.bool false) ?_
  dsimp only [List.set]
  refine tE ?_
  go_wp2_with (go_at_call 43;refine (zmust_no 10 _).mono ?_;rintro e w' ⟨rfl,rfl⟩)
  exact ⟨rfl,SpotTo.bad 10 HE.out (by decide) (below_drewN HB1.out 1)⟩
 case pos=>
 by_cases d2:mf=r.method
 case neg=>
  have z0:((sg:Int) == 67324752)=true:=by simp;omega
  have z1:((ff:Int) == (r.flags:Int))=true:=by simp;omega
  have z2:((mf:Int) == (r.method:Int))=false:=by simp;omega
  have HE:Hid (spotE ys r=10):=Lib.hid (by unfold spotE;rw [if_pos (.inr (.inr (.inr (.inl (by rw [←Hmf.out];exact d2)))))])
  go_upto_region 2 with fail
  refine wp_region_still_tail 23 (by kernel_rfl) (by kernel_rfl) (Stl.out ?_)
  simp only [List.take_succ_cons,List.take_zero,List.drop_succ_cons,List.drop_zero]
  refine tS (.bool true) ?_
  dsimp only [List.set]
  refine tS (.bool true) ?_
  dsimp only [List.set]
  refine tS (.slice (some ⟨g,0,none⟩) 11 11) ?_
  dsimp only [List.set]
  refine tS (.pointer (some ⟨g,0,none⟩)) ?_
  dsimp only [List.set]
  refine tS (.int .i64 (sg:Nat)) ?_
  dsimp only [List.set]
  refine tS (.bool true) ?_
  dsimp only [List.set]
  refine tS (.bool true) ?_
  dsimp only [List.set]
  refine tS (.bool true) ?_
  dsimp only [List.set]
  refine tS (.slice (some ⟨g,0,none⟩) 11 11) ?_
  dsimp only [List.set]
  refine tS (.pointer (some ⟨g,2,none⟩)) ?_
  dsimp only [List.set]
  refine tS (.int .i64 (ff:Nat)) ?_
  dsimp only [List.set]
  refine tS (.pointer (some ⟨w.heap.size,1,none⟩)) ?_
  dsimp only [List.set]
  refine tS (.int .i64 (r.flags:Nat)) ?_
  dsimp only [List.set]
  refine tS (.bool true) ?_
  dsimp only [List.set]
  refine tS (.bool true) ?_
  dsimp only [List.set]
  refine tS (.bool true) ?_
  dsimp only [List.set]
  refine tS (.slice (some ⟨g,0,none⟩) 11 11) ?_
  dsimp only [List.set]
  refine tS (.pointer (some ⟨g,3,none⟩)) ?_
  dsimp only [List.set]
  refine tS (.int .i64 (mf:Nat)) ?_
  dsimp only [List.set]
  refine tS (.pointer (some ⟨w.heap.size,2,none⟩)) ?_
  dsimp only [List.set]
  refine tS (.int .i64 (r.method:Nat)) ?_
  dsimp only [List.set]
  refine tS (.bool false) ?_
  dsimp only [List.set]
  refine tS (.bool false) ?_
  dsimp only [List.set]
  refine tE ?_
  go_wp2_with (go_at_call 43;refine (zmust_no 10 _).mono ?_;rintro e w' ⟨rfl,rfl⟩)
  exact ⟨rfl,SpotTo.bad 10 HE.out (by decide) (below_drewN HB1.out 1)⟩
 case pos=>
 have z0:((sg:Int) == 67324752)=true:=by simp;omega
 have z1:((ff:Int) == (r.flags:Int))=true:=by simp;omega
 have z2:((mf:Int) == (r.method:Int))=true:=by simp;omega
 go_upto_region 2 with fail
 refine wp_region_still_tail 23 (by kernel_rfl) (by kernel_rfl) (Stl.out ?_)
 simp only [List.take_succ_cons,List.take_zero,List.drop_succ_cons,List.drop_zero]
 refine tS (.bool true) ?_
 dsimp only [List.set]
 refine tS (.bool true) ?_
 dsimp only [List.set]
 refine tS (.slice (some ⟨g,0,none⟩) 11 11) ?_
 dsimp only [List.set]
 refine tS (.pointer (some ⟨g,0,none⟩)) ?_
 dsimp only [List.set]
 refine tS (.int .i64 (sg:Nat)) ?_
 dsimp only [List.set]
 refine tS (.bool true) ?_
 dsimp only [List.set]
 refine tS (.bool true) ?_
 dsimp only [List.set]
 refine tS (.bool true) ?_
 dsimp only [List.set]
 refine tS (.slice (some ⟨g,0,none⟩) 11 11) ?_
 dsimp only [List.set]
 refine tS (.pointer (some ⟨g,2,none⟩)) ?_
 dsimp only [List.set]
 refine tS (.int .i64 (ff:Nat)) ?_
 dsimp only [List.set]
 refine tS (.pointer (some ⟨w.heap.size,1,none⟩)) ?_
 dsimp only [List.set]
 refine tS (.int .i64 (r.flags:Nat)) ?_
 dsimp only [List.set]
 refine tS (.bool true) ?_
 dsimp only [List.set]
 refine tS (.bool true) ?_
 dsimp only [List.set]
 refine tS (.bool true) ?_
 dsimp only [List.set]
 refine tS (.slice (some ⟨g,0,none⟩) 11 11) ?_
 dsimp only [List.set]
 refine tS (.pointer (some ⟨g,3,none⟩)) ?_
 dsimp only [List.set]
 refine tS (.int .i64 (mf:Nat)) ?_
 dsimp only [List.set]
 refine tS (.pointer (some ⟨w.heap.size,2,none⟩)) ?_
 dsimp only [List.set]
 refine tS (.int .i64 (r.method:Nat)) ?_
 dsimp only [List.set]
 refine tS (.bool true) ?_
 dsimp only [List.set]
 refine tS (.bool true) ?_
 dsimp only [List.set]
 refine tE ?_
 go_upto_region 3 with (go_at_call 43;refine (zmust_yes 10 _).mono ?_;rintro e w' ⟨rfl,rfl⟩)
 have hdw:(w1.drewN 1).heap.size=w1.heap.size:=rfl
 have HBd:=Lib.hid (below_drewN HB1.out 1)
 have KC:=cut_any ao cc ys (r.at_+30) r.name.size (w1.drewN 1) (HS.out.below HBd.out) hm
 rw [show ((r.at_+30:Nat):Int)=(r.at_:Int)+30 by omega] at KC
 have KC:=Lib.hid KC
 have q7:=(HQ1.out.cell 7).trans (show _=some (.int .i64 (r.at_:Nat)) from rfl)
 have q0:=(HQ1.out.cell 0).trans (show _=some (.string r.name) from rfl)
 clear z0 z1 z2
 go_wp2_with fail
 refine KC.out.mono ?_
 rintro e w2 ⟨na,L,nc,rfl,hb2,hn2⟩
 have HB2:=Lib.hid (HBd.out.trans (hb2.mono HBd.out.size))
 have HW2:Hid (Below w1.heap.size w1 w2):=Lib.hid ((below_drewN (Below.refl w1.heap.size w1) 1).trans hb2)
 have HN2:=Lib.hid hn2
 clear hb2 hn2 q0 q1 q2 q7
 have hQ2:=HQ1.out.below HW2.out
 have q0:=(hQ2.cell 0).trans (show _=some (.string r.name) from rfl)
 have q7:=(hQ2.cell 7).trans (show _=some (.int .i64 (r.at_:Nat)) from rfl)
 have g9:=(HW2.out.cell (World.block_lt_of_cell? w1 _ c9)).trans c9
 have g10:=(HW2.out.cell (World.block_lt_of_cell? w1 _ c10)).trans c10
 have g6:=(HW2.out.cell (World.block_lt_of_cell? w1 _ c6)).trans c6
 have g7:=(HW2.out.cell (World.block_lt_of_cell? w1 _ c7)).trans c7
 have g8:=(HW2.out.cell (World.block_lt_of_cell? w1 _ c8)).trans c8
 have HG:=Lib.hid (And.intro g6 (And.intro g7 (And.intro g8 (And.intro g9 g10))))
 have HQ2:=Lib.hid hQ2
 have HR2:=Lib.hid (HR1.out.below HW2.out)
 have hg2:g<w2.heap.size:=World.block_lt_of_cell? w2 _ g9
 clear hQ2 c0 c2 c3 c6 c7 c8 c9 c10 g6 g7 g8 hgl
 by_cases f3:r.at_+30+r.name.size≤ys.length
 case neg=>
  have HE:Hid (spotE ys r=10):=Lib.hid (by unfold spotE;rw [if_pos (.inr (.inr (.inr (.inr (.inl (by omega))))))])
  go_wp2_with (go_at_call 43;refine (zmust_no 10 _).mono ?_;rintro e w' ⟨rfl,rfl⟩)
  exact ⟨rfl,SpotTo.bad 10 HE.out (by decide) HB2.out⟩
 case pos=>
 obtain ⟨hL0,hsn,_⟩:=HN2.out f3
 have hL:=hL0.symm
 clear hL0
 obtain ⟨NML,hNML⟩:∃ x,x=(ys.drop (r.at_+30)).take r.name.size:=⟨_,rfl⟩
 have hNl:NML.length=r.name.size:=by rw [hNML];exact Cu.win_len f3
 rw [←hNML] at hsn
 obtain ⟨NS,hNS⟩:∃ x,x=r.name.size:=⟨_,rfl⟩
 have HNS:=Lib.hid hNS
 have hcv:=conv_txt hsn L (by rw [←hL,hNl])
 obtain ⟨NM,hNM⟩:∃ x,x=txt NML:=⟨_,rfl⟩
 rw [←hNM] at hcv
 have HNM:Hid (NM=txt ((ys.drop (r.at_+30)).take r.name.size)):=Lib.hid (by rw [hNM,hNML])
 have HLN:=Lib.hid hL
 clear hNML hNl hsn hNM hL hNS
 by_cases d3:nl=L
 case neg=>
  have z0:((nl:Int) == (L:Int))=false:=by simp;omega
  have HE:Hid (spotE ys r=10):=Lib.hid (by unfold spotE;rw [if_pos (.inr (.inr (.inr (.inr (.inr (.inl (by rw [←Hnl.out,HLN.out];exact d3)))))))])
  go_wp2_with (go_at_call 43;refine (zmust_no 10 _).mono ?_;rintro e w' ⟨rfl,rfl⟩)
  exact ⟨rfl,SpotTo.bad 10 HE.out (by decide) HB2.out⟩
 case pos=>
 have z0:((nl:Int) == (L:Int))=true:=by simp;omega
 by_cases d4:NM=r.name
 case neg=>
  have z1:(NM.toList == r.name.toList)=false:=by
   rw [ByteArray.toList_eq,ByteArray.toList_eq]
   exact beq_eq_false_iff_ne.2 (txt_ne (p:=NM) (l:=r.name.data.toList) (fun e=>d4 (by rw [e])))
  have HE:Hid (spotE ys r=10):=Lib.hid (by unfold spotE;rw [if_pos (.inr (.inr (.inr (.inr (.inr (.inr (.inl (by rw [←HNM.out];exact d4))))))))])
  go_wp2_with (go_at_call 43;refine (zmust_no 10 _).mono ?_;rintro e w' ⟨rfl,rfl⟩)
  exact ⟨rfl,SpotTo.bad 10 HE.out (by decide) HB2.out⟩
 case pos=>
 have z1:(NM.toList == r.name.toList)=true:=by rw [d4];simp
 go_upto_region 5 with (go_at_call 43;refine (zmust_yes 10 _).mono ?_;rintro e w' ⟨rfl,rfl⟩)
 clear z0 z1 hcv q0
 go_region_held3 (fun W=>W.cell? ⟨w.heap.size,7,none⟩=some (.int .i64 (r.at_:Nat))∧W.cell? ⟨g,9,none⟩=some (.int .i64 (nl:Nat))∧W.cell? ⟨g,10,none⟩=some (.int .i64 (xl:Nat))) (go_keep) (fail)
 have hD:IntKind.i64.wrap (IntKind.i64.wrap (IntKind.i64.wrap ((r.at_:Int)+30)+L)+xl)=((r.at_+30+L+xl:Nat):Int):=by
  have hL5:L<65536:=by omega
  rw [wrap_sm ((r.at_:Int)+30) (by omega) (by omega),wrap_sm ((r.at_:Int)+30+L) (by omega) (by omega),wrap_sm ((r.at_:Int)+30+L+xl) (by omega) (by omega)];omega
 rw [hD]
 obtain ⟨D,hDD⟩:∃ D,D=r.at_+30+L+xl:=⟨_,rfl⟩
 rw [←hDD]
 have HD:Hid (spData ys r=D):=Lib.hid (by unfold spData;rw [hDD,←Hnl.out,←Hxl.out,d3])
 have hDl:D<4294967296+200000:=by omega
 obtain ⟨q3,hq3⟩:∃ q3,q3=w2.heap.size:=⟨_,rfl⟩
 obtain ⟨w3,hw3⟩:∃ w3,w3=(w2.alloc (.cells #[.int .i64 (r.at_:Nat),.int .i64 (D:Nat),.int .i64 0,.int .i64 (xl:Nat)] 93)).drew:=⟨_,rfl⟩
 have hb23:Below w2.heap.size w2 w3:=by rw [hw3];exact ((Below.refl _ w2).alloc (Nat.le_refl _) _).drew
 have hP3:Blk w3 q3 93 #[.int .i64 (r.at_:Nat),.int .i64 (D:Nat),.int .i64 0,.int .i64 (xl:Nat)]:=by rw [hw3,hq3];exact Blk.made w2 93 _
 rw [←hw3,←hq3]
 have HP3:=Lib.hid hP3
 have HQ3:=Lib.hid (HQ2.out.below hb23)
 have HR3:=Lib.hid (HR2.out.below hb23)
 have kg:∀ i v,w2.cell? ⟨g,i,none⟩=some v→w3.cell? ⟨g,i,none⟩=some v:=fun i v hv=>(hb23.cell (World.block_lt_of_cell? w2 _ hv)).trans hv
 have HG3:=Lib.hid (And.intro (kg _ _ HG.out.1) (And.intro (kg _ _ HG.out.2.1) (And.intro (kg _ _ HG.out.2.2.1) (And.intro (kg _ _ HG.out.2.2.2.1) (kg _ _ HG.out.2.2.2.2)))))
 have HB3:=Lib.hid (HB2.out.trans (hb23.mono HB2.out.size))
 have AF:Hid (∀ W,Below w3.heap.size w3 W→W.cell? ⟨w.heap.size,0,none⟩=some (.string r.name)∧W.cell? ⟨w.heap.size,1,none⟩=some (.int .i64 (r.flags:Nat))∧W.cell? ⟨w.heap.size,2,none⟩=some (.int .i64 (r.method:Nat))∧W.cell? ⟨w.heap.size,3,none⟩=some (.int .i64 (r.time:Nat))∧W.cell? ⟨w.heap.size,4,none⟩=some (.int .i64 (r.date:Nat))∧W.cell? ⟨w.heap.size,5,none⟩=some (.int .i64 (r.packed:Nat))∧W.cell? ⟨w.heap.size,6,none⟩=some (.int .i64 (r.plain:Nat))∧W.cell? ⟨w.heap.size,7,none⟩=some (.int .i64 (r.at_:Nat))∧W.cell? ⟨w.heap.size,8,none⟩=some (.int .i64 (r.extra:Nat))∧W.cell? ⟨w.heap.size,9,none⟩=some (.int .u32 (r.sum:Nat))∧W.cell? ⟨w.heap.size,10,none⟩=some (.slice ra r.remark.length rc)∧W.cell? ⟨g,6,none⟩=some (.int .i64 (s0:Nat))∧W.cell? ⟨g,7,none⟩=some (.int .i64 (s1:Nat))∧W.cell? ⟨g,8,none⟩=some (.int .i64 (s2:Nat))):=Lib.hid fun W hW=>by
  have kk:∀ i v,w3.cell? ⟨g,i,none⟩=some v→W.cell? ⟨g,i,none⟩=some v:=fun i v hv=>(hW.cell (World.block_lt_of_cell? w3 _ hv)).trans hv
  have a0:=((HQ3.out.below hW).cell 0).trans (show _=some (.string r.name) from rfl)
  have a1:=((HQ3.out.below hW).cell 1).trans (show _=some (.int .i64 (r.flags:Nat)) from rfl)
  have a2:=((HQ3.out.below hW).cell 2).trans (show _=some (.int .i64 (r.method:Nat)) from rfl)
  have a3:=((HQ3.out.below hW).cell 3).trans (show _=some (.int .i64 (r.time:Nat)) from rfl)
  have a4:=((HQ3.out.below hW).cell 4).trans (show _=some (.int .i64 (r.date:Nat)) from rfl)
  have a5:=((HQ3.out.below hW).cell 5).trans (show _=some (.int .i64 (r.packed:Nat)) from rfl)
  have a6:=((HQ3.out.below hW).cell 6).trans (show _=some (.int .i64 (r.plain:Nat)) from rfl)
  have a7:=((HQ3.out.below hW).cell 7).trans (show _=some (.int .i64 (r.at_:Nat)) from rfl)
  have a8:=((HQ3.out.below hW).cell 8).trans (show _=some (.int .i64 (r.extra:Nat)) from rfl)
  have a9:=((HQ3.out.below hW).cell 9).trans (show _=some (.int .u32 (r.sum:Nat)) from rfl)
  have a10:=((HQ3.out.below hW).cell 10).trans (show _=some (.slice ra r.remark.length rc) from rfl)
  exact ⟨a0,a1,a2,a3,a4,a5,a6,a7,a8,a9,a10,kk _ _ HG3.out.1,kk _ _ HG3.out.2.1,kk _ _ HG3.out.2.2.1⟩
 have K74:Hid (∀ W:World,Calls Tryz.prog 74 #[.agg #[.string r.name,.int .i64 (r.flags:Nat),.int .i64 (r.method:Nat),.int .i64 (r.time:Nat),.int .i64 (r.date:Nat),.int .i64 (r.packed:Nat),.int .i64 (r.plain:Nat),.int .i64 (r.at_:Nat),.int .i64 (r.extra:Nat),.int .u32 (r.sum:Nat),.slice ra r.remark.length rc]] W fun e w'=>e = .returned (.agg #[.int .i64 (r.sum:Nat),.int .i64 (r.packed:Nat),.int .i64 (r.plain:Nat)])∧Below W.heap.size W w'):=Lib.hid fun (W:World)=>sumsOf_any r ra rc b4 W
 have hq3w:q3<w3.heap.size:=hP3.lt
 have hq3l:w.heap.size+1<q3:=by omega
 have p0:=(hP3.cell 0).trans (show _=some (.int .i64 (r.at_:Nat)) from rfl)
 have p1:=(hP3.cell 1).trans (show _=some (.int .i64 (D:Nat)) from rfl)
 clear hw3 hq3 hb23 hP3 hD hDD kg q7 g9 g10
 by_cases d5:D≤ys.length
 case neg=>
  have z0:¬(D:Int)≤ys.length:=by omega
  have HE:Hid (spotE ys r=10):=Lib.hid (by unfold spotE;rw [if_pos (.inr (.inr (.inr (.inr (.inr (.inr (.inr (.inl (by rw [HD.out];omega)))))))))])
  go_wp2_with (go_at_call 43;refine (zmust_no 10 _).mono ?_;rintro e w' ⟨rfl,rfl⟩)
  exact ⟨rfl,SpotTo.bad 10 HE.out (by decide) HB3.out⟩
 case pos=>
 have z0:(D:Int)≤ys.length:=by omega
 obtain ⟨t0,t1,t2,t3,t4,t5,t6,t7,t8,t9,t10,t11,t12,t13⟩:=AF.out w3 (Below.refl _ _)
 go_upto_region 7 with (go_at_call 43;refine (zmust_yes 10 _).mono ?_;rintro e w' ⟨rfl,rfl⟩)
 clear z0
 obtain ⟨n3,hn3⟩:∃ n,n=w3.heap.size:=⟨_,rfl⟩
 have HN3:=Lib.hid hn3
 have HX1:=Lib.hid (below_drewN (Below.refl w3.heap.size w3) 1)
 have HX2:=Lib.hid (below_drewN ((Below.refl w3.heap.size w3).alloc (Nat.le_refl _) (.cells #[.int .i64 0,.int .i64 0,.int .i64 0] 133)) 1)
 have HX3:=Lib.hid (below_drewN (((Below.refl w3.heap.size w3).alloc (Nat.le_refl _) (.cells #[.int .i64 0,.int .i64 0,.int .i64 0] 133)).alloc (by simp) (.cells #[.int .i64 0,.int .i64 0,.int .i64 0] 133)) 1)
 have HZ2:=Lib.hid ((Blk.made w3 133 #[.int .i64 0,.int .i64 0,.int .i64 0]).drewN 1)
 have HZ3:=Lib.hid (((Blk.made w3 133 #[.int .i64 0,.int .i64 0,.int .i64 0]).below ((Below.refl _ _).alloc (Nat.le_refl _) (.cells #[.int .i64 0,.int .i64 0,.int .i64 0] 133))).drewN 1)
 have HZ4:=Lib.hid ((Blk.made1 w3 (.cells #[.int .i64 0,.int .i64 0,.int .i64 0] 133) 133 #[.int .i64 0,.int .i64 0,.int .i64 0]).drewN 1)
 clear hn3
 go_cut [9,10] from 95 (fun s9 s10 wx=>∃ b9 b10,s9 = .pointer (some ⟨b9,0,none⟩)∧s10 = .pointer (some ⟨b10,0,none⟩)∧wx.cell? ⟨b9,0,none⟩=some (.int .i64 (r.sum:Nat))∧wx.cell? ⟨b9,1,none⟩=some (.int .i64 (r.packed:Nat))∧wx.cell? ⟨b9,2,none⟩=some (.int .i64 (r.plain:Nat))∧wx.cell? ⟨b10,0,none⟩=some (.int .i64 (s0:Nat))∧wx.cell? ⟨b10,1,none⟩=some (.int .i64 (s1:Nat))∧wx.cell? ⟨b10,2,none⟩=some (.int .i64 (s2:Nat))∧Touch (fun k=>w3.heap.size≤k) w3 wx∧w3.heap.size≤b9)
 case first=>
  go_region_held3 (fun W=>W.cell? ⟨w.heap.size,0,none⟩=some (.string r.name)∧W.cell? ⟨w.heap.size,1,none⟩=some (.int .i64 (r.flags:Nat))∧W.cell? ⟨w.heap.size,2,none⟩=some (.int .i64 (r.method:Nat))∧W.cell? ⟨w.heap.size,3,none⟩=some (.int .i64 (r.time:Nat))∧W.cell? ⟨w.heap.size,4,none⟩=some (.int .i64 (r.date:Nat))∧W.cell? ⟨w.heap.size,5,none⟩=some (.int .i64 (r.packed:Nat))∧W.cell? ⟨w.heap.size,6,none⟩=some (.int .i64 (r.plain:Nat))∧W.cell? ⟨w.heap.size,7,none⟩=some (.int .i64 (r.at_:Nat))∧W.cell? ⟨w.heap.size,8,none⟩=some (.int .i64 (r.extra:Nat))∧W.cell? ⟨w.heap.size,9,none⟩=some (.int .u32 (r.sum:Nat))∧W.cell? ⟨w.heap.size,10,none⟩=some (.slice ra r.remark.length rc)∧W.cell? ⟨g,6,none⟩=some (.int .i64 (s0:Nat))∧W.cell? ⟨g,7,none⟩=some (.int .i64 (s1:Nat))∧W.cell? ⟨g,8,none⟩=some (.int .i64 (s2:Nat))) (first | exact AF.out _ (by repeat (first | with_reducible exact HB4.out | with_reducible exact Below.refl _ _ | with_reducible refine Below.more ?_ (Nat.le_refl _) _ | with_reducible refine bset ?_ _ _ rfl (by simp) | refine below_drewN ?_ 1)) | go_keep) (first
   | (go_at_call 74;(with_reducible refine (K74.out w3.drew).mono ?_);rintro e w4 ⟨rfl,hb4⟩;have HB4:=Lib.hid (HX1.out.on hb4);clear hb4;obtain ⟨t0,t1,t2,t3,t4,t5,t6,t7,t8,t9,t10,t11,t12,t13⟩:=AF.out w4 HB4.out)
   | (go_at_call 74;(with_reducible refine (K74.out (w3.alloc (.cells #[.int .i64 0,.int .i64 0,.int .i64 0] 133)).drew).mono ?_);rintro e w4 ⟨rfl,hb4⟩;have HB4:=Lib.hid (HX2.out.on hb4);have hy:=HZ2.out.below hb4;have y0:=(hy.cell 0).trans (show _=some (.int .i64 0) from rfl);have y1:=(hy.cell 1).trans (show _=some (.int .i64 0) from rfl);have y2:=(hy.cell 2).trans (show _=some (.int .i64 0) from rfl);have f0:=hy.free 0;have f1:=hy.free 1;have f2:=hy.free 2;have ly:=hy.lt;clear hy hb4;obtain ⟨t0,t1,t2,t3,t4,t5,t6,t7,t8,t9,t10,t11,t12,t13⟩:=AF.out w4 HB4.out)
   | (go_at_call 74;(with_reducible refine (K74.out ((w3.alloc (.cells #[.int .i64 0,.int .i64 0,.int .i64 0] 133)).alloc (.cells #[.int .i64 0,.int .i64 0,.int .i64 0] 133)).drew).mono ?_);rintro e w4 ⟨rfl,hb4⟩;have HB4:=Lib.hid (HX3.out.on hb4);have hy:=HZ3.out.below hb4;have y0:=(hy.cell 0).trans (show _=some (.int .i64 0) from rfl);have y1:=(hy.cell 1).trans (show _=some (.int .i64 0) from rfl);have y2:=(hy.cell 2).trans (show _=some (.int .i64 0) from rfl);have f0:=hy.free 0;have f1:=hy.free 1;have f2:=hy.free 2;have ly:=hy.lt;have hy:=HZ4.out.below hb4;have x0:=(hy.cell 0).trans (show _=some (.int .i64 0) from rfl);have x1:=(hy.cell 1).trans (show _=some (.int .i64 0) from rfl);have x2:=(hy.cell 2).trans (show _=some (.int .i64 0) from rfl);have j0:=hy.free 0;have j1:=hy.free 1;have j2:=hy.free 2;have lx:=hy.lt;clear hy hb4;obtain ⟨t0,t1,t2,t3,t4,t5,t6,t7,t8,t9,t10,t11,t12,t13⟩:=AF.out w4 HB4.out))
  all_goals
   go_wp2_with fail
   go_meet
   case rel=>
    refine ⟨_,_,rfl,rfl,?_,?_,?_,?_,?_,?_,Touch.of_below (by repeat (first | with_reducible exact HB4.out | with_reducible exact Below.refl _ _ | with_reducible refine Below.more ?_ (Nat.le_refl _) _ | with_reducible refine bset ?_ _ _ rfl (by simp) | refine below_drewN ?_ 1)),by have:=HB4.out.size;omega⟩
    all_goals go_simp
 case rest=>
 obtain ⟨b9,b10,rfl,rfl,u0,u1,u2,v0,v1,v2,ht,hb9⟩:=hcut
 have hbc:Below w3.heap.size w3 wc:=ht.below (Nat.le_refl _) fun _ h=>h
 have HBc:=Lib.hid (HB3.out.trans (hbc.mono HB3.out.size))
 have HPc:=Lib.hid (HP3.out.below hbc)
 have HQc:=Lib.hid (HQ3.out.below hbc)
 have HRc:=Lib.hid (HR3.out.below hbc)
 have HSE:=Lib.hid (spotE_from f1 (Hsg.out.symm.trans d0) (Hff.out.symm.trans d1) (Hmf.out.symm.trans d2) f3 (Hnl.out.symm.trans (d3.trans HLN.out.symm)) (HNM.out.symm.trans d4) HD.out d5 Hs0.out Hs1.out Hs2.out)
 clear t0 t1 t2 t3 t4 t5 t6 t7 t8 t9 t10 t11 t12 t13 AF K74 HX1 HX2 HX3 HZ2 HZ3 HZ4 HN3 HG3 ht hbc p0 p1
 have q1:=(HQc.out.cell 1).trans (show _=some (.int .i64 (r.flags:Nat)) from rfl)
 have q5:=(HQc.out.cell 5).trans (show _=some (.int .i64 (r.packed:Nat)) from rfl)
 have p0:=(HPc.out.cell 0).trans (show _=some (.int .i64 (r.at_:Nat)) from rfl)
 have p1:=(HPc.out.cell 1).trans (show _=some (.int .i64 (D:Nat)) from rfl)
 have p3:=(HPc.out.cell 3).trans (show _=some (.int .i64 (xl:Nat)) from rfl)
 have p2:=(HPc.out.cell 2).trans (show _=some (.int .i64 0) from rfl)
 have hP2:=HPc.out.free 2
 have hq3c:q3<wc.heap.size:=HPc.out.lt
 by_cases fB:fBehind r.flags=true
 case neg=>
  have hB8:(bits BinOp.and IntKind.i64 (r.flags:Int) 8 != 0)=false:=by simpa [fBehind] using fB
  by_cases own:s0=r.sum∧s1=r.packed∧s2=r.plain
  case neg=>
   have hE1:∀ W,(binOp .eql 133 (.agg #[.int .i64 (s0:Nat),.int .i64 (s1:Nat),.int .i64 (s2:Nat)]) (.agg #[.int .i64 (r.sum:Nat),.int .i64 (r.packed:Nat),.int .i64 (r.plain:Nat)])).run Tryz.prog W = .ok (.bool false) W:=fun W=>by rw [eql133,decide_eq_false own]
   have HE:Hid (spotE ys r=10):=Lib.hid (by rw [HSE.out,if_pos ⟨own,fun h=>fB h.1⟩])
   go_wp2_with (go_at_call 43;refine (zmust_no 10 _).mono ?_;rintro e w' ⟨rfl,rfl⟩)
   exact ⟨rfl,SpotTo.bad 10 HE.out (by decide) HBc.out⟩
  case pos=>
  have hE1:∀ W,(binOp .eql 133 (.agg #[.int .i64 (s0:Nat),.int .i64 (s1:Nat),.int .i64 (s2:Nat)]) (.agg #[.int .i64 (r.sum:Nat),.int .i64 (r.packed:Nat),.int .i64 (r.plain:Nat)])).run Tryz.prog W = .ok (.bool true) W:=fun W=>by rw [eql133,decide_eq_true own]
  have HSE:=Lib.hid (HSE.out.trans (if_neg fun h=>h.1 own))
  obtain ⟨T,hT⟩:∃ T,T=D+r.packed:=⟨_,rfl⟩
  have hw9:IntKind.i64.wrap ((D:Int)+r.packed)=(T:Int):=by rw [wrap_sm _ (by omega) (by omega)];omega
  rw [←hT] at HSE
  have HT:=Lib.hid hT
  clear hT
  go_upto_region 11 with (go_at_call 43;refine (zmust_yes 10 _).mono ?_;rintro e w' ⟨rfl,rfl⟩)
  clear hw9 hE1 p2 hP2
  obtain ⟨wd,hwd⟩:∃ wd,wd=wc.setCell ⟨q3,2,none⟩ (.int .i64 (T:Nat)):=⟨_,rfl⟩
  rw [←hwd]
  have HPd:Hid (Blk wd q3 93 #[.int .i64 (r.at_:Nat),.int .i64 (D:Nat),.int .i64 (T:Nat),.int .i64 (xl:Nat)]):=Lib.hid (by rw [hwd];exact HPc.out.setCell 2 _)
  have hbd:Touch (fun k=>k=q3) wc wd:=by rw [hwd];exact (Touch.refl _ _).setCell _ _ (.inl rfl)
  have HBd:=Lib.hid (touch_low HBc.out hbd (by omega))
  have HRd:=Lib.hid (HRc.out.touch hbd (by omega))
  have d2:=(HPd.out.cell 2).trans (show _=some (.int .i64 (T:Nat)) from rfl)
  clear hwd p0 p1 p3
  by_cases d6:T≤ys.length
  case neg=>
   have z0:¬(T:Int)≤ys.length:=by omega
   have HE:Hid (spotE ys r=15):=Lib.hid (by rw [HSE.out,if_pos (by omega)])
   go_wp2_with (go_at_call 43;refine (zmust_no 15 _).mono ?_;rintro e w' ⟨rfl,rfl⟩)
   exact ⟨rfl,SpotTo.bad 15 HE.out (by decide) HBd.out⟩
  case pos=>
  have z0:(T:Int)≤ys.length:=by omega
  have HSE:Hid (spotE ys r=0):=Lib.hid (by rw [HSE.out,if_neg (by omega),if_neg fun h=>fB h.1])
  have p0:=(HPd.out.cell 0).trans (show _=some (.int .i64 (r.at_:Nat)) from rfl)
  have p1:=(HPd.out.cell 1).trans (show _=some (.int .i64 (D:Nat)) from rfl)
  have p3:=(HPd.out.cell 3).trans (show _=some (.int .i64 (xl:Nat)) from rfl)
  have R0:=(HRd.out.cell 0).trans (show _=some (.int .i64 0) from rfl)
  have R1:=(HRd.out.cell 1).trans (show _=some (.int .i64 0) from rfl)
  have R2:=(HRd.out.cell 2).trans (show _=some (.int .i64 0) from rfl)
  have R3:=(HRd.out.cell 3).trans (show _=some (.int .i64 0) from rfl)
  have r0:=HRd.out.free 0
  have r1:=HRd.out.free 1
  have r2:=HRd.out.free 2
  have r3:=HRd.out.free 3
  have rl:=HRd.out.lt
  go_wp2_with (go_at_call 43;refine (zmust_yes 15 _).mono ?_;rintro e w' ⟨rfl,rfl⟩)
  refine bodyPost_ret (res48 (by kernel_rfl) ((((HRd.out.setCell 0 _).setCell 1 _).setCell 2 _).setCell 3 _)) rfl ⟨?_,.inr ⟨HSE.out,?_⟩⟩
  ·exact touch_low HBd.out (((((Touch.refl (fun k=>k=w.heap.size+1) _).setCell _ _ (.inl rfl)).setCell _ _ (.inl rfl)).setCell _ _ (.inl rfl)).setCell _ _ (.inl rfl)) (by omega)
  ·rw [spotS,HD.out,←HT.out,if_neg fB,←Hxl.out]
   rfl
 case pos=>
 have hB8:(bits BinOp.and IntKind.i64 (r.flags:Int) 8 != 0)=true:=by simpa [fBehind] using fB
 by_cases pass:(s0=r.sum∧s1=r.packed∧s2=r.plain)∨(s0=0∧s1=0∧s2=0)
 case neg=>
  have hE1:∀ W,(binOp .eql 133 (.agg #[.int .i64 (s0:Nat),.int .i64 (s1:Nat),.int .i64 (s2:Nat)]) (.agg #[.int .i64 (r.sum:Nat),.int .i64 (r.packed:Nat),.int .i64 (r.plain:Nat)])).run Tryz.prog W = .ok (.bool false) W:=fun W=>by rw [eql133,decide_eq_false fun h=>pass (.inl h)]
  have hE2:∀ W,(binOp .eql 133 (.agg #[.int .i64 (s0:Nat),.int .i64 (s1:Nat),.int .i64 (s2:Nat)]) (.agg #[.int .i64 0,.int .i64 0,.int .i64 0])).run Tryz.prog W = .ok (.bool false) W:=fun W=>(eql133 s0 s1 s2 0 0 0 W).trans (by rw [decide_eq_false fun h=>pass (.inr h)])
  have HE:Hid (spotE ys r=10):=Lib.hid (by rw [HSE.out,if_pos ⟨fun h=>pass (.inl h),fun h=>pass (.inr h.2)⟩])
  go_wp2_with (go_at_call 43;refine (zmust_no 10 _).mono ?_;rintro e w' ⟨rfl,rfl⟩)
  exact ⟨rfl,SpotTo.bad 10 HE.out (by decide) HBc.out⟩
 case pos=>
 have HSE:=Lib.hid (HSE.out.trans (if_neg fun h=>pass.elim h.1 fun h'=>h.2 ⟨fB,h'⟩))
 go_upto_region 9 with fail
 go_cut [] from 111 (fun wx=>wx=wc)
 case first=>
  by_cases own:s0=r.sum∧s1=r.packed∧s2=r.plain
  ·have hE1:∀ W,(binOp .eql 133 (.agg #[.int .i64 (s0:Nat),.int .i64 (s1:Nat),.int .i64 (s2:Nat)]) (.agg #[.int .i64 (r.sum:Nat),.int .i64 (r.packed:Nat),.int .i64 (r.plain:Nat)])).run Tryz.prog W = .ok (.bool true) W:=fun W=>by rw [eql133,decide_eq_true own]
   go_wp2_with (go_at_call 43;refine (zmust_yes 10 _).mono ?_;rintro e w' ⟨rfl,rfl⟩)
   go_meet
   rfl
  ·have hE1:∀ W,(binOp .eql 133 (.agg #[.int .i64 (s0:Nat),.int .i64 (s1:Nat),.int .i64 (s2:Nat)]) (.agg #[.int .i64 (r.sum:Nat),.int .i64 (r.packed:Nat),.int .i64 (r.plain:Nat)])).run Tryz.prog W = .ok (.bool false) W:=fun W=>by rw [eql133,decide_eq_false own]
   have hE2:∀ W,(binOp .eql 133 (.agg #[.int .i64 (s0:Nat),.int .i64 (s1:Nat),.int .i64 (s2:Nat)]) (.agg #[.int .i64 0,.int .i64 0,.int .i64 0])).run Tryz.prog W = .ok (.bool true) W:=fun W=>(eql133 s0 s1 s2 0 0 0 W).trans (by rw [decide_eq_true (pass.resolve_left own)])
   go_wp2_with (go_at_call 43;refine (zmust_yes 10 _).mono ?_;rintro e w' ⟨rfl,rfl⟩)
   go_meet
   rfl
 case rest=>
 obtain rfl:=hcut
 obtain ⟨T,hT⟩:∃ T,T=D+r.packed:=⟨_,rfl⟩
 have hw9:IntKind.i64.wrap ((D:Int)+r.packed)=(T:Int):=by rw [wrap_sm _ (by omega) (by omega)];omega
 rw [←hT] at HSE
 have HT:=Lib.hid hT
 have hTl:T<10000000000:=by omega
 clear hT
 go_upto_region 11 with fail
 clear hw9 p2 hP2
 obtain ⟨wd,hwd⟩:∃ wd,wd=wc.setCell ⟨q3,2,none⟩ (.int .i64 (T:Nat)):=⟨_,rfl⟩
 rw [←hwd]
 have HPd:Hid (Blk wd q3 93 #[.int .i64 (r.at_:Nat),.int .i64 (D:Nat),.int .i64 (T:Nat),.int .i64 (xl:Nat)]):=Lib.hid (by rw [hwd];exact HPc.out.setCell 2 _)
 have hbd:Touch (fun k=>k=q3) wc wd:=by rw [hwd];exact (Touch.refl _ _).setCell _ _ (.inl rfl)
 have HBd:=Lib.hid (touch_low HBc.out hbd (by omega))
 have HRd:=Lib.hid (HRc.out.touch hbd (by omega))
 have hkb:∀ i v,wc.cell? ⟨b9,i,none⟩=some v→wd.cell? ⟨b9,i,none⟩=some v:=fun i v hv=>by rw [hwd,World.cell?_setCell_far _ _ _ _ (by show q3≠b9;omega)];exact hv
 have HU:=Lib.hid (And.intro (hkb _ _ u0) (And.intro (hkb _ _ u1) (hkb _ _ u2)))
 have d2:=(HPd.out.cell 2).trans (show _=some (.int .i64 (T:Nat)) from rfl)
 clear hwd p0 p1 p3 u0 u1 u2 v0 v1 v2 hkb
 by_cases d6:T≤ys.length
 case neg=>
  have z0:¬(T:Int)≤ys.length:=by omega
  have HE:Hid (spotE ys r=15):=Lib.hid (by rw [HSE.out,if_pos (by omega)])
  go_wp2_with (go_at_call 43;refine (zmust_no 15 _).mono ?_;rintro e w' ⟨rfl,rfl⟩)
  exact ⟨rfl,SpotTo.bad 15 HE.out (by decide) HBd.out⟩
 case pos=>
 have z0:(T:Int)≤ys.length:=by omega
 have KB:=behindSums_any ao cc ys r T wd (HS.out.below HBd.out) hm (by omega)
 obtain ⟨u0,u1,u2⟩:=HU.out
 by_cases bad:signed ys r T=false∧sumsAt ys T r=false
 case pos=>
  have KB2:Hid (Calls Tryz.prog 75 #[.slice ao ys.length cc,.int .i64 T,(.agg #[.int .i64 (r.sum:Nat),.int .i64 (r.packed:Nat),.int .i64 (r.plain:Nat)])] wd fun e w'=>Below wd.heap.size wd w'∧e=zpan 10):=Lib.hid (KB.mono fun e w' h=>⟨h.1,by have:=h.2;rwa [if_pos bad] at this⟩)
  have HE:Hid (spotE ys r=10):=Lib.hid (by rw [HSE.out,if_neg (by omega),if_pos ⟨fB,bad⟩])
  clear KB
  go_wp2_with (first
   | (go_at_call 43;refine (zmust_yes 15 _).mono ?_;rintro e w' ⟨rfl,rfl⟩)
   | (go_at_call 75;refine KB2.out.mono ?_;rintro e w5 ⟨hb5,rfl⟩))
  exact ⟨rfl,SpotTo.bad 10 HE.out (by decide) (HBd.out.trans (hb5.mono HBd.out.size))⟩
 case neg=>
 obtain ⟨U,hU⟩:∃ U,U=behindP ys r T:=⟨_,rfl⟩
 have KB2:Hid (Calls Tryz.prog 75 #[.slice ao ys.length cc,.int .i64 T,(.agg #[.int .i64 (r.sum:Nat),.int .i64 (r.packed:Nat),.int .i64 (r.plain:Nat)])] wd fun e w'=>Below wd.heap.size wd w'∧e = .returned (.int .i64 (U:Nat))):=Lib.hid (KB.mono fun e w' h=>⟨h.1,by have:=h.2;rwa [if_neg bad,←hU] at this⟩)
 have HU:=Lib.hid hU
 have HSE:Hid (spotE ys r=0):=Lib.hid (by rw [HSE.out,if_neg (by omega),if_neg fun h=>bad h.2])
 clear KB hU
 go_wp2_with (first
  | (go_at_call 43;refine (zmust_yes 15 _).mono ?_;rintro e w' ⟨rfl,rfl⟩)
  | (
    go_at_call 75
    refine KB2.out.mono ?_
    rintro e w5 ⟨hb5,rfl⟩
    have HP5:=Lib.hid (HPd.out.below hb5)
    have HR5:=Lib.hid (HRd.out.below hb5)
    have HB5:=Lib.hid (HBd.out.trans (hb5.mono HBd.out.size))
    clear hb5 d2 u0 u1 u2
    have p0:=(HP5.out.cell 0).trans (show _=some (.int .i64 (r.at_:Nat)) from rfl)
    have p1:=(HP5.out.cell 1).trans (show _=some (.int .i64 (D:Nat)) from rfl)
    have p2:=(HP5.out.cell 2).trans (show _=some (.int .i64 (T:Nat)) from rfl)
    have p3:=(HP5.out.cell 3).trans (show _=some (.int .i64 (xl:Nat)) from rfl)
    have hP2:=HP5.out.free 2
    have hq5:q3<w5.heap.size:=HP5.out.lt
    have R0:=(HR5.out.cell 0).trans (show _=some (.int .i64 0) from rfl)
    have R1:=(HR5.out.cell 1).trans (show _=some (.int .i64 0) from rfl)
    have R2:=(HR5.out.cell 2).trans (show _=some (.int .i64 0) from rfl)
    have R3:=(HR5.out.cell 3).trans (show _=some (.int .i64 0) from rfl)
    have r0:=HR5.out.free 0
    have r1:=HR5.out.free 1
    have r2:=HR5.out.free 2
    have r3:=HR5.out.free 3
    have rl:=HR5.out.lt
    have rn1:q3≠w.heap.size+1:=by omega
    have rn2:w.heap.size+1≠q3:=by omega))
 have hR6:Blk (w5.setCell ⟨q3,2,none⟩ (.int .i64 (U:Nat))) (w.heap.size+1) 93 #[.int .i64 0,.int .i64 0,.int .i64 0,.int .i64 0]:=HR5.out.touch ((Touch.refl (fun k=>k=q3) _).setCell _ _ (.inl rfl)) (by omega)
 refine bodyPost_ret (res48 (by kernel_rfl) ((((hR6.setCell 0 _).setCell 1 _).setCell 2 _).setCell 3 _)) rfl ⟨?_,.inr ⟨HSE.out,?_⟩⟩
 ·refine touch_low (touch_low HB5.out ((Touch.refl (fun k=>k=q3) _).setCell _ _ (.inl rfl)) (by omega)) (((((Touch.refl (fun k=>k=w.heap.size+1) _).setCell _ _ (.inl rfl)).setCell _ _ (.inl rfl)).setCell _ _ (.inl rfl)).setCell _ _ (.inl rfl)) (by omega)
 ·rw [spotS,HD.out,←HT.out,if_pos fB,←Hxl.out,←HU.out]
  rfl
structure Rm where
 r:Rw
 ra:Option Addr
 rc:Nat
def rme (x:Rm):List Value:=(rcl x.r x.ra x.rc).toList
def rmc (l:List Rm):List Value:=l.flatMap rme
theorem rme_len (x:Rm):(rme x).length=11:=rfl
theorem rme_one (x:Rm):∀ u∈rme x,u.oneCell'=true:=by
 intro u hu
 simp [rme] at hu
 rcases hu with rfl | rfl | rfl | rfl | rfl | rfl | rfl | rfl | rfl | rfl | rfl <;> rfl
theorem rmc_app (a b:List Rm):rmc (a++b)=rmc a++rmc b:=by simp [rmc]
theorem rmc_at (l:List Rm) (i c:Nat) (hi:i<l.length) (hc:c<11):(rmc l)[i*11+c]? = (rme l[i])[c]? := by
 induction l generalizing i with
 | nil=>simp at hi
 | cons x r ih=>
  cases i with
  | zero=>simp only [rmc,List.flatMap_cons,Nat.zero_mul,Nat.zero_add];rw [List.getElem?_append_left (by rw [rme_len];exact hc)];rfl
  | succ i=>
   simp only [rmc,List.flatMap_cons]
   rw [List.getElem?_append_right (by rw [rme_len];omega),rme_len,show (i+1)*11+c-11=i*11+c by omega]
   exact ih i (by simpa using hi)
theorem at42:AT 42 49 (.agg #[.string ⟨#[]⟩,.int .i64 0,.int .i64 0,.int .i64 0,.int .i64 0,.int .i64 0,.int .i64 0,.int .i64 0,.int .i64 0,.int .u32 0,.slice none 0 0]) 11 112:=⟨by kernel_rfl,by kernel_rfl,rfl,by omega⟩
structure Rms (w:World) (base:Nat) (v:Value) (l:List Rm):Prop where
 own:w.ownsRow base 49 11 v l.length (rmc l)
 sl:∀ x∈l,Cu.Sl w x.ra x.rc x.r.remark
 low:∀ x∈l,∀ ad,x.ra=some ad→base≤ad.block
 apart:∀ x∈l,x.r.remark≠[]→∀ ad,x.ra=some ad→v.ownBlock≠some ad.block
theorem Rms.nil (w:World) (base:Nat):Rms w base (.slice none 0 0) []:=⟨World.ownsRow_nil _ _ _ _,fun x h=>(by cases h),fun x h=>(by cases h),fun x h=>(by cases h)⟩
theorem Rms.touch {S:Nat→Prop} {w w':World} {base:Nat} {v:Value} {l:List Rm} (h:Rms w base v l) (ht:Touch S w w') (hS:∀ k,S k→k<base):Rms w' base v l:=by
 refine ⟨ownsRow_touch h.own ht fun k hk hs=>?_,fun x hx=>(h.sl x hx).touch (touch_cu ht) fun _ ad had hs=>?_,h.low,h.apart⟩
 ·have:=(h.own.lt k hk).1;have:=hS k hs;omega
 ·have:=h.low x hx ad had;have:=hS _ hs;omega
theorem Rms.below {w w':World} {base:Nat} {v:Value} {l:List Rm} (h:Rms w base v l) (hb:Below w.heap.size w w'):Rms w' base v l:=
 ⟨ownsRow_touch h.own (Touch.of_below hb:Touch (fun _=>False) w w') (fun _ _ h=>h),fun x hx=>(h.sl x hx).below hb,h.low,h.apart⟩
theorem Rms.app {w w':World} {base:Nat} {v v':Value} {l:List Rm} {x:Rm} (h:Rms w base v l) (hx:Cu.Sl w x.ra x.rc x.r.remark) (hl:∀ ad,x.ra=some ad→base≤ad.block) (hap:x.r.remark≠[]→∀ ad,x.ra=some ad→v.ownBlock≠some ad.block)
  (hA:Apg w base 49 11 v (l.length+1) (rmc l++rme x) v' w'):Rms w' base v' (l++[x]):=by
 have hall:∀ y∈l++[x],Cu.Sl w y.ra y.rc y.r.remark∧(∀ ad,y.ra=some ad→base≤ad.block)∧(y.r.remark≠[]→∀ ad,y.ra=some ad→v.ownBlock≠some ad.block):=by
  intro y hy
  rcases List.mem_append.1 hy with hy | hy
  ·exact ⟨h.sl y hy,h.low y hy,h.apart y hy⟩
  ·rw [List.mem_singleton] at hy;subst hy;exact ⟨hx,hl,hap⟩
 refine ⟨?_,fun y hy=>?_,fun y hy=>(hall y hy).2.1,fun y hy hne ad had hc=>?_⟩
 ·rw [List.length_append,rmc_app]
  have:rmc [x]=rme x:=by simp [rmc]
  rw [this];exact hA.own
 ·exact (hall y hy).1.touch (touch_cu hA.touch) fun hne ad had hs=>(hall y hy).2.2 hne ad had hs
 ·rcases hA.row _ hc with h1 | h1
  ·exact (hall y hy).2.2 hne ad had h1
  ·have:=(hall y hy).1.block_lt hne ad had
   omega
theorem Rms.at {w:World} {base:Nat} {v:Value} {l:List Rm} (h:Rms w base v l) {i:Nat} (hi:i<l.length):∃ g c,v = .slice (some ⟨g,0,none⟩) l.length c∧g<w.heap.size∧∀ k u,(rme l[i])[k]? = some u→w.cell? ⟨g,i*11+k,none⟩=some u:=by
 obtain ⟨g,c,rfl,_,hlt⟩:=h.own.form (by omega)
 refine ⟨g,c,rfl,hlt,fun k u hu=>?_⟩
 have hk:k<11:=by
  have:=(List.getElem?_eq_some_iff.1 hu).1
  rwa [rme_len] at this
 have:=h.own.cells (g:=g) rfl (i*11+k) u (by rw [rmc_at l i k hi hk];exact hu)
 rwa [Addr.add_lit,Nat.zero_add] at this
end
end Go.Proofs.YthbbpooobaahiaaGreatDoor.Zz
