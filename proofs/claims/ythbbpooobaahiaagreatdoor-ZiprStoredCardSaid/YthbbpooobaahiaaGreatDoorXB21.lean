/- Part 21. -/
import Derived.Test.YthbbpooobaahiaaGreatDoorXB20
namespace Go.Proofs.YthbbpooobaahiaaGreatDoor.Zz
set_option maxRecDepth 100000
section
open Go.RowKit
section
variable {P:Program} {md:Region.Mode} {ops:Array Oper} {Q:Exit→Act→World→Prop} {S:World→Prop} {fuel:Nat} {listed:Array Bool} {w:World} {l:List Value} {ds:List Deferred} {oi:Oper} {k:Nat}
theorem tC (i:Nat) (v:Value) (hS:S w) (h:wpAnyH P md ops Q S fuel (listed.setIfInBounds i true) ⟨(l.set k v).toArray,ds⟩ w) (hi:ops[i]? = some oi:=by rfl) (hk:oi.dst=some k:=by rfl) (hs:Region.noSelect ops=true:=by kernel_rfl) (hf:Region.free md ops listed i=true:=by kernel_rfl)
  (hr:(Region.ready md ops listed).contains i=true:=by kernel_rfl) (hw:Region.wanted oi (yielded ops l.toArray)=true:=by rfl) (hy:∀ W,S W→(execOp (Act.eval ⟨l.toArray,ds⟩) oi).run P W = .ok (.value v) W:=by (intro W hSw;obtain ⟨x0,x1⟩:=hSw;go_simp))
  (hQ:∀ c a w,Q (.panic c) (a.put oi.dst v) w→Q (.panic c) a w:=by (intro c a w h;exact h)):wpAnyH P md ops Q S (fuel+1) listed ⟨l.toArray,ds⟩ w:=tA i v hS h hi hk hs hf hr hw hy hQ
end
def MadeB (bs:List Nat) (w:World) (e:Ending) (w':World):Prop:=∃ ao c,e = .returned (.slice ao bs.length c)∧w'.ownsRow w.heap.size 5 1 (.slice ao bs.length c) bs.length (u8s bs)∧Below w.heap.size w w'
set_option maxHeartbeats 6400000 in
theorem stored_any (no:Option Addr) (nc:Nat) (nm:Nat→ByteArray) (d0:Option Addr) (dc:Nat) (f:Nat→List Nat) (A:Nat→Option Addr) (C:Nat→Nat) (n m:Nat) (w:World) (hN:Txs w no n nm) (hD:Lsb w d0 m f A C) (hnm:n≤m) (hn:n≤12)
  (hsz:∀ i,i<n→(nm i).size≤5000∧(f i).length≤5000) :
  Calls Tryz.prog 21 #[.slice no n nc,.slice d0 m dc] w (MadeB (stoP (stos nm f n)) w):=by
 have HN:=Lib.hid hN
 have HD:=Lib.hid hD
 have HSZ:=Lib.hid hsz
 have HNM:=Lib.hid hnm
 have HT0:=Lib.hid (Twb.start w)
 clear hN hD hsz hnm
 go_enter Tryz.func21,Tryz.ntmps21
 go_wp2
 obtain ⟨w0,hw0⟩:∃ w0,w0=(w.alloc (.cells #[] 5)).alloc (.cells #[] 5):=⟨_,rfl⟩
 rw [←hw0] at HT0 ⊢
 clear hw0
 go_loopw [5,6,7,8] (fun v5 v6 v7 v8 wr=>∃ (i:Nat) (ho:Option Addr) (hc:Nat) (ro:Option Addr) (rc:Nat) (H R:List Nat),i≤n∧v8 = .int .i64 i∧v7 = .int .i64 i∧v5 = .slice ho H.length hc∧v6 = .slice ro R.length rc∧
  Hid (H=HH (stos nm f i))∧Hid (R=RR 0 (stos nm f i))∧Hid (Twb w.heap.size w wr (.slice ho H.length hc) H (.slice ro R.length rc) R)) (fun _ _ _ v8 _=>n-(intOf v8).toNat)
 case atStart=>exact ⟨0,_,_,_,_,[],[],Nat.zero_le _,rfl,rfl,rfl,rfl,Lib.hid rfl,Lib.hid rfl,HT0⟩
 case round=>
  obtain ⟨i,ho,hc,ro,rc,H,R,hi,rfl,rfl,rfl,rfl,hH,hR,htw⟩:=hrel
  by_cases hlt:i<n
  ·have hii:(i:Int)<n:=by omega
   have him:(i:Int)<m:=by have:=HNM.out;omega
   obtain ⟨nb,noff,rfl,hnc⟩:∃ b off,no=some ⟨b,off,none⟩∧∀ i,i<n→w.cell? ⟨b,off+i,none⟩=some (.string (nm i)):=by
    rcases HN.out with h | h
    ·omega
    ·exact h
   obtain ⟨db,doff,rfl,hdc⟩:∃ b off,d0=some ⟨b,off,none⟩∧∀ i,i<m→El w ⟨b,off+i,none⟩ (A i) (C i) (f i):=by
    rcases HD.out with h | h
    ·have:=HNM.out;omega
    ·exact h
   have hcn:=hnc i hlt
   have hcd:=hdc i (by have:=HNM.out;omega)
   obtain ⟨hs1,hs2⟩:=HSZ.out i hlt
   obtain ⟨b1,b2⟩:=HH_small (f:=f) (nm:=nm) (n:=i) fun j hj=>HSZ.out j (by omega)
   rw [←hH.out] at b1
   rw [←hR.out] at b2
   have HHn:=Lib.hid (HH_next nm f i)
   have HRn:=Lib.hid (RR_next nm f i)
   rw [←hH.out] at HHn HRn
   rw [←hR.out] at HRn
   obtain ⟨s,hs⟩:∃ s,s=nm i:=⟨_,rfl⟩
   obtain ⟨xs,hxs⟩:∃ xs,xs=f i:=⟨_,rfl⟩
   obtain ⟨da,hda⟩:∃ da,da=A i:=⟨_,rfl⟩
   obtain ⟨dcc,hdcc⟩:∃ dcc,dcc=C i:=⟨_,rfl⟩
   obtain ⟨U,hU⟩:∃ U,U=(CrcPlain.updN 0#32 xs).toNat:=⟨_,rfl⟩
   have hx:stoOf nm f i=⟨s,xs,U⟩:=by unfold stoOf;rw [hU,hs,hxs]
   rw [hx] at HHn HRn
   rw [←hs] at hcn hs1
   rw [←hxs] at hs2 hcd
   rw [←hda,←hdcc] at hcd
   have hUb:U<4294967296:=by rw [hU];exact (CrcPlain.updN 0#32 xs).isLt
   have hcv:∀ W,(convert 47 3 (.int .u32 (U:Nat))).run Tryz.prog W = .ok (.int .i64 (U:Nat)) W:=fun W=>by
    have hw:IntKind.i64.wrap (U:Int)=(U:Int):=wrap_sm _ (by omega) (by omega)
    have hk:Tryz.prog.intKind 3 = .i64:=by kernel_rfl
    rw [run_convert_int W 47 3 .u32 (U:Int) (by kernel_rfl) (by rw [hk];exact Tryz.underlying3),hk,hw]
   have HUB:=Lib.hid hUb
   have HU:=Lib.hid hU
   have HEL:=Lib.hid hcd
   have HCN:=Lib.hid hcn
   have hbw:=htw.out.below
   have hel:=hcd.below hbw
   have hcell:=hel.cell
   have hnw:wr.cell? ⟨nb,noff+i,none⟩=some (.string s):=(hbw.cell (World.block_lt_of_cell? w _ hcn)).trans hcn
   have K40:=Cr.sum_any da dcc xs wr (by omega) hel.sl.bs hel.sl.src
   rw [←hU] at K40
   have K40:=Lib.hid K40
   clear hs hxs hda hdcc hU hx hUb hnc hdc hcn hcd hel hbw
   go_upto_region 8 with (go_at_call 40;refine K40.out.mono ?_;rintro e w1 ⟨rfl,hb1⟩)
   have HB1:=Lib.hid hb1
   have hTW1:=htw.out.grow hb1
   have HX1:Hid (Touch (fun k=>w.heap.size≤k) w w1):=Lib.hid (Touch.of_below hTW1.below)
   have HTW1:=Lib.hid hTW1
   have hb0s:db<w.heap.size:=World.block_lt_of_cell? w _ HEL.out.cell
   have hn0s:nb<w.heap.size:=World.block_lt_of_cell? w _ HCN.out
   have AF:Hid (∀ W,Touch (fun k=>w.heap.size≤k) w W→W.cell? ⟨db,doff+i,none⟩=some (.slice da xs.length dcc)∧W.cell? ⟨nb,noff+i,none⟩=some (.string s)):=Lib.hid fun W hW=>
    ⟨(World.cell?_of_block (hW.block db hb0s (by omega))).trans HEL.out.cell,(World.cell?_of_block (hW.block nb hn0s (by omega))).trans HCN.out⟩
   obtain ⟨SB,hSB⟩:∃ SB,SB=stoB ⟨s,xs,U⟩:=⟨_,rfl⟩
   have hSBl:SB.length=16:=by rw [hSB];exact stoB_len _
   have K41:Hid (∀ (W:World) (g:Nat),Blk W g 84 #[.int .i64 1,.int .i64 (U:Nat),.slice none 0 0,.int .i64 1,.int .i64 (xs.length:Nat),.slice none 0 0,.int .i64 1,.int .i64 (xs.length:Nat),.slice none 0 0,.int .i64 0,.int .i64 (s.size:Nat),.slice none 0 0,.int .i64 0,.int .i64 0,.slice none 0 0]→
     Calls Tryz.prog 41 #[.slice (some ⟨g,0,none⟩) 5 5] W (Cu.WrOk SB W)):=Lib.hid fun W g hb=>
    Cu.write_any (some ⟨g,0,none⟩) 5 [⟨⟨1,U,[]⟩,none,0⟩,⟨⟨1,xs.length,[]⟩,none,0⟩,⟨⟨1,xs.length,[]⟩,none,0⟩,⟨⟨0,s.size,[]⟩,none,0⟩,⟨⟨0,0,[]⟩,none,0⟩] W (fs_lit hb (by intro x hx;simp at hx;rcases hx with rfl | rfl | rfl | rfl <;> exact ⟨rfl,rfl,rfl⟩)) (by simp) SB (by rw [hSB];exact wrt_stoB U xs.length s.size) (by rw [hSBl];omega)
   have HSB:=Lib.hid hSB
   have HSBl:=Lib.hid hSBl
   have hcell1:=(AF.out w1 HX1.out).1
   have hnw1:=(AF.out w1 HX1.out).2
   have HTWR:=Lib.hid htw.out
   clear hSB hSBl hcell hnw hTW1 hb1 K40 htw
   go_region_held3 (fun W=>W.cell? ⟨db,doff+i,none⟩=some (.slice da xs.length dcc)∧W.cell? ⟨nb,noff+i,none⟩=some (.string s)) (exact AF.out _ (by repeat (first | with_reducible exact HX2.out | with_reducible exact HX1.out | with_reducible refine Touch.alloc ?_ _ | refine Touch.drew ?_))) (first
    | (go_at_call 41;refine (K41.out _ _ (show Blk (w1.alloc (.cells _ 84)).drew w1.heap.size 84 _ from Blk.made w1 84 _)).mono ?_;rintro e w2 ⟨bo,bc,rfl,hown2,hb2⟩;have hszz:w1.heap.size≤(w1.alloc (.cells #[.int .i64 1,.int .i64 (U:Nat),.slice none 0 0,.int .i64 1,.int .i64 (xs.length:Nat),.slice none 0 0,.int .i64 1,.int .i64 (xs.length:Nat),.slice none 0 0,.int .i64 0,.int .i64 (s.size:Nat),.slice none 0 0,.int .i64 0,.int .i64 0,.slice none 0 0] 84)).drew.heap.size:=(((Below.refl w1.heap.size w1).alloc (Nat.le_refl _) _).drew).size;have hb2:Below w1.heap.size w1 w2:=(((Below.refl w1.heap.size w1).alloc (Nat.le_refl _) _).drew).trans (hb2.mono hszz);have HB2:=Lib.hid hb2;have HX2:Hid (Touch (fun k=>w.heap.size≤k) w w2):=Lib.hid (HX1.out.trans (Touch.of_below hb2));have HO2:Hid (w2.ownsRow w1.heap.size 5 1 (.slice bo SB.length bc) SB.length (u8s SB)):=Lib.hid (own_base hown2 hszz);clear hown2 hb2 hszz))
   clear hcell1 hnw1 K41
   obtain ⟨L16,hL16⟩:∃ L16:List Nat,L16=[80,75,1,2,20,0,20,0,0,0,0,0,0,0,33,0]:=⟨_,rfl⟩
   obtain ⟨Z10,hZ10⟩:∃ Z10:List Nat,Z10=[0,0,0,0,0,0,0,0,0,0]:=⟨_,rfl⟩
   obtain ⟨L14,hL14⟩:∃ L14:List Nat,L14=[80,75,3,4,20,0,0,0,0,0,0,0,33,0]:=⟨_,rfl⟩
   have HL16:=Lib.hid hL16
   have HZ10:=Lib.hid hZ10
   have HL14:=Lib.hid hL14
   have l16:Hid (L16.length=16):=Lib.hid (by rw [hL16];rfl)
   have l10:Hid (Z10.length=10):=Lib.hid (by rw [hZ10];rfl)
   have l14:Hid (L14.length=14):=Lib.hid (by rw [hL14];rfl)
   clear hL16 hZ10 hL14
   obtain ⟨LE,hLE⟩:∃ LE,LE=Cu.le (H.length:Nat) 4:=⟨_,rfl⟩
   have hLEl:LE.length=4:=by rw [hLE];exact Cu.le_len _ _
   have HLE:=Lib.hid hLE
   have HLEl:=Lib.hid hLEl
   clear hLE hLEl
   obtain ⟨NM,hNM⟩:∃ NM,NM=nmB s:=⟨_,rfl⟩
   have HNMB:=Lib.hid hNM
   have HNML:Hid (NM.length=s.size):=Lib.hid (by rw [hNM];exact nmB_len s)
   clear hNM
   obtain ⟨RW2,hRW2⟩:∃ RW2,RW2=L16++SB:=⟨_,rfl⟩
   have ERW2:=Lib.hid hRW2
   have lRW2:Hid (RW2.length=L16.length+SB.length):=Lib.hid (by rw [hRW2,List.length_append])
   clear hRW2
   obtain ⟨RW3,hRW3⟩:∃ RW3,RW3=RW2++Z10:=⟨_,rfl⟩
   have ERW3:=Lib.hid hRW3
   have lRW3:Hid (RW3.length=RW2.length+Z10.length):=Lib.hid (by rw [hRW3,List.length_append])
   clear hRW3
   obtain ⟨ROW,hROW⟩:∃ ROW,ROW=RW3++LE:=⟨_,rfl⟩
   have EROW:=Lib.hid hROW
   have lROW:Hid (ROW.length=RW3.length+LE.length):=Lib.hid (by rw [hROW,List.length_append])
   clear hROW
   obtain ⟨R1,hR1⟩:∃ R1,R1=R++ROW:=⟨_,rfl⟩
   have ER1:=Lib.hid hR1
   have lR1:Hid (R1.length=R.length+ROW.length):=Lib.hid (by rw [hR1,List.length_append])
   clear hR1
   obtain ⟨R2,hR2⟩:∃ R2,R2=R1++NM:=⟨_,rfl⟩
   have ER2:=Lib.hid hR2
   have lR2:Hid (R2.length=R1.length+NM.length):=Lib.hid (by rw [hR2,List.length_append])
   clear hR2
   obtain ⟨HDL,hHDL⟩:∃ HDL,HDL=L14++SB:=⟨_,rfl⟩
   have EHDL:=Lib.hid hHDL
   have lHDL:Hid (HDL.length=L14.length+SB.length):=Lib.hid (by rw [hHDL,List.length_append])
   clear hHDL
   obtain ⟨H1,hH1⟩:∃ H1,H1=H++HDL:=⟨_,rfl⟩
   have EH1:=Lib.hid hH1
   have lH1:Hid (H1.length=H.length+HDL.length):=Lib.hid (by rw [hH1,List.length_append])
   clear hH1
   obtain ⟨H2,hH2⟩:∃ H2,H2=H1++NM:=⟨_,rfl⟩
   have EH2:=Lib.hid hH2
   have lH2:Hid (H2.length=H1.length+NM.length):=Lib.hid (by rw [hH2,List.length_append])
   clear hH2
   obtain ⟨H3,hH3⟩:∃ H3,H3=H2++xs:=⟨_,rfl⟩
   have EH3:=Lib.hid hH3
   have lH3:Hid (H3.length=H2.length+xs.length):=Lib.hid (by rw [hH3,List.length_append])
   clear hH3
   have hBy2:=BySl.own HO2.out
   have HBY2:=Lib.hid (by_grow hBy2 ((Below.refl w2.heap.size w2).alloc (Nat.le_refl _) (.cells (u8s [80,75,1,2,20,0,20,0,0,0,0,0,0,0,33,0]).toArray 5)))
   have HOW2:Hid ((w2.alloc (.cells (u8s [80,75,1,2,20,0,20,0,0,0,0,0,0,0,33,0]).toArray 5)).ownsRow w2.heap.size 5 1 (.slice (some ⟨w2.heap.size,0,none⟩) 16 16) L16.length (u8s L16)):=Lib.hid (by rw [l16.out,HL16.out];exact own_lits w2 w2.heap.size [80,75,1,2,20,0,20,0,0,0,0,0,0,0,33,0] _ 16 (Nat.le_refl _) rfl rfl (by decide))
   clear hBy2
   go_upto_region 10 with (refine wpList_append_x rfl (.tmp 57) (.tmp 58) rfl w2.heap.size (.slice (some ⟨w2.heap.size,0,none⟩) 16 16) (.slice bo SB.length bc) L16 SB rfl rfl HOW2.out HBY2.out (by rw [alloc_size];omega) (by rw [l16.out,HSBl.out];omega) ?_;intro ro3 rc3 w3 hA;rw [←ERW2.out] at hA ⊢;have HO3:=Lib.hid hA.own;have HB3:Hid (Below w2.heap.size w2 w3):=Lib.hid (((Below.refl w2.heap.size w2).alloc (Nat.le_refl _) (.cells (u8s [80,75,1,2,20,0,20,0,0,0,0,0,0,0,33,0]).toArray 5)).trans (hA.touch.below (by rw [alloc_size];omega) fun k hk=>(HOW2.out.lt k hk).1));clear hA)
   have hsz3:=HB3.out.size
   go_upto_region 11 with (refine wpList_append_x rfl (.tmp 60) (.tmp 61) rfl w2.heap.size (.slice ro3 RW2.length rc3) (.slice (some ⟨w3.heap.size,0,none⟩) 10 10) RW2 Z10 rfl rfl (World.ownsRow.alloc (w:=w3) HO3.out _) (by rw [HZ10.out];exact by_lit w3 _ _ 10 _ rfl rfl rfl) (by rw [alloc_size];omega) (by rw [lRW2.out,l16.out,HSBl.out,l10.out];omega) ?_;intro ro4 rc4 w4 hA;rw [←ERW3.out] at hA ⊢;have HO4:=Lib.hid hA.own;have HB4:Hid (Below w2.heap.size w2 w4):=Lib.hid (HB3.out.trans (((Below.refl w3.heap.size w3).alloc (Nat.le_refl _) (.cells (u8s [0,0,0,0,0,0,0,0,0,0]).toArray 5)).mono hsz3 |>.trans (hA.touch.below (by rw [alloc_size];omega) fun k hk=>(HO3.out.lt k hk).1)));clear hA)
   have hsz4:=HB4.out.size
   have K41b:Hid (∀ (W:World) (g:Nat),Blk W g 84 #[.int .i64 1,.int .i64 (H.length:Nat),.slice none 0 0]→Calls Tryz.prog 41 #[.slice (some ⟨g,0,none⟩) 1 1] W (Cu.WrOk LE W)):=Lib.hid fun W g hb=>
    Cu.write_any (some ⟨g,0,none⟩) 1 [⟨⟨1,H.length,[]⟩,none,0⟩] W (fs_lit hb (by intro x hx;simp at hx;subst hx;exact ⟨rfl,rfl,rfl⟩)) (by simp) LE (by rw [HLE.out];simp [Cu.wrt,Cu.wf]) (by rw [HLEl.out];omega)
   go_upto_region 12 with (first
    | (go_at_call 41;refine (K41b.out _ _ (show Blk (w4.alloc (.cells _ 84)) w4.heap.size 84 _ from Blk.made w4 84 _)).mono ?_;rintro e w5 ⟨ao5,c5,rfl,hown5,hb5⟩;have hszz:w4.heap.size≤(w4.alloc (.cells #[.int .i64 1,.int .i64 (H.length:Nat),.slice none 0 0] 84)).heap.size:=(by rw [alloc_size];omega);have hb5:Below w4.heap.size w4 w5:=((Below.refl w4.heap.size w4).alloc (Nat.le_refl _) (.cells #[.int .i64 1,.int .i64 (H.length:Nat),.slice none 0 0] 84)).trans (hb5.mono hszz);have HB5:=Lib.hid hb5;have HBY5:=Lib.hid (BySl.own hown5);have HO5:Hid (w5.ownsRow w2.heap.size 5 1 (.slice ro4 RW3.length rc4) RW3.length (u8s RW3)):=Lib.hid (ownsRow_touch HO4.out (Touch.of_below hb5:Touch (fun _=>False) w4 w5) (fun _ _ h=>h));clear hown5 hb5 hszz)
    | (refine wpList_append_x rfl (.tmp 63) (.tmp 68) rfl w2.heap.size (.slice ro4 RW3.length rc4) (.slice ao5 LE.length c5) RW3 LE rfl rfl HO5.out HBY5.out (by have:=HB5.out.size;omega) (by rw [lRW3.out,lRW2.out,l16.out,HSBl.out,l10.out,HLEl.out];omega) ?_;intro ro6 rc6 w6 hA;rw [←EROW.out] at hA ⊢;have HO6:=Lib.hid hA.own;have HB6:Hid (Below w2.heap.size w2 w6):=Lib.hid (HB4.out.trans ((HB5.out.mono hsz4).trans (hA.touch.below (by have:=HB5.out.size;omega) fun k hk=>(HO5.out.lt k hk).1)));clear hA))
   have hb26:Below w1.heap.size w1 w6:=HB2.out.trans (HB6.out.mono HB2.out.size)
   have hB16:Below wr.heap.size wr w6:=HB1.out.trans (hb26.mono HB1.out.size)
   have hszw:w.heap.size≤wr.heap.size:=HTWR.out.size
   have hT6:Trb w.heap.size w w6.drew (.slice ho H.length hc) H (.slice ro R.length rc) R (.slice bo SB.length bc) SB:=by
    have h2:=ownsRow_touch HO2.out (Touch.of_below HB6.out:Touch (fun _=>False) w2 w6) (fun _ _ h=>h)
    refine Trb.grow (Trb.new (HTWR.out.grow hB16) (own_base h2 (by have:=HB1.out.size;omega)) (b:=w1.heap.size) (fun k hk=>Nat.lt_of_lt_of_le (HTWR.out.own1.lt k hk).2 HB1.out.size) (fun k hk=>Nat.lt_of_lt_of_le (HTWR.out.own2.lt k hk).2 HB1.out.size) (fun k hk=>(HO2.out.lt k hk).1)) ((Below.refl _ w6).drew)
   have HT6:=Lib.hid hT6
   have hbyR:BySl w6.drew (.slice ro6 ROW.length rc6) ROW:=by_grow (BySl.own HO6.out) ((Below.refl _ w6).drew)
   have HBYR:=Lib.hid hbyR
   have HX6:Hid (Touch (fun k=>w.heap.size≤k) w w6.drew):=Lib.hid (Touch.of_below hT6.tw.below)
   obtain ⟨NEW,CAP,hcvt,hnb,hnt,hnz⟩:=text_run s
   have HNB:=Lib.hid hnb
   have HNT:Hid (∀ W,BySl (NEW W) (.slice (some ⟨W.heap.size,0,none⟩) s.size (CAP W)) NM):=Lib.hid (by rw [HNMB.out];exact hnt)
   have HNZ:=Lib.hid hnz
   have hcell1:=(AF.out w6.drew HX6.out).1
   have hnw1:=(AF.out w6.drew HX6.out).2
   have lim:Hid (H.length≤120360∧R.length≤60552):=Lib.hid ⟨by omega,by omega⟩
   have hb6s:w.heap.size≤w6.drew.heap.size:=hT6.tw.size
   have HB6S:=Lib.hid hb6s
   clear hnb hnt hnz hT6 hbyR hb26 hB16 b1 b2 hb6s
   refine wp_region_held_drew (S:=fun W=>W.cell? ⟨db,doff+i,none⟩=some (.slice da xs.length dcc)∧W.cell? ⟨nb,noff+i,none⟩=some (.string s)) (by kernel_rfl) ⟨hcell1,hnw1⟩ (fun hHeld=>?_)
   refine tC 0 (.slice ro R.length rc) hHeld ?_
   refine tC 1 (.slice ro6 ROW.length rc6) hHeld ?_
   refine tC 3 (.slice (some ⟨nb,noff,none⟩) n nc) hHeld ?_
   refine tC 4 (.int .i64 i) hHeld ?_
   refine tC 5 (.pointer (some ⟨nb,noff+i,none⟩)) hHeld ?_
   refine tC 6 (.string s) hHeld ?_
   try simp only [List.set_cons_zero,List.set_cons_succ]
   refine wpAnyH_ready (rs:=[2,7]) (by kernel_rfl) (by simp) ?_
   refine AllReadyH.cons (o:={ dst:=some 72,op:=Op.call { callee:=Callee.builtin Builtin.append,args := #[Operand.tmp 70,Operand.tmp 71],argTypes := #[22,22] },type:=22,pos := "law.go:24",after := #[{ on:=0,ground:=Ground.data },{ on:=1,ground:=Ground.data }],guard:=none }) rfl (fun K hK=>?_) (AllReadyH.cons (o:={ dst:=some 77,op:=Op.convert 9 22 (Operand.tmp 76),type:=22,pos := "law.go:24",after := #[{ on:=6,ground:=Ground.data }],guard:=none }) rfl (fun K hK=>?_) AllReadyH.nil)
   refine step_append_x rfl (.tmp 70) (.tmp 71) rfl w.heap.size (.slice ro R.length rc) (.slice ro6 ROW.length rc6) R ROW rfl rfl HT6.out.tw.own2 HBYR.out HB6S.out (by rw [lROW.out,lRW3.out,lRW2.out,l16.out,HSBl.out,l10.out,HLEl.out];have:=lim.out.2;omega) ?_
   intro ro7 rc7 w7 hA
   rw [←ER1.out] at hA ⊢
   have hT7:=HT6.out.app2 hA
   have HT7:=Lib.hid hT7
   have HX7:Hid (Touch (fun k=>w.heap.size≤k) w w7):=Lib.hid (Touch.of_below hT7.tw.below)
   have HO7:Hid ((NEW w7).ownsRow w.heap.size 5 1 (.slice ro7 R1.length rc7) R1.length (u8s R1)):=Lib.hid (Trb.grow hT7 (HNB.out w7)).tw.own2
   have HG7:Hid (Trb w.heap.size w (NEW w7) (.slice ho H.length hc) H (.slice ro7 R1.length rc7) R1 (.slice bo SB.length bc) SB):=Lib.hid (Trb.grow hT7 (HNB.out w7))
   have HY7:Hid (BySl (NEW w7) (.slice (some ⟨w7.heap.size,0,none⟩) s.size (CAP w7)) NM):=Lib.hid (HNT.out w7)
   have HZ7:Hid (w.heap.size≤(NEW w7).heap.size):=Lib.hid HG7.out.tw.size
   clear hA hT7
   refine hK.out _ _ (AF.out _ HX7.out) (fun hHeld=>?_)
   try simp only [Act.put,List.setIfInBounds_toArray,List.set_cons_zero,List.set_cons_succ]
   refine wpAnyH_ready (rs:=[7]) (by kernel_rfl) (by simp) ?_
   refine AllReadyH.cons (o:={ dst:=some 77,op:=Op.convert 9 22 (Operand.tmp 76),type:=22,pos := "law.go:24",after := #[{ on:=6,ground:=Ground.data }],guard:=none }) rfl (fun K hK=>?_) AllReadyH.nil
   go_simp
   refine hK.out _ _ (AF.out _ (HX7.out.trans (Touch.of_below (HNB.out _)))) (fun hHeld=>?_)
   try simp only [Act.put,List.setIfInBounds_toArray,List.set_cons_zero,List.set_cons_succ]
   refine wpAnyH_ready (rs:=[8]) (by kernel_rfl) (by simp) ?_
   refine AllReadyH.cons (o:={ dst:=some 78,op:=Op.call { callee:=Callee.builtin Builtin.append,args := #[Operand.tmp 72,Operand.tmp 77],argTypes := #[22,22] },type:=22,pos := "law.go:24",after := #[{ on:=2,ground:=Ground.data },{ on:=7,ground:=Ground.data },{ on:=2,ground:=Ground.chain }],guard:=none }) rfl (fun K hK=>?_) AllReadyH.nil
   refine step_append_x rfl (.tmp 72) (.tmp 77) rfl w.heap.size (.slice ro7 R1.length rc7) (.slice (some ⟨_,0,none⟩) s.size _) R1 NM rfl rfl HO7.out HY7.out HZ7.out (by rw [lR1.out,lROW.out,lRW3.out,lRW2.out,l16.out,HSBl.out,l10.out,HLEl.out,HNML.out];have:=lim.out.2;omega) ?_
   intro ro8 rc8 w8 hA
   rw [←ER2.out] at hA ⊢
   have hT8:=HG7.out.app2 hA
   have HT8:=Lib.hid hT8
   have HX8:Hid (Touch (fun k=>w.heap.size≤k) w w8):=Lib.hid (Touch.of_below hT8.tw.below)
   clear hA hT8
   refine hK.out _ _ (AF.out _ HX8.out) (fun hHeld=>?_)
   try simp only [Act.put,List.setIfInBounds_toArray,List.set_cons_zero,List.set_cons_succ]
   refine tC 9 (.slice ro8 R2.length rc8) hHeld ?_
   refine wpAnyH_done (by kernel_rfl) ?_ _
   simp only [List.set_cons_zero,List.set_cons_succ]
   rotate_left
   go_simp
   refine hK.out _ _ (AF.out _ (HX6.out.trans (Touch.of_below (HNB.out _)))) (fun hHeld=>?_)
   try simp only [Act.put,List.setIfInBounds_toArray,List.set_cons_zero,List.set_cons_succ]
   refine wpAnyH_ready (rs:=[2]) (by kernel_rfl) (by simp) ?_
   refine AllReadyH.cons (o:={ dst:=some 72,op:=Op.call { callee:=Callee.builtin Builtin.append,args := #[Operand.tmp 70,Operand.tmp 71],argTypes := #[22,22] },type:=22,pos := "law.go:24",after := #[{ on:=0,ground:=Ground.data },{ on:=1,ground:=Ground.data }],guard:=none }) rfl (fun K hK=>?_) AllReadyH.nil
   refine step_append_x rfl (.tmp 70) (.tmp 71) rfl w.heap.size (.slice ro R.length rc) (.slice ro6 ROW.length rc6) R ROW rfl rfl (Trb.grow HT6.out (HNB.out w6.drew)).tw.own2 (by_grow HBYR.out (HNB.out w6.drew)) (Trb.grow HT6.out (HNB.out w6.drew)).tw.size (by rw [lROW.out,lRW3.out,lRW2.out,l16.out,HSBl.out,l10.out,HLEl.out];have:=lim.out.2;omega) ?_
   intro ro7 rc7 w7 hA
   rw [←ER1.out] at hA ⊢
   have hG6:=Trb.grow HT6.out (HNB.out w6.drew)
   have hT7:=hG6.app2 hA
   have HX7:Hid (Touch (fun k=>w.heap.size≤k) w w7):=Lib.hid (Touch.of_below hT7.tw.below)
   have HO7:Hid (w7.ownsRow w.heap.size 5 1 (.slice ro7 R1.length rc7) R1.length (u8s R1)):=Lib.hid hT7.tw.own2
   have HG7:Hid (Trb w.heap.size w w7 (.slice ho H.length hc) H (.slice ro7 R1.length rc7) R1 (.slice bo SB.length bc) SB):=Lib.hid hT7
   have HY7:Hid (BySl w7 (.slice (some ⟨w6.heap.size,0,none⟩) s.size (CAP w6.drew)) NM):=Lib.hid (by_apart (HNT.out w6.drew) hA.touch (fun hk=>by have:=(HT6.out.tw.own2.lt _ hk).2;exact Nat.lt_irrefl _ this) (by rw [HNZ.out];exact Nat.lt_succ_self _))
   have HZ7:Hid (w.heap.size≤w7.heap.size):=Lib.hid hT7.tw.size
   clear hA hT7 hG6
   refine hK.out _ _ (AF.out _ HX7.out) (fun hHeld=>?_)
   try simp only [Act.put,List.setIfInBounds_toArray,List.set_cons_zero,List.set_cons_succ]
   refine wpAnyH_ready (rs:=[8]) (by kernel_rfl) (by simp) ?_
   refine AllReadyH.cons (o:={ dst:=some 78,op:=Op.call { callee:=Callee.builtin Builtin.append,args := #[Operand.tmp 72,Operand.tmp 77],argTypes := #[22,22] },type:=22,pos := "law.go:24",after := #[{ on:=2,ground:=Ground.data },{ on:=7,ground:=Ground.data },{ on:=2,ground:=Ground.chain }],guard:=none }) rfl (fun K hK=>?_) AllReadyH.nil
   refine step_append_x rfl (.tmp 72) (.tmp 77) rfl w.heap.size (.slice ro7 R1.length rc7) (.slice (some ⟨_,0,none⟩) s.size _) R1 NM rfl rfl HO7.out HY7.out HZ7.out (by rw [lR1.out,lROW.out,lRW3.out,lRW2.out,l16.out,HSBl.out,l10.out,HLEl.out,HNML.out];have:=lim.out.2;omega) ?_
   intro ro8 rc8 w8 hA
   rw [←ER2.out] at hA ⊢
   have hT8:=HG7.out.app2 hA
   have HT8:=Lib.hid hT8
   have HX8:Hid (Touch (fun k=>w.heap.size≤k) w w8):=Lib.hid (Touch.of_below hT8.tw.below)
   clear hA hT8
   refine hK.out _ _ (AF.out _ HX8.out) (fun hHeld=>?_)
   try simp only [Act.put,List.setIfInBounds_toArray,List.set_cons_zero,List.set_cons_succ]
   refine tC 9 (.slice ro8 R2.length rc8) hHeld ?_
   refine wpAnyH_done (by kernel_rfl) ?_ _
   simp only [List.set_cons_zero,List.set_cons_succ]
   all_goals
    have HOW8:Hid ((w8.alloc (.cells (u8s [80,75,3,4,20,0,0,0,0,0,0,0,33,0]).toArray 5)).ownsRow w8.heap.size 5 1 (.slice (some ⟨w8.heap.size,0,none⟩) 14 14) L14.length (u8s L14)):=Lib.hid (by rw [l14.out,HL14.out];exact own_lits w8 w8.heap.size [80,75,3,4,20,0,0,0,0,0,0,0,33,0] _ 14 (Nat.le_refl _) rfl rfl (by decide))
    have HBY8:=Lib.hid (by_grow (BySl.own HT8.out.own3) ((Below.refl w8.heap.size w8).alloc (Nat.le_refl _) (.cells (u8s [80,75,3,4,20,0,0,0,0,0,0,0,33,0]).toArray 5)))
    go_upto_region 14 with (refine wpList_append_x rfl (.tmp 79) (.tmp 80) rfl w8.heap.size (.slice (some ⟨w8.heap.size,0,none⟩) 14 14) (.slice bo SB.length bc) L14 SB rfl rfl HOW8.out HBY8.out (by rw [alloc_size];omega) (by rw [l14.out,HSBl.out];omega) ?_;intro ho9 hc9 w9 hA;rw [←EHDL.out] at hA ⊢;have HO9:=Lib.hid hA.own;have HB9:Hid (Below w8.heap.size w8 w9):=Lib.hid (((Below.refl w8.heap.size w8).alloc (Nat.le_refl _) (.cells (u8s [80,75,3,4,20,0,0,0,0,0,0,0,33,0]).toArray 5)).trans (hA.touch.below (by rw [alloc_size];omega) fun k hk=>(HOW8.out.lt k hk).1));clear hA)
    have hT9:=Trb.grow (Trb.grow HT8.out HB9.out) ((Below.refl _ w9).drew)
    have HT9:=Lib.hid hT9
    have HBYH:=Lib.hid (by_grow (BySl.own HO9.out) ((Below.refl _ w9).drew))
    have HX9:Hid (Touch (fun k=>w.heap.size≤k) w w9.drew):=Lib.hid (Touch.of_below hT9.tw.below)
    have hcell1:=(AF.out w9.drew HX9.out).1
    have hnw1:=(AF.out w9.drew HX9.out).2
    have HB9S:Hid (w.heap.size≤w9.drew.heap.size):=Lib.hid hT9.tw.size
    have HDAT:Hid (BySl w (.slice da xs.length dcc) xs):=Lib.hid (sl_by HEL.out.sl)
    clear hT9
    refine wp_region_held_drew (S:=fun W=>W.cell? ⟨db,doff+i,none⟩=some (.slice da xs.length dcc)∧W.cell? ⟨nb,noff+i,none⟩=some (.string s)) (by kernel_rfl) ⟨hcell1,hnw1⟩ (fun hHeld=>?_)
    refine tC 0 (.slice ho H.length hc) hHeld ?_
    refine tC 1 (.slice ho9 HDL.length hc9) hHeld ?_
    refine tC 3 (.slice (some ⟨nb,noff,none⟩) n nc) hHeld ?_
    refine tC 4 (.int .i64 i) hHeld ?_
    refine tC 5 (.pointer (some ⟨nb,noff+i,none⟩)) hHeld ?_
    refine tC 6 (.string s) hHeld ?_
    refine tC 9 (.slice (some ⟨db,doff,none⟩) m dc) hHeld ?_
    refine tC 10 (.int .i64 i) hHeld ?_
    refine tC 11 (.pointer (some ⟨db,doff+i,none⟩)) hHeld ?_
    refine tC 12 (.slice da xs.length dcc) hHeld ?_
    try simp only [List.set_cons_zero,List.set_cons_succ]
    refine wpAnyH_ready (rs:=[2,7]) (by kernel_rfl) (by simp) ?_
    refine AllReadyH.cons (o:={ dst:=some 84,op:=Op.call { callee:=Callee.builtin Builtin.append,args := #[Operand.tmp 82,Operand.tmp 83],argTypes := #[22,22] },type:=22,pos := "law.go:26",after := #[{ on:=0,ground:=Ground.data },{ on:=1,ground:=Ground.data }],guard:=none }) rfl (fun K hK=>?_) (AllReadyH.cons (o:={ dst:=some 89,op:=Op.convert 9 22 (Operand.tmp 88),type:=22,pos := "law.go:26",after := #[{ on:=6,ground:=Ground.data }],guard:=none }) rfl (fun K hK=>?_) AllReadyH.nil)
    refine step_append_x rfl (.tmp 82) (.tmp 83) rfl w.heap.size (.slice ho H.length hc) (.slice ho9 HDL.length hc9) H HDL rfl rfl HT9.out.tw.own1 HBYH.out HB9S.out (by rw [lHDL.out,l14.out,HSBl.out];have:=lim.out.1;omega) ?_
    intro ho10 hc10 w10 hA
    rw [←EH1.out] at hA ⊢
    have hT10:=HT9.out.app1 hA
    have HX10:Hid (Touch (fun k=>w.heap.size≤k) w w10):=Lib.hid (Touch.of_below hT10.tw.below)
    have HG10:Hid (Trb w.heap.size w (NEW w10) (.slice ho10 H1.length hc10) H1 (.slice ro8 R2.length rc8) R2 (.slice bo SB.length bc) SB):=Lib.hid (Trb.grow hT10 (HNB.out w10))
    have HY10:Hid (BySl (NEW w10) (.slice (some ⟨w10.heap.size,0,none⟩) s.size (CAP w10)) NM):=Lib.hid (HNT.out w10)
    have HZ10s:Hid (w.heap.size≤(NEW w10).heap.size):=Lib.hid HG10.out.tw.size
    clear hA hT10
    refine hK.out _ _ (AF.out _ HX10.out) (fun hHeld=>?_)
    try simp only [Act.put,List.setIfInBounds_toArray,List.set_cons_zero,List.set_cons_succ]
    refine wpAnyH_ready (rs:=[7]) (by kernel_rfl) (by simp) ?_
    refine AllReadyH.cons (o:={ dst:=some 89,op:=Op.convert 9 22 (Operand.tmp 88),type:=22,pos := "law.go:26",after := #[{ on:=6,ground:=Ground.data }],guard:=none }) rfl (fun K hK=>?_) AllReadyH.nil
    go_simp
    refine hK.out _ _ (AF.out _ (HX10.out.trans (Touch.of_below (HNB.out _)))) (fun hHeld=>?_)
    try simp only [Act.put,List.setIfInBounds_toArray,List.set_cons_zero,List.set_cons_succ]
    refine wpAnyH_ready (rs:=[8]) (by kernel_rfl) (by simp) ?_
    refine AllReadyH.cons (o:={ dst:=some 90,op:=Op.call { callee:=Callee.builtin Builtin.append,args := #[Operand.tmp 84,Operand.tmp 89],argTypes := #[22,22] },type:=22,pos := "law.go:26",after := #[{ on:=2,ground:=Ground.data },{ on:=7,ground:=Ground.data },{ on:=2,ground:=Ground.chain }],guard:=none }) rfl (fun K hK=>?_) AllReadyH.nil
    refine step_append_x rfl (.tmp 84) (.tmp 89) rfl w.heap.size (.slice ho10 H1.length hc10) (.slice (some ⟨_,0,none⟩) s.size _) H1 NM rfl rfl HG10.out.tw.own1 HY10.out HZ10s.out (by rw [lH1.out,lHDL.out,l14.out,HSBl.out,HNML.out];have:=lim.out.1;omega) ?_
    intro ho11 hc11 w11 hA
    rw [←EH2.out] at hA ⊢
    have hT11:=HG10.out.app1 hA
    have HT11:=Lib.hid hT11
    have HX11:Hid (Touch (fun k=>w.heap.size≤k) w w11):=Lib.hid (Touch.of_below hT11.tw.below)
    clear hA hT11
    refine hK.out _ _ (AF.out _ HX11.out) (fun hHeld=>?_)
    try simp only [Act.put,List.setIfInBounds_toArray,List.set_cons_zero,List.set_cons_succ]
    refine wpAnyH_ready (rs:=[13]) (by kernel_rfl) (by simp) ?_
    refine AllReadyH.cons (o:={ dst:=some 95,op:=Op.call { callee:=Callee.builtin Builtin.append,args := #[Operand.tmp 90,Operand.tmp 94],argTypes := #[22,22] },type:=22,pos := "law.go:26",after := #[{ on:=8,ground:=Ground.data },{ on:=12,ground:=Ground.data },{ on:=8,ground:=Ground.chain }],guard:=none }) rfl (fun K hK=>?_) AllReadyH.nil
    refine step_append_x rfl (.tmp 90) (.tmp 94) rfl w.heap.size (.slice ho11 H2.length hc11) (.slice da xs.length dcc) H2 xs rfl rfl HT11.out.tw.own1 (by_grow HDAT.out HT11.out.tw.below) HT11.out.tw.size (by rw [lH2.out,lH1.out,lHDL.out,l14.out,HSBl.out,HNML.out];have:=lim.out.1;omega) ?_
    intro ho12 hc12 w12 hA
    rw [←EH3.out] at hA ⊢
    have hT12:=HT11.out.app1 hA
    have HT12:=Lib.hid hT12
    have HX12:Hid (Touch (fun k=>w.heap.size≤k) w w12):=Lib.hid (Touch.of_below hT12.tw.below)
    clear hA hT12
    refine hK.out _ _ (AF.out _ HX12.out) (fun hHeld=>?_)
    try simp only [Act.put,List.setIfInBounds_toArray,List.set_cons_zero,List.set_cons_succ]
    refine tC 14 (.slice ho12 H3.length hc12) hHeld ?_
    refine wpAnyH_done (by kernel_rfl) ?_ _
    simp only [List.set_cons_zero,List.set_cons_succ]
    rotate_left
    go_simp
    refine hK.out _ _ (AF.out _ (HX9.out.trans (Touch.of_below (HNB.out _)))) (fun hHeld=>?_)
    try simp only [Act.put,List.setIfInBounds_toArray,List.set_cons_zero,List.set_cons_succ]
    refine wpAnyH_ready (rs:=[2]) (by kernel_rfl) (by simp) ?_
    refine AllReadyH.cons (o:={ dst:=some 84,op:=Op.call { callee:=Callee.builtin Builtin.append,args := #[Operand.tmp 82,Operand.tmp 83],argTypes := #[22,22] },type:=22,pos := "law.go:26",after := #[{ on:=0,ground:=Ground.data },{ on:=1,ground:=Ground.data }],guard:=none }) rfl (fun K hK=>?_) AllReadyH.nil
    refine step_append_x rfl (.tmp 82) (.tmp 83) rfl w.heap.size (.slice ho H.length hc) (.slice ho9 HDL.length hc9) H HDL rfl rfl (Trb.grow HT9.out (HNB.out w9.drew)).tw.own1 (by_grow HBYH.out (HNB.out w9.drew)) (Trb.grow HT9.out (HNB.out w9.drew)).tw.size (by rw [lHDL.out,l14.out,HSBl.out];have:=lim.out.1;omega) ?_
    intro ho10 hc10 w10 hA
    rw [←EH1.out] at hA ⊢
    have hT10:=(Trb.grow HT9.out (HNB.out w9.drew)).app1 hA
    have HX10:Hid (Touch (fun k=>w.heap.size≤k) w w10):=Lib.hid (Touch.of_below hT10.tw.below)
    have HG10:Hid (Trb w.heap.size w w10 (.slice ho10 H1.length hc10) H1 (.slice ro8 R2.length rc8) R2 (.slice bo SB.length bc) SB):=Lib.hid hT10
    have HY10:Hid (BySl w10 (.slice (some ⟨w9.heap.size,0,none⟩) s.size (CAP w9.drew)) NM):=Lib.hid (by_apart (HNT.out w9.drew) hA.touch (fun hk=>by have:=(HT9.out.tw.own1.lt _ hk).2;exact Nat.lt_irrefl _ this) (by rw [HNZ.out];exact Nat.lt_succ_self _))
    have HZ10s:Hid (w.heap.size≤w10.heap.size):=Lib.hid hT10.tw.size
    clear hA hT10
    refine hK.out _ _ (AF.out _ HX10.out) (fun hHeld=>?_)
    try simp only [Act.put,List.setIfInBounds_toArray,List.set_cons_zero,List.set_cons_succ]
    refine wpAnyH_ready (rs:=[8]) (by kernel_rfl) (by simp) ?_
    refine AllReadyH.cons (o:={ dst:=some 90,op:=Op.call { callee:=Callee.builtin Builtin.append,args := #[Operand.tmp 84,Operand.tmp 89],argTypes := #[22,22] },type:=22,pos := "law.go:26",after := #[{ on:=2,ground:=Ground.data },{ on:=7,ground:=Ground.data },{ on:=2,ground:=Ground.chain }],guard:=none }) rfl (fun K hK=>?_) AllReadyH.nil
    refine step_append_x rfl (.tmp 84) (.tmp 89) rfl w.heap.size (.slice ho10 H1.length hc10) (.slice (some ⟨_,0,none⟩) s.size _) H1 NM rfl rfl HG10.out.tw.own1 HY10.out HZ10s.out (by rw [lH1.out,lHDL.out,l14.out,HSBl.out,HNML.out];have:=lim.out.1;omega) ?_
    intro ho11 hc11 w11 hA
    rw [←EH2.out] at hA ⊢
    have hT11:=HG10.out.app1 hA
    have HT11:=Lib.hid hT11
    have HX11:Hid (Touch (fun k=>w.heap.size≤k) w w11):=Lib.hid (Touch.of_below hT11.tw.below)
    clear hA hT11
    refine hK.out _ _ (AF.out _ HX11.out) (fun hHeld=>?_)
    try simp only [Act.put,List.setIfInBounds_toArray,List.set_cons_zero,List.set_cons_succ]
    refine wpAnyH_ready (rs:=[13]) (by kernel_rfl) (by simp) ?_
    refine AllReadyH.cons (o:={ dst:=some 95,op:=Op.call { callee:=Callee.builtin Builtin.append,args := #[Operand.tmp 90,Operand.tmp 94],argTypes := #[22,22] },type:=22,pos := "law.go:26",after := #[{ on:=8,ground:=Ground.data },{ on:=12,ground:=Ground.data },{ on:=8,ground:=Ground.chain }],guard:=none }) rfl (fun K hK=>?_) AllReadyH.nil
    refine step_append_x rfl (.tmp 90) (.tmp 94) rfl w.heap.size (.slice ho11 H2.length hc11) (.slice da xs.length dcc) H2 xs rfl rfl HT11.out.tw.own1 (by_grow HDAT.out HT11.out.tw.below) HT11.out.tw.size (by rw [lH2.out,lH1.out,lHDL.out,l14.out,HSBl.out,HNML.out];have:=lim.out.1;omega) ?_
    intro ho12 hc12 w12 hA
    rw [←EH3.out] at hA ⊢
    have hT12:=HT11.out.app1 hA
    have HT12:=Lib.hid hT12
    have HX12:Hid (Touch (fun k=>w.heap.size≤k) w w12):=Lib.hid (Touch.of_below hT12.tw.below)
    clear hA hT12
    refine hK.out _ _ (AF.out _ HX12.out) (fun hHeld=>?_)
    try simp only [Act.put,List.setIfInBounds_toArray,List.set_cons_zero,List.set_cons_succ]
    refine tC 14 (.slice ho12 H3.length hc12) hHeld ?_
    refine wpAnyH_done (by kernel_rfl) ?_ _
    simp only [List.set_cons_zero,List.set_cons_succ]
   all_goals
    go_wp2_with fail
    go_roundw
    case rel=>exact ⟨i+1,ho12,hc12,ro8,rc8,H3,R2,by omega,by go_num,by go_num,rfl,rfl,Lib.hid (by rw [HHn.out,EH3.out,EH2.out,EH1.out,EHDL.out,HL14.out,HSB.out,HNMB.out];unfold hdB;simp only [List.append_assoc]),Lib.hid (by rw [HRn.out,ER2.out,ER1.out,EROW.out,ERW3.out,ERW2.out,HL16.out,HZ10.out,HLE.out,HSB.out,HNMB.out];unfold rwB;simp only [List.append_assoc]),Lib.hid HT12.out.tw⟩
    case measure=>simp [intOf];omega
  ·obtain rfl:i=n:=by omega
   have hni:¬(i:Int)<i:=by omega
   obtain ⟨b1,b2⟩:=HH_small (f:=f) (nm:=nm) (n:=i) fun j hj=>HSZ.out j (by omega)
   rw [←hH.out] at b1
   rw [←hR.out] at b2
   have lim:Hid (H.length≤120360∧R.length≤60552):=Lib.hid ⟨by omega,by omega⟩
   clear b1 b2
   have HTWR:=Lib.hid htw.out
   obtain ⟨L8,hL8⟩:∃ L8:List Nat,L8=[80,75,5,6,0,0,0,0]:=⟨_,rfl⟩
   have HL8:=Lib.hid hL8
   have l8:Hid (L8.length=8):=Lib.hid (by rw [hL8];rfl)
   obtain ⟨EB,hEB⟩:∃ EB,EB=Cu.le (i:Nat) 2++Cu.le (i:Nat) 2++Cu.le (R.length:Nat) 4++Cu.le (H.length:Nat) 4++Cu.le 0 2:=⟨_,rfl⟩
   have hEBl:EB.length=14:=by rw [hEB];simp [Cu.le_len]
   have K41:Hid (∀ (W:World) (g:Nat),Blk W g 84 #[.int .i64 0,.int .i64 (i:Nat),.slice none 0 0,.int .i64 0,.int .i64 (i:Nat),.slice none 0 0,.int .i64 1,.int .i64 (R.length:Nat),.slice none 0 0,.int .i64 1,.int .i64 (H.length:Nat),.slice none 0 0,.int .i64 0,.int .i64 0,.slice none 0 0]→
     Calls Tryz.prog 41 #[.slice (some ⟨g,0,none⟩) 5 5] W (Cu.WrOk EB W)):=Lib.hid fun W g hb=>
    Cu.write_any (some ⟨g,0,none⟩) 5 [⟨⟨0,i,[]⟩,none,0⟩,⟨⟨0,i,[]⟩,none,0⟩,⟨⟨1,R.length,[]⟩,none,0⟩,⟨⟨1,H.length,[]⟩,none,0⟩,⟨⟨0,0,[]⟩,none,0⟩] W (fs_lit hb (by intro x hx;simp at hx;rcases hx with rfl | rfl | rfl | rfl <;> exact ⟨rfl,rfl,rfl⟩)) (by simp) EB (by rw [hEB];simp [Cu.wrt,Cu.wf]) (by rw [hEBl];omega)
   have HEB:=Lib.hid hEB
   have HEBl:=Lib.hid hEBl
   obtain ⟨EN,hEN⟩:∃ EN,EN=L8++EB:=⟨_,rfl⟩
   have EEN:=Lib.hid hEN
   have lEN:Hid (EN.length=22):=Lib.hid (by rw [hEN,List.length_append,l8.out,hEBl])
   obtain ⟨X1,hX1⟩:∃ X1,X1=H++R:=⟨_,rfl⟩
   have EX1:=Lib.hid hX1
   have lX1:Hid (X1.length=H.length+R.length):=Lib.hid (by rw [hX1,List.length_append])
   obtain ⟨X2,hX2⟩:∃ X2,X2=X1++EN:=⟨_,rfl⟩
   have EX2:=Lib.hid hX2
   clear hL8 hEB hEBl hEN hX1 hX2 htw
   go_upto_region 16 with fail
   obtain ⟨wa,hwa⟩:∃ wa,wa=wr.alloc (.cells (u8s [80,75,5,6,0,0,0,0]).toArray 5):=⟨_,rfl⟩
   have hza:wa.heap.size=wr.heap.size+1:=by rw [hwa,alloc_size]
   have hba:Below wr.heap.size wr wa:=by rw [hwa];exact (Below.refl _ wr).alloc (Nat.le_refl _) _
   have howa:wa.ownsRow wr.heap.size 5 1 (.slice (some ⟨wr.heap.size,0,none⟩) 8 8) L8.length (u8s L8):=by rw [hwa,l8.out,HL8.out];exact own_lits wr wr.heap.size [80,75,5,6,0,0,0,0] _ 8 (Nat.le_refl _) rfl rfl (by decide)
   obtain ⟨wb,hwb⟩:∃ wb,wb=wa.alloc (.cells #[.int .i64 0,.int .i64 (i:Nat),.slice none 0 0,.int .i64 0,.int .i64 (i:Nat),.slice none 0 0,.int .i64 1,.int .i64 (R.length:Nat),.slice none 0 0,.int .i64 1,.int .i64 (H.length:Nat),.slice none 0 0,.int .i64 0,.int .i64 0,.slice none 0 0] 84):=⟨_,rfl⟩
   have hbb:Below wa.heap.size wa wb:=by rw [hwb];exact (Below.refl _ wa).alloc (Nat.le_refl _) _
   have hkb:Blk wb wa.heap.size 84 #[.int .i64 0,.int .i64 (i:Nat),.slice none 0 0,.int .i64 0,.int .i64 (i:Nat),.slice none 0 0,.int .i64 1,.int .i64 (R.length:Nat),.slice none 0 0,.int .i64 1,.int .i64 (H.length:Nat),.slice none 0 0,.int .i64 0,.int .i64 0,.slice none 0 0]:=by rw [hwb];exact Blk.made _ _ _
   have K:=K41.out wb wa.heap.size hkb
   rw [hza] at K
   have hwb2:wb=(wr.alloc (.cells (u8s [80,75,5,6,0,0,0,0]).toArray 5)).alloc (.cells #[.int .i64 0,.int .i64 (i:Nat),.slice none 0 0,.int .i64 0,.int .i64 (i:Nat),.slice none 0 0,.int .i64 1,.int .i64 (R.length:Nat),.slice none 0 0,.int .i64 1,.int .i64 (H.length:Nat),.slice none 0 0,.int .i64 0,.int .i64 0,.slice none 0 0] 84):=by rw [hwb,hwa]
   have hwab:Below wr.heap.size wr wb:=hba.trans (hbb.mono hba.size)
   have HOWB:=Lib.hid (ownsRow_touch howa (Touch.of_below hbb:Touch (fun _=>False) wa wb) (fun _ _ h=>h))
   have HWB:=Lib.hid hwab
   have HWB2:=Lib.hid hwb2
   have K:=Lib.hid K
   have hsw:w.heap.size≤wr.heap.size:=HTWR.out.size
   clear hwa hza hba howa hwb hbb hkb hwb2 hwab K41
   go_upto_region 17 with (first
    | (rw [show (wr.alloc (.cells #[.int .u8 80,.int .u8 75,.int .u8 5,.int .u8 6,.int .u8 0,.int .u8 0,.int .u8 0,.int .u8 0] 5)).alloc (.cells #[.int .i64 0,.int .i64 (i:Nat),.slice none 0 0,.int .i64 0,.int .i64 (i:Nat),.slice none 0 0,.int .i64 1,.int .i64 (R.length:Nat),.slice none 0 0,.int .i64 1,.int .i64 (H.length:Nat),.slice none 0 0,.int .i64 0,.int .i64 0,.slice none 0 0] 84)=wb from HWB2.out.symm];go_at_call 41;refine K.out.mono ?_;rintro e wc ⟨bo,bc,rfl,hown,hbc⟩;have HBC:=Lib.hid (HWB.out.trans (hbc.mono HWB.out.size));have HOC:=Lib.hid (ownsRow_touch HOWB.out (Touch.of_below hbc:Touch (fun _=>False) wb wc) (fun _ _ h=>h));have HYC:=Lib.hid (BySl.own hown);clear hown hbc)
    | (refine wpList_append_x rfl (.tmp 98) (.tmp 111) rfl wr.heap.size (.slice (some ⟨wr.heap.size,0,none⟩) 8 8) (.slice bo EB.length bc) L8 EB rfl rfl HOC.out HYC.out HBC.out.size (by rw [l8.out,HEBl.out];omega) ?_;intro eo ec wd hA;rw [←EEN.out] at hA ⊢;have HOD:=Lib.hid hA.own;have HBD:Hid (Below wr.heap.size wr wd):=Lib.hid (HBC.out.trans (hA.touch.below HBC.out.size fun k hk=>(HOC.out.lt k hk).1));clear hA))
   have hTd:Trb w.heap.size w wd (.slice ho H.length hc) H (.slice ro R.length rc) R (.slice eo EN.length ec) EN:=
    Trb.new (HTWR.out.grow HBD.out) (own_base HOD.out hsw) (b:=wr.heap.size) (fun k hk=>(HTWR.out.own1.lt k hk).2) (fun k hk=>(HTWR.out.own2.lt k hk).2) (fun k hk=>(HOD.out.lt k hk).1)
   have HTd:=Lib.hid hTd
   have HYR:=Lib.hid (BySl.own hTd.tw.own2)
   clear hTd
   go_wp2_with (first
    | (refine wpList_append_x rfl (.tmp 113) (.tmp 114) rfl w.heap.size (.slice ho H.length hc) (.slice ro R.length rc) H R rfl rfl HTd.out.tw.own1 HYR.out HTd.out.tw.size (by have:=lim.out;omega) ?_;intro xo xc we hA;rw [←EX1.out] at hA ⊢;have hTe:=HTd.out.app1 hA;have HTe:=Lib.hid hTe;have HYE:=Lib.hid (BySl.own hTe.own3);clear hA hTe)
    | (refine wpList_append_x rfl (.tmp 115) (.tmp 116) rfl w.heap.size (.slice xo X1.length xc) (.slice eo EN.length ec) X1 EN rfl rfl HTe.out.tw.own1 HYE.out HTe.out.tw.size (by rw [lX1.out,lEN.out];have:=lim.out;omega) ?_;intro yo yc wf hA;rw [←EX2.out] at hA ⊢;have hTf:=HTe.out.app1 hA;have HTf:=Lib.hid hTf;clear hA hTf))
   go_ret
   have hfin:X2=stoP (stos nm f i):=by
    rw [EX2.out,EX1.out,EEN.out,HEB.out,HL8.out]
    unfold stoP stoE
    rw [←hH.out,←hR.out,stos_len]
    simp only [List.append_assoc,List.append_nil]
    rfl
   rw [←hfin]
   exact ⟨yo,yc,rfl,HTf.out.tw.own1,HTf.out.tw.below⟩
def alN (i:Nat):ByteArray:=if i=0 then ⟨#[97]⟩ else ⟨#[98,47,99]⟩
def alD (i:Nat):List Nat:=if i=0 then [1,2,3] else []
def alS:List Sto:=stos alN alD 2
theorem alS_is:alS=[⟨⟨#[97]⟩,[1,2,3],(CrcPlain.updN 0#32 [1,2,3]).toNat⟩,⟨⟨#[98,47,99]⟩,[],(CrcPlain.updN 0#32 []).toNat⟩]:=rfl
theorem upd_lt (xs:List Nat):(CrcPlain.updN 0#32 xs).toNat<4294967296:=(CrcPlain.updN 0#32 xs).isLt
theorem alS_small:Small alS:=by
 rw [alS_is]
 refine ⟨fun x hx=>?_,by simp,?_,?_⟩
 ·simp at hx
  rcases hx with rfl | rfl
  ·exact ⟨by decide,by decide,upd_lt _,fun y hy=>by simp at hy;omega⟩
  ·exact ⟨by decide,by decide,upd_lt _,fun y hy=>by cases hy⟩
 ·simp only [HH,List.flatMap_cons,List.flatMap_nil,List.length_append,hdB_len];decide
 ·simp only [RR,List.length_append,rwB_len];decide
theorem alS_rights:Rights [] alS:=by
 refine ⟨alS_small.fits,?_,?_⟩
 ·rw [alS_is]
  intro x hx
  simp at hx
  rcases hx with rfl | rfl
  ·exact ⟨by decide +kernel,by decide +kernel⟩
  ·exact ⟨by decide +kernel,by decide +kernel⟩
 ·rw [alS_is]
  intro i hi
  refine ⟨by simp,fun k hk=>?_⟩
  have:i=1∧k=0:=by simp at hi;omega
  obtain ⟨rfl,rfl⟩:=this
  show foldL ⟨#[98,47,99]⟩≠foldL ⟨#[97]⟩
  decide +kernel
theorem alS_sums:∀ x∈alS,(CrcPlain.updN 0#32 x.d).toNat=x.sum:=by
 rw [alS_is]
 intro x hx
 simp at hx
 rcases hx with rfl | rfl <;> rfl
def alB:List Nat:=stoP alS
theorem alB_len:alB.length=185:=by
 unfold alB;rw [stoP_len,alS_is]
 simp only [HH,RR,List.flatMap_cons,List.flatMap_nil,List.length_append,hdB_len,rwB_len];decide
theorem al_heads:(HH alS).length=67:=by
 rw [alS_is];simp only [HH,List.flatMap_cons,List.flatMap_nil,List.length_append,hdB_len];decide
theorem al_rows:(RR 0 alS).length=96:=by
 rw [alS_is];simp only [RR,List.length_append,rwB_len];decide
theorem al_read:readP alB 1048576 1000 1048576 = .ok (rws 0 alS,67,[[1,2,3],[]]):=by
 have:=readP_stoP alS_small alS_rights alS_sums (B:=1048576) (E:=1000) (T:=1048576) (by have:=alB_len;unfold alB at this;rw [this];decide) (by rw [alS_is];decide) (by rw [alS_is];decide)
 rw [al_heads] at this
 exact this
theorem al_open:openP alB 1048576 1000 = .ok (rws 0 alS,67,163):=by
 have:=openP_stoP alS_small alS_rights (B:=1048576) (E:=1000) (by have:=alB_len;unfold alB at this;rw [this];decide) (by rw [alS_is];decide)
 rw [al_heads,al_rows] at this
 exact this
theorem al_few:readP alB 1048576 1 9 = .error 14:=by
 have hl:=alB_len
 unfold alB stoP at hl ⊢
 unfold readP
 rw [openP_sto alS_small.bs (fun x h=>by cases h) alS_small.few alS_small.rows alS_small.heads (by simp) (fun x h=>by cases h) (by rw [hl];decide),if_neg (by simp),if_pos (by rw [alS_is];decide)]
theorem al_cut:readP (alB.drop 1) 1048576 1000 1048576 = .error 10:=by
 have hl:=alB_len
 have h1:=al_heads
 have h2:=al_rows
 have hd:alB.drop 1=(HH alS++RR 0 alS).drop 1++stoE alS.length (RR 0 alS).length (HH alS).length []:=by
  unfold alB stoP
  rw [List.drop_append_of_le_length (by rw [List.length_append,h1];omega)]
 have hbs:Bs ((HH alS++RR 0 alS).drop 1):=fun x hx=>alS_small.bs x (List.mem_of_mem_drop hx)
 have hl2:(alB.drop 1).length=184:=by rw [List.length_drop,hl]
 rw [hd] at hl2 ⊢
 unfold readP
 rw [openP_sto hbs (fun x h=>by cases h) alS_small.few alS_small.rows alS_small.heads (by simp) (fun x h=>by cases h) (by rw [hl2];decide),if_pos (by rw [List.length_drop,List.length_append,h1,h2];decide)]
theorem al_tp:(rws 0 alS).map (tpR (alB.take 67))=[(⟨#[97]⟩,0,0,0),(⟨#[98,47,99]⟩,0,0,34)]:=by
 have ht:alB.take 67=HH alS:=by unfold alB stoP;rw [List.append_assoc,←al_heads,List.take_left]
 obtain ⟨_,s2,_⟩:=spots_sto alS [] alS_small.fits
 simp only [List.nil_append,List.length_nil] at s2
 rw [ht]
 have e:rws 0 alS=[rwOf 0 ⟨⟨#[97]⟩,[1,2,3],(CrcPlain.updN 0#32 [1,2,3]).toNat⟩,rwOf 34 ⟨⟨#[98,47,99]⟩,[],(CrcPlain.updN 0#32 []).toNat⟩]:=by
  rw [alS_is];simp only [rws,hdB_len];rfl
 have e2:sps 0 alS=[⟨0,31,34,0⟩,⟨34,67,67,0⟩]:=by
  rw [alS_is];simp only [sps,hdB_len];rfl
 rw [e,e2] at s2
 rw [e]
 simp only [List.map_cons,List.map_nil,List.cons.injEq,and_true] at s2 ⊢
 obtain ⟨a1,a2⟩:=s2
 refine ⟨?_,?_⟩
 ·show (_,_,(spotS _ _).extra+_,_)=_
  rw [a1];rfl
 ·show (_,_,(spotS _ _).extra+_,_)=_
  rw [a2];rfl
theorem al_names:nameF ⟨#[97,47,46,46,47,98]⟩ true=true∧nameF ⟨#[97,47]⟩ false=false∧foldT ⟨#[97,66,99]⟩=⟨#[97,98,99]⟩:=⟨by decide +kernel,by decide +kernel,by decide +kernel⟩
set_option maxHeartbeats 3200000 in
theorem alive_any (w:World) (hT:TZ w):Calls Tryz.prog 9 #[] w fun e w'=>e = .returned (.bool true)∧Below w.heap.size w w':=by
 obtain ⟨w1,hw1⟩:∃ w1,w1=(((w.alloc (.cells #[.string ⟨#[97]⟩,.string ⟨#[98,47,99]⟩] 9)).alloc (.cells #[.int .u8 1,.int .u8 2,.int .u8 3] 5)).alloc (.cells #[] 5)).alloc (.cells #[.slice (some ⟨w.heap.size+1,0,none⟩) 3 3,.slice (some ⟨w.heap.size+1+1,0,none⟩) 0 0] 22):=⟨_,rfl⟩
 have hz1:w1.heap.size=w.heap.size+4:=by rw [hw1,alloc_size,alloc_size,alloc_size,alloc_size]
 have ha:∀ (W:World) (o:Obj),Below W.heap.size W (W.alloc o):=fun W o=>(Below.refl _ W).alloc (Nat.le_refl _) o
 have hb1:Below w.heap.size w w1:=by
  rw [hw1]
  exact ((((Below.refl _ w).alloc (Nat.le_refl _) _).alloc (by simp) _).alloc (by simp;omega) _).alloc (by simp;omega) _
 have k3:Blk w1 (w.heap.size+1+1+1) 22 #[.slice (some ⟨w.heap.size+1,0,none⟩) 3 3,.slice (some ⟨w.heap.size+1+1,0,none⟩) 0 0]:=by
  rw [hw1]
  have:=Blk.made (((w.alloc (.cells #[.string ⟨#[97]⟩,.string ⟨#[98,47,99]⟩] 9)).alloc (.cells #[.int .u8 1,.int .u8 2,.int .u8 3] 5)).alloc (.cells #[] 5)) 22 #[.slice (some ⟨w.heap.size+1,0,none⟩) 3 3,.slice (some ⟨w.heap.size+1+1,0,none⟩) 0 0]
  rwa [alloc_size,alloc_size,alloc_size] at this
 have k1:Blk w1 (w.heap.size+1) 5 #[.int .u8 1,.int .u8 2,.int .u8 3]:=by
  rw [hw1]
  exact ((Blk.made1 w _ 5 _).below (ha _ _)).below (ha _ _)
 have k0:Blk w1 w.heap.size 9 #[.string ⟨#[97]⟩,.string ⟨#[98,47,99]⟩]:=by
  rw [hw1]
  exact (((Blk.made w 9 _).below (ha _ _)).below (ha _ _)).below (ha _ _)
 have hN:Txs w1 (some ⟨w.heap.size,0,none⟩) 2 alN := .inr ⟨_,0,rfl,fun i hi=>by
  have:i=0∨i=1:=by omega
  rcases this with rfl | rfl
  ·exact (k0.cell 0).trans rfl
  ·exact (k0.cell 1).trans rfl⟩
 have hs0:Cu.Sl w1 (some ⟨w.heap.size+1,0,none⟩) 3 [1,2,3]:=by
  refine ⟨.inr ⟨_,0,rfl,fun j hj=>?_⟩,by decide,by decide,fun h=>(by cases h),fun y hy=>by simp at hy;omega⟩
  have:j=0∨j=1∨j=2:=by simp at hj;omega
  rcases this with rfl | rfl | rfl
  ·exact (k1.cell 0).trans rfl
  ·exact (k1.cell 1).trans rfl
  ·exact (k1.cell 2).trans rfl
 have hs1:Cu.Sl w1 (some ⟨w.heap.size+1+1,0,none⟩) 0 []:=⟨.inl rfl,Nat.le_refl _,by decide,fun h=>(by cases h),fun y hy=>by cases hy⟩
 have hD:Lsb w1 (some ⟨w.heap.size+1+1+1,0,none⟩) 2 alD (fun i=>if i=0 then some ⟨w.heap.size+1,0,none⟩ else some ⟨w.heap.size+1+1,0,none⟩) (fun i=>if i=0 then 3 else 0) := .inr ⟨_,0,rfl,fun i hi=>by
  have:i=0∨i=1:=by omega
  rcases this with rfl | rfl
  ·exact ⟨(k3.cell 0).trans rfl,hs0⟩
  ·exact ⟨(k3.cell 1).trans rfl,hs1⟩⟩
 have K21:=stored_any _ 2 alN _ 2 alD _ _ 2 2 w1 hN hD (Nat.le_refl _) (by decide) (fun i hi=>by
  have:i=0∨i=1:=by omega
  rcases this with rfl | rfl <;> decide)
 have K21:Hid (Calls Tryz.prog 21 #[.slice (some ⟨w.heap.size,0,none⟩) 2 2,.slice (some ⟨w.heap.size+1+1+1,0,none⟩) 2 2] w1 (MadeB alB w1)):=Lib.hid K21
 have HB1:=Lib.hid hb1
 have HT:=Lib.hid hT
 have HL:=Lib.hid alB_len
 have HR1:=Lib.hid al_read
 have HR2:=Lib.hid al_open
 have HR3:=Lib.hid al_few
 have HR4:=Lib.hid al_cut
 have HTP:=Lib.hid al_tp
 have hbs:Bs alB:=stoP_bs alS_small
 obtain ⟨AB,hAB⟩:∃ AB,AB=alB:=⟨_,rfl⟩
 rw [←hAB] at K21 HL HR1 HR2 HR3 HR4 HTP hbs
 clear hz1 ha hb1 k3 k1 k0 hN hs0 hs1 hD hAB hT
 go_enter Tryz.func9,Tryz.ntmps9
 go_upto_region 1 with fail
 go_wp2_with fail
 rw [←hw1]
 clear hw1
 refine K21.out.mono ?_
 rintro e w2 ⟨bo,bc,rfl,hown,hb2⟩
 have HB2:=Lib.hid (HB1.out.trans (hb2.mono HB1.out.size))
 have hsl:=(own_sl hown hbs rfl).1
 have HSL:=Lib.hid hsl
 have KR:=fun (W:World) (hW:Below w2.heap.size w2 W) (B E T:Int) (hT:T≤2000000)=>read_any bo bc AB B E T W (HT.out.grow (HB2.out.trans (hW.mono HB2.out.size))) (hsl.below hW) (by rw [HL.out];decide) hT
 have KR:=Lib.hid KR
 have KS:=fun (W:World) (hW:Below w2.heap.size w2 W) (B E T:Int)=>rows_any bo bc AB B E T W (HT.out.grow (HB2.out.trans (hW.mono HB2.out.size))) (hsl.below hW) (by rw [HL.out];decide)
 have KS:=Lib.hid KS
 obtain ⟨CO,CC,hCut,hcs⟩:∃ CO CC,Cu.Sl w2 CO CC (AB.drop 1)∧∀ W,(Instr.slice 22 (.slice bo AB.length bc) (some (.int .i64 1)) none none).run Tryz.prog W = .ok (.slice CO (AB.drop 1).length CC) W:=by
  have hcut:=hsl.cut 1 (AB.length-1) (by rw [HL.out];decide)
  have hl1:(AB.drop 1).length=AB.length-1:=List.length_drop
  have e:(AB.drop 1).take (AB.length-1)=AB.drop 1:=List.take_of_length_le (by rw [hl1];omega)
  rw [e] at hcut
  refine ⟨_,_,hcut,fun W=>?_⟩
  have h1:=hsl.le
  have h2:=HL.out
  have:=Cu.slice_l bo AB.length bc 1 (by omega) W
  rw [hl1]
  simpa [Cu.cutA] using this
 have K2:Hid (∀ W,Below w2.heap.size w2 W→Calls Tryz.prog 12 #[.slice bo AB.length bc,.agg #[.int .i64 1048576,.int .i64 1000,.int .i64 1048576]] W fun en W'=>Below W.heap.size W W'∧∃ (ems:List Em) (a:Option Addr) (c:Nat),en = .returned (.tuple #[.slice a 2 c,.int .i64 0])∧Ems W' W.heap.size (.slice a 2 c) ems∧ems.map tpE=[(⟨#[97]⟩,0,0,0),(⟨#[98,47,99]⟩,0,0,34)]∧ems.map (·.d)=[[1,2,3],[]]):=Lib.hid fun W hW=>by
  have:=KR.out W hW 1048576 1000 1048576 (by decide)
  rw [HR1.out] at this
  refine this.mono ?_
  rintro en W' ⟨hb,ems,a,c,h1,h2,h3,h4⟩
  rw [HTP.out] at h3
  exact ⟨hb,ems,a,c,h1,h2,h3,h4⟩
 have K3:Hid (∀ W,Below w2.heap.size w2 W→Calls Tryz.prog 15 #[.slice bo AB.length bc,.agg #[.int .i64 1048576,.int .i64 1000,.int .i64 1048576]] W fun en W'=>Below W.heap.size W W'∧∃ (rms:List Rm) (a:Option Addr) (c:Nat),en = .returned (.tuple #[.slice a 2 c,.int .i64 0])∧rms.map (·.r)=rws 0 alS∧Rms W' W.heap.size (.slice a 2 c) rms):=Lib.hid fun W hW=>by
  have:=KS.out W hW 1048576 1000 1048576
  rw [HR2.out] at this
  refine this.mono ?_
  rintro en W' ⟨hb,rms,a,c,h1,h2,h3⟩
  have hl:rms.length=2:=by have:=congrArg List.length h2;rw [List.length_map,rws_len] at this;exact this
  rw [hl] at h1 h3
  exact ⟨hb,rms,a,c,h1,h2,h3⟩
 have K4:Hid (∀ W,Below w2.heap.size w2 W→Calls Tryz.prog 12 #[.slice bo AB.length bc,.agg #[.int .i64 1048576,.int .i64 1,.int .i64 9]] W fun en W'=>Below W.heap.size W W'∧en = .returned (.tuple #[.slice none 0 0,.int .i64 14])):=Lib.hid fun W hW=>by
  have:=KR.out W hW 1048576 1 9 (by decide)
  rw [HR3.out] at this
  exact this
 have K5:Hid (∀ W,Below w2.heap.size w2 W→Calls Tryz.prog 12 #[.slice CO (AB.drop 1).length CC,.agg #[.int .i64 1048576,.int .i64 1000,.int .i64 1048576]] W fun en W'=>Below W.heap.size W W'∧en = .returned (.tuple #[.slice none 0 0,.int .i64 10])):=Lib.hid fun W hW=>by
  have:=read_any CO CC (AB.drop 1) 1048576 1000 1048576 W (HT.out.grow (HB2.out.trans (hW.mono HB2.out.size))) (hCut.below hW) (by rw [List.length_drop,HL.out];decide) (by decide)
  rw [HR4.out] at this
  exact this
 obtain ⟨CN,hCN⟩:∃ CN,CN=(AB.drop 1).length:=⟨_,rfl⟩
 rw [←hCN] at hcs K5
 have h2s:w.heap.size≤w2.heap.size:=HB2.out.size
 clear KR KS hCut hCN hown hb2 hsl HSL HR1 HR2 HR3 HR4 HTP hbs K21
 go_upto_region 3 with (first
  | (go_at_call 22;refine (all_any _).mono ?_;rintro e wa ⟨rfl,hba⟩;have HBa:=Lib.hid hba;clear hba)
  | (go_at_call 12;refine (K2.out wa HBa.out).mono ?_;rintro en w3 ⟨hb3,ems,la,lc,rfl,hem,htp,hds⟩;have HB3:=Lib.hid (HBa.out.trans (hb3.mono HBa.out.size));have HEM:=Lib.hid hem;have HTP:=Lib.hid htp;have HDS:=Lib.hid hds;clear hb3 hem htp hds))
 go_upto_region 4 with (first
  | (go_at_call 22;refine (all_any _).mono ?_;rintro e wb ⟨rfl,hbb⟩;have HBb:=Lib.hid (HB3.out.trans (hbb.mono HB3.out.size));have HEMb:=Lib.hid (HEM.out.below hbb);clear hbb)
  | (go_at_call 15;refine (K3.out wb HBb.out).mono ?_;rintro en w4 ⟨hb4,rms,ra,rc,rfl,hrr,hrm⟩;have HB4:=Lib.hid (HBb.out.trans (hb4.mono HBb.out.size));have HEM4:=Lib.hid (HEMb.out.below hb4);have HRR:=Lib.hid hrr;have HRM:=Lib.hid hrm;clear hb4 hrr hrm))
 go_upto_region 5 with (go_at_call 12;refine (K4.out w4 HB4.out).mono ?_;rintro en w5 ⟨hb5,rfl⟩;have HB5:=Lib.hid (HB4.out.trans (hb5.mono HB4.out.size));have HEM5:=Lib.hid (HEM4.out.below hb5);have HRM5:=Lib.hid (HRM.out.below hb5);clear hb5)
 have h5:w2.heap.size≤w5.heap.size:=HB5.out.size
 go_region_held3 (fun _=>True) (exact True.intro) (first
  | (go_at_call 22;refine (all_any _).mono ?_;rintro e wc ⟨rfl,hbc⟩;have hbc:Below w5.heap.size w5 wc:=((Below.refl w5.heap.size w5).drew).trans hbc;have HBc:=Lib.hid (HB5.out.trans (hbc.mono h5));have HEMc:=Lib.hid (HEM5.out.below hbc);have HRMc:=Lib.hid (HRM5.out.below hbc);clear hbc)
  | (go_at_call 12;refine (K5.out wc HBc.out).mono ?_;rintro en w6 ⟨hb6,rfl⟩;have HB6:=Lib.hid (HBc.out.trans (hb6.mono HBc.out.size));have HEM6:=Lib.hid (HEMc.out.below hb6);have HRM6:=Lib.hid (HRMc.out.below hb6);clear hb6))
 all_goals
  obtain ⟨e0,e1,rfl⟩:∃ e0 e1,ems=[e0,e1]:=by
   have hl:=congrArg List.length HTP.out
   rw [List.length_map] at hl
   match ems,hl with
   | [a,b],_=>exact ⟨a,b,rfl⟩
  have htp:=HTP.out
  have hds:=HDS.out
  simp only [List.map_cons,List.map_nil,List.cons.injEq,and_true,Prod.mk.injEq] at htp hds
  obtain ⟨⟨hn0,hm0,hx0,ha0⟩,hn1,hm1,hx1,ha1⟩:=htp
  obtain ⟨hd0,hd1⟩:=hds
  obtain ⟨g,gc,hgv,hgl,hg0⟩:=HEM6.out.at (i:=0) (by simp)
  obtain ⟨g',gc',hgv',_,hg1⟩:=HEM6.out.at (i:=1) (by simp)
  obtain rfl:la=some ⟨g,0,none⟩:=by injection hgv
  obtain rfl:g=g':=by injection hgv' with h1;injection h1 with h1;injection h1
  obtain ⟨d0,d1,drr⟩:∃ r0 r1,rms=[r0,r1]:=by
   have hl:=congrArg List.length HRR.out
   rw [List.length_map,rws_len] at hl
   have hl:rms.length=2:=hl
   match rms,hl with
   | [a,b],_=>exact ⟨a,b,rfl⟩
  subst drr
  have hrr:=HRR.out
  have hrw:rws 0 alS=[rwOf 0 ⟨⟨#[97]⟩,[1,2,3],(CrcPlain.updN 0#32 [1,2,3]).toNat⟩,rwOf 34 ⟨⟨#[98,47,99]⟩,[],(CrcPlain.updN 0#32 []).toNat⟩]:=by
   rw [alS_is];simp only [rws,hdB_len];rfl
  rw [hrw] at hrr
  simp only [List.map_cons,List.map_nil,List.cons.injEq,and_true] at hrr
  obtain ⟨hr0,hr1⟩:=hrr
  obtain ⟨k,kc,hkv,hkl,hk0⟩:=HRM6.out.at (i:=0) (by simp)
  obtain ⟨k',kc',hkv',_,hk1⟩:=HRM6.out.at (i:=1) (by simp)
  obtain rfl:ra=some ⟨k,0,none⟩:=by injection hkv
  obtain rfl:k=k':=by injection hkv' with h1;injection h1 with h1;injection h1
  have c1:w6.cell? ⟨g,0,none⟩=some (.string ⟨#[97]⟩):=by have:=hg0 0 (.string e0.nm) rfl;rw [hn0] at this;exact this
  have c2:w6.cell? ⟨g,1,none⟩=some (.slice e0.da 3 e0.dc):=by have:=hg0 1 (.slice e0.da e0.d.length e0.dc) rfl;rw [hd0] at this;exact this
  have c3:w6.cell? ⟨g,9,none⟩=some (.int .i64 34):=by have:=hg1 4 (.int .i64 (e1.at_:Nat)) rfl;rw [ha1] at this;exact this
  have c4:w6.cell? ⟨k,11,none⟩=some (.string ⟨#[98,47,99]⟩):=by have:=hk1 0 (.string d1.r.name) rfl;rw [hr1] at this;exact this
  have c5:w6.cell? ⟨k,6,none⟩=some (.int .i64 3):=by have:=hk0 6 (.int .i64 (d0.r.plain:Nat)) rfl;rw [hr0] at this;exact this
  have hsl0:Cu.Sl w6 e0.da e0.dc [1,2,3]:=by have:=HEM6.out.sl e0 (by simp);rwa [hd0] at this
  have K17a:Hid (∀ W,Below w6.heap.size w6 W→Calls Tryz.prog 17 #[.string ⟨#[97,47,46,46,47,98]⟩,.bool true] W fun e w'=>e = .returned (.bool true)∧Below W.heap.size W w'):=Lib.hid fun W hW=>by
   have:=NameFault_any ⟨#[97,47,46,46,47,98]⟩ true W (HT.out.grow (HB2.out.trans ((HB6.out.trans (hW.mono HB6.out.size)).mono HB2.out.size))) (by decide)
   rwa [al_names.1] at this
  have K17b:Hid (∀ W,Below w6.heap.size w6 W→Calls Tryz.prog 17 #[.string ⟨#[97,47]⟩,.bool false] W fun e w'=>e = .returned (.bool false)∧Below W.heap.size W w'):=Lib.hid fun W hW=>by
   have:=NameFault_any ⟨#[97,47]⟩ false W (HT.out.grow (HB2.out.trans ((HB6.out.trans (hW.mono HB6.out.size)).mono HB2.out.size))) (by decide)
   rwa [al_names.2.1] at this
  have K19:Hid (∀ W,Calls Tryz.prog 19 #[.string ⟨#[97,66,99]⟩] W fun e w'=>e = .returned (.string ⟨#[97,98,99]⟩)∧Below W.heap.size W w'):=Lib.hid fun W=>by
   have:=Fold_any ⟨#[97,66,99]⟩ W (by decide)
   rwa [al_names.2.2] at this
  obtain ⟨w7,hw7⟩:∃ w7,w7=w6.alloc (.cells #[.int .u8 1,.int .u8 2,.int .u8 3] 5):=⟨_,rfl⟩
  have hb7:Below w6.heap.size w6 w7:=by rw [hw7];exact (Below.refl _ w6).alloc (Nat.le_refl _) _
  have K14:Hid (Calls Tryz.prog 14 #[.slice e0.da 3 e0.dc,.slice (some ⟨w6.heap.size,0,none⟩) 3 3] w7 fun e w'=>e = .returned (.bool true)∧∃ nq,w'=w7.drewN nq):=Lib.hid (by
   have:=same_any (w:=w7) (by_grow (sl_by hsl0) hb7) (by rw [hw7];exact by_lit w6 [1,2,3] _ 3 _ rfl rfl rfl) (by decide)
   exact this)
  have e1':=(hb7.cell (World.block_lt_of_cell? w6 _ c1)).trans c1
  have HC3:=Lib.hid c3
  have HC4:=Lib.hid c4
  have HC5:=Lib.hid c5
  have HB7:=Lib.hid hb7
  have HW7:=Lib.hid hw7
  clear hw7 hb7 hsl0
  go_wp2_with (first
   | (rw [show w6.alloc (.cells #[.int .u8 1,.int .u8 2,.int .u8 3] 5)=w7 from HW7.out.symm];go_at_call 14;(with_reducible refine K14.out.mono ?_);rintro en w8 ⟨rfl,nq,rfl⟩;have hb8:Below w6.heap.size w6 (w7.drewN nq):=below_drewN HB7.out nq;have c3:=(hb8.cell (World.block_lt_of_cell? w6 _ HC3.out)).trans HC3.out;have c4:=(hb8.cell (World.block_lt_of_cell? w6 _ HC4.out)).trans HC4.out;have c5:=(hb8.cell (World.block_lt_of_cell? w6 _ HC5.out)).trans HC5.out;have HB8:=Lib.hid hb8;clear hb8)
   | (go_at_call 17;(with_reducible refine (K17a.out _ HB8.out).mono ?_);rintro en w9 ⟨rfl,hb9⟩;have HB9:=Lib.hid (HB8.out.trans (hb9.mono HB8.out.size));clear hb9)
   | (go_at_call 17;(with_reducible refine (K17b.out w9 HB9.out).mono ?_);rintro en w10 ⟨rfl,hb10⟩;have HB10:=Lib.hid (HB9.out.trans (hb10.mono HB9.out.size));clear hb10)
   | (go_at_call 19;(with_reducible refine (K19.out w10).mono ?_);rintro en w11 ⟨rfl,hb11⟩;have HB11:=Lib.hid (HB10.out.trans (hb11.mono HB10.out.size));clear hb11))
  go_ret
  exact ⟨rfl,HB2.out.trans ((HB6.out.trans (HB11.out.mono HB6.out.size)).mono HB2.out.size)⟩
end
end Go.Proofs.YthbbpooobaahiaaGreatDoor.Zz
