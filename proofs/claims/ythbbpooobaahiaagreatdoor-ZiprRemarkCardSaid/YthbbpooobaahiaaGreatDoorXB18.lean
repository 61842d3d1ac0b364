/- Part 18. -/
import Derived.Test.YthbbpooobaahiaaGreatDoorXB15
import Derived.Test.YthbbpooobaahiaaGreatDoorXB17
namespace Go.Proofs.YthbbpooobaahiaaGreatDoor.Zz
set_option maxRecDepth 100000
section
open Go.RowKit Go.Maps
theorem suff_one (l:List UInt8):Lib.hasSuffix l [47]=(l.getLast? == some 47):=by
 unfold Lib.hasSuffix
 rw [Bool.eq_iff_iff,List.isSuffixOf_iff_suffix,beq_iff_eq]
 constructor
 ·rintro ⟨t,rfl⟩;simp
 ·intro h
  obtain ⟨l',rfl⟩:=List.getLast?_eq_some_iff.1 h
  exact ⟨l',rfl⟩
theorem suff_any (s:ByteArray) (w:World) (hs:s.size≤1000000):Calls Tryz.prog 70 #[.string s,.string ⟨#[47]⟩] w fun e w'=>e = .returned (.bool (endsSlash s))∧w=w':=by
 refine (Any.strings_HasSuffix lsuff s ⟨#[47]⟩ w (by omega)).mono ?_
 rintro e w' ⟨rfl,rfl⟩
 exact ⟨by rw [show (⟨#[47]⟩:ByteArray).data.toList=[47] from rfl,suff_one];rfl,rfl⟩
theorem rowR_fit {ys:List Nat} (hb:Bs ys) (p:Nat):Rfit (rowR ys p):=by
 refine ⟨nu4_lt hb _,nu4_lt hb _,nu4_lt hb _,nu4_lt hb _,?_,nu2_lt hb _⟩
 have:=nu2_lt hb (p+28)
 show (txt _).size≤65535
 rw [txt_size,List.length_take];omega
theorem rowZ_le {ys:List Nat} {p:Nat} (h:rowE ys p=0):rowZ ys p≤ys.length:=by
 unfold rowE at h
 split at h
 ·cases h
 ·rename_i hn;omega
theorem Rms.base {w:World} {B base:Nat} {v:Value} {l:List Rm} (h:Rms w base v l) (hB:B≤base):Rms w B v l:=
 ⟨own_base h.own hB,h.sl,fun x hx ad had=>Nat.le_trans hB (h.low x hx ad had),h.apart⟩
theorem set11n {w6:World} {b:Nat} {t:TypeId} {o0 o1 o2 o3 o4 o5 o6 o7 o8 o9 o10:Value} (h:Blk w6 b t #[o0,o1,o2,o3,o4,o5,o6,o7,o8,o9,o10]) (v0 v1 v2 v3 v4 v5 v6 v7 v8 v9 v10:Value) :
  Blk (((((((((((w6.setCell ⟨b,0,none⟩ v0).setCell ⟨b,1,none⟩ v1).setCell ⟨b,2,none⟩ v2).setCell ⟨b,3,none⟩ v3).setCell ⟨b,4,none⟩ v4).setCell ⟨b,5,none⟩ v5).setCell ⟨b,6,none⟩ v6).setCell ⟨b,7,none⟩ v7).setCell ⟨b,8,none⟩ v8).setCell ⟨b,9,none⟩ v9).setCell ⟨b,10,none⟩ v10) b t #[v0,v1,v2,v3,v4,v5,v6,v7,v8,v9,v10]∧Touch (fun k=>k=b) w6 (((((((((((w6.setCell ⟨b,0,none⟩ v0).setCell ⟨b,1,none⟩ v1).setCell ⟨b,2,none⟩ v2).setCell ⟨b,3,none⟩ v3).setCell ⟨b,4,none⟩ v4).setCell ⟨b,5,none⟩ v5).setCell ⟨b,6,none⟩ v6).setCell ⟨b,7,none⟩ v7).setCell ⟨b,8,none⟩ v8).setCell ⟨b,9,none⟩ v9).setCell ⟨b,10,none⟩ v10):=by
 have h1:Blk (w6.setCell ⟨b,0,none⟩ v0) b t #[v0,o1,o2,o3,o4,o5,o6,o7,o8,o9,o10]:=h.setCell 0 v0
 have t1:Touch (fun k=>k=b) w6 (w6.setCell ⟨b,0,none⟩ v0):=(Touch.refl _ w6).setCell ⟨b,0,none⟩ v0 (.inl rfl)
 have h2:Blk ((w6.setCell ⟨b,0,none⟩ v0).setCell ⟨b,1,none⟩ v1) b t #[v0,v1,o2,o3,o4,o5,o6,o7,o8,o9,o10]:=h1.setCell 1 v1
 have t2:Touch (fun k=>k=b) w6 ((w6.setCell ⟨b,0,none⟩ v0).setCell ⟨b,1,none⟩ v1):=t1.setCell ⟨b,1,none⟩ v1 (.inl rfl)
 have h3:Blk (((w6.setCell ⟨b,0,none⟩ v0).setCell ⟨b,1,none⟩ v1).setCell ⟨b,2,none⟩ v2) b t #[v0,v1,v2,o3,o4,o5,o6,o7,o8,o9,o10]:=h2.setCell 2 v2
 have t3:Touch (fun k=>k=b) w6 (((w6.setCell ⟨b,0,none⟩ v0).setCell ⟨b,1,none⟩ v1).setCell ⟨b,2,none⟩ v2):=t2.setCell ⟨b,2,none⟩ v2 (.inl rfl)
 have h4:Blk ((((w6.setCell ⟨b,0,none⟩ v0).setCell ⟨b,1,none⟩ v1).setCell ⟨b,2,none⟩ v2).setCell ⟨b,3,none⟩ v3) b t #[v0,v1,v2,v3,o4,o5,o6,o7,o8,o9,o10]:=h3.setCell 3 v3
 have t4:Touch (fun k=>k=b) w6 ((((w6.setCell ⟨b,0,none⟩ v0).setCell ⟨b,1,none⟩ v1).setCell ⟨b,2,none⟩ v2).setCell ⟨b,3,none⟩ v3):=t3.setCell ⟨b,3,none⟩ v3 (.inl rfl)
 have h5:Blk (((((w6.setCell ⟨b,0,none⟩ v0).setCell ⟨b,1,none⟩ v1).setCell ⟨b,2,none⟩ v2).setCell ⟨b,3,none⟩ v3).setCell ⟨b,4,none⟩ v4) b t #[v0,v1,v2,v3,v4,o5,o6,o7,o8,o9,o10]:=h4.setCell 4 v4
 have t5:Touch (fun k=>k=b) w6 (((((w6.setCell ⟨b,0,none⟩ v0).setCell ⟨b,1,none⟩ v1).setCell ⟨b,2,none⟩ v2).setCell ⟨b,3,none⟩ v3).setCell ⟨b,4,none⟩ v4):=t4.setCell ⟨b,4,none⟩ v4 (.inl rfl)
 have h6:Blk ((((((w6.setCell ⟨b,0,none⟩ v0).setCell ⟨b,1,none⟩ v1).setCell ⟨b,2,none⟩ v2).setCell ⟨b,3,none⟩ v3).setCell ⟨b,4,none⟩ v4).setCell ⟨b,5,none⟩ v5) b t #[v0,v1,v2,v3,v4,v5,o6,o7,o8,o9,o10]:=h5.setCell 5 v5
 have t6:Touch (fun k=>k=b) w6 ((((((w6.setCell ⟨b,0,none⟩ v0).setCell ⟨b,1,none⟩ v1).setCell ⟨b,2,none⟩ v2).setCell ⟨b,3,none⟩ v3).setCell ⟨b,4,none⟩ v4).setCell ⟨b,5,none⟩ v5):=t5.setCell ⟨b,5,none⟩ v5 (.inl rfl)
 have h7:Blk (((((((w6.setCell ⟨b,0,none⟩ v0).setCell ⟨b,1,none⟩ v1).setCell ⟨b,2,none⟩ v2).setCell ⟨b,3,none⟩ v3).setCell ⟨b,4,none⟩ v4).setCell ⟨b,5,none⟩ v5).setCell ⟨b,6,none⟩ v6) b t #[v0,v1,v2,v3,v4,v5,v6,o7,o8,o9,o10]:=h6.setCell 6 v6
 have t7:Touch (fun k=>k=b) w6 (((((((w6.setCell ⟨b,0,none⟩ v0).setCell ⟨b,1,none⟩ v1).setCell ⟨b,2,none⟩ v2).setCell ⟨b,3,none⟩ v3).setCell ⟨b,4,none⟩ v4).setCell ⟨b,5,none⟩ v5).setCell ⟨b,6,none⟩ v6):=t6.setCell ⟨b,6,none⟩ v6 (.inl rfl)
 have h8:Blk ((((((((w6.setCell ⟨b,0,none⟩ v0).setCell ⟨b,1,none⟩ v1).setCell ⟨b,2,none⟩ v2).setCell ⟨b,3,none⟩ v3).setCell ⟨b,4,none⟩ v4).setCell ⟨b,5,none⟩ v5).setCell ⟨b,6,none⟩ v6).setCell ⟨b,7,none⟩ v7) b t #[v0,v1,v2,v3,v4,v5,v6,v7,o8,o9,o10]:=h7.setCell 7 v7
 have t8:Touch (fun k=>k=b) w6 ((((((((w6.setCell ⟨b,0,none⟩ v0).setCell ⟨b,1,none⟩ v1).setCell ⟨b,2,none⟩ v2).setCell ⟨b,3,none⟩ v3).setCell ⟨b,4,none⟩ v4).setCell ⟨b,5,none⟩ v5).setCell ⟨b,6,none⟩ v6).setCell ⟨b,7,none⟩ v7):=t7.setCell ⟨b,7,none⟩ v7 (.inl rfl)
 have h9:Blk (((((((((w6.setCell ⟨b,0,none⟩ v0).setCell ⟨b,1,none⟩ v1).setCell ⟨b,2,none⟩ v2).setCell ⟨b,3,none⟩ v3).setCell ⟨b,4,none⟩ v4).setCell ⟨b,5,none⟩ v5).setCell ⟨b,6,none⟩ v6).setCell ⟨b,7,none⟩ v7).setCell ⟨b,8,none⟩ v8) b t #[v0,v1,v2,v3,v4,v5,v6,v7,v8,o9,o10]:=h8.setCell 8 v8
 have t9:Touch (fun k=>k=b) w6 (((((((((w6.setCell ⟨b,0,none⟩ v0).setCell ⟨b,1,none⟩ v1).setCell ⟨b,2,none⟩ v2).setCell ⟨b,3,none⟩ v3).setCell ⟨b,4,none⟩ v4).setCell ⟨b,5,none⟩ v5).setCell ⟨b,6,none⟩ v6).setCell ⟨b,7,none⟩ v7).setCell ⟨b,8,none⟩ v8):=t8.setCell ⟨b,8,none⟩ v8 (.inl rfl)
 have h10:Blk ((((((((((w6.setCell ⟨b,0,none⟩ v0).setCell ⟨b,1,none⟩ v1).setCell ⟨b,2,none⟩ v2).setCell ⟨b,3,none⟩ v3).setCell ⟨b,4,none⟩ v4).setCell ⟨b,5,none⟩ v5).setCell ⟨b,6,none⟩ v6).setCell ⟨b,7,none⟩ v7).setCell ⟨b,8,none⟩ v8).setCell ⟨b,9,none⟩ v9) b t #[v0,v1,v2,v3,v4,v5,v6,v7,v8,v9,o10]:=h9.setCell 9 v9
 have t10:Touch (fun k=>k=b) w6 ((((((((((w6.setCell ⟨b,0,none⟩ v0).setCell ⟨b,1,none⟩ v1).setCell ⟨b,2,none⟩ v2).setCell ⟨b,3,none⟩ v3).setCell ⟨b,4,none⟩ v4).setCell ⟨b,5,none⟩ v5).setCell ⟨b,6,none⟩ v6).setCell ⟨b,7,none⟩ v7).setCell ⟨b,8,none⟩ v8).setCell ⟨b,9,none⟩ v9):=t9.setCell ⟨b,9,none⟩ v9 (.inl rfl)
 have h11:Blk (((((((((((w6.setCell ⟨b,0,none⟩ v0).setCell ⟨b,1,none⟩ v1).setCell ⟨b,2,none⟩ v2).setCell ⟨b,3,none⟩ v3).setCell ⟨b,4,none⟩ v4).setCell ⟨b,5,none⟩ v5).setCell ⟨b,6,none⟩ v6).setCell ⟨b,7,none⟩ v7).setCell ⟨b,8,none⟩ v8).setCell ⟨b,9,none⟩ v9).setCell ⟨b,10,none⟩ v10) b t #[v0,v1,v2,v3,v4,v5,v6,v7,v8,v9,v10]:=h10.setCell 10 v10
 have t11:Touch (fun k=>k=b) w6 (((((((((((w6.setCell ⟨b,0,none⟩ v0).setCell ⟨b,1,none⟩ v1).setCell ⟨b,2,none⟩ v2).setCell ⟨b,3,none⟩ v3).setCell ⟨b,4,none⟩ v4).setCell ⟨b,5,none⟩ v5).setCell ⟨b,6,none⟩ v6).setCell ⟨b,7,none⟩ v7).setCell ⟨b,8,none⟩ v8).setCell ⟨b,9,none⟩ v9).setCell ⟨b,10,none⟩ v10):=t10.setCell ⟨b,10,none⟩ v10 (.inl rfl)
 exact ⟨h11,t11⟩
theorem cell_touch {S:Nat→Prop} {w w':World} {k i:Nat} {v:Value} (ht:Touch S w w') (hc:w.cell? ⟨k,i,none⟩=some v) (hs:¬S k):w'.cell? ⟨k,i,none⟩=some v:=
 (World.cell?_of_block (w:=w) (ht.block k (World.block_lt_of_cell? w _ hc) hs)).trans hc
theorem owns_touch {S:Nat→Prop} {w w':World} {mb n:Nat} {D:DataW Unit} (h:w.ownsMap Tryz.prog 9 unitElem mb n D) (ht:Touch S w w') (hs:¬S mb):w'.ownsMap Tryz.prog 9 unitElem mb n D:=by
 obtain ⟨es,clock,hk,F,hs',hD⟩:=h
 exact ⟨es,clock,(ht.block mb (Array.getElem?_eq_some_iff.1 hk).1 hs).trans hk,F,hs',hD⟩
def RRTo (B q:Nat) (ao:Option Addr) (len cap f e:Nat) (tr:Except Nat (List Rw)) (w:World) (en:Ending) (w':World):Prop:=
 Below B w w'∧match tr with
  | .error er=>en=zpan er
  | .ok l=>en = .returned (.tuple #[])∧∃ (rms:List Rm) (a1:Option Addr) (c1:Nat),rms.map (·.r)=l∧Blk w' q 61 #[.slice ao len cap,.int .i64 (f:Nat),.int .i64 (e:Nat),.slice a1 rms.length c1]∧Rms w' B (.slice a1 rms.length c1) rms
theorem RRTo.bad {B q:Nat} {ao:Option Addr} {len cap f e:Nat} {tr:Except Nat (List Rw)} {w w':World} (er:Nat) (h:tr = .error er) (hb:Below B w w'):RRTo B q ao len cap f e tr w (zpan er) w':=by
 subst h;exact ⟨hb,rfl⟩
set_option maxHeartbeats 6400000 in
theorem readRows_any (B q:Nat) (ao:Option Addr) (cap:Nat) (xs:List Nat) (f e n:Nat) (w:World) (hB:B≤q) (hBw:B≤w.heap.size) (hT:∀ W,Below B w W→TZ W) (h:∀ W,Below B w W→Cu.Sl W ao cap xs) (he:e≤xs.length) (hf:f≤4294967296) (hm:xs.length≤1000000) (hn:n≤65535)
  (hq:Blk w q 61 #[.slice ao xs.length cap,.int .i64 (f:Nat),.int .i64 (e:Nat),.slice none 0 0]) :
  Calls Tryz.prog 46 #[.pointer (some ⟨q,0,none⟩),.int .i64 (n:Nat)] w (RRTo B q ao xs.length cap f e (rowsP (xs.take e) n f []) w):=by
 obtain ⟨ys,hys⟩:∃ ys,ys=xs.take e:=⟨_,rfl⟩
 have hyl:ys.length=e:=by rw [hys,List.length_take];omega
 have HS:Hid (∀ W,Below B w W→Cu.Sl W ao cap ys):=Lib.hid fun W hW=>by
  have:=(h W hW).cut' 0 e (by omega)
  rw [Cu.cutA_zero,Nat.sub_zero,List.drop_zero,←hys] at this
  exact this
 have hcap:=(h w (Below.refl _ _)).le
 have hbs:Bs ys:=(HS.out w (Below.refl _ _)).bs
 have HSH:=fun W=>Cu.slice_h ao xs.length cap e (by omega) W
 have HT:=Lib.hid hT
 have HYL:=Lib.hid hyl
 have hbs':=Lib.hid hbs
 rw [←hys]
 have K68:=Lib.hid (likeNames_any w)
 have HQ:=Lib.hid hq
 have q1:=(hq.cell 1).trans (show _=some (.int .i64 (f:Nat)) from rfl)
 have hqw:=hq.lt
 obtain ⟨RES,hRES⟩:∃ RES,RES=rowsP ys n f []:=⟨_,rfl⟩
 rw [←hRES]
 have HRES:=Lib.hid hRES
 clear hT h hys hyl hbs hq hRES
 go_enter Tryz.func46,Tryz.ntmps46
 go_upto_region 1 with (go_at_call 68;refine K68.out.mono ?_;rintro e' w1 ⟨rfl,hcl,hmap,hb1⟩;have HM:=Lib.hid hmap;have HCL:=Lib.hid hcl;have HB1:=Lib.hid hb1;have HQ1:=Lib.hid (HQ.out.below hb1);clear hmap hb1 hcl q1;have q1:=(HQ1.out.cell 1).trans (show _=some (.int .i64 (f:Nat)) from rfl))
 go_wp2_with fail
 have hmb1:w.heap.size+1<w1.heap.size:=World.block_lt_of_cell? w1 _ HCL.out
 go_loopw [5,14] (fun v5 vi wr=>∃ (i p:Nat) (rms:List Rm) (a1:Option Addr) (c1:Nat) (D:DataW Unit),i≤n∧vi = .int .i64 i∧v5 = .int .i64 p∧p≤4294967296∧rms.length=i∧Hid (RES=rowsP ys (n-i) p (rms.map (·.r)))∧
  Hid (Blk wr q 61 #[.slice ao xs.length cap,.int .i64 (f:Nat),.int .i64 (e:Nat),.slice a1 i c1])∧Hid (Rms wr w1.heap.size (.slice a1 i c1) rms)∧Hid (wr.cell? ⟨w.heap.size+1,0,none⟩=some (.map (some w.heap.size)))∧Hid (wr.ownsMap Tryz.prog 9 unitElem w.heap.size i D)∧Hid (Seen (rms.map fun x=>foldL x.r.name) D)∧Hid (Below B w wr)∧w1.heap.size≤wr.heap.size) (fun _ vi _=>n-(intOf vi).toNat)
 case atStart=>exact ⟨0,f,[],none,0,_,Nat.zero_le _,rfl,rfl,hf,rfl,Lib.hid HRES.out,HQ1,Lib.hid (Rms.nil _ _),HCL,HM,Lib.hid Seen.start,Lib.hid (HB1.out.mono hBw),Nat.le_refl _⟩
 case round=>
  obtain ⟨i,p,rms,a1,c1,D,hi,rfl,rfl,hp,hrl,hst,hblk,hrms,hcl,hmap,hseen,hbel,hsz⟩:=hrel
  by_cases hlt:i<n
  ·have hii:(i:Int)<n:=by omega
   have hst':=hst.out
   rw [show n-i=(n-(i+1))+1 by omega,rowsP] at hst'
   have q0:=(hblk.out.cell 0).trans (show _=some (.slice ao xs.length cap) from rfl)
   have q2:=(hblk.out.cell 2).trans (show _=some (.int .i64 (e:Nat)) from rfl)
   have hql:=hblk.out.lt
   have HK:Hid (∀ W,Below wr.heap.size wr W→Calls Tryz.prog 69 #[.slice ao e cap,.int .i64 (p:Nat)] W (RowTo ys p W)):=Lib.hid fun W hW=>by
    have hbW:Below B w W:=hbel.out.trans (hW.mono (by omega))
    have:=rowAt_any ao cap ys p W (HT.out W hbW) (HS.out W hbW) (by rw [HYL.out];omega) (by omega)
    rwa [HYL.out] at this
   have hb0:Below wr.heap.size wr wr.drew:=below_drewN (Below.refl _ _) 1
   have hbA:Below wr.heap.size wr (wr.alloc (.cells #[.string ⟨#[]⟩,.int .i64 0,.int .i64 0,.int .i64 0,.int .i64 0,.int .i64 0,.int .i64 0,.int .i64 0,.int .i64 0,.int .u32 0,.slice none 0 0] 49)).drew:=below_drewN ((Below.refl _ wr).alloc (Nat.le_refl _) _) 1
   by_cases hrE:rowE ys p=0
   case neg=>
    obtain ⟨er,her⟩:∃ er,er=rowE ys p:=⟨_,rfl⟩
    have HE:Hid (RES = .error er):=Lib.hid (by rw [hst',if_pos hrE,her])
    have KB:Hid (∀ W,Below wr.heap.size wr W→Calls Tryz.prog 69 #[.slice ao e cap,.int .i64 (p:Nat)] W fun en w'=>Below B w w'∧en=zpan er):=Lib.hid fun W hW=>(HK.out W hW).mono fun en w' hh=>by
     rcases hh with ⟨hb,⟨_,h2⟩ | ⟨h2,_⟩⟩
     ·exact ⟨hbel.out.trans ((hW.on hb).mono (by omega)),by rw [her];exact h2⟩
     ·exact absurd h2 hrE
    have HB0:=Lib.hid hb0
    have HBA:=Lib.hid hbA
    clear her hrE hst' HK hb0 hbA
    go_upto_region 4 with fail
    go_region_dies
    all_goals
     go_at_call 69
     first
      | (with_reducible refine (KB.out wr.drew HB0.out).mono ?_)
      | (with_reducible refine (KB.out _ HBA.out).mono ?_)
     rintro en w4 ⟨hb4,rfl⟩
     exact ⟨rfl,RRTo.bad er HE.out hb4⟩
   case pos=>
   obtain ⟨r,hr⟩:∃ r,r=rowR ys p:=⟨_,rfl⟩
   obtain ⟨p2,hp2⟩:∃ p2,p2=rowZ ys p:=⟨_,rfl⟩
   have hp2l:p2≤4294967296:=by have:=rowZ_le hrE;have:=HYL.out;omega
   have HFit:Hid (Rfit r):=Lib.hid (by rw [hr];exact rowR_fit hbs'.out p)
   rw [if_neg (fun h=>h hrE),←hr,←hp2] at hst'
   have HST:=Lib.hid hst'
   have KG:Hid (∀ W,Below wr.heap.size wr W→Calls Tryz.prog 69 #[.slice ao e cap,.int .i64 (p:Nat)] W fun en w'=>Below W.heap.size W w'∧∃ ra rc,en = .returned (.tuple #[.agg (rcl r ra rc),.int .i64 (p2:Nat)])∧Cu.Sl w' ra rc r.remark∧∀ ad,ra=some ad→W.heap.size≤ad.block):=Lib.hid fun W hW=>(HK.out W hW).mono fun en w' hh=>by
    rcases hh with ⟨hb,⟨h2,_⟩ | ⟨_,h2⟩⟩
    ·exact absurd hrE h2
    ·rw [←hr,←hp2] at h2;exact ⟨hb,h2⟩
   have AF:Hid (∀ W,Below wr.heap.size wr W→(fun W=>W.cell? ⟨q,0,none⟩=some (.slice ao xs.length cap)∧W.cell? ⟨q,2,none⟩=some (.int .i64 (e:Nat))) W):=Lib.hid fun W hW=>⟨(hW.cell hql).trans q0,(hW.cell hql).trans q2⟩
   have HZ2:=Lib.hid ((Blk.made wr 49 #[.string ⟨#[]⟩,.int .i64 0,.int .i64 0,.int .i64 0,.int .i64 0,.int .i64 0,.int .i64 0,.int .i64 0,.int .i64 0,.int .u32 0,.slice none 0 0]).drewN 1)
   have HB0:=Lib.hid hb0
   have HBA:=Lib.hid hbA
   clear HK hst' hr hp2 hb0 hbA
   go_upto_region 4 with fail
   go_cut [6,7] from 16 to 68 (fun s6 s7 wx=>∃ b ra rc,s6 = .pointer (some ⟨b,0,none⟩)∧s7 = .int .i64 (p2:Nat)∧Blk wx b 49 (rcl r ra rc)∧Cu.Sl wx ra rc r.remark∧(∀ ad,ra=some ad→wr.heap.size≤ad.block)∧wr.heap.size≤b∧Touch (fun k=>wr.heap.size≤k) wr wx)
   case first=>
    go_region_held3 (fun W=>W.cell? ⟨q,0,none⟩=some (.slice ao xs.length cap)∧W.cell? ⟨q,2,none⟩=some (.int .i64 (e:Nat))) (exact AF.out _ (by repeat (first | with_reducible exact HB4.out | with_reducible exact Below.refl _ _ | with_reducible refine Below.more ?_ (Nat.le_refl _) _ | with_reducible refine bset ?_ _ _ rfl (by simp) | refine below_drewN ?_ 1))) (first
     | (go_at_call 69;(with_reducible refine (KG.out wr.drew HB0.out).mono ?_);rintro en w4 ⟨hb4,ra,rc,rfl,hsl,hfr⟩;have HB4:=Lib.hid (HB0.out.on hb4);have HSL:=Lib.hid hsl;have HFR:Hid (∀ ad,ra=some ad→wr.heap.size≤ad.block):=Lib.hid hfr;clear hb4 hsl hfr;obtain ⟨q0,q2⟩:=AF.out w4 HB4.out)
     | (go_at_call 69;(with_reducible refine (KG.out (wr.alloc (.cells #[.string ⟨#[]⟩,.int .i64 0,.int .i64 0,.int .i64 0,.int .i64 0,.int .i64 0,.int .i64 0,.int .i64 0,.int .i64 0,.int .u32 0,.slice none 0 0] 49)).drew HBA.out).mono ?_);rintro en w4 ⟨hb4,ra,rc,rfl,hsl,hfr⟩;have HB4:=Lib.hid (HBA.out.on hb4);have HSL:=Lib.hid hsl;have HFR:=Lib.hid hfr;have hy:=HZ2.out.below hb4;have HY4:=Lib.hid hy;have y0:=(hy.cell 0).trans (show _=some (.string ⟨#[]⟩) from rfl);have f0:=hy.free 0;have y1:=(hy.cell 1).trans (show _=some (.int .i64 0) from rfl);have f1:=hy.free 1;have y2:=(hy.cell 2).trans (show _=some (.int .i64 0) from rfl);have f2:=hy.free 2;have y3:=(hy.cell 3).trans (show _=some (.int .i64 0) from rfl);have f3:=hy.free 3;have y4:=(hy.cell 4).trans (show _=some (.int .i64 0) from rfl);have f4:=hy.free 4;have y5:=(hy.cell 5).trans (show _=some (.int .i64 0) from rfl);have f5:=hy.free 5;have y6:=(hy.cell 6).trans (show _=some (.int .i64 0) from rfl);have f6:=hy.free 6;have y7:=(hy.cell 7).trans (show _=some (.int .i64 0) from rfl);have f7:=hy.free 7;have y8:=(hy.cell 8).trans (show _=some (.int .i64 0) from rfl);have f8:=hy.free 8;have y9:=(hy.cell 9).trans (show _=some (.int .u32 0) from rfl);have f9:=hy.free 9;have y10:=(hy.cell 10).trans (show _=some (.slice none 0 0) from rfl);have f10:=hy.free 10;have ly:=hy.lt;clear hy hb4 hsl hfr;obtain ⟨q0,q2⟩:=AF.out w4 HB4.out))
    all_goals
     go_wp2_with fail
     go_meet
     case rel=>
      first
       | (
         have hs:=set11n HY4.out (.string r.name) (.int .i64 (r.flags:Nat)) (.int .i64 (r.method:Nat)) (.int .i64 (r.time:Nat)) (.int .i64 (r.date:Nat)) (.int .i64 (r.packed:Nat)) (.int .i64 (r.plain:Nat)) (.int .i64 (r.at_:Nat)) (.int .i64 (r.extra:Nat)) (.int .u32 (r.sum:Nat)) (.slice ra r.remark.length rc)
         have hfz:∀ ad,ra=some ad→wr.heap.size+1≤ad.block:=fun ad had=>by have:=HFR.out ad had;simpa using this
         have h1:=HSL.out.touch (touch_cu hs.2) (fun _ ad had hk=>by have:=hfz ad had;omega)
         have h2:=(Touch.of_below HB4.out:Touch (fun k=>wr.heap.size≤k) wr w4).trans (hs.2.mono fun k hk=>by omega)
         with_reducible exact ⟨_,ra,rc,rfl,rfl,hs.1,h1,(fun ad had=>by have:=hfz ad had;omega),Nat.le_refl _,h2⟩)
       | (
         with_reducible refine ⟨_,ra,rc,rfl,rfl,Blk.made _ _ _,HSL.out.below ?_,HFR.out,HB4.out.size,Touch.of_below ?_⟩
         ·exact (Below.refl _ _).alloc (Nat.le_refl _) _
         ·exact Below.more HB4.out (Nat.le_refl _) _)
   case rest=>
   obtain ⟨b,ra,rc,rfl,rfl,hbk,hsl,hfr,hwb,ht⟩:=hcut
   have hbl:Below wr.heap.size wr wc:=ht.below (Nat.le_refl _) fun _ h=>h
   have HQc:=Lib.hid (hblk.out.below hbl)
   have HCLc:=Lib.hid ((hbl.cell (World.block_lt_of_cell? wr _ hcl.out)).trans hcl.out)
   have HMc:=Lib.hid (owns_below hmap.out hbl)
   have HRc:=Lib.hid (hrms.out.below hbl)
   have HBc:=Lib.hid (hbel.out.trans (hbl.mono (by have:=hbel.out.size;omega)))
   have HLW:=Lib.hid fun k (hk:(Value.slice a1 i c1).ownBlock=some k)=>hrms.out.own.lt k hk
   have HBK:=Lib.hid hbk
   have HSL:=Lib.hid hsl
   have HFR:=Lib.hid hfr
   have hszc:wr.heap.size≤wc.heap.size:=hbl.size
   have K96:=Lib.hid (like_any (w.heap.size+1) w.heap.size i _ D r.name wc HCLc.out HMc.out hseen.out (by omega) (by have:=HFit.out.name;omega))
   have n0:=(hbk.cell 0).trans (show _=some (.string r.name) from rfl)
   obtain ⟨dup,hdup⟩:∃ dup,dup=decide (foldL r.name∈rms.map fun x=>foldL x.r.name):=⟨_,rfl⟩
   unfold LikeTo at K96
   rw [←hdup] at K96
   have HDUP:=Lib.hid hdup
   clear KG AF HZ2 HB0 HBA q0 q1 q2 hbk hsl hfr hbl ht hdup hblk hrms hcl hmap hseen hbel
   have HLM:Hid (((rms.map (·.r)).map fun r=>foldL r.name)=rms.map fun x=>foldL x.r.name):=Lib.hid (by rw [List.map_map];rfl)
   cases dup with
   | true=>
    have HE:Hid (RES = .error 13):=Lib.hid (by
     have h13:rowE2 ((rms.map (·.r)).map fun r=>foldL r.name) r=13:=by
      unfold rowE2;rw [HLM.out,if_pos (of_decide_eq_true HDUP.out.symm)]
     rw [HST.out,h13];rfl)
    go_wp2_with (first
     | (go_at_call 96;refine K96.out.mono ?_;rintro en w5 ⟨rfl,_,ht5⟩;have HB5:=Lib.hid (HBc.out.trans (ht5.below (B:=B) (by omega) fun k hk=>by rw [hk];exact hBw));clear ht5)
     | (go_at_call 43;refine (zmust_no 13 _).mono ?_;rintro e w' ⟨rfl,rfl⟩))
    exact ⟨rfl,RRTo.bad 13 HE.out HB5.out⟩
   | false=>
   go_upto_region 6 with (first
     | (go_at_call 96;refine K96.out.mono ?_;rintro en w5 ⟨rfl,⟨D5,hm5,hs5⟩,ht5⟩;have HM5:=Lib.hid hm5;have HS5:=Lib.hid hs5;have HT5:=Lib.hid ht5;clear hm5 hs5 ht5)
     | (go_at_call 43;refine (zmust_yes 13 _).mono ?_;rintro e w' ⟨rfl,rfl⟩))
   have hE2:rowE2 ((rms.map (·.r)).map fun r=>foldL r.name) r=if (r.method=0∧r.packed≠r.plain)∨(endsSlash r.name=true∧r.plain≠0) then 10 else 0:=by
    unfold rowE2;rw [HLM.out,if_neg (of_decide_eq_false HDUP.out.symm)]
   have HE2:=Lib.hid hE2
   have HBK5:=Lib.hid (HBK.out.touch HT5.out (by omega))
   have m0:=(HBK5.out.cell 0).trans (show _=some (.string r.name) from rfl)
   have m2:=(HBK5.out.cell 2).trans (show _=some (.int .i64 (r.method:Nat)) from rfl)
   have m5:=(HBK5.out.cell 5).trans (show _=some (.int .i64 (r.packed:Nat)) from rfl)
   have m6:=(HBK5.out.cell 6).trans (show _=some (.int .i64 (r.plain:Nat)) from rfl)
   have HB5:=Lib.hid (HBc.out.trans (HT5.out.below (B:=B) (by omega) fun k hk=>by rw [hk];exact hBw))
   clear hE2 K96 n0 HMc
   by_cases g1:r.method=0∧r.packed≠r.plain
   case pos=>
    have z0:((r.method:Int) != 0)=false:=by simp;omega
    have z1:((r.packed:Int) == (r.plain:Int))=false:=by simp;omega
    have HE:Hid (RES = .error 10):=Lib.hid (by
     have h10:=HE2.out
     rw [if_pos (Or.inl g1)] at h10
     rw [HST.out,h10];rfl)
    have G1:=Lib.hid g1
    clear g1
    go_wp2_with (go_at_call 43;refine (zmust_no 10 _).mono ?_;rintro e w' ⟨rfl,rfl⟩)
    exact ⟨rfl,RRTo.bad 10 HE.out HB5.out⟩
   case neg=>
   have G1:=Lib.hid g1
   clear g1
   go_cut [] from 36 to 68 (fun wx=>wx=w5)
   case first=>
    by_cases g0:r.method=0
    ·have z0:((r.method:Int) != 0)=false:=by simp;omega
     have z1:((r.packed:Int) == (r.plain:Int))=true:=by
      have:r.packed=r.plain:=Classical.byContradiction fun h=>G1.out ⟨g0,h⟩
      simp;omega
     clear g0
     go_wp2_with (go_at_call 43;refine (zmust_yes 10 _).mono ?_;rintro e w' ⟨rfl,rfl⟩)
     go_meet
     rfl
    ·have z0:((r.method:Int) != 0)=true:=by simp;omega
     clear g0
     go_wp2_with (go_at_call 43;refine (zmust_yes 10 _).mono ?_;rintro e w' ⟨rfl,rfl⟩)
     go_meet
     rfl
   case rest=>
   have hcut':=hcut.symm
   subst hcut'
   obtain ⟨es,hes⟩:∃ es,es=endsSlash r.name:=⟨_,rfl⟩
   have K70:=suff_any r.name w5 (by have:=HFit.out.name;omega)
   rw [←hes] at K70 HE2
   have K70:=Lib.hid K70
   clear hes
   by_cases g2:es=true∧r.plain≠0
   case pos=>
    have z1:((r.plain:Int) == 0)=false:=by simp;omega
    have HE:Hid (RES = .error 10):=Lib.hid (by
     have h10:=HE2.out
     rw [if_pos (Or.inr g2)] at h10
     rw [HST.out,h10];rfl)
    obtain ⟨rfl,_⟩:=g2
    go_wp2_with (first
     | (go_at_call 70;refine K70.out.mono ?_;rintro e w' ⟨rfl,rfl⟩)
     | (go_at_call 43;refine (zmust_no 10 _).mono ?_;rintro e w' ⟨rfl,rfl⟩))
    exact ⟨rfl,RRTo.bad 10 HE.out HB5.out⟩
   case neg=>
   have HR:Hid (RES=rowsP ys (n-(i+1)) p2 (rms.map (·.r)++[r])):=Lib.hid (by
    have h0:=HE2.out
    rw [if_neg (fun h=>h.elim G1.out g2)] at h0
    rw [HST.out,h0];rfl)
   have G2:=Lib.hid g2
   clear g2
   go_upto_region 7 with fail
   go_cut [] from 47 to 68 (fun wx=>wx=w5)
   case first=>
    cases es with
    | true=>
     have z1:((r.plain:Int) == 0)=true:=by
      have:r.plain=0:=Classical.byContradiction fun h=>G2.out ⟨rfl,h⟩
      simp;omega
     go_wp2_with (first
      | (go_at_call 70;refine K70.out.mono ?_;rintro e w' ⟨rfl,rfl⟩)
      | (go_at_call 43;refine (zmust_yes 10 _).mono ?_;rintro e w' ⟨rfl,rfl⟩))
     go_meet
     rfl
    | false=>
     go_wp2_with (first
      | (go_at_call 70;refine K70.out.mono ?_;rintro e w' ⟨rfl,rfl⟩)
      | (go_at_call 43;refine (zmust_yes 10 _).mono ?_;rintro e w' ⟨rfl,rfl⟩))
     go_meet
     rfl
   case rest=>
   have hcut':=hcut.symm
   subst hcut'
   clear K70 m0 m2 m5 m6 HST HE2 G1 G2
   have HQ5:=Lib.hid (HQc.out.touch HT5.out (by omega))
   have HCL5:=Lib.hid (cell_touch HT5.out HCLc.out (by omega))
   have HR5:=Lib.hid (HRc.out.touch HT5.out (fun k hk=>by omega))
   have HSL5:=Lib.hid (HSL.out.touch (touch_cu HT5.out) (fun _ ad had hk=>by have:=HFR.out ad had;omega))
   have hsz5:=HT5.out.size
   have Q3:=(HQ5.out.cell 3).trans (show _=some (.slice a1 i c1) from rfl)
   have k0:=(HBK5.out.cell 0).trans (show _=some (.string r.name) from rfl)
   have k1:=(HBK5.out.cell 1).trans (show _=some (.int .i64 (r.flags:Nat)) from rfl)
   have k2:=(HBK5.out.cell 2).trans (show _=some (.int .i64 (r.method:Nat)) from rfl)
   have k3:=(HBK5.out.cell 3).trans (show _=some (.int .i64 (r.time:Nat)) from rfl)
   have k4:=(HBK5.out.cell 4).trans (show _=some (.int .i64 (r.date:Nat)) from rfl)
   have k5:=(HBK5.out.cell 5).trans (show _=some (.int .i64 (r.packed:Nat)) from rfl)
   have k6:=(HBK5.out.cell 6).trans (show _=some (.int .i64 (r.plain:Nat)) from rfl)
   have k7:=(HBK5.out.cell 7).trans (show _=some (.int .i64 (r.at_:Nat)) from rfl)
   have k8:=(HBK5.out.cell 8).trans (show _=some (.int .i64 (r.extra:Nat)) from rfl)
   have k9:=(HBK5.out.cell 9).trans (show _=some (.int .u32 (r.sum:Nat)) from rfl)
   have k10:=(HBK5.out.cell 10).trans (show _=some (.slice ra r.remark.length rc) from rfl)
   have hbw5:=HBK5.out.lt
   have HOWN:Hid (w5.ownsRow w1.heap.size 49 11 (.slice a1 i c1) i (rmc rms)):=Lib.hid (by have:=HR5.out.own;rwa [hrl] at this)
   have hq5l:=HQ5.out.lt
   have hq5n:=World.new_ne w5 _ Q3
   have hBs:B≤w5.heap.size:=by have:=HB5.out.size;omega
   have hA0:∀ W,Touch (fun _=>False) w5 W→Touch (fun k=>w1.heap.size≤k∧k<wr.heap.size) w5 W:=fun W hW=>hW.mono fun _ h=>h.elim
   have HA0:=Lib.hid hA0
   clear hA0
   go_upto_region 8 with fail
   go_region_law (refine step_append_g at42 rfl (.tmp 61) (.tmp 63) rfl w1.heap.size (.slice a1 i c1) (.slice (some ⟨w5.heap.size,0,none⟩) 1 1) i 1 (rmc rms) (rme ⟨r,ra,rc⟩) (by simp [Act.eval]) (by simp [Act.eval]) (World.ownsRow.alloc (w:=w5) HOWN.out _) (cells_blk w5 49 (rcl r ra rc)) rfl (rme_one _) (by simp;omega) (by omega) (by omega) ?_;intro ao2 cc2 w6 hA;have hW0:Touch (fun _=>False) w5 (w5.alloc (.cells (rcl r ra rc) 49)):=(Touch.refl _ w5).alloc _;have hT6:Touch (fun k=>w1.heap.size≤k∧k<wr.heap.size) w5 w6:=(HA0.out _ (Touch.drewN hW0 1)).trans (hA.touch.mono fun k hk=>HLW.out k hk);have HT6:=Lib.hid hT6;have HQ6:=Lib.hid (HQ5.out.touch hT6 (by omega));have HR6:Hid (Rms w6 w1.heap.size (.slice ao2 (i+1) cc2) (rms++[⟨r,ra,rc⟩])):=Lib.hid (Rms.app (HR5.out.below ((Touch.drewN hW0 1).nb)) (HSL5.out.below ((Touch.drewN hW0 1).nb)) (fun ad had=>by have:=HFR.out ad had;omega) (fun _ ad had hc=>by have:=HFR.out ad had;have:=HLW.out _ hc;omega) (by rw [hrl];exact hA));have Q63:=(HQ6.out.cell 3).trans (show _=some (.slice a1 i c1) from rfl);have hQ6:=HQ6.out.free 3;have hq6:=HQ6.out.lt;clear hA hW0 hT6)
   all_goals
    have T67:Touch (fun k=>k=q) w6 (w6.setCell ⟨q,3,none⟩ (.slice ao2 (i+1) cc2)):=(Touch.refl _ _).setCell _ _ (.inl rfl)
    have HBlk7:=Lib.hid (HQ6.out.setCell 3 (.slice ao2 (i+1) cc2))
    have HR7:=Lib.hid (HR6.out.touch T67 (fun k hk=>by omega))
    have HCL7:=Lib.hid (cell_touch T67 (cell_touch HT6.out HCL5.out (by omega)) (by omega))
    have HM7:=Lib.hid (owns_touch (owns_touch HM5.out HT6.out (by omega)) T67 (by omega))
    have HS7:Hid (Seen ((rms++[(⟨r,ra,rc⟩:Rm)]).map fun x:Rm=>foldL x.r.name) D5):=Lib.hid (by rw [List.map_append];exact HS5.out)
    have HN7:Hid (RES=rowsP ys (n-(i+1)) p2 ((rms++[(⟨r,ra,rc⟩:Rm)]).map fun x:Rm=>x.r)):=Lib.hid (by rw [List.map_append];exact HR.out)
    have HB7:=Lib.hid ((HB5.out.trans (HT6.out.below (B:=B) hBs (fun k hk=>by omega))).trans (T67.below (B:=B) (by have:=HT6.out.size;omega) (fun k hk=>by omega)))
    have hsz7:w1.heap.size≤(w6.setCell ⟨q,3,none⟩ (.slice ao2 (i+1) cc2)).heap.size:=by have:=T67.size;have:=HT6.out.size;omega
    clear T67
    go_wp2_with fail
    go_roundw
    case rel=>exact ⟨i+1,p2,rms++[⟨r,ra,rc⟩],ao2,cc2,D5,by omega,by go_num,rfl,hp2l,by simp [hrl],HN7,HBlk7,HR7,HCL7,HM7,HS7,HB7,hsz7⟩
    case measure=>simp [intOf];omega
  ·obtain rfl:i=n:=by omega
   have hni:¬(i:Int)<i:=by omega
   have q2:=(hblk.out.cell 2).trans (show _=some (.int .i64 (e:Nat)) from rfl)
   have hst':=hst.out
   rw [Nat.sub_self,rowsP] at hst'
   have HST:=Lib.hid hst'
   have HBLK:=Lib.hid hblk.out
   have HRMS:=Lib.hid (hrms.out.base (B:=B) (by have:=HB1.out.size;omega))
   have HBEL:=Lib.hid hbel.out
   clear hst' hst hblk hrms hcl hmap hseen hbel
   by_cases hpe:p=e
   ·have z0:((p:Int) == (e:Int))=true:=by simp;omega
    have HE:Hid (RES = .ok (rms.map (·.r))):=Lib.hid (by rw [HST.out,if_pos (hpe.trans HYL.out.symm)])
    clear hpe
    go_wp2_with (go_at_call 43;refine (zmust_yes 10 _).mono ?_;rintro e w' ⟨rfl,rfl⟩)
    go_end0
    refine ⟨HBEL.out,?_⟩
    rw [HE.out]
    exact ⟨rfl,rms,a1,c1,rfl,by rw [hrl];exact HBLK.out,by rw [hrl];exact HRMS.out⟩
   ·have z0:((p:Int) == (e:Int))=false:=by simp;omega
    have HE:Hid (RES = .error 10):=Lib.hid (by rw [HST.out,if_neg (fun h=>hpe (h.trans HYL.out))])
    clear hpe
    go_wp2_with (go_at_call 43;refine (zmust_no 10 _).mono ?_;rintro e w' ⟨rfl,rfl⟩)
    exact ⟨rfl,RRTo.bad 10 HE.out HBEL.out⟩
end
section
open Go.RowKit
abbrev endKs:List Int:=[0,0,0,0,1,1]
theorem endKs_ok:Ks endKs:=by intro k hk;simp at hk;omega
theorem endKs_kt:kt endKs=16:=by simp [kt,kw]
theorem endB_fits {xs:List Nat}:∀ {k e:Nat},endB xs k=some e→e<k∧e+22≤xs.length:=by
 intro k
 induction k with
 | zero=>intro e h;cases h
 | succ k ih=>
  intro e h
  unfold endB at h
  split at h
  ·rename_i hh;cases h;omega
  ·have:=ih h;omega
theorem endP_fits {xs:List Nat} {e:Nat} (h:endP xs=some e):e+22≤xs.length:=(endB_fits h).2
def OpTo (ao:Option Addr) (len cap:Nat) (tr:Except Nat (List Rw × Nat × Nat)) (w:World) (en:Ending) (w':World):Prop:=
 Below w.heap.size w w'∧match tr with
  | .error er=>en=zpan er
  | .ok (l,f,e)=>∃ (rms:List Rm) (a1:Option Addr) (c1:Nat),rms.map (·.r)=l∧en = .returned (.agg #[.slice ao len cap,.int .i64 (f:Nat),.int .i64 (e:Nat),.slice a1 rms.length c1])∧Rms w' w.heap.size (.slice a1 rms.length c1) rms
theorem OpTo.bad {ao:Option Addr} {len cap:Nat} {tr:Except Nat (List Rw × Nat × Nat)} {w w':World} (er:Nat) (h:tr = .error er) (hb:Below w.heap.size w w'):OpTo ao len cap tr w (zpan er) w':=by
 subst h;exact ⟨hb,rfl⟩
theorem res25 {t:Array Value} {W:World} {q:Nat} {x0 x1 x2 x3:Value} (h2:t[4]? = some (.pointer (some ⟨q,0,none⟩))) (h:Blk W q 61 #[x0,x1,x2,x3]) :
  (results Tryz.f25 t).run Tryz.prog W = .ok (.agg #[x0,x1,x2,x3]) W:=by
 have e0:=(h.cell 0).trans (show _=some x0 from rfl)
 have e1:=(h.cell 1).trans (show _=some x1 from rfl)
 have e2:=(h.cell 2).trans (show _=some x2 from rfl)
 have e3:=(h.cell 3).trans (show _=some x3 from rfl)
 simp [results,Tryz.results25,h2,go_sem,e0,e1,e2,e3]
set_option maxHeartbeats 3200000 in
theorem opened_any (ao:Option Addr) (cap:Nat) (xs:List Nat) (B E T:Int) (w:World) (hT:TZ w) (h:Cu.Sl w ao cap xs) (hm:xs.length≤1000000) :
  Calls Tryz.prog 25 #[.slice ao xs.length cap,.agg #[.int .i64 B,.int .i64 E,.int .i64 T]] w (OpTo ao xs.length cap (openP xs B E) w):=by
 obtain ⟨w1,hw1⟩:∃ w1,w1=(w.alloc (.cells #[.int .i64 B,.int .i64 E,.int .i64 T] 24)).alloc (.cells #[.slice none 0 0,.int .i64 0,.int .i64 0,.slice none 0 0] 61):=⟨_,rfl⟩
 have hb1:Below w.heap.size w w1:=by rw [hw1];exact ((Below.refl _ w).alloc (Nat.le_refl _) _).alloc (by simp) _
 have hz1:w1.heap.size=w.heap.size+2:=by rw [hw1,alloc_size,alloc_size]
 have HL:Hid (Blk w1 w.heap.size 24 #[.int .i64 B,.int .i64 E,.int .i64 T]):=Lib.hid (by rw [hw1];exact (Blk.made w 24 _).below ((Below.refl _ _).alloc (Nat.le_refl _) _))
 have HR:Hid (Blk w1 (w.heap.size+1) 61 #[.slice none 0 0,.int .i64 0,.int .i64 0,.slice none 0 0]):=Lib.hid (by rw [hw1];exact Blk.made1 _ _ _ _)
 have HB1:=Lib.hid hb1
 have HT:=Lib.hid hT
 have HS0:=Lib.hid h
 have HS:=Lib.hid (h.below hb1)
 have hbs:Bs xs:=h.bs
 have K44:=Lib.hid (endPlace_any ao cap xs w1 (h.below hb1) hm)
 obtain ⟨RES,hRES⟩:∃ RES,RES=openP xs B E:=⟨_,rfl⟩
 rw [←hRES]
 have HRES:=Lib.hid hRES
 clear hT h hb1 hRES
 go_enter Tryz.func25,Tryz.ntmps25
 go_upto_region 1 with fail
 rw [←hw1]
 clear hw1
 have l0:=(HL.out.cell 0).trans (show _=some (.int .i64 B) from rfl)
 by_cases g0:(xs.length:Int)≤max B 0
 case neg=>
  have HE:Hid (RES = .error 14):=Lib.hid (by rw [HRES.out,openP,if_pos (by omega)])
  have z0:decide ((xs.length:Int)≤max B 0)=false:=by simpa using g0
  go_wp2_with (go_at_call 43;refine (zmust_no 14 _).mono ?_;rintro e w' ⟨rfl,rfl⟩)
  exact ⟨rfl,OpTo.bad 14 HE.out HB1.out⟩
 case pos=>
 go_upto_region 2 with (go_at_call 43;refine (zmust_yes 14 _).mono ?_;rintro e w' ⟨rfl,rfl⟩)
 have G0:=Lib.hid g0
 clear g0 l0
 cases hE0:endP xs with
 | none=>
  rw [hE0] at K44
  have HE:Hid (RES = .error 10):=Lib.hid (by rw [HRES.out,openP,if_neg (by have:=G0.out;omega),hE0])
  have K44:=Lib.hid (show Calls Tryz.prog 44 #[.slice ao xs.length cap] w1 fun e w'=>e = .returned (.int .i64 (-1))∧w1=w' from K44.out)
  clear hE0
  go_wp2_with (first
   | (go_at_call 44;refine K44.out.mono ?_;rintro e w' ⟨rfl,rfl⟩)
   | (go_at_call 43;refine (zmust_no 10 _).mono ?_;rintro e w' ⟨rfl,rfl⟩))
  exact ⟨rfl,OpTo.bad 10 HE.out HB1.out⟩
 | some e=>
  rw [hE0] at K44
  have hfit:=endP_fits hE0
  have K44:=Lib.hid (show Calls Tryz.prog 44 #[.slice ao xs.length cap] w1 fun en w'=>en = .returned (.int .i64 (e:Nat))∧w1=w' from K44.out)
  have HRES2:Hid (RES=if endE xs e E≠0 then .error (endE xs e E) else match rowsP (xs.take e) (nu2 xs (e+10)) (nu4 xs (e+16)) [] with
    | .error f => .error f
    | .ok l => .ok (l,nu4 xs (e+16),e)):=Lib.hid (by rw [HRES.out,openP,if_neg (by have:=G0.out;omega),hE0];rfl)
  clear hE0
  go_upto_region 4 with (first
   | (go_at_call 44;refine K44.out.mono ?_;rintro e w' ⟨rfl,rfl⟩)
   | (go_at_call 43;refine (zmust_yes 10 _).mono ?_;rintro e w' ⟨rfl,rfl⟩))
  obtain ⟨wk,hwk⟩:∃ wk,wk=w1.alloc (.cells #[.int .i64 0,.int .i64 0,.int .i64 0,.int .i64 0,.int .i64 1,.int .i64 1] 82):=⟨_,rfl⟩
  have hbk:Below w1.heap.size w1 wk:=by rw [hwk];exact (Below.refl _ w1).alloc (Nat.le_refl _) _
  have hks:Cu.KSrc wk (some ⟨w.heap.size+2,0,none⟩) endKs:=ksrc_lit (t:=82) (by rw [hwk,←hz1];exact Blk.made _ _ _)
  have K45:=numbers_ok ao cap xs (e+4) _ 6 endKs wk (HS.out.below hbk) hks endKs_ok hm (by decide) (by rw [endKs_kt];omega)
  rw [show ((e+4:Nat):Int)=(e:Int)+4 by omega] at K45
  have K45:=Lib.hid K45
  have HBK:=Lib.hid hbk
  clear hks hbk
  go_wp2_with fail
  rw [←hwk]
  clear hwk
  refine K45.out.mono ?_
  rintro en w2 ⟨hb2,g,rfl,hg,hN⟩
  have c0:w2.cell? ⟨g,0,none⟩=some (.int .i64 (nu2 xs (e+4):Nat)):=hN 0 (by simp [nsAt])
  have c1:w2.cell? ⟨g,1,none⟩=some (.int .i64 (nu2 xs (e+6):Nat)):=hN 1 (by simp [nsAt])
  have c2:w2.cell? ⟨g,2,none⟩=some (.int .i64 (nu2 xs (e+8):Nat)):=hN 2 (by simp [nsAt])
  have c3:w2.cell? ⟨g,3,none⟩=some (.int .i64 (nu2 xs (e+10):Nat)):=hN 3 (by simp [nsAt])
  have c4:w2.cell? ⟨g,4,none⟩=some (.int .i64 (nu4 xs (e+12):Nat)):=hN 4 (by simp [nsAt])
  have c5:w2.cell? ⟨g,5,none⟩=some (.int .i64 (nu4 xs (e+16):Nat)):=hN 5 (by simp [nsAt])
  have hd3:=nu2_lt hbs (e+10)
  have hd4:=nu4_lt hbs (e+12)
  have hd5:=nu4_lt hbs (e+16)
  unfold endE at HRES2
  generalize nu2 xs (e+4)=d0 at c0 HRES2
  generalize nu2 xs (e+6)=d1 at c1 HRES2
  generalize nu2 xs (e+8)=d2 at c2 HRES2
  generalize nu2 xs (e+10)=d3 at c3 hd3 HRES2
  generalize nu4 xs (e+12)=d4 at c4 hd4 HRES2
  generalize nu4 xs (e+16)=d5 at c5 hd5 HRES2
  have hb12:Below w1.heap.size w1 w2:=HBK.out.trans (hb2.mono HBK.out.size)
  have HB2:=Lib.hid (HB1.out.trans (hb12.mono HB1.out.size))
  have HL2:=Lib.hid (HL.out.below hb12)
  have HR2:=Lib.hid (HR.out.below hb12)
  have hgl:g<w2.heap.size:=World.block_lt_of_cell? w2 _ c0
  clear hN hb2 hb12 K45 K44 HBK
  go_upto_region 5 with fail
  go_quiet (fail)
  clear c0 c1 c2 c3 c4 c5
  obtain ⟨w3,hw3⟩:∃ w3,w3=w2.drewN nq:=⟨_,rfl⟩
  rw [←hw3]
  have HB3:Hid (Below w.heap.size w w3):=Lib.hid (by rw [hw3];exact below_drewN HB2.out _)
  have HR3:Hid (Blk w3 (w.heap.size+1) 61 #[.slice none 0 0,.int .i64 0,.int .i64 0,.slice none 0 0]):=Lib.hid (by rw [hw3];exact HR2.out.drewN _)
  have HL3:Hid (Blk w3 w.heap.size 24 #[.int .i64 B,.int .i64 E,.int .i64 T]):=Lib.hid (by rw [hw3];exact HL2.out.drewN _)
  have l1:=(HL3.out.cell 1).trans (show _=some (.int .i64 E) from rfl)
  clear hw3
  by_cases a0:d0=0
  case neg=>
   have za0:((d0:Int) == 0)=false:=by simp;omega
   have HE:Hid (RES = .error 17):=Lib.hid (by
    have h17:=HRES2.out
    rw [if_pos (show _∨_ from .inl a0)] at h17
    rw [h17];rfl)
   clear a0
   go_wp2_with (first
    | (go_at_call 43;refine (zmust_yes 17 _).mono ?_;rintro e w' ⟨rfl,rfl⟩)
    | (go_at_call 43;refine (zmust_no 17 _).mono ?_;rintro e w' ⟨rfl,rfl⟩))
   exact ⟨rfl,OpTo.bad 17 HE.out HB3.out⟩
  case pos=>
  have za0:((d0:Int) == 0)=true:=by simp;omega
  have Ha0:=Lib.hid a0
  clear a0
  by_cases a1:d1=0
  case neg=>
   have za1:((d1:Int) == 0)=false:=by simp;omega
   have HE:Hid (RES = .error 17):=Lib.hid (by
    have h17:=HRES2.out
    rw [if_pos (show _∨_ from .inr (.inl a1))] at h17
    rw [h17];rfl)
   clear a1
   go_wp2_with (first
    | (go_at_call 43;refine (zmust_yes 17 _).mono ?_;rintro e w' ⟨rfl,rfl⟩)
    | (go_at_call 43;refine (zmust_no 17 _).mono ?_;rintro e w' ⟨rfl,rfl⟩))
   exact ⟨rfl,OpTo.bad 17 HE.out HB3.out⟩
  case pos=>
  have za1:((d1:Int) == 0)=true:=by simp;omega
  have Ha1:=Lib.hid a1
  clear a1
  by_cases a2:d2≠65535
  case neg=>
   have za2:((d2:Int) != 65535)=false:=by simp;omega
   have HE:Hid (RES = .error 17):=Lib.hid (by
    have h17:=HRES2.out
    rw [if_pos (show _∨_ from .inr (.inr (.inl (Classical.not_not.1 a2))))] at h17
    rw [h17];rfl)
   clear a2
   go_wp2_with (first
    | (go_at_call 43;refine (zmust_yes 17 _).mono ?_;rintro e w' ⟨rfl,rfl⟩)
    | (go_at_call 43;refine (zmust_no 17 _).mono ?_;rintro e w' ⟨rfl,rfl⟩))
   exact ⟨rfl,OpTo.bad 17 HE.out HB3.out⟩
  case pos=>
  have za2:((d2:Int) != 65535)=true:=by simp;omega
  have Ha2:=Lib.hid a2
  clear a2
  by_cases a3:d3≠65535
  case neg=>
   have za3:((d3:Int) != 65535)=false:=by simp;omega
   have HE:Hid (RES = .error 17):=Lib.hid (by
    have h17:=HRES2.out
    rw [if_pos (show _∨_ from .inr (.inr (.inr (.inl (Classical.not_not.1 a3)))))] at h17
    rw [h17];rfl)
   clear a3
   go_wp2_with (first
    | (go_at_call 43;refine (zmust_yes 17 _).mono ?_;rintro e w' ⟨rfl,rfl⟩)
    | (go_at_call 43;refine (zmust_no 17 _).mono ?_;rintro e w' ⟨rfl,rfl⟩))
   exact ⟨rfl,OpTo.bad 17 HE.out HB3.out⟩
  case pos=>
  have za3:((d3:Int) != 65535)=true:=by simp;omega
  have Ha3:=Lib.hid a3
  clear a3
  by_cases a4:d4≠4294967295
  case neg=>
   have za4:((d4:Int) != 4294967295)=false:=by simp;omega
   have HE:Hid (RES = .error 17):=Lib.hid (by
    have h17:=HRES2.out
    rw [if_pos (show _∨_ from .inr (.inr (.inr (.inr (.inl (Classical.not_not.1 a4))))))] at h17
    rw [h17];rfl)
   clear a4
   go_wp2_with (first
    | (go_at_call 43;refine (zmust_yes 17 _).mono ?_;rintro e w' ⟨rfl,rfl⟩)
    | (go_at_call 43;refine (zmust_no 17 _).mono ?_;rintro e w' ⟨rfl,rfl⟩))
   exact ⟨rfl,OpTo.bad 17 HE.out HB3.out⟩
  case pos=>
  have za4:((d4:Int) != 4294967295)=true:=by simp;omega
  have Ha4:=Lib.hid a4
  clear a4
  by_cases a5:d5≠4294967295
  case neg=>
   have za5:((d5:Int) != 4294967295)=false:=by simp;omega
   have HE:Hid (RES = .error 17):=Lib.hid (by
    have h17:=HRES2.out
    rw [if_pos (show _∨_ from .inr (.inr (.inr (.inr (.inr (Classical.not_not.1 a5))))))] at h17
    rw [h17];rfl)
   clear a5
   go_wp2_with (first
    | (go_at_call 43;refine (zmust_yes 17 _).mono ?_;rintro e w' ⟨rfl,rfl⟩)
    | (go_at_call 43;refine (zmust_no 17 _).mono ?_;rintro e w' ⟨rfl,rfl⟩))
   exact ⟨rfl,OpTo.bad 17 HE.out HB3.out⟩
  case pos=>
  have za5:((d5:Int) != 4294967295)=true:=by simp;omega
  have Ha5:=Lib.hid a5
  clear a5
  have HRES3:Hid (RES=if (if d2≠d3∨d5+d4≠e then 10 else if max E 0<(d3:Int) then 14 else 0)≠0 then .error (if d2≠d3∨d5+d4≠e then 10 else if max E 0<(d3:Int) then 14 else 0) else match rowsP (xs.take e) d3 d5 [] with
    | .error f => .error f
    | .ok l => .ok (l,d5,e)):=Lib.hid (by
   have h17:=HRES2.out
   rw [if_neg (show ¬(d0≠0∨d1≠0∨d2=65535∨d3=65535∨d4=big∨d5=big) from by rintro (h | h | h | h | h | h) <;> first | exact h Ha0.out | exact h Ha1.out | exact Ha2.out h | exact Ha3.out h | exact Ha4.out h | exact Ha5.out h)] at h17
   exact h17)
  clear HRES2 HRES
  go_upto_region 8 with (go_at_call 43;refine (zmust_yes 17 _).mono ?_;rintro e w' ⟨rfl,rfl⟩)
  clear za0 za1 za2 za3 za4 za5
  obtain ⟨S,hS⟩:∃ S,S=d5+d4:=⟨_,rfl⟩
  have hwS:IntKind.i64.wrap ((d5:Int)+d4)=(S:Int):=by rw [wrap_sm _ (by omega) (by omega)];omega
  rw [←hS] at HRES3
  clear hS
  by_cases b1:d2=d3
  case neg=>
   have zb1:((d2:Int) == (d3:Int))=false:=by simp;omega
   have HE:Hid (RES = .error 10):=Lib.hid (by
    have h10:=HRES3.out
    rw [if_pos (show _∨_ from .inl b1)] at h10
    rw [h10];rfl)
   go_wp2_with (go_at_call 43;refine (zmust_no 10 _).mono ?_;rintro e w' ⟨rfl,rfl⟩)
   exact ⟨rfl,OpTo.bad 10 HE.out HB3.out⟩
  case pos=>
  have zb1:((d2:Int) == (d3:Int))=true:=by simp;omega
  have Hb1:=Lib.hid b1
  clear b1
  by_cases b2:S=e
  case neg=>
   have zb2:((S:Int) == (e:Int))=false:=by simp;omega
   have HE:Hid (RES = .error 10):=Lib.hid (by
    have h10:=HRES3.out
    rw [if_pos (show _∨_ from .inr b2)] at h10
    rw [h10];rfl)
   clear b2
   go_wp2_with (go_at_call 43;refine (zmust_no 10 _).mono ?_;rintro e w' ⟨rfl,rfl⟩)
   exact ⟨rfl,OpTo.bad 10 HE.out HB3.out⟩
  case pos=>
  have zb2:((S:Int) == (e:Int))=true:=by simp;omega
  have Hb2:=Lib.hid b2
  clear b2
  have HRES4:Hid (RES=if (if max E 0<(d3:Int) then 14 else 0)≠0 then .error (if max E 0<(d3:Int) then 14 else 0) else match rowsP (xs.take e) d3 d5 [] with
    | .error f => .error f
    | .ok l => .ok (l,d5,e)):=Lib.hid (by
   have h10:=HRES3.out
   rw [if_neg (show ¬(_∨_) from fun h=>h.elim (fun h=>h Hb1.out) (fun h=>h Hb2.out))] at h10
   exact h10)
  go_upto_region 9 with (go_at_call 43;refine (zmust_yes 10 _).mono ?_;rintro e w' ⟨rfl,rfl⟩)
  clear zb1 zb2 hwS HRES3
  by_cases g1:(d3:Int)≤max E 0
  case neg=>
   have HE:Hid (RES = .error 14):=Lib.hid (by
    have h10:=HRES4.out
    rw [if_pos (show max E 0<(d3:Int) by omega)] at h10
    rw [h10];rfl)
   have z0:decide ((d3:Int)≤max E 0)=false:=by simpa using g1
   go_wp2_with (go_at_call 43;refine (zmust_no 14 _).mono ?_;rintro e w' ⟨rfl,rfl⟩)
   exact ⟨rfl,OpTo.bad 14 HE.out HB3.out⟩
  case pos=>
  have HRES5:Hid (RES=match rowsP (xs.take e) d3 d5 [] with
    | .error f => .error f
    | .ok l => .ok (l,d5,e)):=Lib.hid (by
   have h10:=HRES4.out
   rw [if_neg (show ¬max E 0<(d3:Int) by omega)] at h10
   exact h10)
  go_upto_region 10 with (go_at_call 43;refine (zmust_yes 14 _).mono ?_;rintro e w' ⟨rfl,rfl⟩)
  clear g1 l1 HRES4
  go_upto_region 11 with fail
  obtain ⟨w4,hw4⟩:∃ w4,w4=w3.alloc (.cells #[.slice ao xs.length cap,.int .i64 (d5:Nat),.int .i64 (e:Nat),.slice none 0 0] 61):=⟨_,rfl⟩
  rw [←hw4]
  have hB4:Below w.heap.size w w4:=by rw [hw4];exact HB3.out.trans (((Below.refl _ w3).alloc (Nat.le_refl _) _).mono HB3.out.size)
  have hQ4:Blk w4 w3.heap.size 61 #[.slice ao xs.length cap,.int .i64 (d5:Nat),.int .i64 (e:Nat),.slice none 0 0]:=by rw [hw4];exact Blk.made _ _ _
  have hR4:Blk w4 (w.heap.size+1) 61 #[.slice none 0 0,.int .i64 0,.int .i64 0,.slice none 0 0]:=by rw [hw4];exact HR3.out.below ((Below.refl _ w3).alloc (Nat.le_refl _) _)
  have hlow:w.heap.size+1<w3.heap.size:=HR3.out.lt
  have K46:=readRows_any w3.heap.size w3.heap.size ao cap xs d5 e d3 w4 (Nat.le_refl _) (by have:=hQ4.lt;omega) (fun W hW=>HT.out.grow (hB4.trans (hW.mono (by omega)))) (fun W hW=>HS0.out.below (hB4.trans (hW.mono (by omega)))) (by omega) (by omega) hm (by omega) hQ4
  clear hw4
  cases hrows:rowsP (xs.take e) d3 d5 [] with
  | error er=>
   rw [hrows] at K46
   have HE:Hid (RES = .error er):=Lib.hid (by rw [HRES5.out,hrows])
   have K46:Hid (Calls Tryz.prog 46 #[.pointer (some ⟨w3.heap.size,0,none⟩),.int .i64 (d3:Nat)] w4 fun en w'=>Below w3.heap.size w4 w'∧en=zpan er):=Lib.hid K46
   clear hrows
   have HB4:=Lib.hid hB4
   clear hB4 hQ4 hR4
   go_wp2_with (go_at_call 46;refine K46.out.mono ?_;rintro en w5 ⟨hb5,rfl⟩)
   exact ⟨rfl,OpTo.bad er HE.out (HB4.out.trans (hb5.mono (by omega)))⟩
  | ok l=>
   rw [hrows] at K46
   have HE:Hid (RES = .ok (l,d5,e)):=Lib.hid (by rw [HRES5.out,hrows])
   have K46:Hid (Calls Tryz.prog 46 #[.pointer (some ⟨w3.heap.size,0,none⟩),.int .i64 (d3:Nat)] w4 fun en w'=>Below w3.heap.size w4 w'∧en = .returned (.tuple #[])∧∃ (rms:List Rm) (a1:Option Addr) (c1:Nat),rms.map (·.r)=l∧Blk w' w3.heap.size 61 #[.slice ao xs.length cap,.int .i64 (d5:Nat),.int .i64 (e:Nat),.slice a1 rms.length c1]∧Rms w' w3.heap.size (.slice a1 rms.length c1) rms):=Lib.hid K46
   clear hrows
   have HB4:=Lib.hid hB4
   have HR4:=Lib.hid hR4
   clear hB4 hQ4 hR4
   go_upto_region 12 with (go_at_call 46;refine K46.out.mono ?_;rintro en w5 ⟨hb5,rfl,rms,a1,c1,hl,hq5,hrm⟩)
   have HB5:=Lib.hid (HB4.out.trans (hb5.mono (by omega)))
   have HR5:=Lib.hid (HR4.out.low hb5 (by omega))
   have p0:=(hq5.cell 0).trans (show _=some (.slice ao xs.length cap) from rfl)
   have p1:=(hq5.cell 1).trans (show _=some (.int .i64 (d5:Nat)) from rfl)
   have p2:=(hq5.cell 2).trans (show _=some (.int .i64 (e:Nat)) from rfl)
   have p3:=(hq5.cell 3).trans (show _=some (.slice a1 rms.length c1) from rfl)
   have R0:=(HR5.out.cell 0).trans (show _=some (.slice none 0 0) from rfl)
   have R1:=(HR5.out.cell 1).trans (show _=some (.int .i64 0) from rfl)
   have R2:=(HR5.out.cell 2).trans (show _=some (.int .i64 0) from rfl)
   have R3:=(HR5.out.cell 3).trans (show _=some (.slice none 0 0) from rfl)
   have r0:=HR5.out.free 0
   have r1:=HR5.out.free 1
   have r2:=HR5.out.free 2
   have r3:=HR5.out.free 3
   have rl:=HR5.out.lt
   have HRM:=Lib.hid hrm
   have HLL:=Lib.hid hl
   clear hq5 hrm hl hb5
   go_wp2_with fail
   have hfin:=(((HR5.out.setCell 0 (.slice ao xs.length cap)).setCell 1 (.int .i64 (d5:Nat))).setCell 2 (.int .i64 (e:Nat))).setCell 3 (.slice a1 rms.length c1)
   have htf:=((((Touch.refl (fun k=>k=w.heap.size+1) w5).setCell ⟨w.heap.size+1,0,none⟩ (.slice ao xs.length cap) (.inl rfl)).setCell ⟨w.heap.size+1,1,none⟩ (.int .i64 (d5:Nat)) (.inl rfl)).setCell ⟨w.heap.size+1,2,none⟩ (.int .i64 (e:Nat)) (.inl rfl)).setCell ⟨w.heap.size+1,3,none⟩ (.slice a1 rms.length c1) (.inl rfl)
   refine bodyPost_ret (res25 (by kernel_rfl) hfin) rfl ⟨touch_low HB5.out htf (by omega),?_⟩
   rw [HE.out]
   exact ⟨rms,a1,c1,HLL.out,rfl,(HRM.out.touch htf (fun k hk=>by omega)).base (by omega)⟩
end
end Go.Proofs.YthbbpooobaahiaaGreatDoor.Zz
