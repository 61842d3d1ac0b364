/- Part 12. -/
import Derived.ChangeOld
import Derived.LaidMore
import Derived.Laws.IdiomStrings
import Derived.Lay
import Derived.Lib.LaidTab
import Derived.Lib.SlBytesConst
import Derived.ProofKit
import Derived.SevenTiedAt
import Derived.Shelf.SlSortCmp.WholeK
import Derived.Shelf.Strings.Prefix
import Derived.Shelf.Strings.Split
import Derived.Shelf.Unicode.ValidAny
import Derived.ShutString
import Derived.SizedLaws
import Derived.Stop.Joined
import Derived.Test.YthbbpooobaahiaaGreatDoorCards
import Derived.Test.YthbbpooobaahiaaGreatDoorChecked
import Derived.Test.YthbbpooobaahiaaGreatDoorTie
import Derived.Test.YthbbpooobaahiaaGreatDoorXB11
namespace Go.Proofs.YthbbpooobaahiaaGreatDoor
set_option maxRecDepth 100000
section
open Go.RowKit
theorem res21 {t:Array Value} {W:World} {q:Nat} {x0 x1 x2 x3 er:Value} (h4:t[4]? = some (.pointer (some ⟨q,0,none⟩))) (h5:t[5]? = some er) (h:Blk W q 127 #[x0,x1,x2,x3]) :
  (results Tryz.f72 t).run Tryz.prog W = .ok (.tuple #[.agg #[x0,x1,x2,x3],er]) W:=by
 have e0:=(h.cell 0).trans (show _=some x0 from rfl)
 have e1:=(h.cell 1).trans (show _=some x1 from rfl)
 have e2:=(h.cell 2).trans (show _=some x2 from rfl)
 have e3:=(h.cell 3).trans (show _=some x3 from rfl)
 simp [results,Tryz.results72,h4,h5,go_sem,e0,e1,e2,e3]
theorem far_ok {S:Nat→Prop} {w w3 w4:World} {b:Nat} (h1:Touch S w w3) (h2:Touch (fun k=>b≤k) w3 w4) (hb:b=w.heap.size) (h0:∀ k,¬S k) (x0 x1 x2 x3:Value) :
  Below b w ((((w4.setCell ⟨b,0,none⟩ x0).setCell ⟨b,1,none⟩ x1).setCell ⟨b,2,none⟩ x2).setCell ⟨b,3,none⟩ x3):=by
 subst hb
 have h3:Touch (fun k=>w.heap.size≤k) w w4:=(h1.mono (fun k hk=>absurd hk (h0 k))).trans h2
 exact ((((h3.setCell _ _ (.inr (Nat.le_refl _))).setCell _ _ (.inr (Nat.le_refl _))).setCell _ _ (.inr (Nat.le_refl _))).setCell _ _ (.inr (Nat.le_refl _))).below (Nat.le_refl _) fun k h=>h
theorem far_drew {S:Nat→Prop} {w w3 w4:World} {b:Nat} (h1:Touch S w w3) (h2:Touch (fun k=>b≤k) w3 w4) (hb:b=w.heap.size) (h0:∀ k,¬S k) (x0 x1 x2 x3:Value) :
  Below b w ((((w4.setCell ⟨b,0,none⟩ x0).setCell ⟨b,1,none⟩ x1).setCell ⟨b,2,none⟩ x2).setCell ⟨b,3,none⟩ x3).drew:=
 below_drew (far_ok h1 h2 hb h0 x0 x1 x2 x3)
theorem far_own {w4:World} {b n:Nat} {ov:Value} {xs:List Value} (h:w4.ownsRow (b+1) 5 1 ov n xs) (x0 x1 x2 x3:Value) :
  ((((w4.setCell ⟨b,0,none⟩ x0).setCell ⟨b,1,none⟩ x1).setCell ⟨b,2,none⟩ x2).setCell ⟨b,3,none⟩ x3).drew.ownsRow b 5 1 ov n xs:=by
 have h0:Touch (fun k=>k=b) w4 w4:=Touch.refl _ _
 have h1:=h0.setCell ⟨b,0,none⟩ x0 (.inl rfl)
 have h2:=h1.setCell ⟨b,1,none⟩ x1 (.inl rfl)
 have h3:=h2.setCell ⟨b,2,none⟩ x2 (.inl rfl)
 have ht:=h3.setCell ⟨b,3,none⟩ x3 (.inl rfl)
 refine own_base (ownsRow_touch h ht.drew ?_) (Nat.le_succ _)
 intro i hi e
 have:=(h.lt i hi).1
 omega
theorem far_blk {w4:World} {b:Nat} {y0 y1 y2 y3:Value} (h:Blk w4 b 127 #[y0,y1,y2,y3]) (x0 x1 x2 x3:Value) :
  Blk ((((w4.setCell ⟨b,0,none⟩ x0).setCell ⟨b,1,none⟩ x1).setCell ⟨b,2,none⟩ x2).setCell ⟨b,3,none⟩ x3).drew b 127 #[x0,x1,x2,x3]:=
 ((((h.setCell 0 x0).setCell 1 x1).setCell 2 x2).setCell 3 x3).drewN 1
def InfTo (w:World) (r:Res Unit) (e:Ending) (w':World):Prop:=
 Below w.heap.size w w'∧match r with
 | .bad er=>e = .returned (.tuple #[.agg #[.slice none 0 0,.int .i64 0,.int .i64 0,.int .i64 0],.int .i64 (er:Nat)])
 | .ok _ s=>∃ ov,e = .returned (.tuple #[.agg #[ov,.int .i64 ((s.at_+7)/8:Nat),.int .i64 (s.steps:Nat),.int .i64 (s.blocks:Nat)],.int .i64 0])∧w'.ownsRow w.heap.size 5 1 ov s.out.length (u8s s.out)
set_option maxHeartbeats 3200000 in
theorem Inflate_any {w:World} {v:Value} {bs:List Nat} (h:BySl w v bs) (hb:Bs bs) (hl:bs.length≤100000) (limit:Int) (lim:Nat) (hlim:lim=limit.toNat) (hl2:lim≤2000000) (hT:Tab w) (hB:3<w.heap.size) :
  Calls Tryz.prog 72 #[v,.int .i64 limit] w (InfTo w (infl bs lim)):=by
 have hmx:max limit 0=(lim:Int):=by omega
 have HM:=Lib.hid hmx
 have HS:=Lib.hid h
 have HB:=Lib.hid hb
 have HT:=Lib.hid hT
 have HI:=Lib.hid (show infl bs lim=run (8*bs.length) (blk1 bs lim) () st0 from rfl)
 obtain ⟨R,hR⟩:∃ R,infl bs lim=R:=⟨_,rfl⟩
 rw [hR]
 have HR:=Lib.hid hR
 clear h hb hT hmx hlim hR
 go_enter Tryz.func72,Tryz.ntmps72
 go_wp2_with fail
 refine (newReader_any (HS.out.touch ((Touch.refl (fun _=>False) w).alloc _) (fun _ _ h=>h)) HB.out (by omega)).mono ?_
 rintro e w2 ⟨pb,g,rfl,ho,ht⟩
 have hw1:(w.alloc (.cells #[.slice none 0 0,.int .i64 0,.int .i64 0,.int .i64 0] 127)).heap.size=w.heap.size+1:=Array.size_push _
 rw [hw1] at ho
 have hq2:Blk w2 w.heap.size 127 #[.slice none 0 0,.int .i64 0,.int .i64 0,.int .i64 0]:=(Blk.made w 127 _).touch ht (fun h=>h)
 have ht2:Touch (fun _=>False) w w2:=((Touch.refl (fun _=>False) w).alloc _).trans ht
 have hsz:w.heap.size+1≤w2.heap.size:=by rw [←hw1];exact ht.size
 have hr3:RS (w.heap.size+1) 0 w2.heap.size pb g bs lim (w2.alloc (.cells (rc pb (.slice none 0 0) lim st0 (.pointer none)) 168)) (.slice none 0 0) st0:=
  ⟨⟨_,Blk.made _ _ _,.inl rfl⟩,ho.touch ((Touch.refl (fun _=>False) w2).alloc _) (fun _ _ h=>h),World.ownsRow_nil _ _ _ _,hsz,fun k hk=>absurd hk (by simp [Value.ownBlock]),hl,hl2,Nat.zero_le _,Nat.zero_le _,Nat.zero_le _,Nat.zero_le _,Bs.nil⟩
 have hq3:Blk (w2.alloc (.cells (rc pb (.slice none 0 0) lim st0 (.pointer none)) 168)) w.heap.size 127 #[.slice none 0 0,.int .i64 0,.int .i64 0,.int .i64 0]:=hq2.touch ((Touch.refl (fun _=>False) w2).alloc _) (fun h=>h)
 have ht3:Touch (fun _=>False) w (w2.alloc (.cells (rc pb (.slice none 0 0) lim st0 (.pointer none)) 168)):=ht2.alloc _
 have H3:=Lib.hid hr3
 have HQ3:=Lib.hid hq3
 have HT3:=Lib.hid ht3
 have HTab:=Lib.hid (HT.out.touch ht3 (fun h=>h))
 clear ho ht hw1 hq2 ht2 hr3 hq3 ht3
 go_wp2_with fail
 rw [HM.out]
 refine (readAll_any (Nat.zero_le _) (by omega) HTab.out HB.out H3.out).mono ?_
 rintro e w4 h4
 rw [←HI.out,HR.out] at h4
 cases R with
 | bad er=>
  obtain ⟨rfl,ht⟩:=h4
  have her:=infl_nz HB.out HR.out
  have HQ4:=Lib.hid (HQ3.out.safe ht H3.out.safe (by decide))
  have HT4:=Lib.hid ht
  have d1:((er:Int) != 0)=true:=by simp;omega
  have e0:=(HQ4.out.cell 0).trans (show _=some (.slice none 0 0) from rfl)
  have e1:=(HQ4.out.cell 1).trans (show _=some (.int .i64 0) from rfl)
  have e2:=(HQ4.out.cell 2).trans (show _=some (.int .i64 0) from rfl)
  have e3:=(HQ4.out.cell 3).trans (show _=some (.int .i64 0) from rfl)
  have f0:=HQ4.out.free 0
  have f1:=HQ4.out.free 1
  have f2:=HQ4.out.free 2
  have f3:=HQ4.out.free 3
  clear ht her
  go_wp2
  refine bodyPost_ret (res21 rfl rfl ((((HQ4.out.setCell 0 _).setCell 1 _).setCell 2 _).setCell 3 _)) rfl ⟨?_,rfl⟩
  exact far_ok HT3.out (HT4.out.mono fun k hk=>Nat.le_of_succ_le (H3.out.base k hk)) rfl (fun _ h=>h) _ _ _ _
 | ok u s=>
  obtain ⟨rfl,K',ov',hk,h4,m4⟩:=h4
  obtain ⟨ao,c,rfl⟩:=h4.slice
  have HQ4:=Lib.hid (HQ3.out.safe m4.touch H3.out.safe (by decide))
  have H4:=Lib.hid h4
  have M4:=Lib.hid m4
  have hat:=h4.in_
  have hln:=H4.out.len
  have e0:=(HQ4.out.cell 0).trans (show _=some (.slice none 0 0) from rfl)
  have e1:=(HQ4.out.cell 1).trans (show _=some (.int .i64 0) from rfl)
  have e2:=(HQ4.out.cell 2).trans (show _=some (.int .i64 0) from rfl)
  have e3:=(HQ4.out.cell 3).trans (show _=some (.int .i64 0) from rfl)
  have f0:=HQ4.out.free 0
  have f1:=HQ4.out.free 1
  have f2:=HQ4.out.free 2
  have f3:=HQ4.out.free 3
  obtain ⟨c0,c1,c2,c3,c4,_,_,_,_⟩:=h4.cells
  clear hk h4 m4
  have hAt:=Lib.hid (show Calls Tryz.prog 101 #[.pointer (some ⟨pb,0,none⟩)] w4.drew fun e w'=>e = .returned (.int .i64 (s.at_:Nat))∧w'=w4.drew from ((H4.out.ob.drewN 1).at).mono fun _ _ h=>⟨h.1,h.2.symm⟩)
  go_wp2_with fail
  go_still_tail 19,(by kernel_rfl)
  still_call hAt.out
  still_call ((inflBytesFor s.at_ w4.drew (by omega)).mono fun _ _ h=>⟨h.1,h.2.symm⟩)
  repeat still_step
  refine wpStill_nil ?_
  change wpList _ _ _ _ _ w4.drew
  go_wp2
  rw [show ((s.at_:Int)+7)/8=((s.at_+7)/8:Nat) by simp]
  exact bodyPost_ret (res21 rfl rfl (far_blk HQ4.out _ _ _ _)) rfl ⟨far_drew HT3.out (M4.out.touch.mono fun k hk=>Nat.le_of_succ_le (H3.out.base k hk)) rfl (fun _ h=>h) _ _ _ _,_,rfl,far_own H4.out.own _ _ _ _⟩
theorem alloc_size (w:World) (o:Obj):(w.alloc o).heap.size=w.heap.size+1:=Array.size_push _
theorem by_lit (w:World) (xs:List Nat) (cs:Array Value) (n q:Nat) (hq:q=w.heap.size) (hn:xs.length=n) (hc:cs=(u8s xs).toArray):BySl (w.alloc (.cells cs 5)) (.slice (some ⟨q,0,none⟩) n n) xs:=by
 subst hn hc hq
 refine .inr ⟨⟨w.heap.size,0,none⟩,xs.length,rfl,Nat.le_refl _,fun j u hu=>?_⟩
 have:=(Blk.made w 5 (u8s xs).toArray).cell j
 rw [show (⟨w.heap.size,0,none⟩:Addr).add j=⟨w.heap.size,j,none⟩ by simp [Addr.add];omega,this]
 simpa using hu
section
variable {W W':World} {b base:Nat} {ov:Value} {out:List Nat} {u st bl:Nat}
end
theorem _root_.Go.RowKit.Below.more {B:Nat} {w w1:World} (h:Below B w w1) (hB:B≤w.heap.size) (o:Obj):Below B w (w1.alloc o):=h.alloc (Nat.le_trans hB h.size) o
theorem _root_.Go.RowKit.Below.on {w w1 w2:World} (h:Below w.heap.size w w1) (k:Below w1.heap.size w1 w2):Below w.heap.size w w2:=h.trans (k.mono h.size)
end
section
open Go.ChangeShapes Go.WideShapes Go.ChangeAt Go.RowKit
theorem own:ownKnob Tryz.prog.godebug=none:=by kernel_rfl
theorem laidOut:laidOutB Tryz.prog=true:=by kernel_rfl
theorem ord_z:∀ j,j<19→([16,17,18,0,8,7,9,6,10,5,11,4,12,3,13,2,14,1,15]:List Int).getD j 0=((ord.getD j 0:Nat):Int):=by decide
theorem by_open {H:Type} {enc:TypeId × Value→H} {w:World} {base:Nat} {spare:Nat→Bool} {held:Bool} {fuel:Nat} {a:Option Addr} {len cap:Nat} {y:DataW H × List MemPlace}
  (h:DataW.trod enc Tryz.prog w base spare held fuel 22 [.slice a len cap]=some y):∃ xs:List Nat,xs.length=len∧Bs xs∧BySl w (.slice a len cap) xs∧len≤cap∧cap≤maxLen:=by
 rcases open_ints Tryz.underlying22 Tryz.underlying5 (by kernel_rfl) h with ⟨hcs,_⟩ | ⟨ad,l,c,zs,hcs,_,hl,hm,hz,_,hcell,hwf⟩
 ·simp at hcs
  obtain ⟨rfl,rfl,rfl⟩:=hcs
  exact ⟨[],rfl,(fun x h=>by cases h),.inl ⟨rfl,rfl⟩,Nat.le_refl _,Nat.zero_le _⟩
 ·simp at hcs
  obtain ⟨rfl,rfl,rfl⟩:=hcs
  have hzl:len≤zs.length:=by rw [hz];split <;> omega
  have hbd:∀ n∈zs,0≤n∧n<256:=fun n hn=>by have:=bounds_u8 (hwf n hn);omega
  have hlen:((zs.take len).map Int.toNat).length=len:=by rw [List.length_map,List.length_take];omega
  refine ⟨(zs.take len).map Int.toNat,hlen,?_,.inr ⟨ad,cap,by rw [hlen],by omega,fun j u hu=>?_⟩,hl,hm⟩
  ·intro x hx
   obtain ⟨z,hz1,rfl⟩:=List.mem_map.1 hx
   have:=hbd z (List.mem_of_mem_take hz1)
   omega
  ·have hj:j<len:=by
    have:=(List.getElem?_eq_some_iff.1 hu).1
    simp only [u8s,List.length_map] at this
    rw [←hlen];simpa using this
   have hcj:=hcell j (by omega)
   rw [hcj]
   have hm':=hbd (zs[j]'(by omega)) (List.getElem_mem _)
   simp [u8s,hj,show j<zs.length by omega,Int.toNat_of_nonneg hm'.1] at hu ⊢
   exact hu
theorem BySl.grow {w w':World} {v:Value} {xs:List Nat} (h:BySl w v xs) (hb:Below w.heap.size w w'):BySl w' v xs:=
 h.touch (Touch.of_below hb:Touch (fun _=>False) w w') fun _ _ h=>h
theorem infl_pos {bs:List Nat} {lim:Nat} (hb:Bs bs) {t:Sta} (h:infl bs lim = .ok () t):0<t.at_∧1≤t.blocks∧t.at_≤8*bs.length∧t.steps≤t.at_∧t.blocks≤t.at_∧t.out.length≤lim:=by
 have hl:=infl_le hb h
 have h1:t.steps≤t.at_:=by have:=hl.steps;simp [st0] at this;omega
 have h2:t.blocks≤t.at_:=by have:=hl.blocks;simp [st0] at this;omega
 have hk:0<t.at_∧1≤t.blocks:=by
  have key:∀ n s,8*bs.length-s.at_≤n→s.at_≤8*bs.length→run (8*bs.length) (blk1 bs lim) () s = .ok () t→0<t.at_∧1≤t.blocks:=by
   intro n
   induction n with
   | zero=>
    intro s hn hs hr
    rw [run_eq (blk1_takes hb) () hs] at hr
    obtain ⟨x,s',k1,_⟩:=Res.bind_is hr
    have:=blk1_takes hb () s x s' hs k1
    omega
   | succ n ih=>
    intro s hn hs hr
    rw [run_eq (blk1_takes hb) () hs] at hr
    obtain ⟨x,s',k1,k2⟩:=Res.bind_is hr
    have k3:=blk1_takes hb () s x s' hs k1
    split at k2
    ·cases k2
     exact ⟨by omega,(blk1_le hb hs k1).2.2⟩
    ·exact ih s' (by omega) k3.2 k2
  exact key _ st0 (Nat.le_refl _) (Nat.zero_le _) h
 exact ⟨hk.1,hk.2,hl.end_,h1,h2,hl.lim_ (Nat.zero_le _)⟩
end
section
open Go.RowKit
theorem own_lit0 (w:World):(w.alloc (.cells #[] 5)).ownsRow w.heap.size 5 1 (.slice (some ⟨w.heap.size,0,none⟩) 0 0) 0 (u8s []):=by
 refine ⟨by simp [u8s],.inr ⟨w.heap.size,0,#[],rfl,Nat.le_refl _,Blk.made w 5 #[],by simp,by simp [u8s]⟩⟩
def Kept (w:World) (xs:List Nat) (e:Ending) (w':World):Prop:=
 ∃ ao c,e = .returned (.slice ao xs.length c)∧w'.ownsRow w.heap.size 5 1 (.slice ao xs.length c) xs.length (u8s xs)∧Below w.heap.size w w'
theorem copy_any {w:World} {v:Value} {xs:List Nat} (h:BySl w v xs) (hl:xs.length≤100000):Calls Tryz.prog 11 #[v] w (Kept w xs):=by
 obtain ⟨aos,cs,rfl⟩:=h.len
 have HS:=Lib.hid (h.grow ((Below.refl w.heap.size w).more (Nat.le_refl _) (.cells #[] 5)))
 have hsz:=alloc_size w (.cells #[] 5)
 clear h
 go_enter Tryz.func11,Tryz.ntmps11
 go_wp2_with (refine wpList_append_x rfl (.tmp 5) (.tmp 6) rfl w.heap.size (.slice (some ⟨w.heap.size,0,none⟩) 0 0) (.slice aos xs.length cs) [] xs rfl rfl (own_lit0 w) HS.out (by omega) (by simp;omega) ?_;intro ao2 cc2 w5 hA;rw [List.nil_append] at hA;have HA:=Lib.hid hA;clear hA)
 go_ret
 refine ⟨ao2,cc2,rfl,HA.out.own,?_⟩
 refine Below.trans ((Below.refl w.heap.size w).more (Nat.le_refl _) (.cells #[] 5)) ((HA.out.touch).below (by omega) fun k hk=>?_)
 simp only [Value.ownBlock,Option.some.injEq] at hk
 omega
end
end Go.Proofs.YthbbpooobaahiaaGreatDoor
namespace Go.Proofs.YthbbpooobaahiaaGreatDoor.Zz
set_option maxRecDepth 100000
section
open Go.RowKit
abbrev rcl (r:Rw) (ra:Option Addr) (rc:Nat):Array Value:=
 #[.string r.name,.int .i64 (r.flags:Nat),.int .i64 (r.method:Nat),.int .i64 (r.time:Nat),.int .i64 (r.date:Nat),.int .i64 (r.packed:Nat),.int .i64 (r.plain:Nat),.int .i64 (r.at_:Nat),.int .i64 (r.extra:Nat),.int .u32 (r.sum:Nat),.slice ra r.remark.length rc]
abbrev sm3 (a b c:Nat):Value := .agg #[.int .i64 (a:Nat),.int .i64 (b:Nat),.int .i64 (c:Nat)]
theorem Blk.made1 (w:World) (o:Obj) (t:TypeId) (cs:Array Value):Blk ((w.alloc o).alloc (.cells cs t)) (w.heap.size+1) t cs:=by
 rw [←alloc_size w o];exact Blk.made _ _ _
theorem res74 {t:Array Value} {W:World} {q:Nat} {x0 x1 x2:Value} (h2:t[2]? = some (.pointer (some ⟨q,0,none⟩))) (h:Blk W q 133 #[x0,x1,x2]) :
  (results Tryz.f74 t).run Tryz.prog W = .ok (.agg #[x0,x1,x2]) W:=by
 have e0:=(h.cell 0).trans (show _=some x0 from rfl)
 have e1:=(h.cell 1).trans (show _=some x1 from rfl)
 have e2:=(h.cell 2).trans (show _=some x2 from rfl)
 simp [results,Tryz.results74,h2,go_sem,e0,e1,e2]
set_option maxHeartbeats 800000 in
theorem sumsOf_any (r:Rw) (ra:Option Addr) (rc:Nat) (hs:r.sum<4294967296) (w:World):Calls Tryz.prog 74 #[.agg (rcl r ra rc)] w fun e w'=>e = .returned (sm3 r.sum r.packed r.plain)∧Below w.heap.size w w':=by
 obtain ⟨name,flags,method,time,date,packed,plain,at_,extra,sum,remark⟩:=r
 have hs2:(sum:Int)<4294967296:=by simp only at hs;omega
 go_enter Tryz.func74,Tryz.ntmps74
 go_wp2
 refine bodyPost_ret (res74 rfl (Blk.made1 _ _ _ _)) rfl ⟨rfl,((Below.refl _ w).alloc (Nat.le_refl _) _).alloc (by simp) _⟩
def sumsN (ys:List Nat) (p a b c:Nat):Bool:=decide (p+12≤ys.length∧nu4 ys p=a∧nu4 ys (p+4)=b∧nu4 ys (p+8)=c)
theorem eql133 (a b c x y z:Nat) (W:World):(binOp .eql 133 (.agg #[.int .i64 (a:Nat),.int .i64 (b:Nat),.int .i64 (c:Nat)]) (.agg #[.int .i64 (x:Nat),.int .i64 (y:Nat),.int .i64 (z:Nat)])).run Tryz.prog W = .ok (.bool (decide (a=x∧b=y∧c=z))) W:=by
 rw [run_eql_struct,run_equalIn_agg _ _ _ _ _ (by kernel_rfl) (by kernel_rfl)]
 have hf:∀ i j:Nat,((i:Int) == (j:Int))=decide (i=j):=fun i j=>by
  rw [Bool.eq_iff_iff];simp;omega
 have hfo:(Tryz.prog.fieldsOf 133).toList=[⟨"sum",3,0,false,"","etui/zipr",0⟩,⟨"packed",3,1,false,"","etui/zipr",8⟩,⟨"plain",3,2,false,"","etui/zipr",16⟩]:=by
  unfold Program.fieldsOf;rw [Tryz.underlying133]
 rw [hfo]
 simp only [Op.eqFields]
 simp [go_sem,part,hf]
 by_cases h1:a=x <;> by_cases h2:b=y <;> by_cases h3:c=z <;> simp [h1,h2,h3]
set_option maxHeartbeats 1600000 in
theorem haveSums_any (ao:Option Addr) (cc:Nat) (ys:List Nat) (p a b c:Nat) (w:World) (h:Cu.Sl w ao cc ys) (hm:ys.length≤1000000) :
  Calls Tryz.prog 102 #[.slice ao ys.length cc,.int .i64 p,sm3 a b c] w fun e w'=>e = .returned (.bool (sumsN ys p a b c))∧Below w.heap.size w w':=by
 obtain ⟨A,hA⟩:∃ A,A=sumsN ys p a b c:=⟨_,rfl⟩
 rw [←hA]
 have HA:=Lib.hid hA
 have HS:=Lib.hid h
 clear hA h
 have hb1:Below w.heap.size w ((w.alloc (.cells #[.int .i64 (a:Nat),.int .i64 (b:Nat),.int .i64 (c:Nat)] 133)).alloc (.cells #[.int .i64 1,.int .i64 1,.int .i64 1] 82)):=((Below.refl _ w).alloc (Nat.le_refl _) _).alloc (by simp) _
 have hks:=ksrc_lit (ks:=[1,1,1]) (Blk.made (w.alloc (.cells #[.int .i64 (a:Nat),.int .i64 (b:Nat),.int .i64 (c:Nat)] 133)) 82 #[.int .i64 1,.int .i64 1,.int .i64 1])
 have hbk:=Blk.made w 133 #[.int .i64 (a:Nat),.int .i64 (b:Nat),.int .i64 (c:Nat)]
 have hbk1:=hbk.below ((Below.refl _ _).alloc (Nat.le_refl _) (.cells #[.int .i64 1,.int .i64 1,.int .i64 1] 82))
 rw [alloc_size] at hks
 obtain ⟨w1,hw1⟩:∃ w1,w1=(w.alloc (.cells #[.int .i64 (a:Nat),.int .i64 (b:Nat),.int .i64 (c:Nat)] 133)).alloc (.cells #[.int .i64 1,.int .i64 1,.int .i64 1] 82):=⟨_,rfl⟩
 rw [←hw1] at hb1 hks hbk1
 have HB1:=Lib.hid hb1
 have HK:=Lib.hid hks
 have HBK:=Lib.hid hbk1
 clear hb1 hks hbk hbk1
 by_cases hfit:p+12≤ys.length
 ·have K1:=Lib.hid (numbers_ok ao cc ys p _ 3 [1,1,1] w1 (HS.out.below HB1.out) HK.out (by intro k hk;simp at hk;exact .inr hk) hm (by decide) (by simpa [kt,kw] using hfit))
  go_enter Tryz.func102,Tryz.ntmps102
  go_wp2_with fail
  rw [←hw1]
  clear hw1
  refine K1.out.mono ?_
  rintro e w2 ⟨hb2,g,rfl,hg,hN⟩
  have n0:=hN 0 (by simp [nsAt])
  have n1:=hN 1 (by simp [nsAt])
  have n2:=hN 2 (by simp [nsAt])
  change w2.cell? ⟨g,0,none⟩=some (.int .i64 (nu4 ys p:Nat)) at n0
  change w2.cell? ⟨g,1,none⟩=some (.int .i64 (nu4 ys (p+4):Nat)) at n1
  change w2.cell? ⟨g,2,none⟩=some (.int .i64 (nu4 ys (p+8):Nat)) at n2
  have hk2:=HBK.out.below hb2
  have b0:=(hk2.cell 0).trans (show _=some (.int .i64 (a:Nat)) from rfl)
  have b1:=(hk2.cell 1).trans (show _=some (.int .i64 (b:Nat)) from rfl)
  have b2:=(hk2.cell 2).trans (show _=some (.int .i64 (c:Nat)) from rfl)
  have HA2:Hid (A=decide (nu4 ys p=a∧nu4 ys (p+4)=b∧nu4 ys (p+8)=c)):=Lib.hid (by
   rw [HA.out];unfold sumsN;simp [hfit])
  obtain ⟨x,hx⟩:∃ x,x=nu4 ys p:=⟨_,rfl⟩
  obtain ⟨y,hy⟩:∃ y,y=nu4 ys (p+4):=⟨_,rfl⟩
  obtain ⟨z,hz⟩:∃ z,z=nu4 ys (p+8):=⟨_,rfl⟩
  rw [←hx] at n0 HA2
  rw [←hy] at n1 HA2
  rw [←hz] at n2 HA2
  have HB2:=Lib.hid (HB1.out.trans (hb2.mono HB1.out.size))
  clear hx hy hz hN hk2 hb2 hg K1 HK HBK HB1 HS
  have hE:=fun W=>eql133 a b c x y z W
  go_wp2
  go_quiet (fail)
  go_wp2
  go_ret
  refine ⟨?_,below_drewN HB2.out _⟩
  rw [HA2.out]
  have hbb:(decide (a=x) && (decide (b=y) && decide (c=z)))=decide (x=a∧y=b∧z=c):=by
   rw [Bool.eq_iff_iff];simp;omega
  rw [←hbb]
  rfl
 ·have HR:Hid (A=false):=Lib.hid (by rw [HA.out];unfold sumsN;simp [hfit])
  have K1:=Lib.hid (numbers_no ao cc ys p _ 3 [1,1,1] w1 (HS.out.below HB1.out) HK.out (by intro k hk;simp at hk;exact .inr hk) hm (by decide) (by simp [kt,kw];omega))
  go_enter Tryz.func102,Tryz.ntmps102
  go_wp2_with fail
  rw [←hw1]
  clear hw1
  refine K1.out.mono ?_
  rintro e w2 ⟨hb2,g,rfl⟩
  have HB2:=Lib.hid (HB1.out.trans (hb2.mono HB1.out.size))
  clear hb2 K1 HK HBK HB1 HS HA
  go_wp2
  go_quiet (fail)
  go_wp2
  go_ret
  exact ⟨by rw [HR.out];rfl,below_drewN HB2.out _⟩
theorem sumsN_is (ys:List Nat) (p:Nat) (r:Rw):sumsN ys p r.sum r.packed r.plain=sumsAt ys p r:=rfl
def BhTo (ys:List Nat) (r:Rw) (tq:Nat) (w:World) (e:Ending) (w':World):Prop:=
 Below w.heap.size w w'∧if signed ys r tq=false∧sumsAt ys tq r=false then e=zpan 10 else e = .returned (.int .i64 (behindP ys r tq:Nat))
theorem BhTo.a {ys:List Nat} {r:Rw} {tq:Nat} {w w':World} (h:signed ys r tq=true) (hb:Below w.heap.size w w'):BhTo ys r tq w (.returned (.int .i64 ((tq:Int)+4+12))) w':=by
 refine ⟨hb,?_⟩
 rw [if_neg (by rw [h];simp),behindP,if_pos h]
 congr 2
theorem BhTo.b {ys:List Nat} {r:Rw} {tq:Nat} {w w':World} (h:signed ys r tq=false) (h2:sumsAt ys tq r=true) (hb:Below w.heap.size w w'):BhTo ys r tq w (.returned (.int .i64 ((tq:Int)+12))) w':=by
 refine ⟨hb,?_⟩
 rw [if_neg (by rw [h2];simp),behindP,if_neg (by rw [h];simp)]
 rfl
theorem BhTo.c {ys:List Nat} {r:Rw} {tq:Nat} {w w':World} (h:signed ys r tq=false) (h2:sumsAt ys tq r=false) (hb:Below w.heap.size w w'):BhTo ys r tq w (zpan 10) w':=by
 refine ⟨hb,?_⟩
 rw [if_pos ⟨h,h2⟩]
set_option maxHeartbeats 1600000 in
theorem behindSums_any (ao:Option Addr) (cc:Nat) (ys:List Nat) (r:Rw) (tq:Nat) (w:World) (h:Cu.Sl w ao cc ys) (hm:ys.length≤1000000) (hto:tq≤10000000000) :
  Calls Tryz.prog 75 #[.slice ao ys.length cc,.int .i64 tq,sm3 r.sum r.packed r.plain] w (BhTo ys r tq w):=by
 have hsz:=alloc_size w (.cells #[.int .i64 (r.sum:Nat),.int .i64 (r.packed:Nat),.int .i64 (r.plain:Nat)] 133)
 have hb1:Below w.heap.size w (w.alloc (.cells #[.int .i64 (r.sum:Nat),.int .i64 (r.packed:Nat),.int .i64 (r.plain:Nat)] 133)):=(Below.refl _ w).alloc (Nat.le_refl _) _
 have hbk:=Blk.made w 133 #[.int .i64 (r.sum:Nat),.int .i64 (r.packed:Nat),.int .i64 (r.plain:Nat)]
 have hS:=h.below hb1
 obtain ⟨w1,hw1⟩:∃ w1,w1=w.alloc (.cells #[.int .i64 (r.sum:Nat),.int .i64 (r.packed:Nat),.int .i64 (r.plain:Nat)] 133):=⟨_,rfl⟩
 rw [←hw1] at hsz hb1 hbk hS
 obtain ⟨q,hq⟩:∃ q,q=w.heap.size:=⟨_,rfl⟩
 have hbig:=h.big
 have hle:=h.le
 unfold maxLen at hbig
 have KS1:=Lib.hid (haveSums_any ao cc ys (tq+4) r.sum r.packed r.plain w1 hS hm)
 have KS2:=Lib.hid fun (W:World) (hW:Below w1.heap.size w1 W)=>haveSums_any ao cc ys tq r.sum r.packed r.plain W (hS.below hW) hm
 rw [sumsN_is] at KS1
 simp only [sumsN_is] at KS2
 have HB1:=Lib.hid hb1
 have HBK:=Lib.hid hbk
 have HS:=Lib.hid hS
 have HSG:Hid (signed ys r tq=(decide (tq+4≤ys.length∧nu4 ys tq=134695760) && sumsAt ys (tq+4) r)):=Lib.hid rfl
 obtain ⟨A,hA⟩:∃ A,A=sumsAt ys (tq+4) r:=⟨_,rfl⟩
 obtain ⟨B,hB⟩:∃ B,B=sumsAt ys tq r:=⟨_,rfl⟩
 rw [←hA] at KS1 HSG
 rw [←hB] at KS2
 rw [show ((tq+4:Nat):Int)=(tq:Int)+4 by omega] at KS1
 have HBB:=Lib.hid hB
 clear hA hB hbk hb1 hsz
 by_cases hsign:tq+4≤ys.length∧nu4 ys tq=134695760
 ·have K0:=Cu.u32_ok ao cc ys tq w1 hS hsign.1
  change Calls _ _ _ _ fun e w'=>e = .returned (.tuple #[.int .i64 (nu4 ys tq:Nat),.bool true])∧w1=w' at K0
  rw [hsign.2] at K0
  have K0:=Lib.hid K0
  cases A with
  | true=>
   have HST:Hid (signed ys r tq=true):=Lib.hid (by rw [HSG.out];simp [hsign])
   clear h hS hsign
   go_enter Tryz.func75,Tryz.ntmps75
   have k0:=(HBK.out.cell 0).trans (show _=some (.int .i64 (r.sum:Nat)) from rfl)
   have k1:=(HBK.out.cell 1).trans (show _=some (.int .i64 (r.packed:Nat)) from rfl)
   have k2:=(HBK.out.cell 2).trans (show _=some (.int .i64 (r.plain:Nat)) from rfl)
   go_wp2_with fail
   rw [←hw1,←hq]
   rw [←hq] at k0 k1 k2
   have HQ:=Lib.hid hq
   clear hw1 hq
   refine K0.out.mono ?_
   rintro e w' ⟨rfl,rfl⟩
   go_wp2_with fail
   refine KS1.out.mono ?_
   rintro e w2 ⟨rfl,hb2⟩
   have HB2:=Lib.hid (HB1.out.trans (hb2.mono HB1.out.size))
   clear hb2
   go_wp2
   go_ret
   exact BhTo.a HST.out HB2.out
  | false=>
   have HSF:Hid (signed ys r tq=false):=Lib.hid (by rw [HSG.out];simp)
   clear h hS hsign
   go_enter Tryz.func75,Tryz.ntmps75
   have k0:=(HBK.out.cell 0).trans (show _=some (.int .i64 (r.sum:Nat)) from rfl)
   have k1:=(HBK.out.cell 1).trans (show _=some (.int .i64 (r.packed:Nat)) from rfl)
   have k2:=(HBK.out.cell 2).trans (show _=some (.int .i64 (r.plain:Nat)) from rfl)
   go_wp2_with fail
   rw [←hw1,←hq]
   rw [←hq] at k0 k1 k2
   have HQ:=Lib.hid hq
   clear hw1 hq
   refine K0.out.mono ?_
   rintro e w' ⟨rfl,rfl⟩
   go_wp2_with fail
   refine KS1.out.mono ?_
   rintro e w2 ⟨rfl,hb2⟩
   have HW2:=Lib.hid hb2
   have HK2:Hid (Blk w2 q 133 #[.int .i64 (r.sum:Nat),.int .i64 (r.packed:Nat),.int .i64 (r.plain:Nat)]):=Lib.hid (by rw [HQ.out];exact HBK.out.below hb2)
   clear hb2 k0 k1 k2
   have k0:=(HK2.out.cell 0).trans (show _=some (.int .i64 (r.sum:Nat)) from rfl)
   have k1:=(HK2.out.cell 1).trans (show _=some (.int .i64 (r.packed:Nat)) from rfl)
   have k2:=(HK2.out.cell 2).trans (show _=some (.int .i64 (r.plain:Nat)) from rfl)
   go_wp2_with fail
   refine (KS2.out _ HW2.out).mono ?_
   rintro e w3 ⟨rfl,hb3⟩
   have HB3:=Lib.hid ((HB1.out.trans (HW2.out.mono HB1.out.size)).trans (hb3.mono (HB1.out.trans (HW2.out.mono HB1.out.size)).size))
   clear hb3 k0 k1 k2
   cases B with
   | true=>
    go_wp2_with (go_at_call 43;refine (zmust_yes 10 _).mono ?_;rintro e w' ⟨rfl,rfl⟩)
    go_ret
    exact BhTo.b HSF.out HBB.out.symm HB3.out
   | false=>
    go_wp2_with (go_at_call 43;refine (zmust_no 10 _).mono ?_;rintro e w' ⟨rfl,rfl⟩)
    exact ⟨rfl,BhTo.c HSF.out HBB.out.symm HB3.out⟩
 ·have HSF:Hid (signed ys r tq=false):=Lib.hid (by rw [HSG.out];simp only [hsign];rfl)
  obtain ⟨v,b,K0⟩:∃ (v:Int) (b:Bool),v≠134695760∧Calls Tryz.prog 65 #[.slice ao ys.length cc,.int .i64 tq] w1 fun e w'=>e = .returned (.tuple #[.int .i64 v,.bool b])∧w1=w':=by
   by_cases hf:tq+4≤ys.length
   ·exact ⟨_,_,fun e=>hsign ⟨hf,by have:((nu4 ys tq:Nat):Int)=134695760:=e;omega⟩,Cu.u32_ok ao cc ys tq w1 hS hf⟩
   ·exact ⟨0,false,by decide,Cu.u32_no ao cc ys.length tq w1 (by unfold maxLen;omega) (by omega)⟩
  have hv:=K0.1
  have K0:=Lib.hid K0.2
  have HW2:=Lib.hid (Below.refl w1.heap.size w1)
  have HK2:=Lib.hid HBK.out
  rw [←hq] at HK2
  clear h hS hsign
  go_enter Tryz.func75,Tryz.ntmps75
  go_wp2_with fail
  rw [←hw1,←hq]
  clear hw1 hq
  refine K0.out.mono ?_
  rintro e w' ⟨rfl,rfl⟩
  have k0:=(HK2.out.cell 0).trans (show _=some (.int .i64 (r.sum:Nat)) from rfl)
  have k1:=(HK2.out.cell 1).trans (show _=some (.int .i64 (r.packed:Nat)) from rfl)
  have k2:=(HK2.out.cell 2).trans (show _=some (.int .i64 (r.plain:Nat)) from rfl)
  go_wp2_with fail
  refine (KS2.out _ HW2.out).mono ?_
  rintro e w3 ⟨rfl,hb3⟩
  have HB3:=Lib.hid ((HB1.out.trans (HW2.out.mono HB1.out.size)).trans (hb3.mono (HB1.out.trans (HW2.out.mono HB1.out.size)).size))
  clear hb3 k0 k1 k2
  cases B with
  | true=>
   go_wp2_with (go_at_call 43;refine (zmust_yes 10 _).mono ?_;rintro e w' ⟨rfl,rfl⟩)
   go_ret
   exact BhTo.b HSF.out HBB.out.symm HB3.out
  | false=>
   go_wp2_with (go_at_call 43;refine (zmust_no 10 _).mono ?_;rintro e w' ⟨rfl,rfl⟩)
   exact ⟨rfl,BhTo.c HSF.out HBB.out.symm HB3.out⟩
structure Lt (w:World) (g:Nat) (l:List UInt8):Prop where
 row:∃ (cs:Array Value) (z:Nat × Nat),w.heap[g]? = some (.cells cs 5 z)∧l.length≤z.1∧∀ j (h:j<l.length),cs[j]? = some (.int .u8 (l[j].toNat:Int))
theorem Lt.cell {w:World} {g:Nat} {l:List UInt8} (h:Lt w g l) (j:Nat) (hj:j<l.length):w.cell? ⟨g,j,none⟩=some (.int .u8 (l[j].toNat:Int)):=by
 obtain ⟨cs,z,hr,_,hc⟩:=h.row
 rw [cell_of_row w g j cs 5 z hr,hc j hj]
theorem Lt.free {w:World} {g:Nat} {l:List UInt8} (h:Lt w g l) (j:Nat) (hj:j<l.length):w.frozen? ⟨g,j,none⟩=false:=by
 obtain ⟨cs,z,hr,hz,hc⟩:=h.row
 have:¬z.1≤j:=by omega
 simp [World.frozen?,hr,this]
theorem Lt.set {w:World} {g:Nat} {l:List UInt8} (h:Lt w g l) (j:Nat) (x:UInt8):Lt (w.setCell ⟨g,j,none⟩ (.int .u8 (x.toNat:Int))) g (l.set j x):=by
 obtain ⟨cs,z,hr,hz,hc⟩:=h.row
 refine ⟨cs.setIfInBounds j (.int .u8 (x.toNat:Int)),z,?_,by simpa using hz,fun i hi=>?_⟩
 ·simp [World.setCell,Array.getElem?_modify,hr]
 ·have hi':i<l.length:=by simpa using hi
  have hci:=hc i hi'
  have his:i<cs.size:=by
   rw [Array.getElem?_eq_some_iff] at hci;exact hci.1
  rw [Array.getElem?_setIfInBounds]
  by_cases e:j=i
  ·subst e;simp [his]
  ·rw [if_neg e,hci];simp [e]
theorem Lt.made (w:World) (s:ByteArray) (cap:Nat):Lt (w.alloc (.cells (bytesRow s cap) 5 ((bytesRow s cap).size,(bytesRow s cap).size+1))).drew w.heap.size s.data.toList:=by
 have hsz:s.data.toList.length=s.data.size:=by simp
 refine ⟨bytesRow s cap,_,heap_alloc_new w _,?_,fun j hj=>?_⟩
 ·rw [hsz];simp [bytesRow]
 ·have hj':j<s.data.size:=by rw [←hsz];exact hj
  have hj2:j<s.size:=hj'
  simp [bytesRow,Array.getElem?_append,hj2]
theorem Lt.text {w:World} {g:Nat} {l:List UInt8} {n:Nat} (h:Lt w g l) (hn:n=l.length) (cap:Nat):(convert 22 9 (.slice (some ⟨g,0,none⟩) n cap)).run Tryz.prog w = .ok (.string ⟨l.toArray⟩) w:=by
 subst hn
 exact run_convert_bytes_back w 22 9 5 ⟨g,0,none⟩ cap l Tryz.underlying22 Tryz.underlying5 Tryz.underlying9 fun j hj=>by
  rw [Addr.add_lit,Nat.zero_add]
  exact h.cell j hj
def mix (l:List UInt8) (i:Nat):List UInt8:=(l.take i).map lowU++l.drop i
theorem mix_len (l:List UInt8) (i:Nat) (h:i≤l.length):(mix l i).length=l.length:=by
 simp [mix];omega
theorem mix_at (l:List UInt8) (i:Nat) (h:i<l.length) (h':i<(mix l i).length):(mix l i)[i]=l[i]:=by
 simp [mix,Nat.min_eq_left (Nat.le_of_lt h)]
theorem mix_next (l:List UInt8) (i:Nat) (h:i<l.length):(mix l i).set i (lowU l[i])=mix l (i+1):=by
 have h1:(List.map lowU (l.take i)).length=i:=by simp;omega
 unfold mix
 rw [List.set_append,if_neg (by omega),h1,Nat.sub_self,List.drop_eq_getElem_cons h,List.set_cons_zero,List.take_add_one,List.map_append,List.append_assoc]
 simp [h]
theorem mix_same (l:List UInt8) (i:Nat) (h:i<l.length) (e:lowU l[i]=l[i]):mix l i=mix l (i+1):=by
 rw [←mix_next l i h,e]
 unfold mix
 have h1:(List.map lowU (l.take i)).length=i:=by simp;omega
 rw [List.set_append,if_neg (by omega),h1,Nat.sub_self,List.drop_eq_getElem_cons h,List.set_cons_zero]
theorem mix_zero (l:List UInt8):mix l 0=l:=by simp [mix]
theorem mix_all (l:List UInt8):mix l l.length=l.map lowU:=by simp [mix]
theorem below_set {w w':World} (h:Below w.heap.size w w') (p:Addr) (u:Value) (hp:w.heap.size≤p.block):Below w.heap.size w (w'.setCell p u):=
 (((Touch.of_below h:Touch (fun k=>w.heap.size≤k) w w')).setCell p u (.inr hp)).below (Nat.le_refl _) fun _ h=>h
set_option maxHeartbeats 1600000 in
theorem Fold_any (s:ByteArray) (w:World) (hl:s.size≤1000000) :
  Calls Tryz.prog 19 #[.string s] w fun e w'=>e = .returned (.string (foldT s))∧Below w.heap.size w w':=by
 have hcv:=fun W:World=>run_bytes_of_string (P:=Tryz.prog) W 9 22 5 s Tryz.underlying9 Tryz.underlying22 Tryz.underlying5
 have hsz:s.data.toList.length=s.size:=(by simp:s.data.toList.length=s.data.size)
 have HL:=Lib.hid (Lt.made w s (grownCap w s.size 0 5))
 have HB0:=Lib.hid (((Below.refl w.heap.size w).alloc (Nat.le_refl _) (.cells (bytesRow s (grownCap w s.size 0 5)) 5 ((bytesRow s (grownCap w s.size 0 5)).size,(bytesRow s (grownCap w s.size 0 5)).size+1))).drew)
 have HE:Hid (foldT s=⟨(s.data.toList.map lowU).toArray⟩):=Lib.hid rfl
 go_enter Tryz.func19,Tryz.ntmps19
 go_wp2
 obtain ⟨cap,hcap⟩:∃ cap,cap=grownCap w s.size 0 5:=⟨_,rfl⟩
 obtain ⟨g,hg⟩:∃ g,g=w.heap.size:=⟨_,rfl⟩
 rw [←hcap] at HL HB0 ⊢
 obtain ⟨w1,hw1⟩:∃ w1,w1=(w.alloc (.cells (bytesRow s cap) 5 ((bytesRow s cap).size,(bytesRow s cap).size+1))).drew:=⟨_,rfl⟩
 rw [←hw1] at HL HB0 ⊢
 rw [←hg] at HL ⊢
 obtain ⟨l,hl'⟩:∃ l,l=s.data.toList:=⟨_,rfl⟩
 rw [←hl'] at HL HE hsz
 have HG:=Lib.hid (Nat.le_of_eq hg.symm)
 obtain ⟨L,hL⟩:∃ L,L=s.size:=⟨_,rfl⟩
 rw [←hL] at hl hsz ⊢
 clear hcap hw1 hl' hcv hg hL
 go_loopw [10] (fun vi wr=>∃ i:Nat,i≤L∧vi = .int .i64 i∧Lt wr g (mix l i)∧Below w.heap.size w wr) (fun vi _=>L-(intOf vi).toNat)
 case atStart=>exact ⟨0,Nat.zero_le _,rfl,by rw [mix_zero];exact HL.out,HB0.out⟩
 case round=>
  obtain ⟨i,hi,rfl,hrow,hbel⟩:=hrel
  have HR:=Lib.hid hrow
  have HB:=Lib.hid hbel
  clear hrow hbel
  by_cases hlt:i<L
  ·have hii:(i:Int)<L:=by omega
   have hil:i<l.length:=by omega
   have hml:=mix_len l i (by omega)
   have hc:=HR.out.cell i (by omega)
   have hf:=HR.out.free i (by omega)
   rw [mix_at l i hil] at hc
   have hnx:=mix_next l i hil
   have hsm:=mix_same l i hil
   obtain ⟨x,hx⟩:∃ x,x=l[i]:=⟨_,rfl⟩
   rw [←hx] at hc hnx hsm
   obtain ⟨c,hcx⟩:∃ c,c=x.toNat:=⟨_,rfl⟩
   have hc256:c<256:=by rw [hcx];exact x.toNat_lt
   rw [←hcx] at hc
   by_cases h65:65≤c∧c≤90
   ·have e1:(65:Int)≤c:=by omega
    have e2:(c:Int)≤90:=by omega
    have hlow:lowU x=UInt8.ofNat (c+32):=by unfold lowU;rw [←hcx,if_pos h65]
    have hlt2:(UInt8.ofNat (c+32)).toNat=c+32:=by simp;omega
    have HN:Hid (Lt (wr.setCell ⟨g,i,none⟩ (.int .u8 ((c:Int)-65+97))) g (mix l (i+1))):=Lib.hid (by
     have:=HR.out.set i (UInt8.ofNat (c+32))
     rw [hlt2,←hlow,hnx] at this
     rw [show (c:Int)-65+97=((c+32:Nat):Int) by omega]
     exact this)
    have HB2:=Lib.hid (below_set HB.out ⟨g,i,none⟩ (.int .u8 ((c:Int)-65+97)) HG.out)
    clear hx hcx hnx hsm hlow hlt2 h65
    go_wp2
    go_roundw
    case rel=>exact ⟨i+1,by omega,by go_num,HN.out,HB2.out⟩
    case measure=>simp [intOf];omega
   ·have hlow:lowU x=x:=by unfold lowU;rw [←hcx,if_neg h65]
    have HN:=Lib.hid (hsm hlow)
    clear hx hcx hnx hsm hlow
    by_cases e1:c<65
    ·have e1:¬(65:Int)≤c:=by omega
     clear h65
     go_wp2
     go_roundw
     case rel=>exact ⟨i+1,by omega,by go_num,by rw [←HN.out];exact HR.out,HB.out⟩
     case measure=>simp [intOf];omega
    ·have e1:(65:Int)≤c:=by omega
     have e2:¬(c:Int)≤90:=by omega
     clear h65
     go_wp2
     go_roundw
     case rel=>exact ⟨i+1,by omega,by go_num,by rw [←HN.out];exact HR.out,HB.out⟩
     case measure=>simp [intOf];omega
  ·have hiL:i=l.length:=by omega
   have HR2:Hid (Lt wr g (l.map lowU)):=Lib.hid (by have:=HR.out;rw [hiL,mix_all] at this;exact this)
   have hcv:=fun cap=>HR2.out.text (n:=L) (by simp;omega) cap
   have hni:¬(i:Int)<L:=by omega
   go_wp2
   go_ret
   exact ⟨by rw [HE.out];rfl,HB.out⟩
def Tx (w:World) (b:Nat) (ps:List ByteArray):Prop:=∀ j (h:j<ps.length),w.cell? ⟨b,j,none⟩=some (.string ps[j])
def lists (ps:List ByteArray):List (List UInt8):=ps.map (·.data.toList)
theorem badParts_bad {p:List UInt8} {tl:List (List UInt8)} (h:badPart true p=true) (h':badPart false p=true):badParts (p::tl)=true:=by
 cases tl with
 | nil=>exact h
 | cons q r=>rw [badParts,h'];rfl
theorem badParts_more {p:List UInt8} {tl:List (List UInt8)} (h:tl≠[]) (h':badPart false p=true):badParts (p::tl)=true:=by
 cases tl with
 | nil=>exact absurd rfl h
 | cons q r=>rw [badParts,h'];rfl
theorem badParts_good {p:List UInt8} {tl:List (List UInt8)} (h1:p≠[46]) (h2:p≠[46,46]) (h3:p≠[]):badParts (p::tl)=badParts tl:=by
 have h:∀ b,badPart b p=false:=fun b=>by
  unfold badPart
  simp [h1,h2,h3]
 cases tl with
 | nil=>exact h true
 | cons q r=>rw [badParts,h];rfl
theorem txt_ne {p:ByteArray} {l:List UInt8} (h:¬p=⟨l.toArray⟩):p.data.toList≠l:=fun e=>h (by
 cases p with
 | mk a=>
  cases a with
  | mk m=>exact congrArg (fun l:List UInt8=>(⟨⟨l⟩⟩:ByteArray)) e)
set_option maxHeartbeats 800000 in
theorem partFault_any (b c:Nat) (ps:List ByteArray) (w:World) (hT:Tx w b ps) (hl:ps.length≤2000000) :
  Calls Tryz.prog 37 #[.slice (some ⟨b,0,none⟩) ps.length c] w fun e w'=>e = .returned (.bool (badParts (lists ps)))∧w=w':=by
 obtain ⟨A,hA⟩:∃ A,A=badParts (lists ps):=⟨_,rfl⟩
 rw [←hA]
 have HA:=Lib.hid hA
 have HT:=Lib.hid hT
 obtain ⟨L,hL⟩:∃ L,L=ps.length:=⟨_,rfl⟩
 rw [←hL] at hl ⊢
 have HL:=Lib.hid hL
 clear hA hT hL
 go_enter Tryz.func37,Tryz.ntmps37
 go_wp2
 go_loop [11] (fun vi=>∃ i:Nat,i≤L∧vi = .int .i64 i∧Hid (A=badParts (lists (ps.drop i)))) (fun vi=>L-(intOf vi).toNat)
 case atStart=>exact ⟨0,Nat.zero_le _,rfl,Lib.hid (by rw [List.drop_zero];exact HA.out)⟩
 case round=>
  obtain ⟨i,hi,rfl,hrel⟩:=hrel
  by_cases hlt:i<L
  ·have hii:(i:Int)<L:=by omega
   have hiL:i<ps.length:=by rw [←HL.out];exact hlt
   have hce:=HT.out i hiL
   obtain ⟨p,hp⟩:∃ p,p=ps[i]:=⟨_,rfl⟩
   rw [←hp] at hce
   have hdr:lists (ps.drop i)=p.data.toList::lists (ps.drop (i+1)):=by
    rw [List.drop_eq_getElem_cons hiL,hp];rfl
   have HD:=Lib.hid hdr
   clear hdr hp
   have hlast:lists (ps.drop (i+1))=[]↔¬((i:Int)<L-1):=by
    have:=HL.out
    unfold lists
    rw [List.map_eq_nil_iff,List.drop_eq_nil_iff]
    omega
   obtain ⟨tl,htl⟩:∃ tl,tl=lists (ps.drop (i+1)):=⟨_,rfl⟩
   rw [←htl] at HD hlast
   have HR:=Lib.hid (hrel.out.trans (congrArg badParts HD.out))
   have HTL:=Lib.hid htl
   have HLA:=Lib.hid hlast
   clear htl hlast hrel HD
   by_cases h1:p=⟨#[46]⟩
   ·subst h1
    have HR2:=Lib.hid (HR.out.trans (badParts_bad (by simp [badPart]) (by simp [badPart])))
    go_wp2
    go_ret
    exact ⟨by rw [HR2.out];rfl,rfl⟩
   by_cases h2:p=⟨#[46,46]⟩
   ·subst h2
    have HR2:=Lib.hid (HR.out.trans (badParts_bad (by simp [badPart]) (by simp [badPart])))
    go_wp2
    go_ret
    exact ⟨by rw [HR2.out];rfl,rfl⟩
   by_cases h3:p=⟨#[]⟩
   ·subst h3
    by_cases h4:(i:Int)<L-1
    ·have HR2:=Lib.hid (HR.out.trans (badParts_more (fun e=>HLA.out.1 e h4) (by simp [badPart])))
     go_wp2
     go_ret
     exact ⟨by rw [HR2.out];rfl,rfl⟩
    ·have htn:=HLA.out.2 h4
     have HR2:Hid (A=false):=Lib.hid (HR.out.trans (by rw [htn];rfl))
     have HR3:Hid (A=badParts tl):=Lib.hid (by rw [htn,HR2.out];rfl)
     clear htn
     go_wp2
     go_round
     case rel=>exact ⟨i+1,by omega,by go_num,by rw [←HTL.out];exact HR3⟩
     case measure=>simp [intOf];omega
   ·have HR3:Hid (A=badParts tl):=Lib.hid (HR.out.trans (badParts_good (txt_ne h1 (l:=[46])) (txt_ne h2 (l:=[46,46])) (txt_ne h3 (l:=[]))))
    have n1:(p.toList == [46])=false:=by rw [ByteArray.toList_eq];simpa using txt_ne h1 (l:=[46])
    have n2:(p.toList == [46,46])=false:=by rw [ByteArray.toList_eq];simpa using txt_ne h2 (l:=[46,46])
    have n3:p.toList.isEmpty=false:=by rw [ByteArray.toList_eq];simpa using txt_ne h3 (l:=[])
    clear h1 h2 h3
    go_wp2
    go_round
    case rel=>exact ⟨i+1,by omega,by go_num,by rw [←HTL.out];exact HR3⟩
    case measure=>simp [intOf];omega
  ·have hni:¬(i:Int)<L:=by omega
   have HR2:Hid (A=false):=Lib.hid (hrel.out.trans (by rw [List.drop_of_length_le (by have:=HL.out;omega)];rfl))
   go_wp2
   go_ret
   exact ⟨by rw [HR2.out];rfl,rfl⟩
end
def lsplit_ren:Go.Shelf.Ren:=⟨fun | 146=>38 | 221=>61 | 268=>87 | 138=>88 | 143=>89 | 195=>109 | 197=>110 | 218=>111 | 219=>112 | 260=>129 | 217=>130 | 225=>131 | 224=>132 | 267=>133 | 266=>145 | 314=>146 | n=>n,fun | 9=>9 | 31=>52 | 3=>3 | 4=>4 | 0=>0 | 105=>179 | 21=>21 | 5=>5 | 46=>58 | 119=>110 | 139=>113 | 138=>112 | 146=>211 | 51=>47 | n=>n,fun | 1=>2 | 3=>0 | 4=>1 | n=>n⟩
theorem lsplit:Go.Proofs.Lays.n146 Tryz.prog lsplit_ren:={
 mixed:=by kernel_rfl,
 f138:=Tryz.func88.trans (congrArg some (by kernel_rfl)),
 f143:=Tryz.func89.trans (congrArg some (by kernel_rfl)),
 f146:=Tryz.func38.trans (congrArg some (by kernel_rfl)),
 f195:=Tryz.func109.trans (congrArg some (by kernel_rfl)),
 f197:=Tryz.func110.trans (congrArg some (by kernel_rfl)),
 f217:=Tryz.func130.trans (congrArg some (by kernel_rfl)),
 f218:=Tryz.func111.trans (congrArg some (by kernel_rfl)),
 f219:=Tryz.func112.trans (congrArg some (by kernel_rfl)),
 f221:=Tryz.func61.trans (congrArg some (by kernel_rfl)),
 f224:=Tryz.func132.trans (congrArg some (by kernel_rfl)),
 f225:=Tryz.func131.trans (congrArg some (by kernel_rfl)),
 f260:=Tryz.func129.trans (congrArg some (by kernel_rfl)),
 f266:=Tryz.func145.trans (congrArg some (by kernel_rfl)),
 f267:=Tryz.func133.trans (congrArg some (by kernel_rfl)),
 f268:=Tryz.func87.trans (congrArg some (by kernel_rfl)),
 f314:=Tryz.func146.trans (congrArg some (by kernel_rfl)),
 t0:=Tryz.underlying0,
 a0:=Tryz.isAgg0,
 z0:=Tryz.sizeOf0,
 v0:=Tryz.zeroValue0,
 t3:=Tryz.underlying3,
 a3:=Tryz.isAgg3,
 z3:=Tryz.sizeOf3,
 v3:=Tryz.zeroValue3,
 t4:=Tryz.underlying4,
 a4:=Tryz.isAgg4,
 z4:=Tryz.sizeOf4,
 v4:=Tryz.zeroValue4,
 t5:=Tryz.underlying5,
 a5:=Tryz.isAgg5,
 z5:=Tryz.sizeOf5,
 v5:=Tryz.zeroValue5,
 t9:=Tryz.underlying9,
 a9:=Tryz.isAgg9,
 z9:=Tryz.sizeOf9,
 v9:=Tryz.zeroValue9,
 t21:=Tryz.underlying21,
 a21:=Tryz.isAgg21,
 z21:=Tryz.sizeOf21,
 v21:=Tryz.zeroValue21,
 t31:=Tryz.underlying52,
 a31:=Tryz.isAgg52,
 z31:=Tryz.sizeOf52,
 v31:=Tryz.zeroValue52,
 t46:=Tryz.underlying58,
 a46:=Tryz.isAgg58,
 z46:=Tryz.sizeOf58,
 v46:=Tryz.zeroValue58,
 t51:=Tryz.underlying47,
 a51:=Tryz.isAgg47,
 z51:=Tryz.sizeOf47,
 v51:=Tryz.zeroValue47,
 t105:=Tryz.underlying179,
 a105:=Tryz.isAgg179,
 z105:=Tryz.sizeOf179,
 v105:=Tryz.zeroValue179,
 t119:=Tryz.underlying110,
 a119:=Tryz.isAgg110,
 z119:=Tryz.sizeOf110,
 t138:=Tryz.underlying112,
 a138:=Tryz.isAgg112,
 z138:=Tryz.sizeOf112,
 v138:=Tryz.zeroValue112,
 t139:=Tryz.underlying113,
 a139:=Tryz.isAgg113,
 z139:=Tryz.sizeOf113,
 v139:=Tryz.zeroValue113,
 t146:=Tryz.underlying211,
 a146:=Tryz.isAgg211,
 z146:=Tryz.sizeOf211,
 v146:=Tryz.zeroValue211,
 g1:=by kernel_rfl,
 g3:=by kernel_rfl,
 g4:=by kernel_rfl }
def lsuff_ren:Go.Shelf.Ren:=⟨fun | 100=>70 | 207=>97 | n=>n,fun | 9=>9 | 4=>4 | 3=>3 | n=>n,fun | n=>n⟩
theorem lsuff:Go.Proofs.Lays.n100 Tryz.prog lsuff_ren:={
 mixed:=by kernel_rfl,
 f100:=Tryz.func70.trans (congrArg some (by kernel_rfl)),
 f207:=Tryz.func97.trans (congrArg some (by kernel_rfl)),
 t3:=Tryz.underlying3,
 a3:=Tryz.isAgg3,
 z3:=Tryz.sizeOf3,
 v3:=Tryz.zeroValue3,
 t4:=Tryz.underlying4,
 a4:=Tryz.isAgg4,
 z4:=Tryz.sizeOf4,
 v4:=Tryz.zeroValue4,
 t9:=Tryz.underlying9,
 a9:=Tryz.isAgg9,
 z9:=Tryz.sizeOf9,
 v9:=Tryz.zeroValue9 }
def lvalid_ren:Go.Shelf.Ren:=⟨fun | 196=>36 | 259=>60 | n=>n,fun | 9=>9 | 4=>4 | 3=>3 | 5=>5 | 12=>12 | 119=>110 | 0=>0 | 46=>58 | 139=>113 | 138=>112 | 53=>152 | n=>n,fun | 3=>0 | 4=>1 | n=>n⟩
theorem lvalid:Go.Proofs.Lays.n196 Tryz.prog lvalid_ren:={
 mixed:=by kernel_rfl,
 f196:=Tryz.func36.trans (congrArg some (by kernel_rfl)),
 f259:=Tryz.func60.trans (congrArg some (by kernel_rfl)),
 t0:=Tryz.underlying0,
 a0:=Tryz.isAgg0,
 z0:=Tryz.sizeOf0,
 v0:=Tryz.zeroValue0,
 t3:=Tryz.underlying3,
 a3:=Tryz.isAgg3,
 z3:=Tryz.sizeOf3,
 v3:=Tryz.zeroValue3,
 t4:=Tryz.underlying4,
 a4:=Tryz.isAgg4,
 z4:=Tryz.sizeOf4,
 v4:=Tryz.zeroValue4,
 t5:=Tryz.underlying5,
 a5:=Tryz.isAgg5,
 z5:=Tryz.sizeOf5,
 v5:=Tryz.zeroValue5,
 t9:=Tryz.underlying9,
 a9:=Tryz.isAgg9,
 z9:=Tryz.sizeOf9,
 v9:=Tryz.zeroValue9,
 t12:=Tryz.underlying12,
 a12:=Tryz.isAgg12,
 z12:=Tryz.sizeOf12,
 v12:=Tryz.zeroValue12,
 t46:=Tryz.underlying58,
 a46:=Tryz.isAgg58,
 z46:=Tryz.sizeOf58,
 v46:=Tryz.zeroValue58,
 t53:=Tryz.underlying152,
 a53:=Tryz.isAgg152,
 z53:=Tryz.sizeOf152,
 v53:=Tryz.zeroValue152,
 t119:=Tryz.underlying110,
 a119:=Tryz.isAgg110,
 z119:=Tryz.sizeOf110,
 t138:=Tryz.underlying112,
 a138:=Tryz.isAgg112,
 z138:=Tryz.sizeOf112,
 v138:=Tryz.zeroValue112,
 t139:=Tryz.underlying113,
 a139:=Tryz.isAgg113,
 z139:=Tryz.sizeOf113,
 v139:=Tryz.zeroValue113,
 g3:=by kernel_rfl,
 g4:=by kernel_rfl }
def lsort_ren:Go.Shelf.Ren:=⟨fun | 6=>77 | 15=>104 | 14=>103 | 28=>127 | 29=>128 | 20=>119 | 21=>120 | 22=>121 | 23=>122 | 24=>123 | 25=>124 | 26=>125 | 27=>126 | 46=>140 | 47=>141 | 48=>142 | 49=>143 | 50=>144 | 57=>160 | n=>n,fun | 22=>64 | 24=>93 | 25=>139 | 3=>3 | 39=>58 | 0=>0 | 53=>47 | 55=>152 | 4=>4 | 46=>191 | 45=>190 | 50=>107 | 5=>5 | 9=>9 | 66=>205 | 70=>209 | 76=>221 | 77=>222 | n=>n,fun | n=>n⟩
theorem lsort:Go.Proofs.SlLaysF0.n6 Tryz.prog lsort_ren:={
 mixed:=by kernel_rfl,
 f6:=⟨Tryz.f77.name,by decide,Tryz.func77.trans (congrArg some (by kernel_rfl))⟩,
 f14:=⟨Tryz.f103.name,by decide,Tryz.func103.trans (congrArg some (by kernel_rfl))⟩,
 f15:=Tryz.func104.trans (congrArg some (by kernel_rfl)),
 f20:=⟨Tryz.f119.name,by decide,Tryz.func119.trans (congrArg some (by kernel_rfl))⟩,
 f21:=⟨Tryz.f120.name,by decide,Tryz.func120.trans (congrArg some (by kernel_rfl))⟩,
 f22:=⟨Tryz.f121.name,by decide,Tryz.func121.trans (congrArg some (by kernel_rfl))⟩,
 f23:=⟨Tryz.f122.name,by decide,Tryz.func122.trans (congrArg some (by kernel_rfl))⟩,
 f24:=⟨Tryz.f123.name,by decide,Tryz.func123.trans (congrArg some (by kernel_rfl))⟩,
 f25:=⟨Tryz.f124.name,by decide,Tryz.func124.trans (congrArg some (by kernel_rfl))⟩,
 f26:=⟨Tryz.f125.name,by decide,Tryz.func125.trans (congrArg some (by kernel_rfl))⟩,
 f27:=⟨Tryz.f126.name,by decide,Tryz.func126.trans (congrArg some (by kernel_rfl))⟩,
 f28:=Tryz.func127.trans (congrArg some (by kernel_rfl)),
 f29:=Tryz.func128.trans (congrArg some (by kernel_rfl)),
 f46:=⟨Tryz.f140.name,by decide,Tryz.func140.trans (congrArg some (by kernel_rfl))⟩,
 f47:=Tryz.func141.trans (congrArg some (by kernel_rfl)),
 f48:=Tryz.func142.trans (congrArg some (by kernel_rfl)),
 f49:=⟨Tryz.f143.name,by decide,Tryz.func143.trans (congrArg some (by kernel_rfl))⟩,
 f50:=⟨Tryz.f144.name,by decide,Tryz.func144.trans (congrArg some (by kernel_rfl))⟩,
 f57:=⟨Tryz.f160.name,by decide,Tryz.func160.trans (congrArg some (by kernel_rfl))⟩,
 t0:=Tryz.underlying0,
 a0:=Tryz.isAgg0,
 z0:=Tryz.sizeOf0,
 v0:=Tryz.zeroValue0,
 t3:=Tryz.underlying3,
 a3:=Tryz.isAgg3,
 z3:=Tryz.sizeOf3,
 v3:=Tryz.zeroValue3,
 t4:=Tryz.underlying4,
 a4:=Tryz.isAgg4,
 z4:=Tryz.sizeOf4,
 v4:=Tryz.zeroValue4,
 t5:=Tryz.underlying5,
 a5:=Tryz.isAgg5,
 z5:=Tryz.sizeOf5,
 v5:=Tryz.zeroValue5,
 t9:=Tryz.underlying9,
 a9:=Tryz.isAgg9,
 z9:=Tryz.sizeOf9,
 v9:=Tryz.zeroValue9,
 t22:=Tryz.underlying64,
 a22:=Tryz.isAgg64,
 z22:=Tryz.sizeOf64,
 v22:=Tryz.zeroValue64,
 t25:=Tryz.underlying139,
 a25:=Tryz.isAgg139,
 z25:=Tryz.sizeOf139,
 v25:=Tryz.zeroValue139,
 t39:=Tryz.underlying58,
 a39:=Tryz.isAgg58,
 z39:=Tryz.sizeOf58,
 v39:=Tryz.zeroValue58,
 t45:=Tryz.underlying190,
 a45:=Tryz.isAgg190,
 z45:=Tryz.sizeOf190,
 v45:=Tryz.zeroValue190,
 t46:=Tryz.underlying191,
 a46:=Tryz.isAgg191,
 z46:=Tryz.sizeOf191,
 v46:=Tryz.zeroValue191,
 t50:=Tryz.underlying107,
 a50:=Tryz.isAgg107,
 z50:=Tryz.sizeOf107,
 v50:=Tryz.zeroValue107,
 t53:=Tryz.underlying47,
 a53:=Tryz.isAgg47,
 z53:=Tryz.sizeOf47,
 v53:=Tryz.zeroValue47,
 t55:=Tryz.underlying152,
 a55:=Tryz.isAgg152,
 z55:=Tryz.sizeOf152,
 v55:=Tryz.zeroValue152,
 t66:=Tryz.underlying205,
 a66:=Tryz.isAgg205,
 z66:=Tryz.sizeOf205,
 v66:=Tryz.zeroValue205,
 t70:=Tryz.underlying209,
 a70:=Tryz.isAgg209,
 z70:=Tryz.sizeOf209,
 v70:=Tryz.zeroValue209,
 t76:=Tryz.underlying221,
 a76:=Tryz.isAgg221,
 z76:=Tryz.sizeOf221,
 v76:=Tryz.zeroValue221,
 t77:=Tryz.underlying222,
 a77:=Tryz.isAgg222,
 z77:=Tryz.sizeOf222,
 v77:=Tryz.zeroValue222 }
section
open Go.RowKit
structure TZ (w:World):Prop where
 tab:Tab w
 utf:Lib.Utf8Tabs 0 1 w
 len:∃ m:Int,w.cell? ⟨2,0,none⟩=some (.int .i64 m)
theorem TZ.grow {w w':World} (h:TZ w) (hb:Below w.heap.size w w'):TZ w':=
 ⟨h.tab.below hb,Utf8Tabs_below h.utf hb,by
  obtain ⟨m,hm⟩:=h.len
  exact ⟨m,(hb.cell (World.block_lt_of_cell? w _ hm)).trans hm⟩⟩
theorem valid_any (s:ByteArray) (w:World) (hs:s.size≤1000000) (hT:TZ w) :
  Calls Tryz.prog 36 #[.string s] w fun e w'=>e = .returned (.bool (Lib.validD s.data.toList))∧Below w.heap.size w w':=
 Any.utf8_ValidString lvalid s w (by omega) hT.utf
theorem split_any (s:ByteArray) (w:World) (hs:s.size≤1000000) (hT:TZ w) :
  Calls Tryz.prog 38 #[.string s,.string ⟨#[47]⟩] w fun e w'=>∃ ps:List ByteArray,lists ps=parts s.data.toList∧ps.length≤s.size+1∧e = .returned (.slice (some ⟨w.heap.size,0,none⟩) ps.length ps.length)∧Tx w' w.heap.size ps∧Below w.heap.size w w':=by
 obtain ⟨m,hm⟩:=hT.len
 refine (Any.strings_Split lsplit (by kernel_rfl) s ⟨#[47]⟩ m w (by omega) hm (by decide)).mono ?_
 rintro e w' ⟨rfl,rfl⟩
 have hlen:=Lib.splitB_all ⟨#[47]⟩ (by decide) 0 (Lib.countB s ⟨#[47]⟩) s rfl
 have hle:=Lib.countB_le ⟨#[47]⟩ (by decide) s.size s (Nat.le_refl _)
 refine ⟨Lib.splitB ⟨#[47]⟩ 0 (Lib.countB s ⟨#[47]⟩) s,splitB_parts s,by omega,by rw [hlen],fun j hj=>?_,(Below.refl _ w).alloc (Nat.le_refl _) _⟩
 rw [World.cell?_alloc_at _ _ _ _ rfl]
 simp [hj]
theorem nameF_rest {s:ByteArray} {wide:Bool} (h0:s.size≠0) (h1:¬255<s.size) (h2:(wide && !Lib.validD s.data.toList)=false) :
  nameF s wide=((s.data.toList.any fun c=>badByte wide c.toNat) || badParts (parts s.data.toList)):=by
 unfold nameF
 rw [h2]
 simp [h0,h1]
theorem any_step {l:List UInt8} {wide:Bool} {i:Nat} (h:i<l.length) (q:Bool):((l.drop i).any (fun c=>badByte wide c.toNat) || q)=(badByte wide l[i].toNat || ((l.drop (i+1)).any (fun c=>badByte wide c.toNat) || q)):=by
 rw [List.drop_eq_getElem_cons h,List.any_cons,Bool.or_assoc]
set_option maxHeartbeats 1600000 in
theorem NameFault_any (s:ByteArray) (wide:Bool) (w:World) (hT:TZ w) (hl:s.size≤1000000) :
  Calls Tryz.prog 17 #[.string s,.bool wide] w fun e w'=>e = .returned (.bool (nameF s wide))∧Below w.heap.size w w':=by
 obtain ⟨A,hA⟩:∃ A,A=nameF s wide:=⟨_,rfl⟩
 rw [←hA]
 have HA:=Lib.hid hA
 have HT:=Lib.hid hT
 have KV:=Lib.hid (valid_any s w hl hT)
 clear hA hT
 by_cases h0:s.size=0
 ·have hn:s.toList.isEmpty=true:=by
   have h0':s.data.size=0:=h0
   rw [ByteArray.toList_eq]
   cases he:s.data.toList with
   | nil=>rfl
   | cons a b=>exact absurd h0' (by rw [←Array.length_toList,he];simp)
  have HR:Hid (A=true):=Lib.hid (by rw [HA.out];unfold nameF;simp [h0])
  go_enter Tryz.func17,Tryz.ntmps17
  go_wp2
  go_ret
  exact ⟨by rw [HR.out];rfl,Below.refl _ _⟩
 have hn:s.toList.isEmpty=false:=by
  rw [ByteArray.toList_eq]
  have h0':s.data.size≠0:=h0
  cases he:s.data.toList with
  | nil=>exact absurd (by rw [←Array.length_toList,he];rfl) h0'
  | cons a b=>rfl
 by_cases h1:255<s.size
 ·have hz:(255:Int)<s.size:=by omega
  have HR:Hid (A=true):=Lib.hid (by rw [HA.out];unfold nameF;simp [h1])
  go_enter Tryz.func17,Tryz.ntmps17
  go_wp2
  go_ret
  exact ⟨by rw [HR.out];rfl,Below.refl _ _⟩
 have hz:¬(255:Int)<s.size:=by omega
 obtain ⟨V,hV⟩:∃ V,V=Lib.validD s.data.toList:=⟨_,rfl⟩
 rw [←hV] at KV
 have HV:=Lib.hid hV
 clear hV
 have HSZ:=Lib.hid (show s.data.toList.length=s.size from (by simp:s.data.toList.length=s.data.size))
 by_cases hwv:wide=true∧V=false
 ·obtain ⟨rfl,rfl⟩:=hwv
  have HR:Hid (A=true):=Lib.hid (by rw [HA.out];unfold nameF;rw [←HV.out];simp)
  go_enter Tryz.func17,Tryz.ntmps17
  go_wp2_with fail
  refine KV.out.mono ?_
  rintro e w1 ⟨rfl,hb1⟩
  have HB1:=Lib.hid hb1
  clear hb1
  go_wp2
  go_ret
  exact ⟨by rw [HR.out];rfl,HB1.out⟩
 have HR:Hid (A=((s.data.toList.any fun c=>badByte wide c.toNat) || badParts (parts s.data.toList))):=Lib.hid (by
  rw [HA.out]
  refine nameF_rest h0 h1 ?_
  rw [←HV.out]
  cases wide <;> cases V <;> simp_all)
 have hcv:=fun W:World=>run_bytes_of_string (P:=Tryz.prog) W 9 22 5 s Tryz.underlying9 Tryz.underlying22 Tryz.underlying5
 obtain ⟨l,hl'⟩:∃ l,l=s.data.toList:=⟨_,rfl⟩
 have HL':=Lib.hid hl'
 rw [←hl'] at HR HSZ
 clear hl' HV
 have key:∀ (w1:World),Below w.heap.size w w1→∀ W,W=(w1.alloc (.cells (bytesRow s (grownCap w1 s.size 0 5)) 5 ((bytesRow s (grownCap w1 s.size 0 5)).size,(bytesRow s (grownCap w1 s.size 0 5)).size+1))).drew→Lt W w1.heap.size l∧Below w.heap.size w W:=by
  rintro w1 hb W rfl
  refine ⟨by rw [HL'.out];exact Lt.made w1 s _,hb.trans (((Below.refl w1.heap.size w1).alloc (Nat.le_refl _) _).drew.mono hb.size)⟩
 have HKEY:=Lib.hid key
 clear key
 have K38:=Lib.hid fun (W:World) (hW:Below w.heap.size w W)=>split_any s W hl (HT.out.grow hW)
 cases wide with
 | true=>
  have hVt:V=true:=by cases V with
   | true=>rfl
   | false=>exact absurd ⟨rfl,rfl⟩ hwv
  subst hVt
  clear hwv
  go_enter Tryz.func17,Tryz.ntmps17
  go_wp2_with fail
  refine KV.out.mono ?_
  rintro e w1 ⟨rfl,hb1⟩
  have HB1:=Lib.hid hb1
  clear hb1
  go_wp2
  obtain ⟨cap,hcap⟩:∃ cap,cap=grownCap w1 s.size 0 5:=⟨_,rfl⟩
  have hkk:=HKEY.out w1 HB1.out _ rfl
  rw [←hcap] at hkk ⊢
  obtain ⟨w2,hw2⟩:∃ w2,w2=(w1.alloc (.cells (bytesRow s cap) 5 ((bytesRow s cap).size,(bytesRow s cap).size+1))).drew:=⟨_,rfl⟩
  rw [←hw2] at hkk ⊢
  obtain ⟨g,hg⟩:∃ g,g=w1.heap.size:=⟨_,rfl⟩
  rw [←hg] at hkk ⊢
  have HRW:=Lib.hid hkk.1
  have HB2:=Lib.hid hkk.2
  have KSP:=Lib.hid (K38.out w2 HB2.out)
  obtain ⟨L,hL⟩:∃ L,L=s.size:=⟨_,rfl⟩
  rw [←hL] at HSZ hl ⊢
  have HL2:=Lib.hid hL
  clear hkk hcap hw2 hg hL HKEY hcv hn hz h0 h1 K38 HT
  go_loop [25] (fun vi=>∃ i:Nat,i≤L∧vi = .int .i64 i∧Hid (A=(((l.drop i).any fun c=>badByte true c.toNat) || badParts (parts l)))) (fun vi=>L-(intOf vi).toNat)
  case atStart=>exact ⟨0,Nat.zero_le _,rfl,by rw [List.drop_zero];exact HR⟩
  case round=>
  obtain ⟨i,hi,rfl,hrel⟩:=hrel
  by_cases hlt:i<L
  ·have hii:(i:Int)<L:=by omega
   have hil:i<l.length:=by rw [HSZ.out];exact hlt
   have hst:=Lib.hid (hrel.out.trans (any_step hil _))
   have hc:=HRW.out.cell i hil
   obtain ⟨c,hcx⟩:∃ c,c=l[i].toNat:=⟨_,rfl⟩
   have hc256:c<256:=by rw [hcx];exact l[i].toNat_lt
   rw [←hcx] at hc hst
   clear hcx hrel
   by_cases b1:c<32
   ·have z1:(c:Int)<32:=by omega
    have HRt:Hid (A=true):=Lib.hid (by rw [hst.out];simp [badByte,b1])
    go_wp2
    go_ret
    exact ⟨by rw [HRt.out];rfl,HB2.out⟩
   have z1:¬(c:Int)<32:=by omega
   by_cases b2:c=127
   ·have HRt:Hid (A=true):=Lib.hid (by rw [hst.out];simp [badByte,b2])
    subst b2
    go_wp2
    go_ret
    exact ⟨by rw [HRt.out];rfl,HB2.out⟩
   have z2:((c:Int) == 127)=false:=by simp;omega
   by_cases b3:c=92
   ·have HRt:Hid (A=true):=Lib.hid (by rw [hst.out];simp [badByte,b3])
    subst b3
    go_wp2
    go_ret
    exact ⟨by rw [HRt.out];rfl,HB2.out⟩
   have z3:((c:Int) == 92)=false:=by simp;omega
   have z5:(127:Int)<c∨¬(127:Int)<c:=Decidable.em _
   have HRn:Hid (A=(((l.drop (i+1)).any fun c=>badByte true c.toNat) || badParts (parts l))):=Lib.hid (by rw [hst.out];simp [badByte,b1,b2,b3])
   clear hst
   rcases z5 with z4 | z4
   all_goals
    go_wp2
    all_goals try (exfalso;omega)
    go_round
    case rel=>exact ⟨i+1,by omega,by go_num,HRn⟩
    case measure=>simp [intOf];omega
  ·have hni:¬(i:Int)<L:=by omega
   have HR2:Hid (A=badParts (parts l)):=Lib.hid (by rw [hrel.out,List.drop_of_length_le (by rw [HSZ.out];omega)];rfl)
   clear hrel
   go_wp2_with fail
   refine KSP.out.mono ?_
   rintro e w3 ⟨ps,hps,hpl,rfl,htx,hb3⟩
   have KP:=Lib.hid (partFault_any w2.heap.size ps.length ps w3 htx (by rw [←HL2.out] at hpl;omega))
   have HB3:=Lib.hid (HB2.out.trans (hb3.mono HB2.out.size))
   have HPS:Hid (badParts (lists ps)=A):=Lib.hid (by rw [HR2.out,hps,HL'.out])
   clear hps hpl htx hb3
   go_wp2_with fail
   refine KP.out.mono ?_
   rintro e w4 ⟨rfl,rfl⟩
   rw [HPS.out]
   go_wp2
   go_ret
   exact ⟨rfl,HB3.out⟩
 | false=>
  clear hwv KV
  have HB1:=Lib.hid (Below.refl w.heap.size w)
  go_enter Tryz.func17,Tryz.ntmps17
  go_wp2
  obtain ⟨cap,hcap⟩:∃ cap,cap=grownCap w s.size 0 5:=⟨_,rfl⟩
  have hkk:=HKEY.out w HB1.out _ rfl
  rw [←hcap] at hkk ⊢
  obtain ⟨w2,hw2⟩:∃ w2,w2=(w.alloc (.cells (bytesRow s cap) 5 ((bytesRow s cap).size,(bytesRow s cap).size+1))).drew:=⟨_,rfl⟩
  rw [←hw2] at hkk ⊢
  have HRW:=Lib.hid hkk.1
  have HB2:=Lib.hid hkk.2
  have KSP:=Lib.hid (K38.out w2 HB2.out)
  obtain ⟨L,hL⟩:∃ L,L=s.size:=⟨_,rfl⟩
  rw [←hL] at HSZ hl ⊢
  have HL2:=Lib.hid hL
  clear hkk hcap hw2 hL HKEY hcv hn hz h0 h1 K38 HT
  go_loop [25] (fun vi=>∃ i:Nat,i≤L∧vi = .int .i64 i∧Hid (A=(((l.drop i).any fun c=>badByte false c.toNat) || badParts (parts l)))) (fun vi=>L-(intOf vi).toNat)
  case atStart=>exact ⟨0,Nat.zero_le _,rfl,by rw [List.drop_zero];exact HR⟩
  case round=>
  obtain ⟨i,hi,rfl,hrel⟩:=hrel
  by_cases hlt:i<L
  ·have hii:(i:Int)<L:=by omega
   have hil:i<l.length:=by rw [HSZ.out];exact hlt
   have hst:=Lib.hid (hrel.out.trans (any_step hil _))
   have hc:=HRW.out.cell i hil
   obtain ⟨c,hcx⟩:∃ c,c=l[i].toNat:=⟨_,rfl⟩
   have hc256:c<256:=by rw [hcx];exact l[i].toNat_lt
   rw [←hcx] at hc hst
   clear hcx hrel
   by_cases b1:c<32
   ·have z1:(c:Int)<32:=by omega
    have HRt:Hid (A=true):=Lib.hid (by rw [hst.out];simp [badByte,b1])
    go_wp2
    go_ret
    exact ⟨by rw [HRt.out];rfl,HB2.out⟩
   have z1:¬(c:Int)<32:=by omega
   by_cases b2:c=127
   ·have HRt:Hid (A=true):=Lib.hid (by rw [hst.out];simp [badByte,b2])
    subst b2
    go_wp2
    go_ret
    exact ⟨by rw [HRt.out];rfl,HB2.out⟩
   have z2:((c:Int) == 127)=false:=by simp;omega
   by_cases b3:c=92
   ·have HRt:Hid (A=true):=Lib.hid (by rw [hst.out];simp [badByte,b3])
    subst b3
    go_wp2
    go_ret
    exact ⟨by rw [HRt.out];rfl,HB2.out⟩
   have z3:((c:Int) == 92)=false:=by simp;omega
   by_cases b4:127<c
   ·have z4:(127:Int)<c:=by omega
    have HRt:Hid (A=true):=Lib.hid (by rw [hst.out];simp [badByte,b4])
    go_wp2
    go_ret
    exact ⟨by rw [HRt.out];rfl,HB2.out⟩
   have z4:¬(127:Int)<c:=by omega
   have HRn:Hid (A=(((l.drop (i+1)).any fun c=>badByte false c.toNat) || badParts (parts l))):=Lib.hid (by rw [hst.out];simp [badByte,b1,b2,b3,b4])
   clear hst
   go_wp2
   all_goals try (exfalso;omega)
   go_round
   case rel=>exact ⟨i+1,by omega,by go_num,HRn⟩
   case measure=>simp [intOf];omega
  ·have hni:¬(i:Int)<L:=by omega
   have HR2:Hid (A=badParts (parts l)):=Lib.hid (by rw [hrel.out,List.drop_of_length_le (by rw [HSZ.out];omega)];rfl)
   clear hrel
   go_wp2_with fail
   refine KSP.out.mono ?_
   rintro e w3 ⟨ps,hps,hpl,rfl,htx,hb3⟩
   have KP:=Lib.hid (partFault_any w2.heap.size ps.length ps w3 htx (by rw [←HL2.out] at hpl;omega))
   have HB3:=Lib.hid (HB2.out.trans (hb3.mono HB2.out.size))
   have HPS:Hid (badParts (lists ps)=A):=Lib.hid (by rw [HR2.out,hps,HL'.out])
   clear hps hpl htx hb3
   go_wp2_with fail
   refine KP.out.mono ?_
   rintro e w4 ⟨rfl,rfl⟩
   rw [HPS.out]
   go_wp2
   go_ret
   exact ⟨rfl,HB3.out⟩
end
end Go.Proofs.YthbbpooobaahiaaGreatDoor.Zz
