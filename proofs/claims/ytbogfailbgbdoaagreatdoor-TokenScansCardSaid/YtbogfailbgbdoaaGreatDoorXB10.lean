/- Part 10. -/
import Derived.Test.YtbogfailbgbdoaaGreatDoorXB9
set_option linter.unusedVariables false
set_option linter.unusedSimpArgs false
namespace Go.Proofs.YtbogfailbgbdoaaGreatDoor.K
set_option maxRecDepth 100000
section
open Go.RowKit Go.Proofs.YtbogfailbgbdoaaGreatDoor U
theorem res76 {t:Array Value} {W:World} {q:Nat} {x0 x1 x2 x3 x4 x5:Value} (h2:t[2]? = some (.pointer (some ⟨q,0,none⟩))) (h:Blk W q 44 #[x0,x1,x2,x3,x4,x5]) :
  (results Tryz.f76 t).run Tryz.prog W = .ok (.agg #[x0,x1,x2,x3,x4,x5]) W:=by
 have e0:=(h.cell 0).trans (show _=some x0 from rfl)
 have e1:=(h.cell 1).trans (show _=some x1 from rfl)
 have e2:=(h.cell 2).trans (show _=some x2 from rfl)
 have e3:=(h.cell 3).trans (show _=some x3 from rfl)
 have e4:=(h.cell 4).trans (show _=some x4 from rfl)
 have e5:=(h.cell 5).trans (show _=some x5 from rfl)
 simp [results,Tryz.results76,h2,go_sem,e0,e1,e2,e3,e4,e5]
theorem contains_any (ad:Addr) (ao2:Option Addr) (c c2:Nat) (xs ys:List Nat) (w:World) (h:Sl w (some ad) c xs) (h2:Sl w ao2 c2 ys) (hm:xs.length≤1000000000) (hy:1≤ys.length) (hy2:ys.length≤1000) (hT:TU w) :
  Calls Tryz.prog 104 #[.slice (some ad) xs.length c,.slice ao2 ys.length c2] w fun e w'=>e = .returned (.bool (ix ys xs).isSome)∧Drew w w':=by
 have K:=index_any ad ao2 c c2 xs ys w h h2 hm hy hy2 hT
 rw [ix_lib h2.bs h.bs] at K
 have K:=Lib.hid K
 have hb:(ixI (ix ys xs) != (-1:Int))=(ix ys xs).isSome:=by
  cases ix ys xs with
  | none=>rfl
  | some i=>
   show ((i:Int) != -1)=true
   exact bne_iff_ne.2 (by omega)
 have HB:=Lib.hid hb
 generalize ixI (ix ys xs)=r at K HB
 generalize (ix ys xs).isSome=R at HB ⊢
 clear h h2 hT hb
 go_enter Tryz.func104,Tryz.ntmps104
 go_wp2_with (go_at_call 93;refine K.out.mono ?_;rintro e w1 ⟨rfl,hd1⟩;have HD:=Lib.hid hd1;clear hd1)
 go_ret
 exact ⟨by rw [←HB.out];rfl,HD.out⟩
theorem cut_any (a1 a2:Option Addr) (c1 c2:Nat) (L:List Nat) (W:World) (h1:Sl W a1 c1 L) (h2:Sl W a2 c2 [60]) (hm:L.length≤1000000) (hT:TU W) :
  Calls Tryz.prog 102 #[.slice a1 L.length c1,.slice a2 1 c2] W fun e w'=>(∃ V B,e = .returned (.tuple #[.slice a1 (wdN L) c1,V,.bool B]))∧Below W.heap.size W w':=by
 unfold wdN
 rcases hi:ix [60] L with _ | i
 ·exact (cut_no a1 a2 c1 c2 L [60] W h1 h2 hm hT hi).mono fun e w' h=>⟨⟨_,_,h.1⟩,h.2⟩
 ·exact (cut_yes a1 a2 c1 c2 L [60] i W h1 h2 hm hT hi).mono fun e w' ⟨⟨V,h,_⟩,hb⟩=>⟨⟨V,_,h⟩,hb⟩
theorem wdN_pos {L:List Nat} (hne:L≠[]) (h:¬[60] <+: L):0<wdN L:=by
 unfold wdN
 rcases hi:ix [60] L with _ | i
 ·exact List.length_pos_iff.2 hne
 ·rcases Nat.eq_zero_or_pos i with e | e
  ·exfalso;subst e
   have:=(ix_some hi).2
   rw [List.drop_zero] at this
   exact h this
  ·exact e
theorem lit_sl (W:World) (cs:List Nat) (hb:Bs cs) (hl:cs.length≤100):Sl (W.alloc (.cells (cs.map fun x=>Value.int .u8 (x:Nat)).toArray 5)) (some ⟨W.heap.size,0,none⟩) cs.length cs:=
 ⟨.inr ⟨_,0,rfl,fun i hi=>by
  rw [World.cell?_alloc_at _ _ _ _ rfl]
  simp [hi,List.getD_eq_getElem?_getD]⟩,Nat.le_refl _,by unfold maxLen;omega,(fun h=>by cases h),hb⟩
theorem cutA_some {ao:Option Addr} {c k:Nat} {ad:Addr} (h:ao=some ad):∃ ad',cutA ao c k=some ad':=by
 subst h
 unfold cutA
 split
 ·exact ⟨_,rfl⟩
 ·exact ⟨_,rfl⟩
theorem Scn.some {w:World} {p:Nat} {ao:Option Addr} {c:Nat} {xs:List Nat} {bg k:Nat} (h:Scn w p ao c xs bg k) (hne:xs.drop k≠[]):∃ ad,cutA ao c k=some ad:=by
 rcases hao:ao with _ | ad
 ·have:=h.sl.nil hao
  have h2:=h.sl.le
  have:xs=[]:=List.eq_nil_of_length_eq_zero (by omega)
  rw [this] at hne;simp at hne
 ·exact cutA_some rfl
section
variable (w:World) (p:Nat) (ao:Option Addr) (c:Nat) (xs:List Nat) (bg k:Nat)
set_option maxHeartbeats 3200000 in
theorem words_any (h:Scn w p ao c xs bg k) (hne:xs.drop k≠[]) (hn60:¬[60] <+: xs.drop k) :
  Calls Tryz.prog 76 #[.pointer (some ⟨p,0,none⟩)] w (TkTo p ao c xs bg k (wdP (xs.drop k)) w):=by
 have H:=Lib.hid h
 have R0:=Lib.hid (Rd.init h)
 obtain ⟨w0,hw0⟩:∃ w0,w0=w.alloc (.cells z44 44):=⟨_,rfl⟩
 rw [←hw0] at R0
 have h7:=h.tt.size
 obtain ⟨RR,hRR⟩:∃ RR,RR=wdP (xs.drop k):=⟨_,rfl⟩
 rw [←hRR]
 unfold wdP at hRR
 obtain ⟨ad,had⟩:=h.some hne
 have hNp:=wdN_pos hne hn60
 have hNl:=wdN_le (xs.drop k)
 rw [List.length_drop] at hNl
 have hlen:=h.len
 have hkl:=h.le
 obtain ⟨T,hT⟩:∃ T,T=(xs.drop k).take (wdN (xs.drop k)):=⟨_,rfl⟩
 rw [←hT] at hRR
 have hTl:T.length=wdN (xs.drop k):=by rw [hT,List.length_take,List.length_drop];omega
 have hTb:Bs T:=by rw [hT];exact (h.bs.drop k).take _
 have hcut:=slice_l ao xs.length c k h.le
 have p0:w0.cell? ⟨p,0,none⟩=some (.slice ao xs.length c):=R0.out.scn.c0
 have p2:w0.cell? ⟨p,2,none⟩=some (.int .i64 (k:Nat)):=R0.out.scn.c2
 have HP:=R0.out.scn.lt
 have hd:Below w0.heap.size w0 w0.drew:=below_drewN (Below.refl _ w0) 1
 have hc:=fun (w:World) (C:Array Value) (n c:Nat)=>Lib.run_convert_bytes_const (P:=Tryz.prog) w 22 5 C n c Tryz.underlying22 Tryz.underlying5
 obtain ⟨w1,hw1⟩:∃ w1,w1=(w0.alloc (.cells #[.int .u8 60] 5)).drew:=⟨_,rfl⟩
 obtain ⟨w1c,hw1c⟩:∃ w1c,w1c=w0.drew.alloc (.cells #[.int .u8 60] 5 (1,2)):=⟨_,rfl⟩
 have hcv:(convert 22 22 (.slice (some ⟨w0.heap.size,0,none⟩) 1 1)).run Tryz.prog w1 = .ok (.slice (some ⟨w0.heap.size,0,none⟩) 1 1) w1c:=by rw [hw1,hw1c];exact hc w0.drew #[.int .u8 60] 1 1
 have hb1:Below w0.heap.size w0 w1:=by rw [hw1];exact below_drewN (lit_below _ _) 1
 have hb1c:Below w0.heap.size w0 w1c:=by rw [hw1c];exact hd.trans ((lit_below w0.drew _).mono hd.size)
 have KC:=cut_any (cutA ao c k) (some ⟨w0.heap.size,0,none⟩) (c-k) 1 (xs.drop k) w1c ((R0.out.scn.sl.below hb1c).from_ k h.le) (by rw [hw1c];exact sl_text w0.drew [60] _ 1 _ _ rfl rfl rfl (bsl _ rfl) (by decide)) (by rw [List.length_drop];omega) (R0.out.scn.below hb1c).tt.tu
 rw [List.length_drop] at KC
 obtain ⟨N,hN⟩:∃ N,N=wdN (xs.drop k):=⟨_,rfl⟩
 rw [←hN] at hRR hNp hNl hTl hT KC
 have HRD1:Hid (Rd w w1c p ao c xs bg k):=Lib.hid (R0.out.below hb1c)
 have HB1C:=Lib.hid hb1c
 have hpc:∀ W,Scn W p ao c xs bg k→Sl W (cutA ao c k) (c-k) T:=fun W hW=>by rw [hT];exact hW.sl.cut' k N (by omega)
 rw [had] at hpc KC hcut
 have KK:Hid (∀ W,Scn W p ao c xs bg k→Calls Tryz.prog 104 #[.slice (some ad) N (c-k),.slice (some ⟨W.heap.size,0,none⟩) 3 3] (W.alloc (.cells #[.int .u8 93,.int .u8 93,.int .u8 62] 5 (3,4))) fun e w'=>e = .returned (.bool (ix [93,93,62] T).isSome)∧Drew (W.alloc (.cells #[.int .u8 93,.int .u8 93,.int .u8 62] 5 (3,4))) w'):=Lib.hid fun W hW=>by
  have hW2:=hW.below (lit_below W (.cells #[.int .u8 93,.int .u8 93,.int .u8 62] 5 (3,4)))
  have:=contains_any ad (some ⟨W.heap.size,0,none⟩) (c-k) 3 T [93,93,62] (W.alloc (.cells #[.int .u8 93,.int .u8 93,.int .u8 62] 5 (3,4))) (hpc _ hW2) (sl_text W [93,93,62] _ 3 _ _ rfl rfl rfl (bsl _ rfl) (by decide)) (by omega) (by simp) (by simp) hW2.tt.tu
  rw [hTl] at this
  exact this
 have HCV:Hid (∀ W,Scn W p ao c xs bg k→(convert 22 9 (.slice (some ad) N (c-k))).run Tryz.prog W = .ok (.string (txt T)) W):=Lib.hid fun W hW=>by
  have:=conv_txt (hpc W hW)
  rwa [hTl] at this
 have KT:Hid (∀ W,Scn W p ao c xs bg k→Calls Tryz.prog 28 #[.string (txt T)] W fun e w'=>e = .returned (tdR (told T))∧Below W.heap.size W w'):=Lib.hid fun W hW=>told_any T (txt T) rfl hTb W (by omega) hW.tt
 have KC:=Lib.hid KC
 have AF:Hid (∀ W,Below w0.heap.size w0 W→(fun W=>W.cell? ⟨p,0,none⟩=some (.slice ao xs.length c)∧W.cell? ⟨p,2,none⟩=some (.int .i64 (k:Nat))) W):=Lib.hid fun W hW=>⟨(hW.cell HP).trans p0,(hW.cell HP).trans p2⟩
 have HB1:=Lib.hid hb1
 obtain ⟨t,ht⟩:∃ t,t=k+N:=⟨_,rfl⟩
 have htl:t≤xs.length:=by omega
 have htk:((t:Nat):Int)=(k:Int)+N:=by omega
 generalize hX:(ix [93,93,62] T).isSome=X at KK hRR
 have HRR:=Lib.hid hRR
 have HTX:=Lib.hid ht
 clear h hRR hT hTl hTb hpc hne hn60 hX hN hb1 hb1c hw1c hd had
 go_enter Tryz.func76,Tryz.ntmps76
 go_upto_region 1 with fail
 rw [←hw0]
 clear hw0
 refine wp_region_held_drew (S:=fun W=>W.cell? ⟨p,0,none⟩=some (.slice ao xs.length c)∧W.cell? ⟨p,2,none⟩=some (.int .i64 (k:Nat))) (by kernel_rfl) ⟨p0,p2⟩ (fun hHeld=>?_)
 refine tC 0 (.pointer (some ⟨p,0,none⟩)) hHeld ?_
 refine tC 1 (.pointer (some ⟨p,0,none⟩)) hHeld ?_
 refine tC 2 (.pointer (some ⟨p,0,none⟩)) hHeld ?_
 refine tC 3 (.slice ao xs.length c) hHeld ?_
 refine tC 4 (.pointer (some ⟨p,0,none⟩)) hHeld ?_
 refine tC 5 (.pointer (some ⟨p,0,none⟩)) hHeld ?_
 refine tC 6 (.pointer (some ⟨p,2,none⟩)) hHeld ?_
 refine tC 7 (.int .i64 (k:Nat)) hHeld ?_
 refine tC 8 (.slice (some ad) (xs.length-k) (c-k)) hHeld ?_
 try simp only [List.set_cons_zero,List.set_cons_succ]
 refine wpAnyH_ready (rs:=[9]) (by kernel_rfl) (by simp) ?_
 refine AllReadyH.cons (o:={ dst:=some 18,op:=Op.buildSlice 22 1 #[(0,Operand.const (Value.int IntKind.u8 60))],type:=22,pos := "token.go:262",after := #[],guard:=none }) rfl (fun KQ hK=>?_) AllReadyH.nil
 go_simp
 rw [←hw1]
 clear hw1
 refine hK.out _ _ (AF.out _ HB1.out) (fun hHeld=>?_)
 try simp only [Act.put,List.setIfInBounds_toArray,List.set_cons_zero,List.set_cons_succ]
 try simp only [List.set_cons_zero,List.set_cons_succ]
 refine wpAnyH_ready (rs:=[10]) (by kernel_rfl) (by simp) ?_
 refine AllReadyH.cons (o:={ dst:=some 19,op:=Op.convert 22 22 (Operand.tmp 18),type:=22,pos := "token.go:262",after := #[{ on:=9,ground:=Ground.data }],guard:=none }) rfl (fun KQ hK=>?_) AllReadyH.nil
 go_simp
 refine hK.out _ _ (AF.out _ HB1C.out) (fun hHeld=>?_)
 try simp only [Act.put,List.setIfInBounds_toArray,List.set_cons_zero,List.set_cons_succ]
 refine wpAnyH_ready (rs:=[11]) (by kernel_rfl) (by simp) ?_
 refine AllReadyH.cons (o:={ dst:=some 20,op:=Op.call { callee:=Callee.value (Operand.func 102),args := #[Operand.tmp 17,Operand.tmp 19],argTypes := #[22,22] },type:=121,pos := "token.go:262",after := #[{ on:=8,ground:=Ground.data },{ on:=10,ground:=Ground.data }],guard:=none }) rfl (fun KQ hK=>?_) AllReadyH.nil
 go_simp
 go_at_call 102
 (with_reducible refine KC.out.mono ?_)
 rintro e w2 ⟨⟨V,B,rfl⟩,hb2⟩
 have HR2:=Lib.hid (HRD1.out.below hb2)
 have HB2:=Lib.hid (HB1C.out.trans (hb2.mono HB1C.out.size))
 clear hb2
 refine hK.out _ _ (AF.out _ HB2.out) (fun hHeld=>?_)
 try simp only [Act.put,List.setIfInBounds_toArray,List.set_cons_zero,List.set_cons_succ]
 refine tC 12 (.tuple #[.slice (some ad) N (c-k),V,.bool B]) hHeld ?_
 refine tC 13 (.slice (some ad) N (c-k)) hHeld ?_
 refine tC 14 V hHeld ?_
 refine tC 15 (.bool B) hHeld ?_
 refine tC 16 (.slice (some ad) N (c-k)) hHeld ?_
 refine tC 17 V hHeld ?_
 refine tC 18 (.bool B) hHeld ?_
 refine wpAnyH_done (by kernel_rfl) ?_ _
 try simp only [List.set_cons_zero,List.set_cons_succ]
 clear hHeld hcv
 cases X with
 | true=>
  have HRR:Hid (RR = .error 22):=Lib.hid HRR.out
  go_wp2_with (first
   | (go_at_call 104;(with_reducible refine (KK.out w2 HR2.out.scn).mono ?_);rintro e w3 ⟨rfl,q,rfl⟩;have HR3:=Lib.hid (HR2.out.below (below_drewN (lit_below w2 (.cells #[.int .u8 93,.int .u8 93,.int .u8 62] 5 (3,4))) q)))
   | (go_at_call 97;refine (must_no 22 _).mono ?_;rintro e w9 ⟨rfl,rfl⟩))
  refine ⟨rfl,?_⟩
  rw [HRR.out]
  exact ⟨HR3.out.tch,rfl,_,HR3.out.scn⟩
 | false=>
  rcases hto:told T with _ | v
  ·rw [hto] at KT
   have HRR2:Hid (RR = .error 22):=Lib.hid (by rw [HRR.out,if_neg (by simp),hto])
   have KT:Hid (∀ W,Scn W p ao c xs bg k→Calls Tryz.prog 28 #[.string (txt T)] W fun e w'=>e = .returned (.tuple #[.string ⟨#[]⟩,.bool false])∧Below W.heap.size W w'):=KT
   clear hto
   go_wp2_with (first
    | (go_at_call 104;(with_reducible refine (KK.out w2 HR2.out.scn).mono ?_);rintro e w3 ⟨rfl,q,rfl⟩;have HR3:=Lib.hid (HR2.out.below (below_drewN (lit_below w2 (.cells #[.int .u8 93,.int .u8 93,.int .u8 62] 5 (3,4))) q));have hcw:=HCV.out _ HR3.out.scn)
    | (go_at_call 97;refine (must_yes 22 _).mono ?_;rintro e w9 ⟨rfl,rfl⟩)
    | (go_at_call 28;(with_reducible refine (KT.out _ HR3.out.scn).mono ?_);rintro e w4 ⟨rfl,hb4⟩;have HR4:=Lib.hid (HR3.out.below hb4);clear hb4)
    | (go_at_call 97;refine (must_no 22 w4).mono ?_;rintro e w9 ⟨rfl,rfl⟩))
   refine ⟨rfl,?_⟩
   rw [HRR2.out]
   exact ⟨HR4.out.tch,rfl,_,HR4.out.scn⟩
  ·rw [hto] at KT
   have HRR2:Hid (RR = .ok (⟨4,[],v,[],false⟩,N)):=Lib.hid (by rw [HRR.out,if_neg (by simp),hto])
   have KT:Hid (∀ W,Scn W p ao c xs bg k→Calls Tryz.prog 28 #[.string (txt T)] W fun e w'=>e = .returned (.tuple #[.string (txt v),.bool true])∧Below W.heap.size W w'):=KT
   generalize hA:txt v=A at KT
   have HA:=Lib.hid hA
   clear hto hA
   go_wp2_with (first
    | (go_at_call 104;(with_reducible refine (KK.out w2 HR2.out.scn).mono ?_);rintro e w3 ⟨rfl,q,rfl⟩;have HR3:=Lib.hid (HR2.out.below (below_drewN (lit_below w2 (.cells #[.int .u8 93,.int .u8 93,.int .u8 62] 5 (3,4))) q));have hcw:=HCV.out _ HR3.out.scn)
    | (go_at_call 28;(with_reducible refine (KT.out _ HR3.out.scn).mono ?_);rintro e w4 ⟨rfl,hb4⟩;have HR4:=Lib.hid (HR3.out.below hb4);have s2:=HR4.out.scn.c2;have f2:=HR4.out.scn.blk.free 2;have hs5:=HR4.out.scn.set2 t htl;rw [htk] at hs5;have R5:=Lib.hid (HR4.out.step (touch_set p 2 w4 _) hs5);clear hs5;obtain ⟨r0,r1,r2,r3,r4,r5⟩:=R5.out.ce;obtain ⟨g0,g1,g2,g3,g4,g5⟩:=R5.out.fr;clear hb4)
    | (go_at_call 97;refine (must_yes 22 _).mono ?_;rintro e w9 ⟨rfl,rfl⟩))
   refine bodyPost_ret (res76 rfl (st6_blk R5.out.blk _ _ _ _ _ _)) rfl ?_
   rw [HRR2.out,←HA.out]
   exact R5.out.done h7 H.out.apart ⟨4,[],v,[],false⟩ N (.slice none 0 0) HTX.out (AtV.nil _ _) (by simp)
end
structure Rp (w:World) (p:Nat) (xs:List Nat) (k fr er pl:Nat):Prop where
 blk:Blk w p 55 #[.string (txt xs),.int .i64 (k:Nat),.int .i64 (fr:Nat),.int .i64 (er:Nat),.int .i64 (pl:Nat)]
 bs:Bs xs
 le:k≤xs.length
 len:xs.length≤1000000
section
variable {w w':World} {p:Nat} {xs:List Nat} {k fr er pl:Nat}
theorem Rp.c0 (h:Rp w p xs k fr er pl):w.cell? ⟨p,0,none⟩=some (.string (txt xs)):=(h.blk.cell 0).trans rfl
theorem Rp.c1 (h:Rp w p xs k fr er pl):w.cell? ⟨p,1,none⟩=some (.int .i64 (k:Nat)):=(h.blk.cell 1).trans rfl
theorem Rp.c2 (h:Rp w p xs k fr er pl):w.cell? ⟨p,2,none⟩=some (.int .i64 (fr:Nat)):=(h.blk.cell 2).trans rfl
theorem Rp.c3 (h:Rp w p xs k fr er pl):w.cell? ⟨p,3,none⟩=some (.int .i64 (er:Nat)):=(h.blk.cell 3).trans rfl
theorem Rp.c4 (h:Rp w p xs k fr er pl):w.cell? ⟨p,4,none⟩=some (.int .i64 (pl:Nat)):=(h.blk.cell 4).trans rfl
theorem Rp.below (h:Rp w p xs k fr er pl) (hb:Below w.heap.size w w'):Rp w' p xs k fr er pl:=⟨h.blk.below hb,h.bs,h.le,h.len⟩
theorem Rp.set1 (h:Rp w p xs k fr er pl) (k':Nat) (hk:k'≤xs.length):Rp (w.setCell ⟨p,1,none⟩ (.int .i64 (k':Nat))) p xs k' fr er pl:=⟨h.blk.setCell 1 _,h.bs,hk,h.len⟩
theorem Rp.drew (h:Rp w p xs k fr er pl) (q:Nat):Rp (w.drewN q) p xs k fr er pl:=h.below (below_drewN (Below.refl _ w) q)
end
section
variable (w:World) (p:Nat) (xs:List Nat) (k fr er pl:Nat)
set_option maxHeartbeats 1600000 in
theorem rfail_any (x:Nat) (h:Rp w p xs k fr er pl) :
  Calls Tryz.prog 49 #[.pointer (some ⟨p,0,none⟩),.int .i64 (x:Nat)] w fun e w'=>e = .returned (.tuple #[])∧Touch (fun i=>i=p) w w'∧Rp w' p xs k fr (if er=0 then x else er) (if er=0 then fr else pl):=by
 have H:=Lib.hid h
 have c2:=h.c2
 have c3:=h.c3
 have c4:=h.c4
 have f3:=h.blk.free 3
 have f4:=h.blk.free 4
 clear h
 by_cases he:er=0
 ·subst he
  go_enter Tryz.func49,Tryz.ntmps49
  go_wp2
  go_end0
  exact ⟨rfl,(touch_set p 3 w _).trans (touch_set p 4 _ _),⟨(H.out.blk.setCell 3 _).setCell 4 _,H.out.bs,H.out.le,H.out.len⟩⟩
 ·rw [if_neg he,if_neg he]
  have he':((er:Int) == 0)=false:=beq_eq_false_iff_ne.2 (by omega)
  go_enter Tryz.func49,Tryz.ntmps49
  go_wp2
  all_goals try (exfalso;omega)
  go_end0
  exact ⟨rfl,Touch.refl _ _,H.out⟩
set_option maxHeartbeats 1600000 in
theorem rdigit_any (c:Nat) (hc:c<256) :
  Calls Tryz.prog 60 #[.int .u8 (c:Nat)] w fun e w'=>e = .returned (.int .i64 ((if 48≤c∧c≤57 then c-48 else if 97≤c∧c≤102 then c-97+10 else if 65≤c∧c≤70 then c-65+10 else 99:Nat):Int))∧w'=w:=by
 obtain ⟨R,hR⟩:∃ R:Nat,R=(if 48≤c∧c≤57 then c-48 else if 97≤c∧c≤102 then c-97+10 else if 65≤c∧c≤70 then c-65+10 else 99):=⟨_,rfl⟩
 rw [←hR]
 have HR:=Lib.hid hR
 clear hR
 go_enter Tryz.func60,Tryz.ntmps60
 go_wp2
 all_goals try (exfalso;omega)
 all_goals go_ret
 all_goals (refine ⟨?_,rfl⟩;rw [HR.out])
 all_goals (repeat' split)
 all_goals first
  | (exfalso;omega)
  | (show Ending.returned (.int .i64 _) = .returned (.int .i64 _);congr 2;try omega)
def RhTo (s:List Nat) (w:World) (e:Ending) (w':World):Prop:=
 e = .returned (.bool (decide (er=0∧s <+: xs.drop k)))∧Touch (fun i=>i=p) w w'∧Rp w' p xs (if er=0∧s <+: xs.drop k then k+s.length else k) fr er pl
theorem txt_extract (L:List Nat) (i j:Nat):(txt L).extract i j=txt ((L.drop i).take (j-i)):=by
 apply ByteArray.ext
 rw [ByteArray.data_extract]
 simp [txt,u8L,List.map_drop,List.map_take,List.take_drop]
set_option maxHeartbeats 3200000 in
theorem rhas_any (s:List Nat) (T:ByteArray) (hT:T=txt s) (hs:Bs s) (hl:s.length≤1000) (h:Rp w p xs k fr er pl) :
  Calls Tryz.prog 46 #[.pointer (some ⟨p,0,none⟩),.string T] w (RhTo p xs k fr er pl s w):=by
 have H:=Lib.hid h
 have c0:=h.c0
 have c1:=h.c1
 have c3:=h.c3
 have f1:=h.blk.free 1
 have hkl:=h.le
 have hlen:=h.len
 have hTz:T.size=s.length:=by rw [hT];exact txt_size s
 have hSz:(txt xs).size=xs.length:=txt_size xs
 unfold RhTo
 by_cases he:er=0
 ·subst he
  by_cases hn:xs.length-k<s.length
  ·have hno:¬(0=0∧s <+: xs.drop k):=fun h=>by have:=h.2.length_le;rw [List.length_drop] at this;omega
   rw [decide_eq_false hno,if_neg hno]
   generalize txt xs=S at c0 hSz
   obtain ⟨n,hnn⟩:∃ n,n=s.length:=⟨_,rfl⟩
   rw [←hnn] at hTz hn
   have hlt:(xs.length:Int)-k<n:=by omega
   clear h hno hT hl hnn
   go_enter Tryz.func46,Tryz.ntmps46
   go_upto_region 1 with fail
   go_quiet (fail)
   go_wp2
   go_ret
   exact ⟨rfl,(Touch.refl _ w).drewN _,H.out.drew _⟩
  ·have hpc:(txt xs).extract k (k+s.length)=txt ((xs.drop k).take s.length):=by rw [txt_extract,Nat.add_sub_cancel_left]
   have hpre:(s <+: xs.drop k)↔(xs.drop k).take s.length=s:=List.prefix_iff_eq_take.trans eq_comm
   obtain ⟨n,hnn⟩:∃ n,n=s.length:=⟨_,rfl⟩
   have hge:¬((xs.length:Int)-k<n):=by omega
   obtain ⟨t,ht⟩:∃ t,t=k+n:=⟨_,rfl⟩
   have htl:t≤xs.length:=by omega
   have htk:k≤t:=by omega
   have hsum:(k:Int)+n=t:=by omega
   have hsl:∀ W,(Instr.slice 9 (.string (txt xs)) (some (.int .i64 (k:Nat))) (some (.int .i64 (t:Nat))) none).run Tryz.prog W = .ok (.string ((txt xs).extract k t)) W:=fun W=>by
    have h1:(0:Int)≤k∧(k:Int)≤t:=by omega
    have h2:(t:Int)≤(txt xs).size:=by rw [hSz];omega
    simp [go_sem,h1,h2]
   rw [show (txt xs).extract k t=txt ((xs.drop k).take s.length) by rw [ht,hnn];exact hpc] at hsl
   have hTn:(T.size:Int)=n:=by rw [hTz,hnn]
   have hSn:((txt xs).size:Int)=xs.length:=by rw [hSz]
   rw [←hnn] at hTz
   by_cases hp:s <+: xs.drop k
   ·rw [hpre.1 hp,←hT] at hsl
    have hyes:0=0∧s <+: xs.drop k:=⟨rfl,hp⟩
    rw [decide_eq_true hyes,if_pos hyes,←hnn,←ht]
    generalize txt xs=S at c0 hSz hsl hSn
    clear h hT hl hnn hyes hpre hpc hp ht
    go_enter Tryz.func46,Tryz.ntmps46
    go_upto_region 1 with fail
    go_quiet (fail)
    go_wp2
    go_ret
    exact ⟨rfl,((Touch.refl _ w).drewN _).trans (touch_set p 1 _ _),(H.out.drew _).set1 t htl⟩
   ·have hno:¬(0=0∧s <+: xs.drop k):=fun h=>hp h.2
    rw [decide_eq_false hno,if_neg hno]
    have hnt:¬(xs.drop k).take s.length=s:=fun h=>hp (hpre.2 h)
    have hl1:(txt ((xs.drop k).take s.length)).toList≠T.toList:=by
     rw [hT,txt_toList,txt_toList]
     exact fun e=>hnt (u8L_inj ((H.out.bs.drop k).take _) hs e)
    have hl2:((txt ((xs.drop k).take s.length)).toList == T.toList)=false:=beq_eq_false_iff_ne.2 hl1
    generalize txt ((xs.drop k).take s.length)=PC at hsl hl1 hl2
    generalize txt xs=S at c0 hSz hsl hSn
    clear h hno hT hl hnn hpre hpc hp ht hnt
    go_enter Tryz.func46,Tryz.ntmps46
    go_upto_region 1 with fail
    go_quiet (fail)
    go_wp2
    go_ret
    exact ⟨rfl,(Touch.refl _ w).drewN _,H.out.drew _⟩
 ·have hno:¬(er=0∧s <+: xs.drop k):=fun h=>he h.1
  rw [decide_eq_false hno,if_neg hno]
  generalize txt xs=S at c0 hSz
  have hb:((er:Int) != 0)=true:=bne_iff_ne.2 (by omega)
  have hb2:¬(er:Int)=0:=by omega
  clear h hno hT hl
  go_enter Tryz.func46,Tryz.ntmps46
  go_upto_region 1 with fail
  go_quiet (fail)
  go_wp2
  go_ret
  exact ⟨rfl,(Touch.refl _ w).drewN _,H.out.drew _⟩
end
end
end Go.Proofs.YtbogfailbgbdoaaGreatDoor.K
namespace Go.Proofs.YtbogfailbgbdoaaGreatDoor
set_option maxRecDepth 100000
section
open Go.RowKit U
def spP (v a b:Int):Bool:=decide (a≤v) && decide (v≤b)
theorem span_any (v a b:Int) (w:World):Calls Tryz.prog 62 #[.int .i64 v,.int .i64 a,.int .i64 b] w fun e w'=>e = .returned (.bool (spP v a b))∧w=w':=by
 by_cases h1:a≤v
 ·by_cases h2:v≤b
  ·have HR:Hid (spP v a b=true):=Lib.hid (by simp [spP,h1,h2])
   go_enter Tryz.func62,Tryz.ntmps62
   go_wp2
   go_ret
   exact ⟨by rw [HR.out];rfl,rfl⟩
  ·have HR:Hid (spP v a b=false):=Lib.hid (by simp [spP,h2])
   go_enter Tryz.func62,Tryz.ntmps62
   go_wp2
   go_ret
   exact ⟨by rw [HR.out];rfl,rfl⟩
 ·have HR:Hid (spP v a b=false):=Lib.hid (by simp [spP,h1])
  go_enter Tryz.func62,Tryz.ntmps62
  go_wp2
  go_ret
  exact ⟨by rw [HR.out];rfl,rfl⟩
theorem rSign_any (v:Int) (w:World):Calls Tryz.prog 61 #[.int .i64 v] w fun e w'=>e = .returned (.bool (Lib.validRune v))∧w=w':=by
 have hv:Lib.validRune v=decide ((0≤v∧v<55296)∨(57343<v∧v≤1114111)):=rfl
 by_cases h1:0≤v
 ·by_cases h2:v≤1114111
  ·by_cases h3:v<55296
   ·have HR:Hid (Lib.validRune v=true):=Lib.hid (by rw [hv];exact decide_eq_true (by omega))
    clear hv
    go_enter Tryz.func61,Tryz.ntmps61
    go_wp2
    go_ret
    exact ⟨by rw [HR.out];rfl,rfl⟩
   ·by_cases h4:57343<v
    ·have HR:Hid (Lib.validRune v=true):=Lib.hid (by rw [hv];exact decide_eq_true (by omega))
     clear hv
     go_enter Tryz.func61,Tryz.ntmps61
     go_wp2
     go_ret
     exact ⟨by rw [HR.out];rfl,rfl⟩
    ·have HR:Hid (Lib.validRune v=false):=Lib.hid (by rw [hv];exact decide_eq_false (by omega))
     clear hv
     go_enter Tryz.func61,Tryz.ntmps61
     go_wp2
     go_ret
     exact ⟨by rw [HR.out];rfl,rfl⟩
  ·have HR:Hid (Lib.validRune v=false):=Lib.hid (by rw [hv];exact decide_eq_false (by omega))
   clear hv
   go_enter Tryz.func61,Tryz.ntmps61
   go_wp2
   go_ret
   exact ⟨by rw [HR.out];rfl,rfl⟩
 ·have HR:Hid (Lib.validRune v=false):=Lib.hid (by rw [hv];exact decide_eq_false (by omega))
  clear hv
  go_enter Tryz.func61,Tryz.ntmps61
  go_wp2
  go_ret
  exact ⟨by rw [HR.out];rfl,rfl⟩
theorem or_parts {a b:Bool}:(a || b)=true→a=true∨(a=false∧b=true):=by cases a <;> simp
theorem wth_cons (s:Int × Int) (L:List (Int × Int)) (r:Int):wth (s::L) r=(spP r s.1 s.2 || wth L r):=rfl
set_option maxHeartbeats 1600000 in
theorem rChar_any (v:Int) (w:World):Calls Tryz.prog 32 #[.int .i64 v] w fun e w'=>e = .returned (.bool (wth charL v))∧w=w':=by
 have K1:=Lib.hid fun W=>span_any v 32 55295 W
 have K2:=Lib.hid fun W=>span_any v 57344 65533 W
 have K3:=Lib.hid fun W=>span_any v 65536 1114111 W
 have hw:wth charL v=(spP v 32 55295 || (spP v 9 10 || (spP v 13 13 || (spP v 57344 65533 || (spP v 65536 1114111 || false))))):=rfl
 have h9:spP v 9 10=(decide (v=9) || decide (v=10)):=by
  unfold spP;rw [Bool.eq_iff_iff];simp only [Bool.and_eq_true,Bool.or_eq_true,decide_eq_true_eq];omega
 have h13:spP v 13 13=decide (v=13):=by
  unfold spP;rw [Bool.eq_iff_iff];simp only [Bool.and_eq_true,decide_eq_true_eq];omega
 rw [h9,h13] at hw
 generalize spP v 32 55295=a at K1 hw
 generalize spP v 57344 65533=b at K2 hw
 generalize spP v 65536 1114111=c at K3 hw
 obtain ⟨R,hR⟩:∃ R,R=wth charL v:=⟨_,rfl⟩
 rw [←hR] at hw ⊢
 clear hR h9 h13
 by_cases d1:v=9
 ·subst d1
  have HR:Hid (R=true):=Lib.hid (by rw [hw];simp)
  clear hw
  go_enter Tryz.func32,Tryz.ntmps32
  go_wp2
  go_ret
  exact ⟨by rw [HR.out];rfl,rfl⟩
 by_cases d2:v=10
 ·subst d2
  have HR:Hid (R=true):=Lib.hid (by rw [hw];simp)
  clear hw
  go_enter Tryz.func32,Tryz.ntmps32
  go_wp2
  go_ret
  exact ⟨by rw [HR.out];rfl,rfl⟩
 by_cases d3:v=13
 ·subst d3
  have HR:Hid (R=true):=Lib.hid (by rw [hw];simp)
  clear hw
  go_enter Tryz.func32,Tryz.ntmps32
  go_wp2
  go_ret
  exact ⟨by rw [HR.out];rfl,rfl⟩
 have HR:Hid (R=(a || (b || c))):=Lib.hid (by rw [hw];simp [d1,d2,d3])
 have g1:(v == 9)=false:=beq_eq_false_iff_ne.2 d1
 have g2:(v == 10)=false:=beq_eq_false_iff_ne.2 d2
 have g3:(v == 13)=false:=beq_eq_false_iff_ne.2 d3
 clear hw d1 d2 d3
 cases a <;> cases b <;> cases c
 all_goals
  go_enter Tryz.func32,Tryz.ntmps32
  go_wp2_with (first
   | (go_at_call 62;(with_reducible refine (K1.out _).mono ?_);rintro e w1 ⟨rfl,rfl⟩)
   | (go_at_call 62;(with_reducible refine (K2.out _).mono ?_);rintro e w1 ⟨rfl,rfl⟩)
   | (go_at_call 62;(with_reducible refine (K3.out _).mono ?_);rintro e w1 ⟨rfl,rfl⟩))
  go_ret
  exact ⟨by rw [HR.out];rfl,rfl⟩
theorem rBlank_any (v:Int) (w:World):Calls Tryz.prog 44 #[.int .i64 v] w fun e w'=>e = .returned (.bool (wth blankL v))∧w=w':=by
 have hw:wth blankL v=decide (v=32∨v=9∨v=10∨v=13):=by
  have:wth blankL v=(spP v 32 32 || (spP v 9 10 || (spP v 13 13 || false))):=rfl
  rw [this]
  unfold spP;rw [Bool.eq_iff_iff];simp only [Bool.and_eq_true,Bool.or_eq_true,decide_eq_true_eq,Bool.false_eq_true,or_false];omega
 rw [hw]
 clear hw
 by_cases d1:v=32
 ·subst d1
  go_enter Tryz.func44,Tryz.ntmps44
  go_wp2
  go_ret
  exact ⟨rfl,rfl⟩
 by_cases d2:v=9
 ·subst d2
  go_enter Tryz.func44,Tryz.ntmps44
  go_wp2
  go_ret
  exact ⟨rfl,rfl⟩
 by_cases d3:v=10
 ·subst d3
  go_enter Tryz.func44,Tryz.ntmps44
  go_wp2
  go_ret
  exact ⟨rfl,rfl⟩
 by_cases d4:v=13
 ·subst d4
  go_enter Tryz.func44,Tryz.ntmps44
  go_wp2
  go_ret
  exact ⟨rfl,rfl⟩
 have HR:Hid (decide (v=32∨v=9∨v=10∨v=13)=false):=Lib.hid (decide_eq_false (by omega))
 have g1:(v == 32)=false:=beq_eq_false_iff_ne.2 d1
 have g2:(v == 9)=false:=beq_eq_false_iff_ne.2 d2
 have g3:(v == 10)=false:=beq_eq_false_iff_ne.2 d3
 have g4:(v == 13)=false:=beq_eq_false_iff_ne.2 d4
 clear d1 d2 d3 d4
 go_enter Tryz.func44,Tryz.ntmps44
 go_wp2
 go_ret
 exact ⟨by rw [HR.out];rfl,rfl⟩
def restL:List (Int × Int):=[(192,214),(216,246),(248,767),(880,893),(895,8191),(8204,8205),(8304,8591),(11264,12271),(12289,55295),(63744,64975),(65008,65533),(65536,983039)]
theorem begins_parts (v:Int):wth beginsL v=((spP v 65 90 || spP v 97 122) || (decide (v=95) || wth restL v)):=by
 have h:wth beginsL v=(spP v 97 122 || (spP v 65 90 || (spP v 95 95 || wth restL v))):=rfl
 have h95:spP v 95 95=decide (v=95):=by
  unfold spP;rw [Bool.eq_iff_iff];simp only [Bool.and_eq_true,decide_eq_true_eq];omega
 rw [h,h95]
 cases spP v 97 122 <;> cases spP v 65 90 <;> simp
def rest64:Array Value:=(restL.flatMap fun s=>[Value.int .i64 s.1,Value.int .i64 s.2]).toArray
theorem rest_at:∀ k,k<12→rest64[2*k]? = some (.int .i64 (restL.getD k (0,0)).1)∧rest64[2*k+1]? = some (.int .i64 (restL.getD k (0,0)).2):=by
 intro k hk
 have:k=0∨k=1∨k=2∨k=3∨k=4∨k=5∨k=6∨k=7∨k=8∨k=9∨k=10∨k=11:=by omega
 rcases this with rfl | rfl | rfl | rfl | rfl | rfl | rfl | rfl | rfl | rfl | rfl | rfl <;> exact ⟨rfl,rfl⟩
set_option maxHeartbeats 3200000 in
theorem rBegins_any (v:Int) (w:World):Calls Tryz.prog 77 #[.int .i64 v] w fun e w'=>e = .returned (.bool (wth beginsL v))∧Below w.heap.size w w':=by
 have KS:=Lib.hid fun (a b:Int) W=>span_any v a b W
 have hw:=begins_parts v
 obtain ⟨R,hR⟩:∃ R,R=wth beginsL v:=⟨_,rfl⟩
 rw [←hR] at hw ⊢
 have HW:=Lib.hid hw
 clear hR hw
 obtain ⟨p1,hp1⟩:∃ p,p=spP v 65 90:=⟨_,rfl⟩
 obtain ⟨p2,hp2⟩:∃ p,p=spP v 97 122:=⟨_,rfl⟩
 have K1:=Lib.hid fun W=>KS.out 65 90 W
 have K2:=Lib.hid fun W=>KS.out 97 122 W
 rw [←hp1,←hp2] at HW
 rw [←hp1] at K1
 rw [←hp2] at K2
 clear hp1 hp2
 cases p1 with
 | true=>
  have HR:Hid (R=true):=Lib.hid (by rw [HW.out];rfl)
  go_enter Tryz.func77,Tryz.ntmps77
  go_wp2_with (go_at_call 62;(with_reducible refine (K1.out _).mono ?_);rintro e w1 ⟨rfl,rfl⟩)
  go_ret
  exact ⟨by rw [HR.out];rfl,Below.refl _ _⟩
 | false=>
  cases p2 with
  | true=>
   have HR:Hid (R=true):=Lib.hid (by rw [HW.out];rfl)
   go_enter Tryz.func77,Tryz.ntmps77
   go_wp2_with (first
    | (go_at_call 62;(with_reducible refine (K1.out _).mono ?_);rintro e w1 ⟨rfl,rfl⟩)
    | (go_at_call 62;(with_reducible refine (K2.out _).mono ?_);rintro e w1 ⟨rfl,rfl⟩))
   go_ret
   exact ⟨by rw [HR.out];rfl,Below.refl _ _⟩
  | false=>
   by_cases d95:v=95
   ·have HR:Hid (R=true):=Lib.hid (by rw [HW.out,decide_eq_true d95];rfl)
    have g:(v == 95)=true:=beq_iff_eq.2 d95
    clear d95
    go_enter Tryz.func77,Tryz.ntmps77
    go_wp2_with (first
     | (go_at_call 62;(with_reducible refine (K1.out _).mono ?_);rintro e w1 ⟨rfl,rfl⟩)
     | (go_at_call 62;(with_reducible refine (K2.out _).mono ?_);rintro e w1 ⟨rfl,rfl⟩))
    go_ret
    exact ⟨by rw [HR.out];rfl,Below.refl _ _⟩
   have HR:Hid (R=wth restL v):=Lib.hid (by rw [HW.out,decide_eq_false d95];rfl)
   have g:(v == 95)=false:=beq_eq_false_iff_ne.2 d95
   clear d95 HW
   have HC:Hid (∀ k,k<12→(w.alloc (.cells rest64 3)).cell? ⟨w.heap.size,2*k,none⟩=some (.int .i64 (restL.getD k (0,0)).1)∧(w.alloc (.cells rest64 3)).cell? ⟨w.heap.size,2*k+1,none⟩=some (.int .i64 (restL.getD k (0,0)).2)):=Lib.hid fun k hk=>by
    rw [World.cell?_alloc_at _ _ _ _ rfl,World.cell?_alloc_at _ _ _ _ rfl]
    exact rest_at k hk
   have HB:Hid (Below w.heap.size w (w.alloc (.cells rest64 3))):=Lib.hid ((Below.refl _ w).alloc (Nat.le_refl _) _)
   obtain ⟨W0,hW0⟩:∃ W0,W0=w.alloc (.cells rest64 3):=⟨_,rfl⟩
   rw [←hW0] at HC HB
   go_enter Tryz.func77,Tryz.ntmps77
   go_wp2_with (first
    | (go_at_call 62;(with_reducible refine (K1.out _).mono ?_);rintro e w1 ⟨rfl,rfl⟩)
    | (go_at_call 62;(with_reducible refine (K2.out _).mono ?_);rintro e w1 ⟨rfl,rfl⟩))
   rw [show w.alloc (.cells #[.int .i64 192,.int .i64 214,.int .i64 216,.int .i64 246,.int .i64 248,.int .i64 767,.int .i64 880,.int .i64 893,.int .i64 895,.int .i64 8191,.int .i64 8204,.int .i64 8205,.int .i64 8304,.int .i64 8591,.int .i64 11264,.int .i64 12271,.int .i64 12289,.int .i64 55295,.int .i64 63744,.int .i64 64975,.int .i64 65008,.int .i64 65533,.int .i64 65536,.int .i64 983039] 3)=W0 from hW0.symm]
   obtain ⟨b,hb⟩:∃ b,b=w.heap.size:=⟨_,rfl⟩
   rw [←hb] at HC ⊢
   clear hW0 hb
   go_loopg [4] 12 (fun gh v4 wr=>∃ (k q:Nat),k≤12∧12-k≤gh∧v4 = .int .i64 (2*k:Nat)∧wr=W0.drewN q∧Hid (R=wth (restL.drop k) v))
   case atStart=>exact ⟨0,0,by omega,by omega,rfl,rfl,HR⟩
   case round=>
    obtain ⟨k,q,hk,hgh,rfl,rfl,hrel⟩:=hrel
    by_cases hlt:k<12
    ·obtain ⟨c1,c2⟩:=HC.out k hlt
     have hst:=hrel.out
     rw [wth_drop (show k<restL.length from hlt)] at hst
     obtain ⟨x,hx⟩:∃ x,x=(restL.getD k (0,0)).1:=⟨_,rfl⟩
     obtain ⟨y,hy⟩:∃ y,y=(restL.getD k (0,0)).2:=⟨_,rfl⟩
     rw [←hx,←hy] at hst
     rw [←hx] at c1
     rw [←hy] at c2
     have hst:R=(spP v x y || wth (restL.drop (k+1)) v):=hst
     have HST:=Lib.hid hst
     have KX:=Lib.hid fun W=>KS.out x y W
     obtain ⟨s,hs⟩:∃ s,s=spP v x y:=⟨_,rfl⟩
     rw [←hs] at HST KX
     obtain ⟨j,hj⟩:∃ j,j=2*k:=⟨_,rfl⟩
     rw [←hj] at c1 c2 ⊢
     have hjj:(j:Int)<24:=by omega
     obtain ⟨j1,hj1e⟩:∃ j1,j1=j+1:=⟨_,rfl⟩
     rw [←hj1e] at c2
     have hj1:IntKind.i64.wrap ((j:Int)+1)=(j1:Int):=by rw [IntKind.wrap_i64];omega
     have hj2:IntKind.i64.wrap ((j:Int)+2)=((2*(k+1):Nat):Int):=by rw [IntKind.wrap_i64];omega
     have hj24:(j1:Int)<24:=by omega
     clear hx hy hst hs hrel hj hj1e
     go_wp2_with fail
     go_quiet ((go_at_call 62;exact (KX.out _).mono fun e w' h=>⟨h.1,_,h.2.symm⟩))
     cases s with
     | true=>
      have HR2:Hid (R=true):=Lib.hid (by rw [HST.out];rfl)
      go_wp2
      go_ret
      exact ⟨by rw [HR2.out];rfl,below_drewN (below_drewN HB.out _) _⟩
     | false=>
      have HR2:Hid (R=wth (restL.drop (k+1)) v):=Lib.hid (by rw [HST.out];rfl)
      go_wp2
      go_roundg (12-(k+1))
      case measure=>omega
      case rel=>exact ⟨k+1,_,by omega,Nat.le_refl _,by simp,(by first | rfl | exact World.drewN_drewN _ _ _),HR2⟩
    ·obtain rfl:k=12:=by omega
     have HR2:Hid (R=false):=Lib.hid (by rw [hrel.out];rfl)
     go_wp2
     go_ret
     exact ⟨by rw [HR2.out];rfl,below_drewN HB.out _⟩
def rn (a:Nat):Nat:=if 240≤a then 4 else if 224≤a then 3 else if 192≤a then 2 else if 128≤a then 0 else 1
def rv0 (a:Nat):Nat:=if 240≤a then a-240 else if 224≤a then a-224 else if 192≤a then a-192 else a
def rvF (L:List Nat):Nat→Nat
 | 0=>0
 | 1=>rv0 (L.getD 0 0)
 | i+2=>rvF L (i+1)*64+L.getD (i+1) 0%64
def rfN (L:List Nat):Nat × Nat:=
 if rn (L.getD 0 0)=0∨L.length<rn (L.getD 0 0) then (0,0)
 else if ¬isSign (rvF L (rn (L.getD 0 0))) then (0,0)
 else if (enc (rvF L (rn (L.getD 0 0)))).length≠rn (L.getD 0 0) then (0,0)
 else if L.take (rn (L.getD 0 0))≠enc (rvF L (rn (L.getD 0 0))) then (0,0)
 else (rvF L (rn (L.getD 0 0)),rn (L.getD 0 0))
theorem rn_enc {u:Nat} (h:isSign u) (t:List Nat):rn ((enc u++t).getD 0 0)=(enc u).length∧rvF (enc u++t) (enc u).length=u:=by
 obtain ⟨h1,h2⟩:=h
 unfold enc
 by_cases c1:u<128
 ·simp only [if_pos c1]
  simp only [List.cons_append,List.nil_append,List.getD_cons_zero,List.length_cons,List.length_nil,Nat.zero_add,rvF,rn,rv0]
  repeat' split
  all_goals omega
 simp only [if_neg c1]
 by_cases c2:u<2048
 ·simp only [if_pos c2]
  simp only [List.cons_append,List.nil_append,List.getD_cons_zero,List.getD_cons_succ,List.length_cons,List.length_nil,Nat.zero_add,Nat.reduceAdd,rvF,rn,rv0]
  constructor <;> (repeat' split) <;> omega
 simp only [if_neg c2]
 by_cases c3:u<65536
 ·simp only [if_pos c3]
  simp only [List.cons_append,List.nil_append,List.getD_cons_zero,List.getD_cons_succ,List.length_cons,List.length_nil,Nat.zero_add,Nat.reduceAdd,rvF,rn,rv0]
  constructor <;> (repeat' split) <;> omega
 simp only [if_neg c3]
 simp only [List.cons_append,List.nil_append,List.getD_cons_zero,List.getD_cons_succ,List.length_cons,List.length_nil,Nat.zero_add,Nat.reduceAdd,rvF,rn,rv0]
 constructor <;> (repeat' split) <;> omega
theorem rfN_nx {L:List Nat} (hb:Bs L):rfN L=nx L:=by
 by_cases h:(nx L).2=0
 ·rw [nx_none h]
  unfold rfN
  split
  ·rfl
  split
  ·rfl
  split
  ·rfl
  split
  ·rfl
  ·exfalso
   rename_i h1 h2 h3 h4
   have h2:isSign (rvF L (rn (L.getD 0 0))):=Classical.byContradiction h2
   have h4:L.take (rn (L.getD 0 0))=enc (rvF L (rn (L.getD 0 0))):=Classical.byContradiction h4
   have e:L=enc (rvF L (rn (L.getD 0 0)))++L.drop (rn (L.getD 0 0)):=by rw [←h4,List.take_append_drop]
   have:=nx_enc h2 (L.drop (rn (L.getD 0 0)))
   rw [←e] at this
   rw [this] at h
   have hp:=enc_pos (rvF L (rn (L.getD 0 0)))
   simp only at h
   omega
 ·obtain ⟨s1,s2,s3,s4⟩:=nx_some hb h
  obtain ⟨u,hu⟩:∃ u,u=(nx L).1:=⟨_,rfl⟩
  obtain ⟨n,hn⟩:∃ n,n=(nx L).2:=⟨_,rfl⟩
  have hx:nx L=(u,n):=by rw [hu,hn]
  rw [←hu] at s1 s2 s3
  rw [←hn] at s2 s3 s4 h
  have e:L=enc u++L.drop n:=by rw [←s3,List.take_append_drop]
  obtain ⟨k1,k2⟩:=rn_enc s1 (L.drop n)
  rw [←e] at k1 k2
  rw [hx]
  unfold rfN
  rw [k1,k2,←s2]
  rw [if_neg (by omega),if_neg (by simpa using s1),if_neg (by simp),if_neg (by simpa using s3)]
theorem goes_parts (v:Int):goesP v=(wth beginsL v || (spP v 48 57 || (decide (v=45) || (decide (v=46) || (decide (v=183) || (spP v 768 879 || spP v 8255 8256)))))):=by
 have h:wth goesL v=(spP v 48 57 || (spP v 45 46 || (spP v 183 183 || (spP v 768 879 || (spP v 8255 8256 || false))))):=rfl
 have h1:spP v 45 46=(decide (v=45) || decide (v=46)):=by
  unfold spP;rw [Bool.eq_iff_iff];simp only [Bool.and_eq_true,Bool.or_eq_true,decide_eq_true_eq];omega
 have h2:spP v 183 183=decide (v=183):=by
  unfold spP;rw [Bool.eq_iff_iff];simp only [Bool.and_eq_true,decide_eq_true_eq];omega
 unfold goesP
 rw [h,h1,h2]
 simp [Bool.or_assoc]
set_option maxHeartbeats 6400000 in
theorem rGoes_any (v:Int) (w:World):Calls Tryz.prog 78 #[.int .i64 v] w fun e w'=>e = .returned (.bool (goesP v))∧Below w.heap.size w w':=by
 have hw:=goes_parts v
 have KB:=Lib.hid (rBegins_any v w)
 have K1:=Lib.hid fun W=>span_any v 48 57 W
 have K2:=Lib.hid fun W=>span_any v 768 879 W
 have K3:=Lib.hid fun W=>span_any v 8255 8256 W
 generalize wth beginsL v=p at hw KB
 generalize spP v 48 57=a at hw K1
 generalize spP v 768 879=b at hw K2
 generalize spP v 8255 8256=c at hw K3
 obtain ⟨R,hR⟩:∃ R,R=goesP v:=⟨_,rfl⟩
 rw [←hR] at hw ⊢
 clear hR
 by_cases d:v=45∨v=46∨v=183
 ·have HR:Hid (R=true):=Lib.hid (by rw [hw];rcases d with rfl | rfl | rfl <;> simp)
  clear hw
  cases p <;> cases a <;> rcases d with rfl | rfl | rfl
  all_goals
   go_enter Tryz.func78,Tryz.ntmps78
   go_wp2_with (first
    | (go_at_call 77;(with_reducible refine KB.out.mono ?_);rintro e w1 ⟨rfl,hb⟩;have HB:=Lib.hid hb;clear hb)
    | (go_at_call 62;(with_reducible refine (K1.out _).mono ?_);rintro e wq ⟨rfl,rfl⟩))
   go_ret
   exact ⟨by rw [HR.out];rfl,HB.out⟩
 ·have d1:¬v=45:=fun e=>d (.inl e)
  have d2:¬v=46:=fun e=>d (.inr (.inl e))
  have d3:¬v=183:=fun e=>d (.inr (.inr e))
  have HR:Hid (R=(p || (a || (b || c)))):=Lib.hid (by rw [hw];simp [d1,d2,d3])
  have g1:(v == 45)=false:=beq_eq_false_iff_ne.2 d1
  have g2:(v == 46)=false:=beq_eq_false_iff_ne.2 d2
  have g3:(v == 183)=false:=beq_eq_false_iff_ne.2 d3
  clear hw d1 d2 d3 d
  cases p <;> cases a <;> cases b <;> cases c
  all_goals
   go_enter Tryz.func78,Tryz.ntmps78
   go_wp2_with (first
    | (go_at_call 77;(with_reducible refine KB.out.mono ?_);rintro e w1 ⟨rfl,hb⟩;have HB:=Lib.hid hb;clear hb)
    | (go_at_call 62;(with_reducible refine (K1.out _).mono ?_);rintro e wq ⟨rfl,rfl⟩)
    | (go_at_call 62;(with_reducible refine (K2.out _).mono ?_);rintro e wq ⟨rfl,rfl⟩)
    | (go_at_call 62;(with_reducible refine (K3.out _).mono ?_);rintro e wq ⟨rfl,rfl⟩))
   go_ret
   exact ⟨by rw [HR.out];rfl,HB.out⟩
theorem sl_row (w:World) (xs:List Nat) (cs:Array Value) (n:Nat) (hn:xs.length=n) (hc:cs=(u8s xs).toArray) (hb:Bs xs) (hm:n≤1000):SlTo xs w (.returned (.slice (some ⟨w.heap.size,0,none⟩) n n)) (w.alloc (.cells cs 5)):=by
 subst hn
 exact ⟨_,_,rfl,sl_text w xs cs xs.length _ (0,0) rfl rfl hc hb hm,lit_below w _⟩
set_option maxHeartbeats 1600000 in
theorem rBytes_any (v:Nat) (h:isSign v) (w:World):Calls Tryz.prog 30 #[.int .i64 (v:Nat)] w (SlTo (enc v) w):=by
 obtain ⟨h1,_⟩:=h
 have heb:=enc_byte h1
 unfold enc at heb ⊢
 by_cases c1:v<128
 ·simp only [if_pos c1] at heb ⊢
  have z1:(v:Int)<128:=by omega
  have HEB:=Lib.hid heb
  have HX:Hid (IntKind.u8.wrap (v:Int)=(v:Int)):=Lib.hid (by rw [IntKind.wrap_u8];omega)
  have hx:=HX.out
  clear c1 heb
  go_enter Tryz.func30,Tryz.ntmps30
  go_wp2
  go_ret
  exact sl_row w [v] _ 1 rfl (by simp [u8s]) HEB.out (by decide)
 by_cases c2:v<2048
 ·simp only [if_neg c1,if_pos c2] at heb ⊢
  have z1:¬(v:Int)<128:=by omega
  have z2:(v:Int)<2048:=by omega
  have HEB:=Lib.hid heb
  clear c1 c2 heb
  go_enter Tryz.func30,Tryz.ntmps30
  go_wp2
  go_ret
  exact sl_row w [192+v/64,128+v%64] _ 2 rfl (by simp [u8s]) HEB.out (by decide)
 by_cases c3:v<65536
 ·simp only [if_neg c1,if_neg c2,if_pos c3] at heb ⊢
  have z1:¬(v:Int)<128:=by omega
  have z2:¬(v:Int)<2048:=by omega
  have z3:(v:Int)<65536:=by omega
  have HEB:=Lib.hid heb
  clear c1 c2 c3 heb
  go_enter Tryz.func30,Tryz.ntmps30
  go_wp2
  go_ret
  exact sl_row w [224+v/4096,128+v/64%64,128+v%64] _ 3 rfl (by simp [u8s]) HEB.out (by decide)
 simp only [if_neg c1,if_neg c2,if_neg c3] at heb ⊢
 have z1:¬(v:Int)<128:=by omega
 have z2:¬(v:Int)<2048:=by omega
 have z3:¬(v:Int)<65536:=by omega
 have HEB:=Lib.hid heb
 clear c1 c2 c3 heb
 go_enter Tryz.func30,Tryz.ntmps30
 go_wp2
 go_ret
 exact sl_row w [240+v/262144,128+v/4096%64,128+v/64%64,128+v%64] _ 4 rfl (by simp [u8s]) HEB.out (by decide)
end
end Go.Proofs.YtbogfailbgbdoaaGreatDoor
