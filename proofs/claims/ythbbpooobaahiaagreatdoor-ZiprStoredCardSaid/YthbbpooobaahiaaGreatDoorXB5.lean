/- Part 5. -/
import Derived.Test.YthbbpooobaahiaaGreatDoorXB4
namespace Go.Proofs.YthbbpooobaahiaaGreatDoor.Cu
set_option maxRecDepth 100000
section
open Go.RowKit
set_option maxHeartbeats 800000 in
theorem told_ok (ao:Option Addr) (c:Nat) (l:List Fe) (back i:Nat) (x:Fe) (hi:i+back=l.length) (hx:l[i]? = some x) (w:World) (h:Fs w ao l) (hm:l.length≤1000000) :
  Calls Tryz.prog 114 #[.slice ao l.length c,.int .i64 back] w fun e w'=>e = .returned (.tuple #[.int .i64 (x.f.n:Nat),.bool (isN x.f.k)])∧Below w.heap.size w w':=by
 obtain ⟨g,rfl,hF⟩:=h.get hx
 obtain ⟨L,hL⟩:∃ L,L=l.length:=⟨_,rfl⟩
 rw [←hL] at hi hm ⊢
 have c0:=hF.c0
 have c1:=hF.c1
 have c2:=hF.c2
 have hil:i<L:=by
  have:=(List.getElem?_eq_some_iff.1 hx).1
  omega
 clear hF hx h hL
 obtain ⟨k,hk⟩:∃ k,k=x.f.k:=⟨_,rfl⟩
 obtain ⟨n,hn⟩:∃ n,n=x.f.n:=⟨_,rfl⟩
 obtain ⟨bl,hbl⟩:∃ bl,bl=x.f.b.length:=⟨_,rfl⟩
 rw [←hk] at c0 ⊢
 rw [←hn] at c1 ⊢
 rw [←hbl] at c2
 clear hk hn hbl
 obtain rfl:back=L-i:=by omega
 have hidx:(L:Int)-((L-i:Nat):Int)=(i:Int):=by omega
 have hlt:¬((L:Int)<((L-i:Nat):Int)):=by omega
 have hii:(i:Int)<(L:Int):=by omega
 obtain ⟨B,hB⟩:∃ B,B=L-i:=⟨_,rfl⟩
 rw [←hB] at hidx hlt ⊢
 have hB1:1≤B:=by omega
 clear hi hB
 go_enter Tryz.func114,Tryz.ntmps114
 go_wp2_with fail
 go_quiet ((go_at_call 115;exact Calls.quiet_of_same ((isnum_any _ _).mono fun e w' ⟨he,hw⟩=>⟨he,hw.symm⟩)))
 go_wp2
 go_ret2
 exact ⟨rfl,below_drewN (((Below.refl _ _).alloc (Nat.le_refl _) _)) _⟩
def Blk (w:World) (g:Nat) (t:TypeId) (cs:Array Value):Prop:=w.heap[g]? = some (.cells cs t (0,0))
theorem Blk.lt {w:World} {g:Nat} {t:TypeId} {cs:Array Value} (h:Blk w g t cs):g<w.heap.size:=by
 rcases Nat.lt_or_ge g w.heap.size with hlt | hge
 ·exact hlt
 ·rw [Blk,Array.getElem?_eq_none hge] at h;cases h
theorem Blk.cell {w:World} {g:Nat} {t:TypeId} {cs:Array Value} (h:Blk w g t cs) (i:Nat):w.cell? ⟨g,i,none⟩=cs[i]? := cell_of_row w g i cs t (0,0) h
theorem Blk.free {w:World} {g:Nat} {t:TypeId} {cs:Array Value} (h:Blk w g t cs) (i:Nat):w.frozen? ⟨g,i,none⟩=false:=by
 rw [Blk] at h
 simp [World.frozen?,h]
theorem Blk.made (w:World) (t:TypeId) (cs:Array Value):Blk (w.alloc (.cells cs t)) w.heap.size t cs:=by
 show (w.heap.push _)[w.heap.size]? = _
 simp
theorem Blk.below {w w':World} {g:Nat} {t:TypeId} {cs:Array Value} (h:Blk w g t cs) (hb:Below w.heap.size w w'):Blk w' g t cs:=(hb.block g h.lt).trans h
theorem told_no (ao:Option Addr) (c L back:Nat) (h:L<back) (w:World) :
  Calls Tryz.prog 114 #[.slice ao L c,.int .i64 back] w fun e w'=>e = .returned (.tuple #[.int .i64 0,.bool false])∧w=w':=by
 have h':(L:Int)<back:=by omega
 go_enter Tryz.func114,Tryz.ntmps114
 go_wp2
 go_ret2
 exact ⟨rfl,rfl⟩
def szf (k left:Int) (l:List Fd) (back:Nat):Int × Bool:=
 if k=0 then (2,true) else if k=1 then (4,true) else if k=2 then (if l.length<back then (0,false) else match l[l.length-back]? with
  | some f=>((f.n:Int),isN f.k)
  | none=>(0,false)) else if k=3 then (left,true) else (0,false)
theorem size_0 (l:List Fe) (k left:Int) (ao:Option Addr) (c back:Nat) (w:World) (hk:k≠2) :
  Calls Tryz.prog 94 #[.int .i64 k,.int .i64 left,.slice ao l.length c,.int .i64 back] w fun e w'=>e = .returned (.tuple #[.int .i64 (szf k left (l.map (·.f)) back).1,.bool (szf k left (l.map (·.f)) back).2])∧w=w':=by
 by_cases h0:k=0
 ·subst h0
  have H:szf 0 left (l.map (·.f)) back=(2,true):=by simp [szf]
  rw [H]
  clear H
  go_enter Tryz.func94,Tryz.ntmps94
  go_wp2
  go_ret2
  exact ⟨rfl,rfl⟩
 by_cases h1:k=1
 ·subst h1
  have H:szf 1 left (l.map (·.f)) back=(4,true):=by simp [szf]
  rw [H]
  clear H
  go_enter Tryz.func94,Tryz.ntmps94
  go_wp2
  go_ret2
  exact ⟨rfl,rfl⟩
 by_cases h3:k=3
 ·subst h3
  have H:szf 3 left (l.map (·.f)) back=(left,true):=by simp [szf]
  rw [H]
  clear H
  go_enter Tryz.func94,Tryz.ntmps94
  go_wp2
  go_ret2
  exact ⟨rfl,rfl⟩
 have H:szf k left (l.map (·.f)) back=(0,false):=by simp [szf,h0,h1,hk,h3]
 rw [H]
 clear H
 go_enter Tryz.func94,Tryz.ntmps94
 go_wp2
 go_ret2
 exact ⟨rfl,rfl⟩
theorem size_2 (l:List Fe) (left:Int) (ao:Option Addr) (c back:Nat) (hb:1≤back) (w:World) (h:Fs w ao l) (hm:l.length≤1000000) :
  Calls Tryz.prog 94 #[.int .i64 2,.int .i64 left,.slice ao l.length c,.int .i64 back] w fun e w'=>e = .returned (.tuple #[.int .i64 (szf 2 left (l.map (·.f)) back).1,.bool (szf 2 left (l.map (·.f)) back).2])∧Below w.heap.size w w':=by
 by_cases hlt:l.length<back
 ·have H:szf 2 left (l.map (·.f)) back=(0,false):=by simp [szf,hlt]
  rw [H]
  have K:=Lib.hid (told_no ao c l.length back hlt w)
  clear H h
  go_enter Tryz.func94,Tryz.ntmps94
  go_wp2_with (go_at_call 114;(with_reducible refine K.out.mono ?_);rintro e w' ⟨rfl,rfl⟩)
  go_ret2
  exact ⟨rfl,Below.refl _ _⟩
 ·have hlen:l.length-back<l.length:=by omega
  have hx:l[l.length-back]? = some l[l.length-back]:=List.getElem?_eq_getElem hlen
  have H:szf 2 left (l.map (·.f)) back=((l[l.length-back].f.n:Int),isN l[l.length-back].f.k):=by
   have:(l.map (·.f))[(l.map (·.f)).length-back]? = some l[l.length-back].f:=by rw [List.length_map,List.getElem?_map,hx];rfl
   unfold szf
   rw [if_neg (by omega),if_neg (by omega),if_pos rfl,if_neg (by rw [List.length_map];exact hlt),this]
  rw [H]
  have K:=told_ok ao c l back (l.length-back) l[l.length-back] (by omega) hx w h hm
  obtain ⟨n,hn⟩:∃ n,n=l[l.length-back].f.n:=⟨_,rfl⟩
  obtain ⟨v,hv⟩:∃ v,v=isN l[l.length-back].f.k:=⟨_,rfl⟩
  rw [←hn,←hv] at K ⊢
  have K:=Lib.hid K
  clear H h hn hv hx hlt
  go_enter Tryz.func94,Tryz.ntmps94
  go_wp2_with (go_at_call 114;(with_reducible refine K.out.mono ?_);rintro e w' ⟨rfl,hb1⟩;have HB:=Lib.hid hb1;clear hb1)
  go_ret2
  exact ⟨rfl,HB.out⟩
theorem size_any (l:List Fe) (k left:Int) (ao:Option Addr) (c back:Nat) (hb:k=2→1≤back) (w:World) (h:Fs w ao l) (hm:l.length≤1000000) (z:Int) (ok:Bool) (hz:szf k left (l.map (·.f)) back=(z,ok)) :
  Calls Tryz.prog 94 #[.int .i64 k,.int .i64 left,.slice ao l.length c,.int .i64 back] w fun e w'=>e = .returned (.tuple #[.int .i64 z,.bool ok])∧Below w.heap.size w w':=by
 by_cases hk:k=2
 ·subst hk
  have K:=size_2 l left ao c back (hb rfl) w h hm
  rw [hz] at K
  exact K
 ·have K:=size_0 l k left ao c back w hk
  rw [hz] at K
  exact K.mono fun e w' ⟨he,hw⟩=>⟨he,hw ▸ Below.refl _ _⟩
theorem made_num (k:Int) (hk:isN k=true) (ao:Option Addr) (c:Nat) (xs:List Nat) (w:World) (h:Sl w ao c xs) (hl:xs.length≤4) :
  Calls Tryz.prog 95 #[.int .i64 k,.slice ao xs.length c] w fun e w'=>e = .returned (.agg #[.int .i64 k,.int .i64 (num xs:Nat),.slice none 0 0])∧Below w.heap.size w w':=by
 have K1:=Lib.hid fun W=>isnum_any k W
 rw [hk] at K1
 have K2:=Lib.hid fun (W:World) (hb:Below w.heap.size w W)=>number_any ao c xs W (h.below hb) hl
 obtain ⟨z,hz⟩:∃ z,z=num xs:=⟨_,rfl⟩
 rw [←hz] at K2 ⊢
 have HB0:=Lib.hid ((Below.refl w.heap.size w).alloc (Nat.le_refl _) (.cells #[.int .i64 0,.int .i64 0,.slice none 0 0] 84))
 clear h hz hk
 go_enter Tryz.func95,Tryz.ntmps95
 go_wp2_with (first
  | (go_at_call 115;(with_reducible refine (K1.out _).mono ?_);rintro e w' ⟨rfl,rfl⟩)
  | (go_at_call 92;(with_reducible refine (K2.out _ HB0.out).mono ?_);rintro e w' ⟨rfl,rfl⟩))
 refine bodyPost_ret (v := .agg #[.int .i64 k,.int .i64 (z:Nat),.slice none 0 0]) (by simp [results,Tryz.results95,go_sem]) rfl ⟨rfl,?_⟩
 exact (Below.refl _ _).alloc (Nat.le_refl _) _
def MadeB (k:Int) (xs:List Nat) (w:World) (e:Ending) (w':World):Prop:=∃ ao c,e = .returned (.agg #[.int .i64 k,.int .i64 0,.slice ao xs.length c])∧Fresh w.heap.size w' ao c xs∧Below w.heap.size w w'
theorem made_bytes (k:Int) (hk:isN k=false) (ao:Option Addr) (c:Nat) (xs:List Nat) (w:World) (h:Sl w ao c xs) (hl:xs.length≤1000000000) :
  Calls Tryz.prog 95 #[.int .i64 k,.slice ao xs.length c] w (MadeB k xs w):=by
 have K1:=Lib.hid fun W=>isnum_any k W
 rw [hk] at K1
 have K2:=Lib.hid fun (W:World) (hb:Below w.heap.size w W)=>clone_any ao c xs W (h.below hb) hl
 have HB0:=Lib.hid ((Below.refl w.heap.size w).alloc (Nat.le_refl _) (.cells #[.int .i64 0,.int .i64 0,.slice none 0 0] 84))
 clear h hk
 go_enter Tryz.func95,Tryz.ntmps95
 go_wp2_with (first
  | (go_at_call 115;(with_reducible refine (K1.out _).mono ?_);rintro e w' ⟨rfl,rfl⟩)
  | (go_at_call 71;(with_reducible refine (K2.out _ HB0.out).mono ?_);rintro e w2 ⟨ao2,c2,rfl,hF,hb2⟩;have HF:=Lib.hid hF;have HB2:=Lib.hid (HB0.out.trans (hb2.mono (by simp)));have hk:=(Blk.made w 84 #[.int .i64 0,.int .i64 0,.slice none 0 0]).below hb2;have k0:=hk.cell 0;have k1:=hk.cell 1;have k2:=hk.cell 2;have f0:=hk.free 0;have f1:=hk.free 1;have f2:=hk.free 2;clear hF hb2 hk))
 obtain ⟨g,hg⟩:∃ g,g=w.heap.size:=⟨_,rfl⟩
 have HT:Hid (Fresh w.heap.size (((w2.setCell ⟨w.heap.size,0,none⟩ (.int .i64 k)).setCell ⟨w.heap.size,1,none⟩ (.int .i64 0)).setCell ⟨w.heap.size,2,none⟩ (.slice ao2 xs.length c2)) ao2 c2 xs):=Lib.hid (by
  obtain ⟨h1,h2⟩:=HF.out
  simp at h2
  refine ⟨h1.touch ((((Touch.refl (fun k=>k=w.heap.size) w2).setCell _ _ (.inl rfl)).setCell _ _ (.inl rfl)).setCell _ _ (.inl rfl)) fun _ ad ha hs=>?_,fun ad ha=>?_⟩
  ·have:=h2 ad ha;omega
  ·have:=h2 ad ha;omega)
 refine bodyPost_ret (v := .agg #[.int .i64 k,.int .i64 0,.slice ao2 xs.length c2]) (by simp [results,Tryz.results95,go_sem,k0,k1,k2]) rfl ⟨ao2,c2,rfl,HT.out,?_⟩
 exact (((HB2.out.setCell (Nat.le_refl _) _).setCell (Nat.le_refl _) _).setCell (Nat.le_refl _) _)
def win (xs:List Nat) (at_ n:Nat):List Nat:=(xs.drop at_).take n
def fld (k:Int) (xs:List Nat) (at_ n:Nat):Fd:=if isN k then ⟨k,num (win xs at_ n),[]⟩ else ⟨k,0,win xs at_ n⟩
def stp (xs:List Nat) (back:Nat) (k:Int) (at_:Nat) (l:List Fd):Option (Fd × Nat):=
 let r:=szf k ((xs.length:Int)-at_) l back
 if r.2=true∧at_+r.1.toNat≤xs.length then some (fld k xs at_ r.1.toNat,at_+r.1.toNat) else none
def run (xs:List Nat) (back:Nat):List Int→Nat→List Fd→Option (List Fd × Nat)
 | [],at_,l=>some (l,at_)
 | k::ks,at_,l=>match stp xs back k at_ l with
  | none=>none
  | some (f,at')=>run xs back ks at' (l++[f])
theorem szf_nonneg (k left:Int) (l:List Fd) (back:Nat) (hl:0≤left):0≤(szf k left l back).1:=by
 unfold szf
 split
 ·simp
 ·split
  ·simp
  ·split
   ·split
    ·simp
    ·split <;> simp
   ·split
    ·exact hl
    ·simp
theorem run_drop {xs:List Nat} {back:Nat} {ks:List Int} {i at_:Nat} {l:List Fd} (hi:i<ks.length) :
  run xs back (ks.drop i) at_ l=match stp xs back (ks.getD i 0) at_ l with
   | none=>none
   | some (f,at')=>run xs back (ks.drop (i+1)) at' (l++[f]):=by
 rw [List.drop_eq_getElem_cons hi]
 simp [run,List.getD,hi]
theorem run_done {xs:List Nat} {back:Nat} {ks:List Int} {i at_:Nat} {l:List Fd} (hi:ks.length≤i):run xs back (ks.drop i) at_ l=some (l,at_):=by
 rw [List.drop_of_length_le hi];rfl
def ReadPost (o:Option (List Fd × Nat)) (w:World) (e:Ending) (w':World):Prop:=
 match o with
 | none=>e = .returned (.tuple #[.slice none 0 0,.int .i64 0,.bool false])∧Below w.heap.size w w'
 | some (fds,en)=>∃ (lo:Option Addr) (lc:Nat) (l:List Fe),l.map (·.f)=fds∧e = .returned (.tuple #[.slice lo l.length lc,.int .i64 (en:Nat),.bool true])∧Fs w' lo l∧Below w.heap.size w w'
theorem cells_fe (w:World) (e:TypeId) (x:Fe):CellsAt (w.alloc (.cells #[.int .i64 x.f.k,.int .i64 (x.f.n:Nat),.slice x.ao x.f.b.length x.c] e)) (.slice (some ⟨w.heap.size,0,none⟩) 1 1) 1 x.cells:=by
 refine .inr ⟨_,_,rfl,fun j u hu=>?_⟩
 rw [Addr.add_lit,World.cell?_alloc_at _ _ _ _ rfl]
 simpa [Fe.cells] using hu
theorem fe_one (x:Fe):∀ u∈x.cells,u.oneCell'=true:=by
 intro u hu
 simp [Fe.cells] at hu
 rcases hu with rfl | rfl | rfl <;> rfl
theorem read_out (ao:Option Addr) (c L:Nat) (at_:Int) (ka:Option Addr) (kn kc:Nat) (h:at_<0∨(L:Int)<at_) (w:World) :
  Calls Tryz.prog 67 #[.slice ao L c,.int .i64 at_,.slice ka kn kc] w fun e w'=>e = .returned (.tuple #[.slice none 0 0,.int .i64 0,.bool false])∧w=w':=by
 by_cases h1:at_<0
 ·go_enter Tryz.func67,Tryz.ntmps67
  go_wp2
  refine bodyPost_ret (v := .tuple #[.slice none 0 0,.int .i64 0,.bool false]) (by simp [results,Tryz.results67,go_sem]) rfl ⟨rfl,rfl⟩
 ·have h2:(L:Int)<at_:=by omega
  go_enter Tryz.func67,Tryz.ntmps67
  go_wp2
  refine bodyPost_ret (v := .tuple #[.slice none 0 0,.int .i64 0,.bool false]) (by simp [results,Tryz.results67,go_sem]) rfl ⟨rfl,rfl⟩
theorem isN_fld {k:Int} (h:isN k=true) (xs:List Nat) (a n:Nat):fld k xs a n=⟨k,num (win xs a n),[]⟩:=by simp [fld,h]
theorem notN_fld {k:Int} (h:isN k=false) (xs:List Nat) (a n:Nat):fld k xs a n=⟨k,0,win xs a n⟩:=by simp [fld,h]
theorem szf_isN {k left:Int} {l:List Fd} {back:Nat} (h:isN k=true):(szf k left l back).1≤4:=by
 rcases isN_yes h with rfl | rfl <;> simp [szf]
set_option maxHeartbeats 3200000 in
set_option maxRecDepth 100000 in
theorem read_any (ao:Option Addr) (c:Nat) (xs:List Nat) (at0:Nat) (ka:Option Addr) (kc:Nat) (ks:List Int) (w:World) (h:Sl w ao c xs) (hk:KSrc w ka ks) (hat:at0≤xs.length) (hm:xs.length≤100000000) (hkm:ks.length≤1000) (R:Option (List Fd × Nat)) (hR:run xs (cnt ks) ks at0 []=R) :
  Calls Tryz.prog 67 #[.slice ao xs.length c,.int .i64 at0,.slice ka ks.length kc] w (ReadPost R w):=by
 have HS:=Lib.hid h
 have HK:=Lib.hid hk
 have K0:=Lib.hid (count_any ka kc ks w hk (by omega))
 have hcl:=cnt_le ks
 obtain ⟨back,hback⟩:∃ b,b=cnt ks:=⟨_,rfl⟩
 rw [←hback] at hR K0 hcl
 have HBK:=Lib.hid hback
 have HR:=Lib.hid hR
 have hatn:¬((xs.length:Int)<at0):=by omega
 clear h hk hR hback
 go_enter Tryz.func67,Tryz.ntmps67
 go_wp2_with (go_at_call 93;(with_reducible refine K0.out.mono ?_);rintro e w' ⟨rfl,rfl⟩)
 go_loopw [1,10,29] (fun va vl vi wr=>∃ (i at_:Nat) (l:List Fe) (lo:Option Addr) (lc:Nat),i≤ks.length∧vi = .int .i64 i∧va = .int .i64 at_∧at_≤xs.length∧vl = .slice lo i lc∧Hid (l.length=i)∧FOwn wr w.heap.size 84 (.slice lo i lc) l∧Below w.heap.size w wr∧Hid (run xs back (ks.drop i) at_ (l.map (·.f))=R)) (fun _ _ vi _=>ks.length-(intOf vi).toNat)
 case atStart=>exact ⟨0,at0,[],none,0,Nat.zero_le _,rfl,rfl,hat,rfl,rfl,FOwn.nil _ _ _,Below.refl _ _,HR⟩
 case round=>
  obtain ⟨i,at_,l,lo,lc,hi,rfl,rfl,hat_,rfl,hlen,hown,hbel,hrun⟩:=hrel
  have HO:=Lib.hid hown
  have HB:=Lib.hid hbel
  clear hown hbel
  by_cases hlt:i<ks.length
  ·have hii:(i:Int)<ks.length:=by omega
   have HKr:=Lib.hid (HK.out.below HB.out)
   rcases HKr.out with h0 | ⟨kb,ko,hka,hkc⟩
   ·rw [h0] at hlt;simp at hlt
   subst hka
   have hkcell:=hkc i hlt
   have HSr:=Lib.hid (HS.out.below HB.out)
   have hFs:Fs wr lo l:=by
    have:=HO.out
    rw [←hlen.out] at this
    exact this.fs
   have HF:=Lib.hid hFs
   have HRD:=Lib.hid (run_drop (xs:=xs) (back:=back) (at_:=at_) (l:=l.map (·.f)) hlt)
   have hb2:ks.getD i 0=2→1≤back:=fun h2=>by
    rw [HBK.out]
    have hmem:ks.getD i 0∈ks.filter fun k=>k == 2:=by
     rw [List.mem_filter]
     exact ⟨by rw [List.getD,List.getElem?_eq_getElem hlt];exact List.getElem_mem _,by show (ks.getD i 0 == 2)=true;rw [h2];rfl⟩
    exact List.length_pos_of_mem hmem
   obtain ⟨k,hk⟩:∃ k,k=ks.getD i 0:=⟨_,rfl⟩
   rw [←hk] at hkcell hb2 HRD
   clear hk hkc hFs
   have hnn:=szf_nonneg k ((xs.length:Int)-at_) (l.map (·.f)) back (by omega)
   obtain ⟨z,ok,hz⟩:∃ z ok,szf k ((xs.length:Int)-at_) (l.map (·.f)) back=(z,ok):=⟨_,_,rfl⟩
   rw [hz] at hnn
   obtain ⟨n,hn⟩:=Int.eq_ofNat_of_zero_le hnn
   simp only at hn
   subst hn
   have K1:=Lib.hid (size_any l k ((xs.length:Int)-at_) lo lc back hb2 wr HF.out (by have:=hlen.out;omega) (n:Int) ok hz)
   rw [hlen.out] at K1
   have hstp:stp xs back k at_ (l.map (·.f))=if ok=true∧at_+n≤xs.length then some (fld k xs at_ n,at_+n) else none:=by
    unfold stp
    rw [hz]
    simp
   have hisN:isN k=true→n≤4:=fun h=>by
    have:=szf_isN (left:=(xs.length:Int)-at_) (l:=l.map (·.f)) (back:=back) h
    rw [hz] at this
    simp at this
    omega
   rw [hstp] at HRD
   clear hz hstp hb2 hnn
   have hd:Hid (∀ W,Below wr.heap.size wr W→Below w.heap.size w W):=Lib.hid fun W hW=>HB.out.trans (hW.mono HB.out.size)
   by_cases hfit:at_+n≤xs.length
   ·have K2:=Lib.hid fun (W:World)=>within_ok ao xs.length c at_ n W HS.out.le HS.out.big hfit
    have hwl:=win_len hfit
    cases ok with
    | false=>
     have hres:R=none:=by rw [←hrun.out,HRD.out];simp
     subst hres
     clear hrun HRD hisN
     obtain ⟨A,hA⟩:∃ A,A=cutA ao c at_:=⟨_,rfl⟩
     rw [←hA] at K2
     clear hA
     go_wp2_with (first
      | (go_at_call 94;(with_reducible refine K1.out.mono ?_);rintro e w1 ⟨rfl,hb1⟩;have HB1:=Lib.hid (hd.out w1 hb1);clear hb1)
      | (go_at_call 91;(with_reducible refine (K2.out _).mono ?_);rintro e w' ⟨rfl,rfl⟩))
     all_goals
      refine bodyPost_ret (v := .tuple #[.slice none 0 0,.int .i64 0,.bool false]) (by simp [results,Tryz.results67,go_sem]) rfl ⟨rfl,HB1.out⟩
    | true=>
     have HRN:Hid (run xs back (ks.drop (i+1)) (at_+n) (l.map (·.f)++[fld k xs at_ n])=R):=Lib.hid (by
      rw [←hrun.out,HRD.out];simp [hfit])
     have hcut:=hwl
     obtain ⟨ys,hys⟩:∃ ys,ys=win xs at_ n:=⟨_,rfl⟩
     have hyl:ys.length=n:=by rw [hys];exact hwl
     have HC:Hid (∀ W,Below wr.heap.size wr W→Sl W (cutA ao c at_) (c-at_) ys):=Lib.hid fun W hW=>by
      rw [hys];exact ((HSr.out.below hW).cut' at_ n hfit)
     obtain ⟨A,hA⟩:∃ A,A=cutA ao c at_:=⟨_,rfl⟩
     rw [←hA] at K2 HC
     have HO1:Hid (∀ W,Below wr.heap.size wr W→W.ownsRow w.heap.size 84 3 (.slice lo i lc) i (fcells l)):=Lib.hid fun W hW=>by
      have:=(HO.out.below hW).own
      rw [hlen.out] at this
      exact this
     clear hA hrun HRD hcut hwl
     by_cases hkn:isN k=true
     ·have hn4:=hisN hkn
      rw [isN_fld hkn,←hys] at HRN
      have K3:=fun (W:World) (hW:Below wr.heap.size wr W)=>made_num k hkn A (c-at_) ys W (HC.out W hW) (by omega)
      rw [hyl] at K3
      obtain ⟨z,hz⟩:∃ z,z=num ys:=⟨_,rfl⟩
      rw [←hz] at K3 HRN
      have K3:=Lib.hid K3
      clear hz hys hyl hisN hkn
      go_wp2_with (first
       | (go_at_call 94;(with_reducible refine K1.out.mono ?_);rintro e w1 ⟨rfl,hb1⟩;have HB1:=Lib.hid hb1;clear hb1)
       | (go_at_call 91;(with_reducible refine (K2.out _).mono ?_);rintro e w' ⟨rfl,rfl⟩)
       | (go_at_call 95;(with_reducible refine (K3.out _ HB1.out).mono ?_);rintro e w3 ⟨rfl,hb3⟩;have HB3:=Lib.hid (HB1.out.trans (hb3.mono HB1.out.size));clear hb3)
       | (at_builtin;refine wpList_append_x at37 rfl (.tmp 57) (.tmp 61) rfl w.heap.size (.slice lo i lc) _ i 1 (fcells l) (Fe.cells ⟨⟨k,z,[]⟩,none,0⟩) rfl rfl (ownsRow_below (HO1.out _ HB3.out) ((Below.refl _ _).alloc (Nat.le_refl _) _)) (cells_fe _ 84 ⟨⟨k,z,[]⟩,none,0⟩) rfl (fe_one _) (by have:=HB.out.size;have:=HB3.out.size;simp;omega) (by omega) (by omega) ?c2))
      case c2=>
      intro ao5 c5 w5 hA5
      have hA6:=hA5.alloc
      have hO5:FOwn w5 w.heap.size 84 (.slice ao5 (i+1) c5) (l++[⟨⟨k,z,[]⟩,none,0⟩]):=(HO.out.below HB3.out).app (Sl.none_ _) (fun hne=>absurd rfl hne) (by rw [hlen.out];exact hA6)
      have HO5:=Lib.hid hO5
      have HB5:=Lib.hid ((hd.out _ HB3.out).trans (hA6.below (HO1.out _ HB3.out) (by have:=HB.out.size;have:=HB3.out.size;omega)))
      clear hA5 hA6 hO5
      go_wp2
      go_roundw
      case rel=>exact ⟨i+1,at_+n,l++[⟨⟨k,z,[]⟩,none,0⟩],ao5,c5,by omega,by go_num,by go_num,hfit,rfl,Lib.hid (by rw [List.length_append,hlen.out];rfl),HO5.out,HB5.out,Lib.hid (by rw [List.map_append];exact HRN.out)⟩
      case measure=>simp [intOf];omega
     ·have hkn':isN k=false:=by simpa using hkn
      rw [notN_fld hkn',←hys] at HRN
      have K3:=fun (W:World) (hW:Below wr.heap.size wr W)=>made_bytes k hkn' A (c-at_) ys W (HC.out W hW) (by omega)
      rw [hyl] at K3
      have K3:=Lib.hid K3
      clear hys hyl hisN hkn hkn'
      go_wp2_with (first
       | (go_at_call 94;(with_reducible refine K1.out.mono ?_);rintro e w1 ⟨rfl,hb1⟩;have HB1:=Lib.hid hb1;clear hb1)
       | (go_at_call 91;(with_reducible refine (K2.out _).mono ?_);rintro e w' ⟨rfl,rfl⟩)
       | (go_at_call 95;(with_reducible refine (K3.out _ HB1.out).mono ?_);rintro e w3 ⟨ao3,c3,rfl,hF3,hb3⟩;have HF3:=Lib.hid hF3;have HB3:=Lib.hid (HB1.out.trans (hb3.mono HB1.out.size));clear hb3 hF3)
       | (at_builtin;refine wpList_append_x at37 rfl (.tmp 57) (.tmp 61) rfl w.heap.size (.slice lo i lc) _ i 1 (fcells l) (Fe.cells ⟨⟨k,0,ys⟩,ao3,c3⟩) rfl rfl (ownsRow_below (HO1.out _ HB3.out) ((Below.refl _ _).alloc (Nat.le_refl _) _)) (cells_fe _ 84 ⟨⟨k,0,ys⟩,ao3,c3⟩) rfl (fe_one _) (by have:=HB.out.size;have:=HB3.out.size;simp;omega) (by omega) (by omega) ?c2))
      case c2=>
      intro ao5 c5 w5 hA5
      have hA6:=hA5.alloc
      have hO5:FOwn w5 w.heap.size 84 (.slice ao5 (i+1) c5) (l++[⟨⟨k,0,ys⟩,ao3,c3⟩]):=(HO.out.below HB3.out).app HF3.out.1 (fun _ ad had hc=>by
       have h1:=HF3.out.2 ad had
       have h2:=(HO1.out _ (Below.refl _ _)).lt _ hc
       have h3:=HB1.out.size
       omega) (by rw [hlen.out];exact hA6)
      have HO5:=Lib.hid hO5
      have HB5:=Lib.hid ((hd.out _ HB3.out).trans (hA6.below (HO1.out _ HB3.out) (by have:=HB.out.size;have:=HB3.out.size;omega)))
      clear hA5 hA6 hO5
      go_wp2
      go_roundw
      case rel=>exact ⟨i+1,at_+n,l++[⟨⟨k,0,ys⟩,ao3,c3⟩],ao5,c5,by omega,by go_num,by go_num,hfit,rfl,Lib.hid (by rw [List.length_append,hlen.out];rfl),HO5.out,HB5.out,Lib.hid (by rw [List.map_append];exact HRN.out)⟩
      case measure=>simp [intOf];omega
   ·have hres:R=none:=by rw [←hrun.out,HRD.out];simp [hfit]
    subst hres
    have K2:=Lib.hid fun (W:World)=>within_no ao xs.length c at_ n W (by have:=HS.out.le;have:=HS.out.big;omega) (by omega)
    clear hrun HRD hisN
    go_wp2_with (first
     | (go_at_call 94;(with_reducible refine K1.out.mono ?_);rintro e w1 ⟨rfl,hb1⟩;have HB1:=Lib.hid (hd.out w1 hb1);clear hb1)
     | (go_at_call 91;(with_reducible refine (K2.out _).mono ?_);rintro e w' ⟨rfl,rfl⟩))
    all_goals
     refine bodyPost_ret (v := .tuple #[.slice none 0 0,.int .i64 0,.bool false]) (by simp [results,Tryz.results67,go_sem]) rfl ⟨rfl,HB1.out⟩
  ·have hil:i=ks.length:=by omega
   have hres:R=some (l.map (·.f),at_):=by rw [←hrun.out,run_done (by omega)]
   subst hres
   have HP:Hid (ReadPost (some (l.map (·.f),at_)) w (.returned (.tuple #[.slice lo i lc,.int .i64 at_,.bool true])) wr):=Lib.hid (by
    have:=HO.out
    rw [←hlen.out] at this ⊢
    exact ⟨lo,lc,l,rfl,rfl,this.fs,HB.out⟩)
   clear hrun
   go_wp2
   refine bodyPost_ret (v := .tuple #[.slice lo i lc,.int .i64 at_,.bool true]) (by simp [results,Tryz.results67,go_sem]) rfl HP.out
end
end Go.Proofs.YthbbpooobaahiaaGreatDoor.Cu
namespace Go.Proofs.YthbbpooobaahiaaGreatDoor.Zz
set_option maxRecDepth 100000
section
open Go.RowKit
def kw (k:Int):Nat:=if k=0 then 2 else 4
def kt:List Int→Nat
 | []=>0
 | k::r=>kw k+kt r
def nsAt (xs:List Nat):List Int→Nat→List Nat
 | [],_=>[]
 | k::r,p=>Cu.num ((xs.drop p).take (kw k))::nsAt xs r (p+kw k)
theorem nsAt_len (xs:List Nat):∀ ks p,(nsAt xs ks p).length=ks.length
 | [],_=>rfl
 | k::r,p=>by rw [nsAt,List.length_cons,nsAt_len xs r,List.length_cons]
def Ks (ks:List Int):Prop:=∀ k∈ks,k=0∨k=1
def fds (xs:List Nat):List Int→Nat→List Cu.Fd
 | [],_=>[]
 | k::r,p=>⟨k,Cu.num ((xs.drop p).take (kw k)),[]⟩::fds xs r (p+kw k)
theorem fds_n (xs:List Nat):∀ ks p,(fds xs ks p).map (·.n)=nsAt xs ks p
 | [],_=>rfl
 | k::r,p=>by rw [fds,nsAt,List.map_cons,fds_n xs r]
theorem stp_kw {xs:List Nat} {back:Nat} {k:Int} (hk:k=0∨k=1) (p:Nat) (l:List Cu.Fd) :
  Cu.stp xs back k p l=if p+kw k≤xs.length then some (⟨k,Cu.num ((xs.drop p).take (kw k)),[]⟩,p+kw k) else none:=by
 rcases hk with rfl | rfl <;> simp [Cu.stp,Cu.szf,Cu.fld,Cu.isN,Cu.win,kw]
theorem run_kw {xs:List Nat} {back:Nat}:∀ (ks:List Int) (p:Nat) (l:List Cu.Fd),Ks ks→p≤xs.length→
  Cu.run xs back ks p l=if p+kt ks≤xs.length then some (l++fds xs ks p,p+kt ks) else none
 | [],p,l,_,hp=>by
  rw [Cu.run,if_pos (by simpa [kt] using hp)]
  simp [fds,kt]
 | k::r,p,l,hk,hp=>by
  rw [Cu.run,stp_kw (hk k (List.mem_cons_self ..))]
  by_cases h:p+kw k≤xs.length
  ·rw [if_pos h]
   simp only []
   rw [run_kw r (p+kw k) _ (fun x hx=>hk x (List.mem_cons_of_mem _ hx)) h,kt,←Nat.add_assoc]
   by_cases h2:p+kw k+kt r≤xs.length
   ·rw [if_pos h2,if_pos h2,fds];simp
   ·rw [if_neg h2,if_neg h2]
  ·rw [if_neg h,if_neg (by rw [kt];omega)]
def Ns (w:World) (g:Nat) (l:List Nat):Prop:=∀ j (h:j<l.length),w.cell? ⟨g,j,none⟩=some (.int .i64 (l[j]:Nat))
theorem _root_.Go.Proofs.YthbbpooobaahiaaGreatDoor.Touch.nb {a b:World} (h:Touch (fun _=>False) a b):Below a.heap.size a b:=h.below (Nat.le_refl _) fun _ h=>h.elim
def nsC (l:List Nat) (i:Nat):Nat→Value:=fun j => .int .i64 ((if j<i then l.getD j 0 else 0:Nat):Int)
theorem nsC_zero (l:List Nat) (n:Nat):va (n*1) (fun i=>(Value.int IntKind.i64 0).cells[i%(Value.int IntKind.i64 0).cells.size]!)=va n (nsC l 0):=by
 rw [Nat.mul_one]
 refine va_congr fun i _=>?_
 simp [nsC,Value.cells,Nat.mod_one]
theorem nsC_set (l:List Nat) (n i:Nat):(va n (nsC l i)).setIfInBounds i (.int .i64 (l.getD i 0:Nat))=va n (nsC l (i+1)):=by
 rw [va_set]
 refine va_congr fun j _=>?_
 unfold nsC
 by_cases h:j=i
 ·subst h;simp
 ·rw [if_neg h]
  by_cases h2:j<i
  ·rw [if_pos h2,if_pos (by omega)]
  ·rw [if_neg h2,if_neg (by omega)]
theorem nsC_all {w:World} {g:Nat} {l:List Nat} (h:Blk w g 3 (va l.length (nsC l l.length))):Ns w g l:=fun j hj=>by
 rw [h.cell,va_at _ _ _ hj]
 simp [nsC,hj,List.getD]
set_option maxHeartbeats 1600000 in
theorem numbers_ok (ao:Option Addr) (c:Nat) (xs:List Nat) (at_:Nat) (ka:Option Addr) (kc:Nat) (ks:List Int) (w:World) (h:Cu.Sl w ao c xs) (hk:Cu.KSrc w ka ks) (hks:Ks ks) (hm:xs.length≤1000000) (hkm:ks.length≤100) (hat:at_+kt ks≤xs.length) :
  Calls Tryz.prog 45 #[.slice ao xs.length c,.int .i64 at_,.slice ka ks.length kc] w fun e w'=>Below w.heap.size w w'∧∃ g,e = .returned (.tuple #[.slice (some ⟨g,0,none⟩) ks.length ks.length,.bool true])∧w.heap.size≤g∧Ns w' g (nsAt xs ks at_):=by
 have K1:=Cu.read_any ao c xs at_ ka kc ks w h hk (by omega) (by omega) (by omega) _ rfl
 rw [run_kw ks at_ [] hks (by omega),if_pos hat,List.nil_append] at K1
 have K1:=Lib.hid K1
 obtain ⟨N,hN⟩:∃ N,N=nsAt xs ks at_:=⟨_,rfl⟩
 have hfn:=fds_n xs ks at_
 rw [←hN] at hfn ⊢
 have hNl:N.length=ks.length:=by rw [hN,nsAt_len]
 obtain ⟨F,hF⟩:∃ F,F=fds xs ks at_:=⟨_,rfl⟩
 rw [←hF] at K1 hfn
 have HFN:=Lib.hid hfn
 obtain ⟨n,hn⟩:∃ n,n=ks.length:=⟨_,rfl⟩
 rw [←hn] at hNl hkm K1 ⊢
 have HNL:=Lib.hid hNl
 clear h hk hks hN hF hn hfn hNl
 go_enter Tryz.func45,Tryz.ntmps45
 go_wp2_with fail
 refine K1.out.mono ?_
 rintro e w1 ⟨lo,lc,l,hl,rfl,hFs,hb1⟩
 have hll:l.length=n:=by
  rw [←HNL.out,←HFN.out,←hl];simp
 rw [hll]
 have HL:=Lib.hid hl
 have HLL:=Lib.hid hll
 have HFs:=Lib.hid hFs
 have HB1:=Lib.hid hb1
 clear hl hll hFs hb1
 go_wp2_with (refine wpList_make_z rfl 88 (.tmp 23) (.tmp 23) rfl 3 (.int .i64 0) 1 8 n Tryz.underlying88 (by kernel_rfl) .i64 .i64 _ _ rfl rfl rfl rfl (by omega) (by omega) ?_;intro W hbk htk hsk;rw [nsC_zero N n] at hbk;have HBK:=Lib.hid hbk;have HTK:=Lib.hid htk;clear hbk htk hsk)
 obtain ⟨g,hg⟩:∃ g,g=w1.heap.size:=⟨_,rfl⟩
 rw [←hg] at HBK ⊢
 have HG:=Lib.hid (show w.heap.size≤g by rw [hg];exact HB1.out.size)
 have HBW:=Lib.hid (HB1.out.trans ((HTK.out.nb).mono HB1.out.size))
 have HGE:=Lib.hid hg
 have HT0:=Lib.hid ((HTK.out.mono fun _ h=>h.elim:Touch (fun k=>k=g) w1 W))
 clear hg HB1 HTK K1
 go_loopw [27] (fun vi wr=>∃ i:Nat,i≤n∧vi = .int .i64 i∧Blk wr g 3 (va n (nsC N i))∧Below w.heap.size w wr∧Touch (fun k=>k=g) w1 wr) (fun vi _=>n-(intOf vi).toNat)
 case atStart=>exact ⟨0,Nat.zero_le _,rfl,HBK.out,HBW.out,HT0.out⟩
 case round=>
  obtain ⟨i,hi,rfl,hbk,hbel,hfs⟩:=hrel
  have HBK2:=Lib.hid hbk
  have HB:=Lib.hid hbel
  have HT3:=Lib.hid hfs
  clear hbk hbel hfs HBK HBW HT0
  by_cases hlt:i<n
  ·have hii:(i:Int)<n:=by omega
   have hil:i<l.length:=by rw [HLL.out];exact hlt
   have hx:l[i]? = some l[i]:=List.getElem?_eq_getElem hil
   obtain ⟨gl,rfl,hF⟩:=HFs.out.get hx
   have hv:((l[i].f.n:Nat):Int)=(N.getD i 0:Nat):=by
    rw [←HFN.out,←HL.out]
    simp [List.getD,hil]
   have hgl1:gl<w1.heap.size:=World.block_lt_of_cell? w1 _ hF.c0
   have hsame:wr.heap[gl]? = w1.heap[gl]? := HT3.out.block gl hgl1 (by have:=HGE.out;omega)
   have c0:=(World.cell?_of_block (a:=⟨gl,i*3,none⟩) hsame).trans hF.c0
   have c1:=(World.cell?_of_block (a:=⟨gl,i*3+1,none⟩) hsame).trans hF.c1
   have c2:=(World.cell?_of_block (a:=⟨gl,i*3+2,none⟩) hsame).trans hF.c2
   rw [hv] at c1
   obtain ⟨x0,hx0⟩:∃ x,x=l[i].f.k:=⟨_,rfl⟩
   obtain ⟨p2,hp2⟩:∃ x,x=l[i].ao:=⟨_,rfl⟩
   obtain ⟨q2,hq2⟩:∃ x,x=l[i].f.b.length:=⟨_,rfl⟩
   obtain ⟨r2,hr2⟩:∃ x,x=l[i].c:=⟨_,rfl⟩
   obtain ⟨z,hz⟩:∃ z,z=N.getD i 0:=⟨_,rfl⟩
   rw [←hx0] at c0
   rw [←hp2,←hq2,←hr2] at c2
   rw [←hz] at c1
   have hgl:gl<wr.heap.size:=World.block_lt_of_cell? wr _ c0
   have hgw:=HBK2.out.lt
   have HA:=Lib.hid ((Below.refl wr.heap.size wr).alloc (Nat.le_refl _) (.cells #[.int .i64 x0,.int .i64 (z:Nat),.slice p2 q2 r2] 84))
   have HBA:=Lib.hid (HBK2.out.below HA.out)
   have hf:=HBA.out.free i
   have hca:(wr.alloc (.cells #[.int .i64 x0,.int .i64 (z:Nat),.slice p2 q2 r2] 84)).cell? ⟨g,i,none⟩=some (nsC N i i):=by rw [HBA.out.cell,va_at _ _ _ hlt]
   have HS0:Hid (Blk (wr.setCell ⟨g,i,none⟩ (.int .i64 (z:Nat))) g 3 (va n (nsC N (i+1)))):=Lib.hid (by
    rw [hz,←nsC_set];exact HBK2.out.setCell i _)
   have HST:=Lib.hid (HS0.out.touch ((Touch.refl (fun _=>False) (wr.setCell ⟨g,i,none⟩ (.int .i64 (z:Nat)))).alloc (.cells #[.int .i64 x0,.int .i64 (z:Nat),.slice p2 q2 r2] 84)) fun h=>h)
   have HBT:=Lib.hid ((((Touch.of_below HB.out:Touch (fun k=>w.heap.size≤k) w wr).setCell ⟨g,i,none⟩ (.int .i64 (z:Nat)) (.inr HG.out)).trans ((Touch.refl _ _).alloc (.cells #[.int .i64 x0,.int .i64 (z:Nat),.slice p2 q2 r2] 84))).below (Nat.le_refl _) fun _ h=>h)
   have HFT:=Lib.hid ((HT3.out.setCell ⟨g,i,none⟩ (.int .i64 (z:Nat)) (.inl rfl)).trans ((Touch.refl _ _).alloc (.cells #[.int .i64 x0,.int .i64 (z:Nat),.slice p2 q2 r2] 84)))
   clear hx hv hx0 hp2 hq2 hr2 hz hF hsame hgl1
   go_wp2
   go_roundw
   case rel=>exact ⟨i+1,by omega,by go_num,HST.out,HBT.out,HFT.out⟩
   case measure=>simp [intOf];omega
  ·have hin:i=n:=by omega
   subst hin
   have HN:Hid (Ns wr g N):=Lib.hid (nsC_all (by rw [HNL.out];exact HBK2.out))
   have hni:¬(i:Int)<i:=by omega
   go_wp2
   go_ret2
   exact ⟨HB.out,g,rfl,HG.out,HN.out⟩
theorem read_none (ao:Option Addr) (c:Nat) (xs:List Nat) (at_:Int) (ka:Option Addr) (kc:Nat) (ks:List Int) (w:World) (h:Cu.Sl w ao c xs) (hk:Cu.KSrc w ka ks) (hks:Ks ks) (hm:xs.length≤1000000) (hkm:ks.length≤100) (hat:¬(0≤at_∧at_+kt ks≤xs.length)) :
  Calls Tryz.prog 67 #[.slice ao xs.length c,.int .i64 at_,.slice ka ks.length kc] w fun e w'=>e = .returned (.tuple #[.slice none 0 0,.int .i64 0,.bool false])∧Below w.heap.size w w':=by
 by_cases h1:at_<0∨(xs.length:Int)<at_
 ·refine (Cu.read_out ao c xs.length at_ ka ks.length kc h1 w).mono ?_
  rintro e w' ⟨rfl,rfl⟩
  exact ⟨rfl,Below.refl _ _⟩
 ·obtain ⟨p,rfl⟩:=Int.eq_ofNat_of_zero_le (show 0≤at_ by omega)
  have K1:=Cu.read_any ao c xs p ka kc ks w h hk (by omega) (by omega) (by omega) _ rfl
  rw [run_kw ks p [] hks (by omega),if_neg (by omega)] at K1
  exact K1
set_option maxHeartbeats 800000 in
theorem numbers_no (ao:Option Addr) (c:Nat) (xs:List Nat) (at_:Int) (ka:Option Addr) (kc:Nat) (ks:List Int) (w:World) (h:Cu.Sl w ao c xs) (hk:Cu.KSrc w ka ks) (hks:Ks ks) (hm:xs.length≤1000000) (hkm:ks.length≤100) (hat:¬(0≤at_∧at_+kt ks≤xs.length)) :
  Calls Tryz.prog 45 #[.slice ao xs.length c,.int .i64 at_,.slice ka ks.length kc] w fun e w'=>Below w.heap.size w w'∧∃ g,e = .returned (.tuple #[.slice (some ⟨g,0,none⟩) 0 0,.bool false]):=by
 have K1:=Lib.hid (read_none ao c xs at_ ka kc ks w h hk hks hm hkm hat)
 clear h hk hks hat
 go_enter Tryz.func45,Tryz.ntmps45
 go_wp2_with fail
 refine K1.out.mono ?_
 rintro e w1 ⟨rfl,hb1⟩
 have HB1:=Lib.hid hb1
 clear hb1
 go_wp2_with (refine wpList_make_z rfl 88 (.tmp 23) (.tmp 23) rfl 3 (.int .i64 0) 1 8 0 Tryz.underlying88 (by kernel_rfl) .i64 .i64 _ _ rfl rfl rfl rfl (by omega) (by omega) ?_;intro W hbk htk hsk;have HTK:=Lib.hid htk;clear hbk htk hsk)
 have HBW:=Lib.hid (HB1.out.trans ((HTK.out.nb).mono HB1.out.size))
 obtain ⟨g,hg⟩:∃ g,g=w1.heap.size:=⟨_,rfl⟩
 rw [←hg]
 go_loopw [27] (fun vi wr=>vi = .int .i64 0∧Below w.heap.size w wr) (fun vi _=>0)
 case atStart=>exact ⟨rfl,HBW.out⟩
 case round=>
  obtain ⟨rfl,hbel⟩:=hrel
  have HB:=Lib.hid hbel
  clear hbel
  go_wp2
  go_ret2
  exact ⟨HB.out,g,rfl⟩
theorem ksrc_lit {w:World} {g:Nat} {ks:List Int} {t:TypeId} (h:Blk w g t (ks.map (Value.int .i64)).toArray):Cu.KSrc w (some ⟨g,0,none⟩) ks:=by
 refine .inr ⟨g,0,rfl,fun j hj=>?_⟩
 rw [h.cell]
 simp [List.getD,hj]
abbrev zpan (er:Nat):Ending := .panicked [{ v := .iface 85 (.int .i64 (er:Nat)),recovered:=false }]
theorem zmust_yes (er:Int) (w:World):Calls Tryz.prog 43 #[.bool true,.int .i64 er] w fun e w'=>e = .returned (.tuple #[])∧w=w':=by
 go_enter Tryz.func43,Tryz.ntmps43
 go_wp2
 go_end0
 exact ⟨rfl,rfl⟩
theorem zmust_no (er:Nat) (w:World):Calls Tryz.prog 43 #[.bool false,.int .i64 (er:Nat)] w fun e w'=>e=zpan er∧w=w':=by
 go_enter Tryz.func43,Tryz.ntmps43
 go_wp2
 exact ⟨rfl,rfl,rfl⟩
theorem nu2_lt {xs:List Nat} (hb:Bs xs) (p:Nat):nu2 xs p<65536:=by
 have h1:=Cu.num_lt (Cu.Bs.take (Cu.Bs.drop (show Cu.Bs xs from hb) p) 2)
 have h2:((xs.drop p).take 2).length≤2:=by rw [List.length_take];omega
 have h3:256^((xs.drop p).take 2).length≤256^2:=Nat.pow_le_pow_right (by omega) h2
 have h4:(256:Nat)^2=65536:=by decide
 unfold nu2
 omega
theorem nu4_lt {xs:List Nat} (hb:Bs xs) (p:Nat):nu4 xs p<4294967296:=Cu.win_lt (show Cu.Bs xs from hb) p 4 (by omega)
theorem endB_low {xs:List Nat} (hb:Bs xs):∀ k,k+65557≤xs.length→endB xs k=none
 | 0,_=>rfl
 | k+1,h=>by
  have:=nu2_lt hb (k+20)
  rw [endB,if_neg (by omega),endB_low hb k (by omega)]
def endI:Option Nat→Int
 | none => -1
 | some p=>(p:Int)
set_option maxHeartbeats 1600000 in
theorem endPlace_any (ao:Option Addr) (c:Nat) (xs:List Nat) (w:World) (h:Cu.Sl w ao c xs) (hm:xs.length≤1000000) :
  Calls Tryz.prog 44 #[.slice ao xs.length c] w fun e w'=>e = .returned (.int .i64 (endI (endP xs)))∧w=w':=by
 obtain ⟨A,hA⟩:∃ A,A=endP xs:=⟨_,rfl⟩
 rw [←hA]
 have HA:=Lib.hid hA
 have HS:=Lib.hid h
 have HB:=Lib.hid (show Bs xs from h.bs)
 have hbig:=h.big
 have hle:=h.le
 obtain ⟨L,hL⟩:∃ L,L=xs.length:=⟨_,rfl⟩
 have HL:=Lib.hid hL
 rw [←hL] at hm hle ⊢
 clear hA h hL
 go_enter Tryz.func44,Tryz.ntmps44
 go_wp2
 go_loop [4] (fun vi=>∃ k:Nat,k≤L-21∧vi = .int .i64 ((if L<22 then (L:Int)-22 else (k:Int)-1))∧Hid (A=endB xs k)) (fun vi=>((intOf vi)+1).toNat)
 case atStart=>exact ⟨L-21,Nat.le_refl _,by split <;> congr 1 <;> omega,Lib.hid (by rw [HA.out,HL.out];rfl)⟩
 case round=>
  obtain ⟨k,hk,rfl,hrel⟩:=hrel
  by_cases hs:L<22
  ·rw [if_pos hs]
   have HR:Hid (A=none):=Lib.hid (by rw [hrel.out,show k=0 by omega];rfl)
   go_wp2
   all_goals try (exfalso;omega)
   go_ret
   exact ⟨by rw [HR.out];rfl,rfl⟩
  rw [if_neg hs]
  cases k with
  | zero=>
   have HR:Hid (A=none):=Lib.hid (by rw [hrel.out];rfl)
   go_wp2
   all_goals try (exfalso;omega)
   go_ret
   exact ⟨by rw [HR.out];rfl,rfl⟩
  | succ k=>
   by_cases hlow:k+65557<L
   ·have HR:Hid (A=none):=Lib.hid (by rw [hrel.out,endB_low HB.out (k+1) (by have:=HL.out;omega)])
    have hmx:¬(max 0 ((L:Int)-22-65535)≤((k+1:Nat):Int)-1):=by omega
    go_wp2
    all_goals try (exfalso;omega)
    go_ret
    exact ⟨by rw [HR.out];rfl,rfl⟩
   ·have hk1:((k+1:Nat):Int)-1=k:=by omega
    rw [hk1]
    have hmx:max 0 ((L:Int)-22-65535)≤(k:Int):=by omega
    have K1:=Cu.u32_ok ao c xs k w HS.out (by have:=HL.out;omega)
    have K2:=Cu.u16_ok ao c xs (k+20) w HS.out (by have:=HL.out;omega)
    have hst:=hrel.out
    rw [endB] at hst
    rw [←HL.out] at K1 K2 hst
    change Calls _ _ _ _ fun e w'=>e = .returned (.tuple #[.int .i64 (nu4 xs k:Nat),.bool true])∧w=w' at K1
    change Calls _ _ _ _ fun e w'=>e = .returned (.tuple #[.int .i64 (nu2 xs (k+20):Nat),.bool true])∧w=w' at K2
    obtain ⟨x,hx⟩:∃ x,x=nu4 xs k:=⟨_,rfl⟩
    obtain ⟨y,hy⟩:∃ y,y=nu2 xs (k+20):=⟨_,rfl⟩
    rw [←hx] at K1 hst
    rw [←hy] at K2 hst
    rw [show ((k+20:Nat):Int)=(k:Int)+20 by omega] at K2
    have K1:=Lib.hid K1
    have K2:=Lib.hid K2
    clear hx hy hk1 hrel
    by_cases hyes:x=101010256∧k+22+y=L
    ·rw [if_pos hyes] at hst
     have HR:=Lib.hid hst
     have e1:(x:Int)=101010256:=by omega
     have e2:(y:Int)=(L:Int)-22-k:=by omega
     clear hst hyes
     go_wp2_with (first
      | (go_at_call 65;(with_reducible refine K1.out.mono ?_);rintro e w' ⟨rfl,rfl⟩)
      | (go_at_call 66;(with_reducible refine K2.out.mono ?_);rintro e w' ⟨rfl,rfl⟩))
     all_goals try (exfalso;omega)
     go_ret
     exact ⟨by rw [HR.out];rfl,rfl⟩
    ·rw [if_neg hyes] at hst
     have HR:=Lib.hid hst
     clear hst
     by_cases e1:(x:Int)=101010256
     ·have e2:¬(y:Int)=(L:Int)-22-k:=by omega
      clear hyes
      go_wp2_with (first
       | (go_at_call 65;(with_reducible refine K1.out.mono ?_);rintro e w' ⟨rfl,rfl⟩)
       | (go_at_call 66;(with_reducible refine K2.out.mono ?_);rintro e w' ⟨rfl,rfl⟩))
      all_goals try (exfalso;omega)
      go_round
      case rel=>exact ⟨k,by omega,by rw [if_neg hs],HR⟩
      case measure=>simp [intOf]
     ·clear hyes
      go_wp2_with (first
       | (go_at_call 65;(with_reducible refine K1.out.mono ?_);rintro e w' ⟨rfl,rfl⟩)
       | (go_at_call 66;(with_reducible refine K2.out.mono ?_);rintro e w' ⟨rfl,rfl⟩))
      all_goals try (exfalso;omega)
      go_round
      case rel=>exact ⟨k,by omega,by rw [if_neg hs],HR⟩
      case measure=>simp [intOf]
end
end Go.Proofs.YthbbpooobaahiaaGreatDoor.Zz
namespace Go.Proofs.YthbbpooobaahiaaGreatDoor
set_option maxRecDepth 100000
section
open Go.RowKit
theorem ownsRow_below {w w':World} {base:Nat} {e:TypeId} {size:Nat} {v:Value} {n:Nat} {xs:List Value} (h:w.ownsRow base e size v n xs) (hb:Below w.heap.size w w'):w'.ownsRow base e size v n xs:=
 ownsRow_touch h (Touch.of_below (S:=fun _=>False) hb) fun _ _ h=>h
theorem own_none (w:World) (e size:Nat):(w.alloc (.cells #[] e)).ownsRow w.heap.size e size (.slice (some ⟨w.heap.size,0,none⟩) 0 0) 0 []:=
 World.ownsRow_made w #[] 0 (Nat.le_refl _) (Nat.zero_le _) (by simp)
structure Apg (w:World) (base e sz:Nat) (v:Value) (n:Nat) (xs:List Value) (v':Value) (w':World):Prop where
 own:w'.ownsRow base e sz v' n xs
 touch:Touch (fun k=>v.ownBlock=some k) w w'
 row:∀ k,v'.ownBlock=some k→v.ownBlock=some k∨w.heap.size≤k
theorem Apg.alloc {a b:World} {base e sz n:Nat} {v1 v2:Value} {xs:List Value} {o:Obj} (k:Apg (a.alloc o) base e sz v1 n xs v2 b):Apg a base e sz v1 n xs v2 b:=
 ⟨k.own,((Touch.refl _ a).alloc o).trans k.touch,fun i hi=>by
  rcases k.row i hi with h | h
  ·exact .inl h
  ·right;simp at h;omega⟩
theorem Apg.below {a b:World} {base e sz n:Nat} {v1 v2:Value} {xs ys:List Value} {m:Nat} (k:Apg a base e sz v1 n xs v2 b) (h:a.ownsRow base e sz v1 m ys) (hb:base≤a.heap.size):Below base a b:=
 k.touch.below hb fun i hi=>(h.lt i hi).1
def CellsAt (w:World) (sv:Value) (m:Nat) (ys:List Value):Prop:=
 (sv = .slice none 0 0∧m=0∧ys=[])∨∃ ad c,sv = .slice (some ad) m c∧∀ j u,ys[j]? = some u→w.cell? (ad.add j)=some u
structure AT (t e:Nat) (z:Value) (size bytes:Nat):Prop where
 hu:Tryz.prog.underlying t=some (.slice e)
 info:(Tryz.prog.info? e).map (fun i=>(i.zero,i.size,i.bytes))=some (some z,size,bytes)
 zs:z.cells.size=size
 pos:0<size
theorem run_append_g {t e:Nat} {z:Value} {size bytes:Nat} (T:AT t e z size bytes) (w:World) {base:Nat} {v sv:Value} {n m:Nat} {xs ys:List Value} (ty:TypeId) (hown:w.ownsRow base e size v n xs) (hs:CellsAt w sv m ys)
  (hyl:ys.length=m*size) (h1:∀ u∈ys,u.oneCell'=true) (hbase:base≤w.heap.size) (hl:n+m≤140737488355328) (hby:(n+m)*bytes≤140737488355328) :
  ∃ v' w',(Builtin.append_ #[t,t] ty #[v,sv]).run Tryz.prog w = .ok v' w'∧Apg w base e size v (n+m) (xs++ys) v' w':=by
 obtain ⟨i0,hi,hz0,hz1,hz2⟩:=info_parts T.info
 rcases hs with ⟨rfl,rfl,rfl⟩ | ⟨ad,c,rfl,hcell⟩
 ·refine ⟨v,w,run_append_owned_none w base t ty e i0 size T.hu hi v n xs hown,?_,Touch.refl _ _,fun k hk => .inl hk⟩
  simpa using hown
 ·rcases hown.2 with ⟨rfl,hn0⟩ | ⟨g,cap,cur,rfl,hbg,hh,hnc,hcm,hcs,htake⟩
  ·subst hn0
   have hx:xs=[]:=List.eq_nil_of_length_eq_zero (by rw [hown.1,Nat.zero_mul])
   subst hx
   obtain ⟨v',w',hr,ho,hg,_⟩:=run_append_own (P:=Tryz.prog) w w.heap.size t ty e i0 z size bytes T.hu hi hz0 hz1 hz2 T.zs T.pos (.slice none 0 0) 0 [] (World.ownsRow_nil _ _ _ _) ad m c ys hyl hcell h1 (by unfold maxLen;omega) hby (Nat.le_refl _)
   exact ⟨v',w',hr,own_base ho hbase,(Touch.refl _ w).grown hg fun k hk=>by simp [Value.ownBlock] at hk,fun k hk => .inr (ho.lt k hk).1⟩
  ·by_cases hroom:n+m≤cap
   ·obtain ⟨w',hr,ho,hg⟩:=run_append_fits (P:=Tryz.prog) w base t ty e i0 size T.hu hi hz1 g n cap xs hown ad m c ys hyl hcell h1 hroom
    exact ⟨_,w',hr,ho,(Touch.refl _ w).grown hg fun k hk => .inl (by cases hk;simp [Value.ownBlock]),fun k hk => .inl (by simpa [Value.ownBlock] using hk)⟩
   ·obtain ⟨v',w',hr,ho,hg⟩:=run_append_arg_grows (P:=Tryz.prog) w t ty e i0 z size bytes T.hu hi hz0 hz1 hz2 T.zs T.pos ⟨g,0,none⟩ n cap xs hown.1 (hown.cells (by simp [Value.ownBlock])) ad m c ys hyl hcell (by omega) (by unfold maxLen;omega) hby
    exact ⟨v',w',hr,own_base ho hbase,(Touch.refl _ w).grown hg (fun k hk=>by cases hk),fun k hk => .inr (ho.lt k hk).1⟩
theorem wpList_append_g {t e:Nat} {z:Value} {size bytes:Nat} (T:AT t e z size bytes) {w:World} {ops:Array Oper} {rest:List Oper} {o:Oper} {a:Act} {Q:Exit→Act→World→Prop} (hgd:o.guard=none) (s x:Operand)
  (ho:o.op = .call { callee := .builtin .append,args := #[s,x],argTypes := #[t,t] })
  (base:Nat) (v sv:Value) (n m:Nat) (xs ys:List Value) (hs:a.eval s=v) (hx:a.eval x=sv) (hown:w.ownsRow base e size v n xs) (hsrc:CellsAt w sv m ys)
  (hyl:ys.length=m*size) (h1:∀ u∈ys,u.oneCell'=true) (hbase:base≤w.heap.size) (hl:n+m≤140737488355328) (hby:(n+m)*bytes≤140737488355328)
  (h:∀ ao c w',Apg w base e size v (n+m) (xs++ys) (.slice ao (n+m) c) w'→wpList Tryz.prog ops Q rest (a.put o.dst (.slice ao (n+m) c)) w'):wpList Tryz.prog ops Q (o::rest) a w:=by
 refine wpList_plain hgd fun K hK=>?_
 obtain ⟨v',w',hrun,hA⟩:=run_append_g T w o.type hown hsrc hyl h1 hbase hl hby
 obtain ⟨ao,c,rfl⟩:=own_shape hA.own
 unfold Oper.wp
 simp [execOp,ho,resolve,invoke,builtin,hs,hx,hrun,Result.andThen]
 exact hK _ _ (by simpa using h ao c w' hA)
def iv (zs:List Int):List Value:=zs.map fun z => .int .i64 z
theorem iv_len (zs:List Int):(iv zs).length=zs.length:=by simp [iv]
theorem iv_one (zs:List Int):∀ u∈iv zs,u.oneCell'=true:=by
 intro u hu
 obtain ⟨_,_,rfl⟩:=List.mem_map.1 hu
 rfl
theorem iv_app (a b:List Int):iv a++iv b=iv (a++b):=by simp [iv]
theorem iv_at (zs:List Int) (j:Nat) (h:j<zs.length):(iv zs)[j]? = some (.int .i64 (zs.getD j 0)):=by simp [iv,h,List.getD]
theorem at22:AT 88 3 (.int .i64 0) 1 8:=⟨by kernel_rfl,by kernel_rfl,rfl,by omega⟩
theorem IS.cells {w:World} {ao:Option Addr} {zs:List Int} {c:Nat} (h:IS w ao zs) (hn:zs=[]→ao=none→c=0):CellsAt w (.slice ao zs.length c) zs.length (iv zs):=by
 rcases h with rfl | ⟨b,off,rfl,hc⟩
 ·cases ao with
  | none=>exact .inl ⟨by rw [hn rfl rfl];rfl,rfl,rfl⟩
  | some ad=>exact .inr ⟨ad,c,rfl,fun j u hu=>by simp [iv] at hu⟩
 ·refine .inr ⟨_,c,rfl,fun j u hu=>?_⟩
  have hj:j<zs.length:=by
   have:=(List.getElem?_eq_some_iff.1 hu).1
   rwa [iv_len] at this
  rw [Addr.add_lit,hc j hj,←hu,iv_at zs j hj]
theorem own_is {w:World} {base:Nat} {ao:Option Addr} {c n:Nat} {zs:List Int} (h:w.ownsRow base 3 1 (.slice ao n c) n (iv zs)) (hn:zs.length=n):IS w ao zs:=by
 subst hn
 rcases h.2 with ⟨e,h0⟩ | ⟨g,cap,cur,e,hbg,hh,hnc,hcm,hcs,htake⟩
 ·exact .inl (List.eq_nil_of_length_eq_zero h0)
 ·simp only [Value.slice.injEq] at e
  obtain ⟨rfl,_,rfl⟩:=e
  refine .inr ⟨g,0,rfl,fun j hj=>?_⟩
  rw [Nat.zero_add,World.ownsRow.cellAt h j (by omega),iv_at zs j hj]
theorem blk_is {w:World} {g n:Nat} {f:Nat→Nat} (h:Blk w g 3 (ia n f)) (zs:List Int) (hn:zs.length=n) (hf:∀ j,j<n→zs.getD j 0=(f j:Nat)):IS w (some ⟨g,0,none⟩) zs:=
 .inr ⟨g,0,rfl,fun j hj=>by rw [Nat.zero_add,h.cell,va_at n _ j (by omega),hf j (by omega)]⟩
def cb (ls:List Nat) (s:Nat):List Nat:=(List.range (ln ls s)).map fun j=>cd ls s/2^(ln ls s-1-j)%2
structure Rw (w:World) (pr gl N rm:Nat) (F:Nat→Value) (X:Nat→List Nat) (wr:World):Prop where
 c:Blk wr pr 143 #[.slice (some ⟨gl,0,none⟩) N N,.int .i64 (rm:Nat)]
 l:Blk wr gl 22 (va N F)
 rows:∀ s,s<N→wr.ownsRow w.heap.size 5 1 (F s) (X s).length (u8s (X s))
 ap:∀ s t k,s<N→t<N→s≠t→(F s).ownBlock=some k→(F t).ownBlock≠some k
 off:∀ s k,s<N→(F s).ownBlock=some k→k≠pr∧k≠gl
 ne:pr≠gl
 below:Below w.heap.size w wr
 lo:w.heap.size≤pr∧w.heap.size≤gl
theorem BySl.len {w:World} {v:Value} {xs:List Nat} (h:BySl w v xs):∃ ao c,v = .slice ao xs.length c:=by
 rcases h with ⟨rfl,rfl⟩ | ⟨ad,c,rfl,_⟩
 ·exact ⟨none,0,rfl⟩
 ·exact ⟨some ad,c,rfl⟩
end
variable {bs:List Nat} {lim:Nat}
theorem rdN_is {n:Nat} {s t:Sta} {v:Nat} (h:rdN bs n s = .ok v t):s.at_+n≤8*bs.length∧v=pk bs s.at_ n∧t={ s with at_:=s.at_+n }:=by
 unfold rdN at h
 split at h
 ·cases h;exact ⟨by assumption,rfl,rfl⟩
 ·cases h
theorem rdN_pr (n:Nat):Pr (8*bs.length) lim (rdN bs n):=by
 intro s a t hs h
 obtain ⟨h1,_,rfl⟩:=rdN_is h
 exact Le.to (Nat.le_add_right _ _) h1
theorem findB_some {ls:List Nat} {A y:Nat} (h:findB ls A=some y):Beg ls A y:=by
 have:=List.find?_some h
 rw [decide_eq_true_iff] at this
 exact this
theorem findB_none {ls:List Nat} {A:Nat} (h:findB ls A=none) (y:Nat):¬Beg ls A y:=by
 intro hb
 have hlt:=ln_lt hb.1
 have:=List.find?_eq_none.1 h y (List.mem_range.2 hlt)
 exact this (by rw [decide_eq_true_iff];exact hb)
theorem findB_of {ls:List Nat} (H:Ok ls) {A y:Nat} (h:Beg ls A y):findB ls A=some y:=by
 cases hf:findB ls A with
 | none=>exact absurd h (findB_none hf y)
 | some z=>rw [beg_one H h (findB_some hf)]
theorem rdS_is {ls:List Nat} {s t:Sta} {y:Nat} (h:rdS bs ls s = .ok y t) :
  Beg ls (ahead bs s.at_) y∧1≤ln ls y∧s.at_+ln ls y≤8*bs.length∧t={ s with at_:=s.at_+ln ls y }:=by
 unfold rdS at h
 split at h
 ·cases h
 ·split at h
  ·cases h
  ·rename_i y' hf
   have hb:=findB_some hf
   split at h
   ·cases h
    exact ⟨hb,Nat.one_le_iff_ne_zero.2 hb.1,by assumption,rfl⟩
   ·cases h
theorem rdS_pr (ls:List Nat):Pr (8*bs.length) lim (rdS bs ls):=by
 intro s a t hs h
 obtain ⟨_,h1,h2,rfl⟩:=rdS_is h
 exact Le.to (Nat.le_add_right _ _) h2
theorem grown_pr (o:Option (Nat × Nat)):Pr (8*bs.length) lim (grown bs o):=by
 intro s a t hs h
 cases o with
 | none=>cases h
 | some x=>
  obtain ⟨v,s',h1,h2⟩:=Res.bind_is h
  cases h2
  exact rdN_pr _ _ _ _ hs h1
theorem back_len (far n:Nat):∀ l,(back far n l).length=l.length+n:=by
 induction n with
 | zero=>intro l;rfl
 | succ n ih=>intro l;rw [back,ih];simp;omega
theorem getD_bs {l:List Nat} (h:Bs l) (i:Nat):l.getD i 0<256:=by
 rw [List.getD_eq_getElem?_getD]
 rcases Nat.lt_or_ge i l.length with hi | hi
 ·rw [List.getElem?_eq_getElem hi];exact h _ (List.getElem_mem hi)
 ·rw [List.getElem?_eq_none hi];exact Nat.zero_lt_succ _
theorem bs_snoc {l:List Nat} (h:Bs l) {x:Nat} (hx:x<256):Bs (l++[x]):=by
 intro y hy
 rcases List.mem_append.1 hy with hy | hy
 ·exact h y hy
 ·rw [List.mem_singleton.1 hy];exact hx
theorem back_bs (far n:Nat):∀ l,Bs l→Bs (back far n l):=by
 induction n with
 | zero=>intro l h;exact h
 | succ n ih=>intro l h;rw [back];exact ih _ (bs_snoc h (getD_bs h _))
theorem again_pr (ol:List Nat) (y:Nat):Pr (8*bs.length) lim (again bs lim ol y):=by
 intro s a t hs h
 obtain ⟨n,s1,h1,h⟩:=Res.bind_is h
 obtain ⟨d,s2,h2,h⟩:=Res.bind_is h
 obtain ⟨far,s3,h3,h⟩:=Res.bind_is h
 have k1:=grown_pr (lim:=lim) _ _ _ _ hs h1
 have k2:=rdS_pr (lim:=lim) _ _ _ _ k1.end_ h2
 have k3:=grown_pr (lim:=lim) _ _ _ _ k2.end_ h3
 refine (k1.trans (k2.trans k3)).trans ?_
 split at h
 ·cases h
 ·split at h
  ·cases h
  ·cases h
   refine ⟨Nat.le_refl _,k3.end_,?_,fun _=>?_,Nat.le_refl _,Nat.le_refl _,back_bs _ _ _⟩
   ·show _≤(back _ _ _).length;rw [back_len];omega
   ·show (back _ _ _).length≤_;rw [back_len];omega
theorem sym1_le (fl ol:List Nat) {u:Unit} {s t:Sta} {x:Bool × Unit} (_hs:s.at_≤8*bs.length) (h:sym1 bs lim fl ol u s = .ok x t):s.at_<t.at_∧Le (8*bs.length) lim s t:=by
 obtain ⟨y,s1,h1,h⟩:=Res.bind_is h
 obtain ⟨_,k1,k2,rfl⟩:=rdS_is h1
 have kt:Le (8*bs.length) lim s { s with at_:=s.at_+ln fl y,steps:=s.steps+1 }:=
  ⟨Nat.le_add_right _ _,k2,Nat.le_refl _,id,by show s.steps+1+s.at_≤s.steps+(s.at_+ln fl y);omega,by show s.blocks+s.at_≤s.blocks+(s.at_+ln fl y);omega,id⟩
 split at h
 ·split at h
  ·cases h
  ·cases h
   refine ⟨by show s.at_<s.at_+ln fl y;omega,kt.trans ⟨Nat.le_refl _,k2,?_,fun _=>?_,Nat.le_refl _,Nat.le_refl _,fun hb=>bs_snoc hb (by assumption)⟩⟩
   ·show _≤(_++_:List Nat).length;simp
   ·show (_++_:List Nat).length≤_;simp at *;omega
 ·split at h
  ·cases h
   exact ⟨by show s.at_<s.at_+ln fl y;omega,kt⟩
  ·obtain ⟨_,s2,h2,h⟩:=Res.bind_is h
   cases h
   have k3:=again_pr ol y _ _ _ k2 h2
   have:=k3.at_
   exact ⟨by simp at this;omega,kt.trans k3⟩
theorem sym1_takes (fl ol:List Nat):Takes (8*bs.length) (sym1 bs lim fl ol):=fun _ _ _ _ hs h=>⟨(sym1_le fl ol hs h).1,(sym1_le fl ol hs h).2.end_⟩
theorem sym1_pr (fl ol:List Nat) (u:Unit):Pr (8*bs.length) lim (sym1 bs lim fl ol u):=fun _ _ _ hs h=>(sym1_le fl ol hs h).2
theorem syms_pr (fl ol:List Nat):Pr (8*bs.length) lim (syms bs lim fl ol):=Pr.run (sym1_takes fl ol) (sym1_pr fl ol) ()
theorem up8_le (n:Nat):n≤up8 n:=by unfold up8;omega
theorem up8_end {n L:Nat} (h:n≤8*L):up8 n≤8*L:=by unfold up8;omega
theorem cut_bs {l:List Nat} (h:Bs l) (a b:Nat):Bs ((l.drop a).take b):=fun x hx=>h x (List.mem_of_mem_drop (List.mem_of_mem_take hx))
theorem stored_pr (hb:Bs bs):Pr (8*bs.length) lim (stored bs lim):=by
 intro s a t hs h
 obtain ⟨n,s1,h1,h⟩:=Res.bind_is h
 obtain ⟨m,s2,h2,h⟩:=Res.bind_is h
 have k0:Le (8*bs.length) lim s { s with at_:=up8 s.at_ }:=Le.to (up8_le _) (up8_end hs)
 have k1:=rdN_pr (lim:=lim) _ _ _ _ k0.end_ h1
 have k2:=rdN_pr (lim:=lim) _ _ _ _ k1.end_ h2
 refine (k0.trans (k1.trans k2)).trans ?_
 split at h
 ·cases h
 ·split at h
  ·cases h
  ·split at h
   ·cases h
   ·cases h
    have hlen:((bs.drop (s2.at_/8)).take n).length≤n:=List.length_take_le _ _
    refine ⟨by show _≤s2.at_+8*n;omega,by show s2.at_+8*n≤_;omega,?_,fun _=>?_,by show s2.steps+n+s2.at_≤s2.steps+(s2.at_+8*n);omega,by show s2.blocks+s2.at_≤s2.blocks+(s2.at_+8*n);omega,fun hq=>?_⟩
    ·show _≤(_++_:List Nat).length;simp
    ·show (_++_:List Nat).length≤_;rw [List.length_append];omega
    ·intro x hx
     rcases List.mem_append.1 hx with hx | hx
     ·exact hq x hx
     ·exact cut_bs hb _ _ x hx
theorem itm_le (own:List Nat) {s t:Sta} {x:Nat × Nat} (hs:s.at_≤8*bs.length) (h:itm bs own s = .ok x t):s.at_<t.at_∧Le (8*bs.length) lim s t:=by
 obtain ⟨y,s1,h1,h⟩:=Res.bind_is h
 have k1:=rdS_pr (lim:=lim) _ _ _ _ hs h1
 obtain ⟨_,k2,_,rfl⟩:=rdS_is h1
 split at h
 ·obtain ⟨v,s2,h2,h⟩:=Res.bind_is h
  cases h
  have k3:=rdN_pr (lim:=lim) _ _ _ _ k1.end_ h2
  have:=k3.at_
  exact ⟨by simp at this;omega,k1.trans k3⟩
 ·cases h
  exact ⟨by show s.at_<s.at_+ln own y;omega,k1⟩
theorem len1_le (own:List Nat) (n:Nat) {row:List Nat} {s t:Sta} {x:Bool × List Nat} (hs:s.at_≤8*bs.length) (h:len1 bs own n row s = .ok x t):s.at_<t.at_∧Le (8*bs.length) lim s t:=by
 obtain ⟨y,s1,h1,h⟩:=Res.bind_is h
 have k:=itm_le (lim:=lim) own hs h1
 split at h
 ·cases h
 ·split at h
  ·cases h
  ·cases h
   exact k
theorem len1_takes (own:List Nat) (n:Nat):Takes (8*bs.length) (len1 bs own n):=fun _ _ _ _ hs h=>⟨(len1_le (lim:=0) own n hs h).1,(len1_le (lim:=0) own n hs h).2.end_⟩
theorem lens_pr (own:List Nat) (n:Nat):Pr (8*bs.length) lim (lens bs own n):=Pr.run (len1_takes own n) (fun _ _ _ _ hs h=>(len1_le own n hs h).2) []
theorem rdO_pr (k:Nat):∀ l,Pr (8*bs.length) lim (rdO bs k l):=by
 induction k with
 | zero=>intro l s a t hs h;cases h;exact Le.refl _ hs
 | succ k ih=>
  intro l s a t hs h
  obtain ⟨v,s1,h1,h⟩:=Res.bind_is h
  have k1:=rdN_pr (lim:=lim) _ _ _ _ hs h1
  exact k1.trans (ih _ _ _ _ k1.end_ h)
theorem codes_pr:Pr (8*bs.length) lim (codes bs):=by
 intro s a t hs h
 obtain ⟨l,s1,h1,h⟩:=Res.bind_is h
 obtain ⟨d,s2,h2,h⟩:=Res.bind_is h
 obtain ⟨c,s3,h3,h⟩:=Res.bind_is h
 have k1:=rdN_pr (lim:=lim) _ _ _ _ hs h1
 have k2:=rdN_pr (lim:=lim) _ _ _ _ k1.end_ h2
 have k3:=rdN_pr (lim:=lim) _ _ _ _ k2.end_ h3
 split at h
 ·cases h
 ·obtain ⟨o,s4,h4,h⟩:=Res.bind_is h
  have k4:=rdO_pr (lim:=lim) _ _ _ _ _ k3.end_ h4
  split at h
  ·cases h
  ·obtain ⟨row,s5,h5,h⟩:=Res.bind_is h
   have k5:=lens_pr (lim:=lim) _ _ _ _ _ k4.end_ h5
   split at h
   ·cases h
   ·split at h
    ·cases h
     exact k1.trans (k2.trans (k3.trans (k4.trans k5)))
    ·cases h
theorem blk_pr (hb:Bs bs):Pr (8*bs.length) lim (blk bs lim):=by
 intro s a t hs h
 obtain ⟨k,s1,h1,h⟩:=Res.bind_is h
 have k1:=rdN_pr (lim:=lim) _ _ _ _ hs h1
 refine k1.trans ?_
 split at h
 ·exact stored_pr hb _ _ _ k1.end_ h
 ·split at h
  ·exact syms_pr _ _ _ _ _ k1.end_ h
  ·split at h
   ·obtain ⟨c,s2,h2,h⟩:=Res.bind_is h
    have k2:=codes_pr (lim:=lim) _ _ _ k1.end_ h2
    exact k2.trans (syms_pr _ _ _ _ _ k2.end_ h)
   ·cases h
theorem blk1_le (hb:Bs bs) {u:Unit} {s t:Sta} {x:Bool × Unit} (hs:s.at_≤8*bs.length) (h:blk1 bs lim u s = .ok x t):s.at_<t.at_∧Le (8*bs.length) lim s t∧1≤t.blocks:=by
 obtain ⟨l,s1,h1,h⟩:=Res.bind_is h
 obtain ⟨u2,s2,h2,h⟩:=Res.bind_is h
 have k1:=rdN_pr (lim:=lim) _ _ _ _ hs h1
 obtain ⟨h3,_,h4⟩:=rdN_is h1
 have k2:=blk_pr hb _ _ _ k1.end_ h2
 have e1:s1.at_=s.at_+1:=by rw [h4]
 have e2:s1.blocks=s.blocks:=by rw [h4]
 cases h
 have:=k2.at_
 have:=k2.blocks
 have k:=k1.trans k2
 refine ⟨by show s.at_<s2.at_;omega,⟨k.at_,k.end_,k.out,k.lim_,k.steps,?_,k.bytes⟩,by show 1≤s2.blocks+1;omega⟩
 show s2.blocks+1+s.at_≤s.blocks+s2.at_;omega
theorem blk1_takes (hb:Bs bs):Takes (8*bs.length) (blk1 bs lim):=fun _ _ _ _ hs h=>⟨(blk1_le hb hs h).1,(blk1_le hb hs h).2.1.end_⟩
theorem blk1_pr (hb:Bs bs) (u:Unit):Pr (8*bs.length) lim (blk1 bs lim u):=fun _ _ _ hs h=>(blk1_le hb hs h).2.1
theorem infl_le (hb:Bs bs) {u:Unit} {t:Sta} (h:infl bs lim = .ok u t):Le (8*bs.length) lim st0 t:=Pr.run (blk1_takes hb) (blk1_pr hb) () _ _ _ (Nat.zero_le _) h
section
variable {lo_:Nat} (hl:lo_≤lim)
include hl
end
end Go.Proofs.YthbbpooobaahiaaGreatDoor
