/- Part 22. -/
import Derived.Test.YtbogfailbgbdoaaGreatDoorXB20
set_option linter.unusedVariables false
set_option linter.unusedSimpArgs false
namespace Go.Proofs.YtbogfailbgbdoaaGreatDoor.K
set_option maxRecDepth 100000
section
open Go.RowKit Go.Proofs.YtbogfailbgbdoaaGreatDoor U
def RdTo (p:Nat) (xs:List Nat) (k fr:Nat) (r:Except Nat (Tk × Nat)) (w:World) (e:Ending) (w':World):Prop:=
 Touch (fun i=>i=p) w w'∧match r with
  | .error x=>(∃ (i0:Int) (s1 s2:ByteArray) (a:Option Addr) (n c:Nat) (b:Bool) (i5:Int),e = .returned (.agg #[.int .i64 i0,.string s1,.string s2,.slice a n c,.bool b,.int .i64 i5]))∧x≠0∧∃ k',Rq w' p xs k' fr x
  | .ok (t,n)=>∃ sv,e = .returned (.agg (tkc t sv (fr:Nat)))∧RAtV w' w.heap.size sv t.a∧Rq w' p xs (k+n) fr 0∧t.a.length≤256
structure Rd2 (w W:World) (p:Nat) (xs:List Nat) (fr k er q:Nat) (sv:Value):Prop where
 tch:Touch (fun i=>i=p) w W
 rq:Rq W p xs k fr er
 b0:Blk W w.heap.size 58 z44
 b1:Blk W q 58 #[.int .i64 1,.string ⟨#[]⟩,.string ⟨#[]⟩,sv,.bool false,.int .i64 (fr:Nat)]
 lt:p<w.heap.size
 q:w.heap.size<q
theorem blk6 {W:World} {q:Nat} {ty:TypeId} {x0 x1 x2 x3 x4 x5:Value} (h:Blk W q ty #[x0,x1,x2,x3,x4,x5]):W.cell? ⟨q,0,none⟩=some x0∧W.cell? ⟨q,1,none⟩=some x1∧W.cell? ⟨q,2,none⟩=some x2∧W.cell? ⟨q,3,none⟩=some x3∧W.cell? ⟨q,4,none⟩=some x4∧W.cell? ⟨q,5,none⟩=some x5:=
 ⟨(h.cell 0).trans rfl,(h.cell 1).trans rfl,(h.cell 2).trans rfl,(h.cell 3).trans rfl,(h.cell 4).trans rfl,(h.cell 5).trans rfl⟩
theorem blk6f {W:World} {q:Nat} {ty:TypeId} {cs:Array Value} (h:Blk W q ty cs):W.frozen? ⟨q,0,none⟩=false∧W.frozen? ⟨q,1,none⟩=false∧W.frozen? ⟨q,2,none⟩=false∧W.frozen? ⟨q,3,none⟩=false∧W.frozen? ⟨q,4,none⟩=false∧W.frozen? ⟨q,5,none⟩=false:=
 ⟨h.free 0,h.free 1,h.free 2,h.free 3,h.free 4,h.free 5⟩
section
variable {w W W' W1 w2:World} {p q:Nat} {xs:List Nat} {fr k k' er er':Nat} {sv:Value}
theorem Rd2.step (h:Rd2 w W p xs fr k er q sv) (ht:Touch (fun i=>i=p) W W') (hs:Rq W' p xs k' fr er'):Rd2 w W' p xs fr k' er' q sv:=
 ⟨h.tch.trans ht,hs,h.b0.touch ht (by have:=h.lt;omega),h.b1.touch ht (by have:=h.lt;have:=h.q;omega),h.lt,h.q⟩
theorem Rd2.below (h:Rd2 w W p xs fr k er q sv) (hb:Below W.heap.size W W'):Rd2 w W' p xs fr k er q sv:=h.step (Touch.of_below hb) (h.rq.below hb)
theorem Rd2.mkA (T1:Touch (fun i=>i=p) w W1) (B0:Blk W1 w.heap.size 58 z44) (hz:W1.heap.size=w.heap.size+1) (hp:p<w.heap.size) (T2:Touch (fun i=>i=p) W1.drew w2) (R2:Rq w2 p xs k fr er) (sv:Value) :
  Rd2 w (w2.alloc (.cells #[.int .i64 1,.string ⟨#[]⟩,.string ⟨#[]⟩,sv,.bool false,.int .i64 (fr:Nat)] 58)) p xs fr k er w2.heap.size sv:=by
 have hb:=lit_below w2 (.cells #[.int .i64 1,.string ⟨#[]⟩,.string ⟨#[]⟩,sv,.bool false,.int .i64 (fr:Nat)] 58)
 have h2:W1.heap.size≤w2.heap.size:=T2.size
 exact ⟨(T1.drew.trans T2).trans (Touch.of_below hb),R2.below hb,((show Blk W1.drew w.heap.size 58 z44 from B0).touch T2 (by omega)).below hb,Blk.made _ _ _,hp,by omega⟩
theorem Rd2.mkB (T1:Touch (fun i=>i=p) w W1) (B0:Blk W1 w.heap.size 58 z44) (hz:W1.heap.size=w.heap.size+1) (hp:p<w.heap.size) (T2:Touch (fun i=>i=p) (W1.alloc (.cells z44 58)).drew w2) (R2:Rq w2 p xs k fr er) (sv:Value) :
  Rd2 w (st6 w2 W1.heap.size (.int .i64 1) (.string ⟨#[]⟩) (.string ⟨#[]⟩) sv (.bool false) (.int .i64 (fr:Nat))) p xs fr k er W1.heap.size sv:=by
 have hs:=st6_touch w2 W1.heap.size (.int .i64 1) (.string ⟨#[]⟩) (.string ⟨#[]⟩) sv (.bool false) (.int .i64 (fr:Nat))
 have b0:Blk (W1.alloc (.cells z44 58)).drew w.heap.size 58 z44:=
  (show Blk (W1.alloc (.cells z44 58)) w.heap.size 58 z44 from B0.below (lit_below W1 (.cells z44 58)))
 have b1:Blk (W1.alloc (.cells z44 58)).drew W1.heap.size 58 z44:=Blk.made W1 58 z44
 have t1:Touch (fun i=>i=p) w (W1.alloc (.cells z44 58)).drew:=(T1.alloc _).drew
 exact ⟨(t1.trans T2).trans' hs (fun i hi hlt=>by omega),R2.touch hs (by omega),(b0.touch T2 (by omega)).touch hs (by omega),st6_any (b1.touch T2 (by omega)) _ _ _ _ _ _,hp,by omega⟩
theorem Rd2.no (h:Rd2 w W p xs fr k er q sv) (he:er≠0) (k0:Nat) {i0 i5:Int} {s1 s2:ByteArray} {a:Option Addr} {n c:Nat} {b:Bool}:RdTo p xs k0 fr (.error er) w (.returned (.agg #[.int .i64 i0,.string s1,.string s2,.slice a n c,.bool b,.int .i64 i5])) (st6 W w.heap.size (.int .i64 i0) (.string s1) (.string s2) (.slice a n c) (.bool b) (.int .i64 i5)):=by
 have ht:=st6_touch W w.heap.size (.int .i64 i0) (.string s1) (.string s2) (.slice a n c) (.bool b) (.int .i64 i5)
 exact ⟨h.tch.trans' ht fun i hi hlt=>by omega,⟨_,_,_,_,_,_,_,_,rfl⟩,he,k,h.rq.touch ht (by have:=h.lt;omega)⟩
theorem Rd2.yes (h:Rd2 w W p xs fr k 0 q sv) (k0 n:Nat) (l:List At) (hk:k=k0+n) (ha:RAtV W (w.heap.size+1) sv l) (hl:l.length≤256) :
  RdTo p xs k0 fr (.ok (⟨1,[],[],l,false⟩,n)) w (.returned (.agg #[.int .i64 1,.string ⟨#[]⟩,.string ⟨#[]⟩,sv,.bool false,.int .i64 (fr:Nat)])) (st6 W w.heap.size (.int .i64 1) (.string ⟨#[]⟩) (.string ⟨#[]⟩) sv (.bool false) (.int .i64 (fr:Nat))):=by
 subst hk
 have ht:=st6_touch W w.heap.size (.int .i64 1) (.string ⟨#[]⟩) (.string ⟨#[]⟩) sv (.bool false) (.int .i64 (fr:Nat))
 exact ⟨h.tch.trans' ht fun i hi hlt=>by omega,sv,rfl,(ha.touch ht fun i hi=>by omega).mono (Nat.le_succ _),h.rq.touch ht (by have:=h.lt;omega),hl⟩
end
set_option maxHeartbeats 6400000 in
theorem rdecl_err (w:World) (p:Nat) (xs:List Nat) (k fr x:Nat) (h:Rq w p xs k fr 0) (hra:arR (xs.drop k) 0 = .error x) :
  Calls Tryz.prog 45 #[.pointer (some ⟨p,0,none⟩)] w (RdTo p xs k fr (.error x) w):=by
 have hlt:=h.lt
 have a0:=lit_below w (.cells z44 58)
 have RB:=Lib.hid (h.below a0)
 have BB:=Lib.hid (Blk.made w 58 z44)
 have TB:=Lib.hid (Touch.of_below (S:=fun i=>i=p) a0)
 clear a0
 have KA:Hid (∀ W,Rq W p xs k fr 0→Calls Tryz.prog 54 #[.pointer (some ⟨p,0,none⟩)] W (RaTo p xs k fr (.error x) W)):=Lib.hid fun W hW=>by rw [←hra];exact qattrs W p xs k fr 0 hW
 unfold RaTo at KA
 simp only at KA
 have KB:Hid (∀ W k4,x≠0→Rq W p xs k4 fr x→Calls Tryz.prog 50 #[.pointer (some ⟨p,0,none⟩)] W (Rs p xs fr (.int .i64 0) k4 x W)):=Lib.hid fun W k4 hx hW=>by
  have:=qblanks W p xs k4 fr x hW
  rwa [if_neg hx] at this
 have KN:Hid (∀ W k4,x≠0→Rq W p xs k4 fr x→Calls Tryz.prog 52 #[.pointer (some ⟨p,0,none⟩),.string ⟨#[63,62]⟩] W (Rs p xs fr (.tuple #[]) k4 x W)):=Lib.hid fun W k4 hx hW=>by
  have:=qneed W p xs k4 fr x [63,62] ⟨#[63,62]⟩ rfl (bsl _ rfl) (by simp) hW
  rwa [if_neg (fun e=>hx e.1),if_neg (fun e=>hx e.1)] at this
 clear h hra
 go_enter Tryz.func45,Tryz.ntmps45
 go_upto_region 1 with fail
 refine gen_w0 fun W1 hW1=>?_
 have R1:Hid (Rq W1 p xs k fr 0):=Lib.hid (by rw [hW1];exact RB.out)
 have B0:Hid (Blk W1 w.heap.size 58 z44):=Lib.hid (by rw [hW1];exact BB.out)
 have T1:Hid (Touch (fun i=>i=p) w W1):=Lib.hid (by rw [hW1];exact TB.out)
 have hz:W1.heap.size=w.heap.size+1:=by rw [hW1];simp
 have c2:=R1.out.c2
 clear hW1
 have H1:Hid (Rq W1.drew p xs k fr 0):=Lib.hid (R1.out.drew 1)
 have H2:Hid (Rq (W1.alloc (.cells z44 58)).drew p xs k fr 0):=Lib.hid ((R1.out.below (lit_below W1 (.cells z44 58))).drew 1)
 have H3:Hid (Rq (W1.alloc (.cells z44 58)) p xs k fr 0):=Lib.hid (R1.out.below (lit_below W1 (.cells z44 58)))
 have HNE:Hid (¬p=W1.heap.size):=Lib.hid (by omega)
 have HZ:=Lib.hid hz
 clear hz
 have AF:Hid (∀ W k' er',Rq W p xs k' fr er'→(fun W=>W.cell? ⟨p,2,none⟩=some (.int .i64 (fr:Nat))) W):=Lib.hid fun W k' er' hW=>hW.c2
 go_cut [3] from 5 to 11 (fun s3 wx=>∃ (q:Nat) (sa:Option Addr) (sn sc k4:Nat),s3 = .pointer (some ⟨q,0,none⟩)∧Hid (Rd2 w wx p xs fr k4 x q (.slice sa sn sc))∧x≠0)
 case first=>
  go_region_held3 (fun W=>W.cell? ⟨p,2,none⟩=some (.int .i64 (fr:Nat))) (exact AF.out _ _ _ (by first | with_reducible exact R2.out | with_reducible exact H1.out | with_reducible exact H2.out | with_reducible exact R1.out | with_reducible exact H3.out | with_reducible exact R2a.out | with_reducible exact R2b.out | with_reducible exact R2s.out)) (first
   | (go_at_call 54;(with_reducible refine (KA.out W1.drew H1.out).mono ?_);rintro e w2 ⟨ht,⟨sa,sn,sc,rfl⟩,hx0,k4,hs⟩;have R2:=Lib.hid hs;have T2:=Lib.hid ht;have HX0:=Lib.hid hx0;have R2a:=Lib.hid (hs.below (lit_below w2 (.cells #[.int .i64 0,.string ⟨#[]⟩,.string ⟨#[]⟩,.slice none 0 0,.bool false,.int .i64 0] 58)));have R2b:=Lib.hid (hs.below (lit_below w2 (.cells #[.int .i64 1,.string ⟨#[]⟩,.string ⟨#[]⟩,.slice sa sn sc,.bool false,.int .i64 (fr:Nat)] 58)));clear ht hs hx0)
   | (go_at_call 54;(with_reducible refine (KA.out (W1.alloc (.cells z44 58)).drew H2.out).mono ?_);rintro e w2 ⟨ht,⟨sa,sn,sc,rfl⟩,hx0,k4,hs⟩;have R2:=Lib.hid hs;have T2:=Lib.hid ht;have HX0:=Lib.hid hx0;have R2s:=Lib.hid (hs.touch (st6_touch w2 W1.heap.size (.int .i64 1) (.string ⟨#[]⟩) (.string ⟨#[]⟩) (.slice sa sn sc) (.bool false) (.int .i64 (fr:Nat))) HNE.out);have B2:=Lib.hid ((show Blk (W1.alloc (.cells z44 58)).drew W1.heap.size 58 z44 from Blk.made W1 58 z44).touch ht (fun e=>HNE.out e.symm));obtain ⟨d0,d1,d2,d3,d4,d5⟩:=blk6 B2.out;obtain ⟨g0,g1,g2,g3,g4,g5⟩:=blk6f B2.out;clear ht hs hx0))
  all_goals (go_wp2;go_meet)
  case rel=>exact ⟨_,_,_,_,_,rfl,Lib.hid (Rd2.mkA T1.out B0.out HZ.out hlt T2.out R2.out _),HX0.out⟩
  case rel=>exact ⟨_,_,_,_,_,rfl,Lib.hid (Rd2.mkB T1.out B0.out HZ.out hlt T2.out R2.out _),HX0.out⟩
 case rest=>
  obtain ⟨q,sa,sn,sc,k4,rfl,R0,hx0⟩:=hcut
  have HX0:=Lib.hid hx0
  have hxI:((x:Int) != 0)=true:=bne_iff_ne.2 (by omega)
  have hxI2:¬(x:Int)=0:=by omega
  clear R1 H1 H2 H3 HNE AF T1 B0 c2 hx0
  go_wp2_with (first
   | (go_at_call 50;(with_reducible refine (KB.out _ _ HX0.out R0.out.rq).mono ?_);rintro e w3 ⟨rfl,ht,hs⟩;have R3:=Lib.hid (R0.out.step ht hs);clear ht hs)
   | (go_at_call 52;(with_reducible refine (KN.out _ _ HX0.out R3.out.rq).mono ?_);rintro e w4 ⟨rfl,ht,hs⟩;have R4:=Lib.hid (R3.out.step ht hs);clear ht hs;have e3:=R4.out.rq.c3;obtain ⟨d0,d1,d2,d3,d4,d5⟩:=blk6 R4.out.b1;obtain ⟨cz0,cz1,cz2,cz3,cz4,cz5⟩:=blk6 R4.out.b0;obtain ⟨cy0,cy1,cy2,cy3,cy4,cy5⟩:=blk6f R4.out.b0))
  refine bodyPost_ret (res45 rfl (st6_any R4.out.b0 _ _ _ _ _ _)) rfl ?_
  exact R4.out.no HX0.out _
theorem raA_len {L:List Nat} {l:List At} {m:Nat} (hb:Bs L) (h:raA [] L = .ok (l,m)):∀ y∈l,y.2.length≤4*L.length:=by
 have hr:=ra_of L.length [] L (Nat.le_refl _) hb
 rcases ha:atA [] L with e | ⟨l2,m2⟩
 ·rw [ha] at hr
  rw [show raA [] L = .error e from hr] at h
  cases h
 ·rw [ha] at hr
  rcases hr with ⟨m',h1,_⟩ | ⟨h1,_⟩
  ·rw [h1] at h
   injection h with h
   injection h with h _
   subst h
   exact atP_len hb ha
  ·rw [h1] at h
   cases h
def mdE (o:Option Nat) (l:List At) (n:Nat):Except Nat (Tk × Nat):=match o with
 | some e => .error e
 | none => .ok (⟨1,[],[],l,false⟩,n)
theorem Rd2.fin {w W:World} {p q:Nat} {xs:List Nat} {fr kk er:Nat} {sa:Option Addr} {sn sc:Nat} {RES:Option Nat} (h:Rd2 w W p xs fr kk er q (.slice sa sn sc)) (k0 n:Nat) (l:List At) (hk:kk=k0+n) (ha:RAtV W (w.heap.size+1) (.slice sa sn sc) l) (hl:l.length≤256) (hr:(RES=none∧er=0)∨(RES=some er∧er≠0)) :
  RdTo p xs k0 fr (mdE RES l n) w (.returned (.agg #[.int .i64 1,.string ⟨#[]⟩,.string ⟨#[]⟩,.slice sa sn sc,.bool false,.int .i64 (fr:Nat)])) (st6 W w.heap.size (.int .i64 1) (.string ⟨#[]⟩) (.string ⟨#[]⟩) (.slice sa sn sc) (.bool false) (.int .i64 (fr:Nat))):=by
 rcases hr with ⟨rfl,rfl⟩ | ⟨rfl,he⟩
 ·exact h.yes k0 n l hk ha hl
 ·exact h.no he _
set_option maxHeartbeats 12800000 in
theorem rdecl_no (w:World) (p:Nat) (xs:List Nat) (k fr m kb:Nat) (l0:List At) (h:Rq w p xs k fr 0) (hra:arR (xs.drop k) 0 = .ok (l0,m)) (hkb:kb=dR xs (k+m) 0) (hge:k+m≤kb) (hq:¬[63,62] <+: xs.drop kb) :
  Calls Tryz.prog 45 #[.pointer (some ⟨p,0,none⟩)] w (RdTo p xs k fr (.error 22) w):=by
 have HBSX:=Lib.hid h.bs
 have hlenx:=h.len
 have hlt:=h.lt
 have a0:=lit_below w (.cells z44 58)
 have RB:=Lib.hid (h.below a0)
 have BB:=Lib.hid (Blk.made w 58 z44)
 have TB:=Lib.hid (Touch.of_below (S:=fun i=>i=p) a0)
 clear a0
 obtain ⟨l,hl⟩:∃ l:List At,l=l0:=⟨_,rfl⟩
 rw [←hl] at hra
 have HL:=Lib.hid hl
 obtain ⟨N,hN⟩:∃ N,N=l.length:=⟨_,rfl⟩
 have HN:=Lib.hid hN
 have KA:Hid (∀ W,Rq W p xs k fr 0→Calls Tryz.prog 54 #[.pointer (some ⟨p,0,none⟩)] W (RaTo p xs k fr (.ok (l,m)) W)):=Lib.hid fun W hW=>by rw [←hra];exact qattrs W p xs k fr 0 hW
 unfold RaTo at KA
 simp only at KA
 rw [←hN] at KA
 have KB:Hid (∀ W,Rq W p xs (k+m) fr 0→Calls Tryz.prog 50 #[.pointer (some ⟨p,0,none⟩)] W (Rs p xs fr (.int .i64 (bV xs (k+m) 0:Nat)) kb 0 W)):=Lib.hid fun W hW=>by
  have:=qblanks W p xs (k+m) fr 0 hW
  rw [hkb];exact this
 generalize bV xs (k+m) 0=bv at KB
 have KN:Hid (∀ W,Rq W p xs kb fr 0→Calls Tryz.prog 52 #[.pointer (some ⟨p,0,none⟩),.string ⟨#[63,62]⟩] W (Rs p xs fr (.tuple #[]) kb 22 W)):=Lib.hid fun W hW=>by
  have:=qneed W p xs kb fr 0 [63,62] ⟨#[63,62]⟩ rfl (bsl _ rfl) (by simp) hW
  rwa [if_neg (fun e=>hq e.2),if_pos ⟨rfl,hq⟩] at this
 clear h hra hkb hq
 have hN0:N=l0.length:=hN.trans (congrArg List.length hl)
 clear hl hN
 have HN0:=Lib.hid hN0
 clear hN0
 go_enter Tryz.func45,Tryz.ntmps45
 go_upto_region 1 with fail
 refine gen_w0 fun W1 hW1=>?_
 have R1:Hid (Rq W1 p xs k fr 0):=Lib.hid (by rw [hW1];exact RB.out)
 have B0:Hid (Blk W1 w.heap.size 58 z44):=Lib.hid (by rw [hW1];exact BB.out)
 have T1:Hid (Touch (fun i=>i=p) w W1):=Lib.hid (by rw [hW1];exact TB.out)
 have hz:W1.heap.size=w.heap.size+1:=by rw [hW1];simp
 have c2:=R1.out.c2
 clear hW1
 have H1:Hid (Rq W1.drew p xs k fr 0):=Lib.hid (R1.out.drew 1)
 have H2:Hid (Rq (W1.alloc (.cells z44 58)).drew p xs k fr 0):=Lib.hid ((R1.out.below (lit_below W1 (.cells z44 58))).drew 1)
 have H3:Hid (Rq (W1.alloc (.cells z44 58)) p xs k fr 0):=Lib.hid (R1.out.below (lit_below W1 (.cells z44 58)))
 have HNE:Hid (¬p=W1.heap.size):=Lib.hid (by omega)
 have HZ:=Lib.hid hz
 clear hz
 have AF:Hid (∀ W k' er',Rq W p xs k' fr er'→(fun W=>W.cell? ⟨p,2,none⟩=some (.int .i64 (fr:Nat))) W):=Lib.hid fun W k' er' hW=>hW.c2
 go_cut [3] from 5 to 11 (fun s3 wx=>∃ (q:Nat) (sa:Option Addr) (sc:Nat),s3 = .pointer (some ⟨q,0,none⟩)∧Hid (Rd2 w wx p xs fr (k+m) 0 q (.slice sa N sc))∧Hid (RAtV wx (w.heap.size+1) (.slice sa N sc) l)∧Hid (∀ y∈l,Bs y.1∧Bs y.2)∧N≤256)
 case first=>
  go_region_held3 (fun W=>W.cell? ⟨p,2,none⟩=some (.int .i64 (fr:Nat))) (exact AF.out _ _ _ (by first | with_reducible exact R2.out | with_reducible exact H1.out | with_reducible exact H2.out | with_reducible exact R1.out | with_reducible exact H3.out | with_reducible exact R2a.out | with_reducible exact R2b.out | with_reducible exact R2s.out)) (first
   | (go_at_call 54;(with_reducible refine (KA.out W1.drew H1.out).mono ?_);rintro e w2 ⟨ht,sa,sc,rfl,hown,hs,hbs,hl2⟩;have R2:=Lib.hid hs;have T2:=Lib.hid ht;have HB2:=Lib.hid hbs;have HA2:=Lib.hid (show RAtV w2 (w.heap.size+1) (.slice sa N sc) l from ⟨sa,sc,by rw [←HN.out],by rw [←HN.out];exact World.ownsRow.mono hown (by show w.heap.size+1≤W1.heap.size;have:=HZ.out;omega)⟩);have R2a:=Lib.hid (hs.below (lit_below w2 (.cells #[.int .i64 0,.string ⟨#[]⟩,.string ⟨#[]⟩,.slice none 0 0,.bool false,.int .i64 0] 58)));have R2b:=Lib.hid (hs.below (lit_below w2 (.cells #[.int .i64 1,.string ⟨#[]⟩,.string ⟨#[]⟩,.slice sa N sc,.bool false,.int .i64 (fr:Nat)] 58)));clear ht hs hown hbs)
   | (go_at_call 54;(with_reducible refine (KA.out (W1.alloc (.cells z44 58)).drew H2.out).mono ?_);rintro e w2 ⟨ht,sa,sc,rfl,hown,hs,hbs,hl2⟩;have R2:=Lib.hid hs;have T2:=Lib.hid ht;have HB2:=Lib.hid hbs;have HA2:=Lib.hid (show RAtV w2 (w.heap.size+2) (.slice sa N sc) l from ⟨sa,sc,by rw [←HN.out],by rw [←HN.out];exact World.ownsRow.mono hown (by show w.heap.size+2≤(W1.alloc (.cells z44 58)).heap.size;rw [alloc_size];have:=HZ.out;omega)⟩);have R2s:=Lib.hid (hs.touch (st6_touch w2 W1.heap.size (.int .i64 1) (.string ⟨#[]⟩) (.string ⟨#[]⟩) (.slice sa N sc) (.bool false) (.int .i64 (fr:Nat))) HNE.out);have B2:=Lib.hid ((show Blk (W1.alloc (.cells z44 58)).drew W1.heap.size 58 z44 from Blk.made W1 58 z44).touch ht (fun e=>HNE.out e.symm));obtain ⟨d0,d1,d2,d3,d4,d5⟩:=blk6 B2.out;obtain ⟨g0,g1,g2,g3,g4,g5⟩:=blk6f B2.out;clear ht hs hown hbs))
  all_goals (go_wp2;go_meet)
  case rel=>exact ⟨_,_,_,rfl,Lib.hid (Rd2.mkA T1.out B0.out HZ.out hlt T2.out R2.out _),Lib.hid (HA2.out.touch (Touch.of_below (S:=fun _=>False) (lit_below w2 _)) (fun _ h=>h.elim)),HB2,hl2⟩
  case rel=>exact ⟨_,_,_,rfl,Lib.hid (Rd2.mkB T1.out B0.out HZ.out hlt T2.out R2.out _),Lib.hid ((HA2.out.touch (st6_touch _ _ _ _ _ _ _ _) (fun i hi=>by have:=HZ.out;omega)).mono (Nat.le_succ _)),HB2,hl2⟩
 case rest=>
  obtain ⟨q,sa,sc,rfl,R0,HA0,HB0,hN256⟩:=hcut
  clear R1 H1 H2 H3 HNE AF T1 B0 c2
  go_wp2_with (first
   | (go_at_call 50;(with_reducible refine (KB.out _ R0.out.rq).mono ?_);rintro e w3 ⟨rfl,ht,hs⟩;have R3:=Lib.hid (R0.out.step ht hs);have HA3:=Lib.hid (HA0.out.touch ht (fun i hi=>by omega));clear ht hs)
   | (go_at_call 52;(with_reducible refine (KN.out _ R3.out.rq).mono ?_);rintro e w4 ⟨rfl,ht,hs⟩;have R4:=Lib.hid (R3.out.step ht hs);have HA4:=Lib.hid (HA3.out.touch ht (fun i hi=>by omega));clear ht hs;have e3:=R4.out.rq.c3;obtain ⟨d0,d1,d2,d3,d4,d5⟩:=blk6 R4.out.b1;obtain ⟨cz0,cz1,cz2,cz3,cz4,cz5⟩:=blk6 R4.out.b0;obtain ⟨cy0,cy1,cy2,cy3,cy4,cy5⟩:=blk6f R4.out.b0))
  refine bodyPost_ret (res45 rfl (st6_any R4.out.b0 _ _ _ _ _ _)) rfl ?_
  exact R4.out.no (by decide) _
set_option maxHeartbeats 12800000 in
theorem rdecl_md0 (w:World) (p:Nat) (xs:List Nat) (k fr m kb:Nat)  (h:Rq w p xs k fr 0) (hra:arR (xs.drop k) 0 = .ok ([],m)) (hkb:kb=dR xs (k+m) 0) (hge:k+m≤kb) (hq:[63,62] <+: xs.drop kb) (hx7:xs.length≤700000) :
  Calls Tryz.prog 45 #[.pointer (some ⟨p,0,none⟩)] w (RdTo p xs k fr (mdE (mdP ([])) ([]) (kb+2-k)) w):=by
 have HBSX:=Lib.hid h.bs
 have hlenx:=h.len
 have hlt:=h.lt
 have a0:=lit_below w (.cells z44 58)
 have RB:=Lib.hid (h.below a0)
 have BB:=Lib.hid (Blk.made w 58 z44)
 have TB:=Lib.hid (Touch.of_below (S:=fun i=>i=p) a0)
 clear a0
 obtain ⟨l,hl⟩:∃ l:List At,l=[]:=⟨_,rfl⟩
 rw [←hl] at hra ⊢
 have HL:=Lib.hid hl
 obtain ⟨RES,hRES⟩:∃ RES,RES=mdP l:=⟨_,rfl⟩
 rw [←hRES]
 have HRES:=Lib.hid hRES
 obtain ⟨N,hN⟩:∃ N,N=l.length:=⟨_,rfl⟩
 have HN:=Lib.hid hN
 have KA:Hid (∀ W,Rq W p xs k fr 0→Calls Tryz.prog 54 #[.pointer (some ⟨p,0,none⟩)] W (RaTo p xs k fr (.ok (l,m)) W)):=Lib.hid fun W hW=>by rw [←hra];exact qattrs W p xs k fr 0 hW
 unfold RaTo at KA
 simp only at KA
 rw [←hN] at KA
 have KB:Hid (∀ W,Rq W p xs (k+m) fr 0→Calls Tryz.prog 50 #[.pointer (some ⟨p,0,none⟩)] W (Rs p xs fr (.int .i64 (bV xs (k+m) 0:Nat)) kb 0 W)):=Lib.hid fun W hW=>by
  have:=qblanks W p xs (k+m) fr 0 hW
  rw [hkb];exact this
 generalize bV xs (k+m) 0=bv at KB
 have HV2:Hid (∀ y∈l,y.2.length≤3000000):=Lib.hid fun y hy=>by
  have:=raA_len (HBSX.out.drop k) (by rw [←arR_0];exact hra) y hy
  rw [List.length_drop] at this
  omega
 obtain ⟨k5,hk5⟩:∃ k5,k5=kb+2:=⟨_,rfl⟩
 have hqle:=pre_le (by simp) hq
 have KN:Hid (∀ W,Rq W p xs kb fr 0→Calls Tryz.prog 52 #[.pointer (some ⟨p,0,none⟩),.string ⟨#[63,62]⟩] W (Rs p xs fr (.tuple #[]) k5 0 W)):=Lib.hid fun W hW=>by
  have:=qneed W p xs kb fr 0 [63,62] ⟨#[63,62]⟩ rfl (bsl _ rfl) (by simp) hW
  rw [if_pos ⟨rfl,hq⟩,if_neg (fun e=>e.2 hq)] at this
  rw [hk5];exact this
 have HK5:Hid (k5=k+(kb+2-k)):=Lib.hid (by omega)
 have K22:Hid (∀ W,Rq W p xs k5 fr 0→Calls Tryz.prog 49 #[.pointer (some ⟨p,0,none⟩),.int .i64 22] W (Rs p xs fr (.tuple #[]) k5 22 W)):=Lib.hid fun W hW=>by
  have:=qfail W p xs k5 fr 0 22 hW
  rwa [if_pos rfl] at this
 have K17:Hid (∀ W,Rq W p xs k5 fr 0→Calls Tryz.prog 49 #[.pointer (some ⟨p,0,none⟩),.int .i64 17] W (Rs p xs fr (.tuple #[]) k5 17 W)):=Lib.hid fun W hW=>by
  have:=qfail W p xs k5 fr 0 17 hW
  rwa [if_pos rfl] at this
 have K22a:Hid (∀ W,Rq W p xs k5 fr 22→Calls Tryz.prog 49 #[.pointer (some ⟨p,0,none⟩),.int .i64 22] W (Rs p xs fr (.tuple #[]) k5 22 W)):=Lib.hid fun W hW=>by
  have:=qfail W p xs k5 fr 22 22 hW
  rwa [if_neg (by decide)] at this
 have K22b:Hid (∀ W,Rq W p xs k5 fr 17→Calls Tryz.prog 49 #[.pointer (some ⟨p,0,none⟩),.int .i64 22] W (Rs p xs fr (.tuple #[]) k5 17 W)):=Lib.hid fun W hW=>by
  have:=qfail W p xs k5 fr 17 22 hW
  rwa [if_neg (by decide)] at this
 clear h hra hkb hq hqle hk5 hge hRES
 have hN0:N=0:=hN.trans (congrArg List.length hl)
 clear hl hN
 have HN0:=Lib.hid hN0
 clear hN0
 go_enter Tryz.func45,Tryz.ntmps45
 go_upto_region 1 with fail
 refine gen_w0 fun W1 hW1=>?_
 have R1:Hid (Rq W1 p xs k fr 0):=Lib.hid (by rw [hW1];exact RB.out)
 have B0:Hid (Blk W1 w.heap.size 58 z44):=Lib.hid (by rw [hW1];exact BB.out)
 have T1:Hid (Touch (fun i=>i=p) w W1):=Lib.hid (by rw [hW1];exact TB.out)
 have hz:W1.heap.size=w.heap.size+1:=by rw [hW1];simp
 have c2:=R1.out.c2
 clear hW1
 have H1:Hid (Rq W1.drew p xs k fr 0):=Lib.hid (R1.out.drew 1)
 have H2:Hid (Rq (W1.alloc (.cells z44 58)).drew p xs k fr 0):=Lib.hid ((R1.out.below (lit_below W1 (.cells z44 58))).drew 1)
 have H3:Hid (Rq (W1.alloc (.cells z44 58)) p xs k fr 0):=Lib.hid (R1.out.below (lit_below W1 (.cells z44 58)))
 have HNE:Hid (¬p=W1.heap.size):=Lib.hid (by omega)
 have HZ:=Lib.hid hz
 clear hz
 have AF:Hid (∀ W k' er',Rq W p xs k' fr er'→(fun W=>W.cell? ⟨p,2,none⟩=some (.int .i64 (fr:Nat))) W):=Lib.hid fun W k' er' hW=>hW.c2
 go_cut [3] from 5 to 11 (fun s3 wx=>∃ (q:Nat) (sa:Option Addr) (sc:Nat),s3 = .pointer (some ⟨q,0,none⟩)∧Hid (Rd2 w wx p xs fr (k+m) 0 q (.slice sa N sc))∧Hid (RAtV wx (w.heap.size+1) (.slice sa N sc) l)∧Hid (∀ y∈l,Bs y.1∧Bs y.2)∧N≤256)
 case first=>
  go_region_held3 (fun W=>W.cell? ⟨p,2,none⟩=some (.int .i64 (fr:Nat))) (exact AF.out _ _ _ (by first | with_reducible exact R2.out | with_reducible exact H1.out | with_reducible exact H2.out | with_reducible exact R1.out | with_reducible exact H3.out | with_reducible exact R2a.out | with_reducible exact R2b.out | with_reducible exact R2s.out)) (first
   | (go_at_call 54;(with_reducible refine (KA.out W1.drew H1.out).mono ?_);rintro e w2 ⟨ht,sa,sc,rfl,hown,hs,hbs,hl2⟩;have R2:=Lib.hid hs;have T2:=Lib.hid ht;have HB2:=Lib.hid hbs;have HA2:=Lib.hid (show RAtV w2 (w.heap.size+1) (.slice sa N sc) l from ⟨sa,sc,by rw [←HN.out],by rw [←HN.out];exact World.ownsRow.mono hown (by show w.heap.size+1≤W1.heap.size;have:=HZ.out;omega)⟩);have R2a:=Lib.hid (hs.below (lit_below w2 (.cells #[.int .i64 0,.string ⟨#[]⟩,.string ⟨#[]⟩,.slice none 0 0,.bool false,.int .i64 0] 58)));have R2b:=Lib.hid (hs.below (lit_below w2 (.cells #[.int .i64 1,.string ⟨#[]⟩,.string ⟨#[]⟩,.slice sa N sc,.bool false,.int .i64 (fr:Nat)] 58)));clear ht hs hown hbs)
   | (go_at_call 54;(with_reducible refine (KA.out (W1.alloc (.cells z44 58)).drew H2.out).mono ?_);rintro e w2 ⟨ht,sa,sc,rfl,hown,hs,hbs,hl2⟩;have R2:=Lib.hid hs;have T2:=Lib.hid ht;have HB2:=Lib.hid hbs;have HA2:=Lib.hid (show RAtV w2 (w.heap.size+2) (.slice sa N sc) l from ⟨sa,sc,by rw [←HN.out],by rw [←HN.out];exact World.ownsRow.mono hown (by show w.heap.size+2≤(W1.alloc (.cells z44 58)).heap.size;rw [alloc_size];have:=HZ.out;omega)⟩);have R2s:=Lib.hid (hs.touch (st6_touch w2 W1.heap.size (.int .i64 1) (.string ⟨#[]⟩) (.string ⟨#[]⟩) (.slice sa N sc) (.bool false) (.int .i64 (fr:Nat))) HNE.out);have B2:=Lib.hid ((show Blk (W1.alloc (.cells z44 58)).drew W1.heap.size 58 z44 from Blk.made W1 58 z44).touch ht (fun e=>HNE.out e.symm));obtain ⟨d0,d1,d2,d3,d4,d5⟩:=blk6 B2.out;obtain ⟨g0,g1,g2,g3,g4,g5⟩:=blk6f B2.out;clear ht hs hown hbs))
  all_goals (go_wp2;go_meet)
  case rel=>exact ⟨_,_,_,rfl,Lib.hid (Rd2.mkA T1.out B0.out HZ.out hlt T2.out R2.out _),Lib.hid (HA2.out.touch (Touch.of_below (S:=fun _=>False) (lit_below w2 _)) (fun _ h=>h.elim)),HB2,hl2⟩
  case rel=>exact ⟨_,_,_,rfl,Lib.hid (Rd2.mkB T1.out B0.out HZ.out hlt T2.out R2.out _),Lib.hid ((HA2.out.touch (st6_touch _ _ _ _ _ _ _ _) (fun i hi=>by have:=HZ.out;omega)).mono (Nat.le_succ _)),HB2,hl2⟩
 case rest=>
  obtain ⟨q,sa,sc,rfl,R0,HA0,HB0,hN256⟩:=hcut
  clear R1 H1 H2 H3 HNE AF T1 B0 c2
  go_upto_region 7 with (first
   | (go_at_call 50;(with_reducible refine (KB.out _ R0.out.rq).mono ?_);rintro e w3 ⟨rfl,ht,hs⟩;have R3:=Lib.hid (R0.out.step ht hs);have HA3:=Lib.hid (HA0.out.touch ht (fun i hi=>by omega));clear ht hs)
   | (go_at_call 52;(with_reducible refine (KN.out _ R3.out.rq).mono ?_);rintro e w4 ⟨rfl,ht,hs⟩;have R4:=Lib.hid (R3.out.step ht hs);have HA4:=Lib.hid (HA3.out.touch ht (fun i hi=>by omega));clear ht hs;have e3:=R4.out.rq.c3;obtain ⟨d0,d1,d2,d3,d4,d5⟩:=blk6 R4.out.b1;obtain ⟨cz0,cz1,cz2,cz3,cz4,cz5⟩:=blk6 R4.out.b0;obtain ⟨cy0,cy1,cy2,cy3,cy4,cy5⟩:=blk6f R4.out.b0))
  have hN0:=HN0.out
  subst hN0
  go_wp2_with (go_at_call 49;(with_reducible refine (K22.out _ R4.out.rq).mono ?_);rintro e w5 ⟨rfl,ht,hs⟩;have R5:=Lib.hid (R4.out.step ht hs);clear ht hs d0 d1 d2 d3 d4 d5 cz0 cz1 cz2 cz3 cz4 cz5 cy0 cy1 cy2 cy3 cy4 cy5;obtain ⟨d0,d1,d2,d3,d4,d5⟩:=blk6 R5.out.b1;obtain ⟨cz0,cz1,cz2,cz3,cz4,cz5⟩:=blk6 R5.out.b0;obtain ⟨cy0,cy1,cy2,cy3,cy4,cy5⟩:=blk6f R5.out.b0)
  refine bodyPost_ret (res45 rfl (st6_any R5.out.b0 _ _ _ _ _ _)) rfl ?_
  have hR:RES=some 22:=by rw [HRES.out,HL.out];rfl
  rw [hR]
  exact R5.out.no (by decide) _
set_option maxHeartbeats 12800000 in
theorem rdecl_md1 (w:World) (p:Nat) (xs:List Nat) (k fr m kb:Nat) (n1 v1:List Nat) (h:Rq w p xs k fr 0) (hra:arR (xs.drop k) 0 = .ok ([(n1,v1)],m)) (hkb:kb=dR xs (k+m) 0) (hge:k+m≤kb) (hq:[63,62] <+: xs.drop kb) (hx7:xs.length≤700000) :
  Calls Tryz.prog 45 #[.pointer (some ⟨p,0,none⟩)] w (RdTo p xs k fr (mdE (mdP ([(n1,v1)])) ([(n1,v1)]) (kb+2-k)) w):=by
 have HBSX:=Lib.hid h.bs
 have hlenx:=h.len
 have hlt:=h.lt
 have a0:=lit_below w (.cells z44 58)
 have RB:=Lib.hid (h.below a0)
 have BB:=Lib.hid (Blk.made w 58 z44)
 have TB:=Lib.hid (Touch.of_below (S:=fun i=>i=p) a0)
 clear a0
 obtain ⟨l,hl⟩:∃ l:List At,l=[(n1,v1)]:=⟨_,rfl⟩
 rw [←hl] at hra ⊢
 have HL:=Lib.hid hl
 obtain ⟨RES,hRES⟩:∃ RES,RES=mdP l:=⟨_,rfl⟩
 rw [←hRES]
 have HRES:=Lib.hid hRES
 obtain ⟨N,hN⟩:∃ N,N=l.length:=⟨_,rfl⟩
 have HN:=Lib.hid hN
 have KA:Hid (∀ W,Rq W p xs k fr 0→Calls Tryz.prog 54 #[.pointer (some ⟨p,0,none⟩)] W (RaTo p xs k fr (.ok (l,m)) W)):=Lib.hid fun W hW=>by rw [←hra];exact qattrs W p xs k fr 0 hW
 unfold RaTo at KA
 simp only at KA
 rw [←hN] at KA
 have KB:Hid (∀ W,Rq W p xs (k+m) fr 0→Calls Tryz.prog 50 #[.pointer (some ⟨p,0,none⟩)] W (Rs p xs fr (.int .i64 (bV xs (k+m) 0:Nat)) kb 0 W)):=Lib.hid fun W hW=>by
  have:=qblanks W p xs (k+m) fr 0 hW
  rw [hkb];exact this
 generalize bV xs (k+m) 0=bv at KB
 have HV2:Hid (∀ y∈l,y.2.length≤3000000):=Lib.hid fun y hy=>by
  have:=raA_len (HBSX.out.drop k) (by rw [←arR_0];exact hra) y hy
  rw [List.length_drop] at this
  omega
 obtain ⟨k5,hk5⟩:∃ k5,k5=kb+2:=⟨_,rfl⟩
 have hqle:=pre_le (by simp) hq
 have KN:Hid (∀ W,Rq W p xs kb fr 0→Calls Tryz.prog 52 #[.pointer (some ⟨p,0,none⟩),.string ⟨#[63,62]⟩] W (Rs p xs fr (.tuple #[]) k5 0 W)):=Lib.hid fun W hW=>by
  have:=qneed W p xs kb fr 0 [63,62] ⟨#[63,62]⟩ rfl (bsl _ rfl) (by simp) hW
  rw [if_pos ⟨rfl,hq⟩,if_neg (fun e=>e.2 hq)] at this
  rw [hk5];exact this
 have HK5:Hid (k5=k+(kb+2-k)):=Lib.hid (by omega)
 have K22:Hid (∀ W,Rq W p xs k5 fr 0→Calls Tryz.prog 49 #[.pointer (some ⟨p,0,none⟩),.int .i64 22] W (Rs p xs fr (.tuple #[]) k5 22 W)):=Lib.hid fun W hW=>by
  have:=qfail W p xs k5 fr 0 22 hW
  rwa [if_pos rfl] at this
 have K17:Hid (∀ W,Rq W p xs k5 fr 0→Calls Tryz.prog 49 #[.pointer (some ⟨p,0,none⟩),.int .i64 17] W (Rs p xs fr (.tuple #[]) k5 17 W)):=Lib.hid fun W hW=>by
  have:=qfail W p xs k5 fr 0 17 hW
  rwa [if_pos rfl] at this
 have K22a:Hid (∀ W,Rq W p xs k5 fr 22→Calls Tryz.prog 49 #[.pointer (some ⟨p,0,none⟩),.int .i64 22] W (Rs p xs fr (.tuple #[]) k5 22 W)):=Lib.hid fun W hW=>by
  have:=qfail W p xs k5 fr 22 22 hW
  rwa [if_neg (by decide)] at this
 have K22b:Hid (∀ W,Rq W p xs k5 fr 17→Calls Tryz.prog 49 #[.pointer (some ⟨p,0,none⟩),.int .i64 22] W (Rs p xs fr (.tuple #[]) k5 17 W)):=Lib.hid fun W hW=>by
  have:=qfail W p xs k5 fr 17 22 hW
  rwa [if_neg (by decide)] at this
 clear h hra hkb hq hqle hk5 hge hRES
 have hN0:N=1:=hN.trans (congrArg List.length hl)
 clear hl hN
 have HN0:=Lib.hid hN0
 clear hN0
 go_enter Tryz.func45,Tryz.ntmps45
 go_upto_region 1 with fail
 refine gen_w0 fun W1 hW1=>?_
 have R1:Hid (Rq W1 p xs k fr 0):=Lib.hid (by rw [hW1];exact RB.out)
 have B0:Hid (Blk W1 w.heap.size 58 z44):=Lib.hid (by rw [hW1];exact BB.out)
 have T1:Hid (Touch (fun i=>i=p) w W1):=Lib.hid (by rw [hW1];exact TB.out)
 have hz:W1.heap.size=w.heap.size+1:=by rw [hW1];simp
 have c2:=R1.out.c2
 clear hW1
 have H1:Hid (Rq W1.drew p xs k fr 0):=Lib.hid (R1.out.drew 1)
 have H2:Hid (Rq (W1.alloc (.cells z44 58)).drew p xs k fr 0):=Lib.hid ((R1.out.below (lit_below W1 (.cells z44 58))).drew 1)
 have H3:Hid (Rq (W1.alloc (.cells z44 58)) p xs k fr 0):=Lib.hid (R1.out.below (lit_below W1 (.cells z44 58)))
 have HNE:Hid (¬p=W1.heap.size):=Lib.hid (by omega)
 have HZ:=Lib.hid hz
 clear hz
 have AF:Hid (∀ W k' er',Rq W p xs k' fr er'→(fun W=>W.cell? ⟨p,2,none⟩=some (.int .i64 (fr:Nat))) W):=Lib.hid fun W k' er' hW=>hW.c2
 go_cut [3] from 5 to 11 (fun s3 wx=>∃ (q:Nat) (sa:Option Addr) (sc:Nat),s3 = .pointer (some ⟨q,0,none⟩)∧Hid (Rd2 w wx p xs fr (k+m) 0 q (.slice sa N sc))∧Hid (RAtV wx (w.heap.size+1) (.slice sa N sc) l)∧Hid (∀ y∈l,Bs y.1∧Bs y.2)∧N≤256)
 case first=>
  go_region_held3 (fun W=>W.cell? ⟨p,2,none⟩=some (.int .i64 (fr:Nat))) (exact AF.out _ _ _ (by first | with_reducible exact R2.out | with_reducible exact H1.out | with_reducible exact H2.out | with_reducible exact R1.out | with_reducible exact H3.out | with_reducible exact R2a.out | with_reducible exact R2b.out | with_reducible exact R2s.out)) (first
   | (go_at_call 54;(with_reducible refine (KA.out W1.drew H1.out).mono ?_);rintro e w2 ⟨ht,sa,sc,rfl,hown,hs,hbs,hl2⟩;have R2:=Lib.hid hs;have T2:=Lib.hid ht;have HB2:=Lib.hid hbs;have HA2:=Lib.hid (show RAtV w2 (w.heap.size+1) (.slice sa N sc) l from ⟨sa,sc,by rw [←HN.out],by rw [←HN.out];exact World.ownsRow.mono hown (by show w.heap.size+1≤W1.heap.size;have:=HZ.out;omega)⟩);have R2a:=Lib.hid (hs.below (lit_below w2 (.cells #[.int .i64 0,.string ⟨#[]⟩,.string ⟨#[]⟩,.slice none 0 0,.bool false,.int .i64 0] 58)));have R2b:=Lib.hid (hs.below (lit_below w2 (.cells #[.int .i64 1,.string ⟨#[]⟩,.string ⟨#[]⟩,.slice sa N sc,.bool false,.int .i64 (fr:Nat)] 58)));clear ht hs hown hbs)
   | (go_at_call 54;(with_reducible refine (KA.out (W1.alloc (.cells z44 58)).drew H2.out).mono ?_);rintro e w2 ⟨ht,sa,sc,rfl,hown,hs,hbs,hl2⟩;have R2:=Lib.hid hs;have T2:=Lib.hid ht;have HB2:=Lib.hid hbs;have HA2:=Lib.hid (show RAtV w2 (w.heap.size+2) (.slice sa N sc) l from ⟨sa,sc,by rw [←HN.out],by rw [←HN.out];exact World.ownsRow.mono hown (by show w.heap.size+2≤(W1.alloc (.cells z44 58)).heap.size;rw [alloc_size];have:=HZ.out;omega)⟩);have R2s:=Lib.hid (hs.touch (st6_touch w2 W1.heap.size (.int .i64 1) (.string ⟨#[]⟩) (.string ⟨#[]⟩) (.slice sa N sc) (.bool false) (.int .i64 (fr:Nat))) HNE.out);have B2:=Lib.hid ((show Blk (W1.alloc (.cells z44 58)).drew W1.heap.size 58 z44 from Blk.made W1 58 z44).touch ht (fun e=>HNE.out e.symm));obtain ⟨d0,d1,d2,d3,d4,d5⟩:=blk6 B2.out;obtain ⟨g0,g1,g2,g3,g4,g5⟩:=blk6f B2.out;clear ht hs hown hbs))
  all_goals (go_wp2;go_meet)
  case rel=>exact ⟨_,_,_,rfl,Lib.hid (Rd2.mkA T1.out B0.out HZ.out hlt T2.out R2.out _),Lib.hid (HA2.out.touch (Touch.of_below (S:=fun _=>False) (lit_below w2 _)) (fun _ h=>h.elim)),HB2,hl2⟩
  case rel=>exact ⟨_,_,_,rfl,Lib.hid (Rd2.mkB T1.out B0.out HZ.out hlt T2.out R2.out _),Lib.hid ((HA2.out.touch (st6_touch _ _ _ _ _ _ _ _) (fun i hi=>by have:=HZ.out;omega)).mono (Nat.le_succ _)),HB2,hl2⟩
 case rest=>
  obtain ⟨q,sa,sc,rfl,R0,HA0,HB0,hN256⟩:=hcut
  clear R1 H1 H2 H3 HNE AF T1 B0 c2
  go_upto_region 7 with (first
   | (go_at_call 50;(with_reducible refine (KB.out _ R0.out.rq).mono ?_);rintro e w3 ⟨rfl,ht,hs⟩;have R3:=Lib.hid (R0.out.step ht hs);have HA3:=Lib.hid (HA0.out.touch ht (fun i hi=>by omega));clear ht hs)
   | (go_at_call 52;(with_reducible refine (KN.out _ R3.out.rq).mono ?_);rintro e w4 ⟨rfl,ht,hs⟩;have R4:=Lib.hid (R3.out.step ht hs);have HA4:=Lib.hid (HA3.out.touch ht (fun i hi=>by omega));clear ht hs;have e3:=R4.out.rq.c3;obtain ⟨d0,d1,d2,d3,d4,d5⟩:=blk6 R4.out.b1;obtain ⟨cz0,cz1,cz2,cz3,cz4,cz5⟩:=blk6 R4.out.b0;obtain ⟨cy0,cy1,cy2,cy3,cy4,cy5⟩:=blk6f R4.out.b0))
  have hN0:=HN0.out
  have hN1:l≠[]:=by rw [HL.out];simp
  obtain ⟨sa',sc',esl,hown⟩:=HA4.out
  injection esl with es1 es2 es3
  subst es1 es3
  have hcap:l.length≤sc∧sc≤maxLen:=by
   rcases hown.2 with ⟨e1,e2⟩ | ⟨g,cap,cur,e1,e2,e3,e4,e5,_⟩
   ·have:=List.length_pos_iff.2 hN1;omega
   ·injection e1 with e1 _ e6
    subst e1 e6
    exact ⟨e4,e5⟩
  obtain ⟨g,rfl,hgB,hcs⟩:=row60 hown hN1
  have HK:Hid (∀ W,Touch (fun i=>i=p) w4 W→W.cell? ⟨g,0,none⟩=some (.string (txt n1))∧W.cell? ⟨g,1,none⟩=some (.string (txt v1))):=Lib.hid fun W hT=>by
   have ho:=ownsRow_touch hown hT (fun i hi he=>by have:=hown.lt i hi;omega)
   obtain ⟨g',eg,_,hcs⟩:=row60 ho hN1
   injection eg with eg
   injection eg with eg
   subst eg
   exact ⟨(hcs 0 (n1,v1) (by rw [HL.out];rfl)).1,(hcs 0 (n1,v1) (by rw [HL.out];rfl)).2⟩
  have hc1:1≤sc:=by have:=hcap.1;rw [←es2,hN0] at this;exact this
  have hc2:=hcap.2
  clear es2 hN1 hcap
  have bb1:=HB0.out (n1,v1) (by rw [HL.out];simp)
  have s1:((txt n1).toList=[118,101,114,115,105,111,110])=(n1=[118,101,114,115,105,111,110]):=txt_is bb1.1 [118,101,114,115,105,111,110] (bsl _ rfl)
  have s2:((txt v1).toList=[49,46,48])=(v1=[49,46,48]):=txt_is bb1.2 [49,46,48] (bsl _ rfl)
  have HMD:Hid (RES=(if (txt n1).toList=[118,101,114,115,105,111,110]∧(txt v1).toList=[49,46,48] then none else some 22)):=Lib.hid (by
   rw [HRES.out,HL.out]
   simp only [s1,s2]
   unfold mdP md1
   rfl)
  clear s1 s2
  have RX:=R4
  have TX:Hid (Touch (fun i=>i=p) w4 w4):=Lib.hid (Touch.refl _ _)
  have H256:=hN256
  have HA:Hid (∀ W,Touch (fun i=>i=p) w4 W→RAtV W (w.heap.size+1) (.slice (some ⟨g,0,none⟩) N sc) l):=Lib.hid fun W hT=>HA4.out.touch hT (fun i hi=>by omega)
  have HL256:Hid (l.length≤256):=Lib.hid (by rw [←HN.out];exact hN256)
  obtain ⟨c0,c1⟩:=HK.out _ TX.out
  generalize txt n1=TN1 at HK HMD c0
  generalize txt v1=TV1 at HK HMD c1
  subst hN0
  clear hcs hown bb1 hN256
  go_wp2_with (first
   | (go_at_call 49;(with_reducible refine (K22.out _ RX.out.rq).mono ?_);rintro e w5 ⟨rfl,ht,hs⟩;have RX:=Lib.hid (RX.out.step ht hs);have TX:=Lib.hid (TX.out.trans ht);clear ht hs;obtain ⟨c0,c1⟩:=HK.out _ TX.out;obtain ⟨d0,d1,d2,d3,d4,d5⟩:=blk6 RX.out.b1;obtain ⟨cz0,cz1,cz2,cz3,cz4,cz5⟩:=blk6 RX.out.b0;obtain ⟨cy0,cy1,cy2,cy3,cy4,cy5⟩:=blk6f RX.out.b0)
   | (go_at_call 49;(with_reducible refine (K17.out _ RX.out.rq).mono ?_);rintro e w5 ⟨rfl,ht,hs⟩;have RX:=Lib.hid (RX.out.step ht hs);have TX:=Lib.hid (TX.out.trans ht);clear ht hs;obtain ⟨c0,c1⟩:=HK.out _ TX.out;obtain ⟨d0,d1,d2,d3,d4,d5⟩:=blk6 RX.out.b1;obtain ⟨cz0,cz1,cz2,cz3,cz4,cz5⟩:=blk6 RX.out.b0;obtain ⟨cy0,cy1,cy2,cy3,cy4,cy5⟩:=blk6f RX.out.b0)
   | (go_at_call 49;(with_reducible refine (K22a.out _ RX.out.rq).mono ?_);rintro e w5 ⟨rfl,ht,hs⟩;have RX:=Lib.hid (RX.out.step ht hs);have TX:=Lib.hid (TX.out.trans ht);clear ht hs;obtain ⟨c0,c1⟩:=HK.out _ TX.out;obtain ⟨d0,d1,d2,d3,d4,d5⟩:=blk6 RX.out.b1;obtain ⟨cz0,cz1,cz2,cz3,cz4,cz5⟩:=blk6 RX.out.b0;obtain ⟨cy0,cy1,cy2,cy3,cy4,cy5⟩:=blk6f RX.out.b0)
   | (go_at_call 49;(with_reducible refine (K22b.out _ RX.out.rq).mono ?_);rintro e w5 ⟨rfl,ht,hs⟩;have RX:=Lib.hid (RX.out.step ht hs);have TX:=Lib.hid (TX.out.trans ht);clear ht hs;obtain ⟨c0,c1⟩:=HK.out _ TX.out;obtain ⟨d0,d1,d2,d3,d4,d5⟩:=blk6 RX.out.b1;obtain ⟨cz0,cz1,cz2,cz3,cz4,cz5⟩:=blk6 RX.out.b0;obtain ⟨cy0,cy1,cy2,cy3,cy4,cy5⟩:=blk6f RX.out.b0))
  all_goals try (have hsc:sc=1:=(by assumption);subst hsc)
  all_goals refine bodyPost_ret (res45 rfl (st6_any RX.out.b0 _ _ _ _ _ _)) rfl ?_
  all_goals refine RX.out.fin _ _ _ HK5.out (HA.out _ TX.out) HL256.out ?_
  all_goals (have hm:=HMD.out;clear HMD HK HA HA0 HA3 HA4 R0 R3 R4 RX TX HB0 K22 K17 K22a K22b KB KN KA HL HRES HBSX HV2 RB BB TB)
  all_goals clear cz0 cz1 cz2 cz3 cz4 cz5 cy0 cy1 cy2 cy3 cy4 cy5 d0 d1 d2 d3 d4 d5 c0 c1
  all_goals first
   | exact .inl ⟨by simp_all,rfl⟩
   | exact .inr ⟨by simp_all,by decide⟩
set_option maxHeartbeats 12800000 in
theorem rdecl_md2 (w:World) (p:Nat) (xs:List Nat) (k fr m kb:Nat) (n1 v1 n2 v2:List Nat) (h:Rq w p xs k fr 0) (hra:arR (xs.drop k) 0 = .ok ([(n1,v1),(n2,v2)],m)) (hkb:kb=dR xs (k+m) 0) (hge:k+m≤kb) (hq:[63,62] <+: xs.drop kb) (hx7:xs.length≤700000) :
  Calls Tryz.prog 45 #[.pointer (some ⟨p,0,none⟩)] w (RdTo p xs k fr (mdE (mdP ([(n1,v1),(n2,v2)])) ([(n1,v1),(n2,v2)]) (kb+2-k)) w):=by
 have HBSX:=Lib.hid h.bs
 have hlenx:=h.len
 have hlt:=h.lt
 have a0:=lit_below w (.cells z44 58)
 have RB:=Lib.hid (h.below a0)
 have BB:=Lib.hid (Blk.made w 58 z44)
 have TB:=Lib.hid (Touch.of_below (S:=fun i=>i=p) a0)
 clear a0
 obtain ⟨l,hl⟩:∃ l:List At,l=[(n1,v1),(n2,v2)]:=⟨_,rfl⟩
 rw [←hl] at hra ⊢
 have HL:=Lib.hid hl
 obtain ⟨RES,hRES⟩:∃ RES,RES=mdP l:=⟨_,rfl⟩
 rw [←hRES]
 have HRES:=Lib.hid hRES
 obtain ⟨N,hN⟩:∃ N,N=l.length:=⟨_,rfl⟩
 have HN:=Lib.hid hN
 have KA:Hid (∀ W,Rq W p xs k fr 0→Calls Tryz.prog 54 #[.pointer (some ⟨p,0,none⟩)] W (RaTo p xs k fr (.ok (l,m)) W)):=Lib.hid fun W hW=>by rw [←hra];exact qattrs W p xs k fr 0 hW
 unfold RaTo at KA
 simp only at KA
 rw [←hN] at KA
 have KB:Hid (∀ W,Rq W p xs (k+m) fr 0→Calls Tryz.prog 50 #[.pointer (some ⟨p,0,none⟩)] W (Rs p xs fr (.int .i64 (bV xs (k+m) 0:Nat)) kb 0 W)):=Lib.hid fun W hW=>by
  have:=qblanks W p xs (k+m) fr 0 hW
  rw [hkb];exact this
 generalize bV xs (k+m) 0=bv at KB
 have HV2:Hid (∀ y∈l,y.2.length≤3000000):=Lib.hid fun y hy=>by
  have:=raA_len (HBSX.out.drop k) (by rw [←arR_0];exact hra) y hy
  rw [List.length_drop] at this
  omega
 obtain ⟨k5,hk5⟩:∃ k5,k5=kb+2:=⟨_,rfl⟩
 have hqle:=pre_le (by simp) hq
 have KN:Hid (∀ W,Rq W p xs kb fr 0→Calls Tryz.prog 52 #[.pointer (some ⟨p,0,none⟩),.string ⟨#[63,62]⟩] W (Rs p xs fr (.tuple #[]) k5 0 W)):=Lib.hid fun W hW=>by
  have:=qneed W p xs kb fr 0 [63,62] ⟨#[63,62]⟩ rfl (bsl _ rfl) (by simp) hW
  rw [if_pos ⟨rfl,hq⟩,if_neg (fun e=>e.2 hq)] at this
  rw [hk5];exact this
 have HK5:Hid (k5=k+(kb+2-k)):=Lib.hid (by omega)
 have K22:Hid (∀ W,Rq W p xs k5 fr 0→Calls Tryz.prog 49 #[.pointer (some ⟨p,0,none⟩),.int .i64 22] W (Rs p xs fr (.tuple #[]) k5 22 W)):=Lib.hid fun W hW=>by
  have:=qfail W p xs k5 fr 0 22 hW
  rwa [if_pos rfl] at this
 have K17:Hid (∀ W,Rq W p xs k5 fr 0→Calls Tryz.prog 49 #[.pointer (some ⟨p,0,none⟩),.int .i64 17] W (Rs p xs fr (.tuple #[]) k5 17 W)):=Lib.hid fun W hW=>by
  have:=qfail W p xs k5 fr 0 17 hW
  rwa [if_pos rfl] at this
 have K22a:Hid (∀ W,Rq W p xs k5 fr 22→Calls Tryz.prog 49 #[.pointer (some ⟨p,0,none⟩),.int .i64 22] W (Rs p xs fr (.tuple #[]) k5 22 W)):=Lib.hid fun W hW=>by
  have:=qfail W p xs k5 fr 22 22 hW
  rwa [if_neg (by decide)] at this
 have K22b:Hid (∀ W,Rq W p xs k5 fr 17→Calls Tryz.prog 49 #[.pointer (some ⟨p,0,none⟩),.int .i64 22] W (Rs p xs fr (.tuple #[]) k5 17 W)):=Lib.hid fun W hW=>by
  have:=qfail W p xs k5 fr 17 22 hW
  rwa [if_neg (by decide)] at this
 clear h hra hkb hq hqle hk5 hge hRES
 have hN0:N=2:=hN.trans (congrArg List.length hl)
 clear hl hN
 have HN0:=Lib.hid hN0
 clear hN0
 go_enter Tryz.func45,Tryz.ntmps45
 go_upto_region 1 with fail
 refine gen_w0 fun W1 hW1=>?_
 have R1:Hid (Rq W1 p xs k fr 0):=Lib.hid (by rw [hW1];exact RB.out)
 have B0:Hid (Blk W1 w.heap.size 58 z44):=Lib.hid (by rw [hW1];exact BB.out)
 have T1:Hid (Touch (fun i=>i=p) w W1):=Lib.hid (by rw [hW1];exact TB.out)
 have hz:W1.heap.size=w.heap.size+1:=by rw [hW1];simp
 have c2:=R1.out.c2
 clear hW1
 have H1:Hid (Rq W1.drew p xs k fr 0):=Lib.hid (R1.out.drew 1)
 have H2:Hid (Rq (W1.alloc (.cells z44 58)).drew p xs k fr 0):=Lib.hid ((R1.out.below (lit_below W1 (.cells z44 58))).drew 1)
 have H3:Hid (Rq (W1.alloc (.cells z44 58)) p xs k fr 0):=Lib.hid (R1.out.below (lit_below W1 (.cells z44 58)))
 have HNE:Hid (¬p=W1.heap.size):=Lib.hid (by omega)
 have HZ:=Lib.hid hz
 clear hz
 have AF:Hid (∀ W k' er',Rq W p xs k' fr er'→(fun W=>W.cell? ⟨p,2,none⟩=some (.int .i64 (fr:Nat))) W):=Lib.hid fun W k' er' hW=>hW.c2
 go_cut [3] from 5 to 11 (fun s3 wx=>∃ (q:Nat) (sa:Option Addr) (sc:Nat),s3 = .pointer (some ⟨q,0,none⟩)∧Hid (Rd2 w wx p xs fr (k+m) 0 q (.slice sa N sc))∧Hid (RAtV wx (w.heap.size+1) (.slice sa N sc) l)∧Hid (∀ y∈l,Bs y.1∧Bs y.2)∧N≤256)
 case first=>
  go_region_held3 (fun W=>W.cell? ⟨p,2,none⟩=some (.int .i64 (fr:Nat))) (exact AF.out _ _ _ (by first | with_reducible exact R2.out | with_reducible exact H1.out | with_reducible exact H2.out | with_reducible exact R1.out | with_reducible exact H3.out | with_reducible exact R2a.out | with_reducible exact R2b.out | with_reducible exact R2s.out)) (first
   | (go_at_call 54;(with_reducible refine (KA.out W1.drew H1.out).mono ?_);rintro e w2 ⟨ht,sa,sc,rfl,hown,hs,hbs,hl2⟩;have R2:=Lib.hid hs;have T2:=Lib.hid ht;have HB2:=Lib.hid hbs;have HA2:=Lib.hid (show RAtV w2 (w.heap.size+1) (.slice sa N sc) l from ⟨sa,sc,by rw [←HN.out],by rw [←HN.out];exact World.ownsRow.mono hown (by show w.heap.size+1≤W1.heap.size;have:=HZ.out;omega)⟩);have R2a:=Lib.hid (hs.below (lit_below w2 (.cells #[.int .i64 0,.string ⟨#[]⟩,.string ⟨#[]⟩,.slice none 0 0,.bool false,.int .i64 0] 58)));have R2b:=Lib.hid (hs.below (lit_below w2 (.cells #[.int .i64 1,.string ⟨#[]⟩,.string ⟨#[]⟩,.slice sa N sc,.bool false,.int .i64 (fr:Nat)] 58)));clear ht hs hown hbs)
   | (go_at_call 54;(with_reducible refine (KA.out (W1.alloc (.cells z44 58)).drew H2.out).mono ?_);rintro e w2 ⟨ht,sa,sc,rfl,hown,hs,hbs,hl2⟩;have R2:=Lib.hid hs;have T2:=Lib.hid ht;have HB2:=Lib.hid hbs;have HA2:=Lib.hid (show RAtV w2 (w.heap.size+2) (.slice sa N sc) l from ⟨sa,sc,by rw [←HN.out],by rw [←HN.out];exact World.ownsRow.mono hown (by show w.heap.size+2≤(W1.alloc (.cells z44 58)).heap.size;rw [alloc_size];have:=HZ.out;omega)⟩);have R2s:=Lib.hid (hs.touch (st6_touch w2 W1.heap.size (.int .i64 1) (.string ⟨#[]⟩) (.string ⟨#[]⟩) (.slice sa N sc) (.bool false) (.int .i64 (fr:Nat))) HNE.out);have B2:=Lib.hid ((show Blk (W1.alloc (.cells z44 58)).drew W1.heap.size 58 z44 from Blk.made W1 58 z44).touch ht (fun e=>HNE.out e.symm));obtain ⟨d0,d1,d2,d3,d4,d5⟩:=blk6 B2.out;obtain ⟨g0,g1,g2,g3,g4,g5⟩:=blk6f B2.out;clear ht hs hown hbs))
  all_goals (go_wp2;go_meet)
  case rel=>exact ⟨_,_,_,rfl,Lib.hid (Rd2.mkA T1.out B0.out HZ.out hlt T2.out R2.out _),Lib.hid (HA2.out.touch (Touch.of_below (S:=fun _=>False) (lit_below w2 _)) (fun _ h=>h.elim)),HB2,hl2⟩
  case rel=>exact ⟨_,_,_,rfl,Lib.hid (Rd2.mkB T1.out B0.out HZ.out hlt T2.out R2.out _),Lib.hid ((HA2.out.touch (st6_touch _ _ _ _ _ _ _ _) (fun i hi=>by have:=HZ.out;omega)).mono (Nat.le_succ _)),HB2,hl2⟩
 case rest=>
  obtain ⟨q,sa,sc,rfl,R0,HA0,HB0,hN256⟩:=hcut
  clear R1 H1 H2 H3 HNE AF T1 B0 c2
  go_upto_region 7 with (first
   | (go_at_call 50;(with_reducible refine (KB.out _ R0.out.rq).mono ?_);rintro e w3 ⟨rfl,ht,hs⟩;have R3:=Lib.hid (R0.out.step ht hs);have HA3:=Lib.hid (HA0.out.touch ht (fun i hi=>by omega));clear ht hs)
   | (go_at_call 52;(with_reducible refine (KN.out _ R3.out.rq).mono ?_);rintro e w4 ⟨rfl,ht,hs⟩;have R4:=Lib.hid (R3.out.step ht hs);have HA4:=Lib.hid (HA3.out.touch ht (fun i hi=>by omega));clear ht hs;have e3:=R4.out.rq.c3;obtain ⟨d0,d1,d2,d3,d4,d5⟩:=blk6 R4.out.b1;obtain ⟨cz0,cz1,cz2,cz3,cz4,cz5⟩:=blk6 R4.out.b0;obtain ⟨cy0,cy1,cy2,cy3,cy4,cy5⟩:=blk6f R4.out.b0))
  have hN0:=HN0.out
  have hN1:l≠[]:=by rw [HL.out];simp
  obtain ⟨sa',sc',esl,hown⟩:=HA4.out
  injection esl with es1 es2 es3
  subst es1 es3
  have hcap:l.length≤sc∧sc≤maxLen:=by
   rcases hown.2 with ⟨e1,e2⟩ | ⟨g,cap,cur,e1,e2,e3,e4,e5,_⟩
   ·have:=List.length_pos_iff.2 hN1;omega
   ·injection e1 with e1 _ e6
    subst e1 e6
    exact ⟨e4,e5⟩
  obtain ⟨g,rfl,hgB,hcs⟩:=row60 hown hN1
  have HK:Hid (∀ W,Touch (fun i=>i=p) w4 W→W.cell? ⟨g,0,none⟩=some (.string (txt n1))∧W.cell? ⟨g,1,none⟩=some (.string (txt v1))∧W.cell? ⟨g,2,none⟩=some (.string (txt n2))∧W.cell? ⟨g,3,none⟩=some (.string (txt v2))):=Lib.hid fun W hT=>by
   have ho:=ownsRow_touch hown hT (fun i hi he=>by have:=hown.lt i hi;omega)
   obtain ⟨g',eg,_,hcs⟩:=row60 ho hN1
   injection eg with eg
   injection eg with eg
   subst eg
   exact ⟨(hcs 0 (n1,v1) (by rw [HL.out];rfl)).1,(hcs 0 (n1,v1) (by rw [HL.out];rfl)).2,(hcs 1 (n2,v2) (by rw [HL.out];rfl)).1,(hcs 1 (n2,v2) (by rw [HL.out];rfl)).2⟩
  have hc1:2≤sc:=by have:=hcap.1;rw [←es2,hN0] at this;exact this
  have hc2:=hcap.2
  clear es2 hN1 hcap
  have bb1:=HB0.out (n1,v1) (by rw [HL.out];simp)
  have bb2:=HB0.out (n2,v2) (by rw [HL.out];simp)
  have s1:((txt n1).toList=[118,101,114,115,105,111,110])=(n1=[118,101,114,115,105,111,110]):=txt_is bb1.1 [118,101,114,115,105,111,110] (bsl _ rfl)
  have s2:((txt v1).toList=[49,46,48])=(v1=[49,46,48]):=txt_is bb1.2 [49,46,48] (bsl _ rfl)
  have s3:((txt n2).toList=[101,110,99,111,100,105,110,103])=(n2=[101,110,99,111,100,105,110,103]):=txt_is bb2.1 [101,110,99,111,100,105,110,103] (bsl _ rfl)
  have s4:((txt n2).toList=[115,116,97,110,100,97,108,111,110,101])=(n2=[115,116,97,110,100,97,108,111,110,101]):=txt_is bb2.1 [115,116,97,110,100,97,108,111,110,101] (bsl _ rfl)
  have s5:((txt v2).toList=[121,101,115])=(v2=[121,101,115]):=txt_is bb2.2 [121,101,115] (bsl _ rfl)
  have s6:((txt v2).toList=[110,111])=(v2=[110,111]):=txt_is bb2.2 [110,111] (bsl _ rfl)
  have hlow:=low_bs bb2.2
  have s7:((txt (v2.map low)).toList=[117,116,102,45,56])=(v2.map low=[117,116,102,45,56]):=txt_is hlow [117,116,102,45,56] (bsl _ rfl)
  have HMD:Hid (RES=(if (txt n1).toList=[118,101,114,115,105,111,110]∧(txt v1).toList=[49,46,48] then (if (txt n2).toList=[101,110,99,111,100,105,110,103] then (if (txt (v2.map low)).toList=[117,116,102,45,56] then none else some 17) else if (txt n2).toList=[115,116,97,110,100,97,108,111,110,101] then (if (txt v2).toList=[121,101,115]∨(txt v2).toList=[110,111] then none else some 22) else some 22) else some 22)):=Lib.hid (by
   rw [HRES.out,HL.out]
   simp only [s1,s2,s3,s4,s5,s6,s7]
   unfold mdP md1 md2 md3
   rfl)
  clear s1 s2 s3 s4 s5 s6 s7
  have RX:=R4
  have TX:Hid (Touch (fun i=>i=p) w4 w4):=Lib.hid (Touch.refl _ _)
  have H256:=hN256
  have HA:Hid (∀ W,Touch (fun i=>i=p) w4 W→RAtV W (w.heap.size+1) (.slice (some ⟨g,0,none⟩) N sc) l):=Lib.hid fun W hT=>HA4.out.touch hT (fun i hi=>by omega)
  have HL256:Hid (l.length≤256):=Lib.hid (by rw [←HN.out];exact hN256)
  obtain ⟨c0,c1,c2,c3⟩:=HK.out _ TX.out
  have KS:=Lib.hid fun W=>rsmall_any v2 _ rfl bb2.2 W (HV2.out (n2,v2) (by rw [HL.out];simp))
  obtain ⟨TL,hTL⟩:∃ TL,TL=txt (v2.map low):=⟨_,rfl⟩
  rw [←hTL] at KS HMD
  clear hTL hlow
  generalize txt n1=TN1 at HK HMD c0
  generalize txt v1=TV1 at HK HMD c1
  generalize txt n2=TN2 at HK HMD c2
  generalize txt v2=TV2 at HK HMD c3 KS
  subst hN0
  clear hcs hown bb1 bb2 hN256
  go_wp2_with (first
   | (go_at_call 49;(with_reducible refine (K22.out _ RX.out.rq).mono ?_);rintro e w5 ⟨rfl,ht,hs⟩;have RX:=Lib.hid (RX.out.step ht hs);have TX:=Lib.hid (TX.out.trans ht);clear ht hs;obtain ⟨c0,c1,c2,c3⟩:=HK.out _ TX.out;obtain ⟨d0,d1,d2,d3,d4,d5⟩:=blk6 RX.out.b1;obtain ⟨cz0,cz1,cz2,cz3,cz4,cz5⟩:=blk6 RX.out.b0;obtain ⟨cy0,cy1,cy2,cy3,cy4,cy5⟩:=blk6f RX.out.b0)
   | (go_at_call 49;(with_reducible refine (K17.out _ RX.out.rq).mono ?_);rintro e w5 ⟨rfl,ht,hs⟩;have RX:=Lib.hid (RX.out.step ht hs);have TX:=Lib.hid (TX.out.trans ht);clear ht hs;obtain ⟨c0,c1,c2,c3⟩:=HK.out _ TX.out;obtain ⟨d0,d1,d2,d3,d4,d5⟩:=blk6 RX.out.b1;obtain ⟨cz0,cz1,cz2,cz3,cz4,cz5⟩:=blk6 RX.out.b0;obtain ⟨cy0,cy1,cy2,cy3,cy4,cy5⟩:=blk6f RX.out.b0)
   | (go_at_call 49;(with_reducible refine (K22a.out _ RX.out.rq).mono ?_);rintro e w5 ⟨rfl,ht,hs⟩;have RX:=Lib.hid (RX.out.step ht hs);have TX:=Lib.hid (TX.out.trans ht);clear ht hs;obtain ⟨c0,c1,c2,c3⟩:=HK.out _ TX.out;obtain ⟨d0,d1,d2,d3,d4,d5⟩:=blk6 RX.out.b1;obtain ⟨cz0,cz1,cz2,cz3,cz4,cz5⟩:=blk6 RX.out.b0;obtain ⟨cy0,cy1,cy2,cy3,cy4,cy5⟩:=blk6f RX.out.b0)
   | (go_at_call 49;(with_reducible refine (K22b.out _ RX.out.rq).mono ?_);rintro e w5 ⟨rfl,ht,hs⟩;have RX:=Lib.hid (RX.out.step ht hs);have TX:=Lib.hid (TX.out.trans ht);clear ht hs;obtain ⟨c0,c1,c2,c3⟩:=HK.out _ TX.out;obtain ⟨d0,d1,d2,d3,d4,d5⟩:=blk6 RX.out.b1;obtain ⟨cz0,cz1,cz2,cz3,cz4,cz5⟩:=blk6 RX.out.b0;obtain ⟨cy0,cy1,cy2,cy3,cy4,cy5⟩:=blk6f RX.out.b0)
   | (go_at_call 48;(with_reducible refine (KS.out _).mono ?_);rintro e w5 ⟨rfl,hb⟩;have ht:=Touch.of_below (S:=fun i=>i=p) hb;have hs:=RX.out.rq.below hb;clear hb;have RX:=Lib.hid (RX.out.step ht hs);have TX:=Lib.hid (TX.out.trans ht);clear ht hs;obtain ⟨c0,c1,c2,c3⟩:=HK.out _ TX.out;obtain ⟨d0,d1,d2,d3,d4,d5⟩:=blk6 RX.out.b1;obtain ⟨cz0,cz1,cz2,cz3,cz4,cz5⟩:=blk6 RX.out.b0;obtain ⟨cy0,cy1,cy2,cy3,cy4,cy5⟩:=blk6f RX.out.b0))
  all_goals try (have hsc:sc=2:=(by assumption);subst hsc)
  all_goals refine bodyPost_ret (res45 rfl (st6_any RX.out.b0 _ _ _ _ _ _)) rfl ?_
  all_goals refine RX.out.fin _ _ _ HK5.out (HA.out _ TX.out) HL256.out ?_
  all_goals (have hm:=HMD.out;clear HMD HK HA HA0 HA3 HA4 R0 R3 R4 RX TX HB0 K22 K17 K22a K22b KB KN KA HL HRES HBSX HV2 RB BB TB)
  all_goals clear cz0 cz1 cz2 cz3 cz4 cz5 cy0 cy1 cy2 cy3 cy4 cy5 d0 d1 d2 d3 d4 d5 c0 c1 c2 c3
  all_goals first
   | exact .inl ⟨by simp_all,rfl⟩
   | exact .inr ⟨by simp_all,by decide⟩
end
end Go.Proofs.YtbogfailbgbdoaaGreatDoor.K
