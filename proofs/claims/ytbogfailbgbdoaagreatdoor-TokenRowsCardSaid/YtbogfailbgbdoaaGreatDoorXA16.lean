/- Part 16. -/
import Derived.Test.YtbogfailbgbdoaaGreatDoorXA15
set_option linter.unusedVariables false
set_option linter.unusedSimpArgs false
namespace Go.Proofs.YtbogfailbgbdoaaGreatDoor.K
set_option maxRecDepth 100000
section
open Go.RowKit Go.Proofs.YtbogfailbgbdoaaGreatDoor U
theorem txt_bts (s:ByteArray):txt (bts s)=s:=by
 have:(bts s).map UInt8.ofNat=s.data.toList:=by
  unfold bts
  rw [List.map_map]
  conv=>rhs;rw [←List.map_id s.data.toList]
  refine List.map_congr_left fun x _=>?_
  simp
 unfold txt u8L
 rw [this]
theorem scan_str (ys:List Nat) (S:ByteArray) (n:Nat) (hS:S=txt ys) (hn:ys.length=n) (hb:Bs ys) (hl:n≤1000000):∃ (NEW:World→World) (CAP:World→Nat),(∀ W,(convert 9 22 (.string S)).run Tryz.prog W = .ok (.slice (some ⟨W.heap.size,0,none⟩) n (CAP W)) (NEW W))∧
  ∀ W,TT W→Calls Tryz.prog 10 #[.slice (some ⟨W.heap.size,0,none⟩) n (CAP W)] (NEW W) fun e w'=>ScTo (scP ys) W e w':=by
 have hz:S.size=n:=by rw [hS,txt_size,hn]
 have hbt:bts S=ys:=by rw [hS];exact bts_txt hb
 obtain ⟨NEW,CAP,hcvt,hnb,hnl⟩:=text_run S (by omega)
 rw [hbt] at hnl
 rw [hz] at hcvt
 refine ⟨NEW,CAP,hcvt,fun W hW=>?_⟩
 have K:=scan_any (some ⟨W.heap.size,0,none⟩) (CAP W) ys (NEW W) (hnl W) (by omega) (hW.grow (hnb W))
 rw [hn] at K
 have hsz:=(hnb W).size
 refine K.mono ?_
 rintro e w' ⟨h1,h2⟩
 refine ⟨(hnb W).trans (h1.mono hsz),?_⟩
 rcases hr:scP ys with ⟨a,er⟩ | x
 ·rw [hr] at h2;exact h2
 ·rw [hr] at h2
  obtain ⟨a,n,c,m,e1,e2,e3⟩:=h2
  exact ⟨a,n,c,m,e1,e2,e3.mono hsz⟩
theorem at_some {α : Type} {l:List α} {i:Nat} (h:i<l.length):∃ x,l[i]? = some x:=⟨_,List.getElem?_eq_getElem h⟩
theorem fst_at {m:List Tkm} {l:Tks0} (h:m.map Prod.fst=l) {i:Nat} {x:Tkm} {y:Tk × Nat} (hx:m[i]? = some x) (hy:l[i]? = some y):x.1=y:=by
 rw [←h,List.getElem?_map,hx] at hy
 injection hy
def Q3 (W:World) (s0 s1:ByteArray) (k:Nat) (a:Option Addr):Prop:=
 ∃ g g1 cc,a=some ⟨g,0,none⟩∧W.cell? ⟨g,3,none⟩=some (.slice (some ⟨g1,0,none⟩) 1 cc)∧W.cell? ⟨g1,1,none⟩=some (.string s0)∧(k=3→W.cell? ⟨g,8,none⟩=some (.string s1))
theorem quote_str (q:Nat) (hq:q=39∨q=34) (V T:List Nat) (h:q∉esc true V) (hbV:Bs V) (hbT:Bs T) (haV:al charP V 0=none) (haT:al charP T 0=none) (h1:V.length≤1000) (h2:T.length≤1000) (S:ByteArray) (hS:S=txt (quoteL q V T)) :
  ∃ (NEW:World→World) (CAP:World→Nat) (n:Nat),(∀ W,(convert 9 22 (.string S)).run Tryz.prog W = .ok (.slice (some ⟨W.heap.size,0,none⟩) n (CAP W)) (NEW W))∧
   ∀ W,TT W→Calls Tryz.prog 10 #[.slice (some ⟨W.heap.size,0,none⟩) n (CAP W)] (NEW W) fun e w'=>Below W.heap.size W w'∧∃ a c,e = .returned (.tuple #[.slice a (if T=[] then 2 else 3) c,.int .i64 0,.int .i64 0])∧Q3 w' (txt V) (txt T) (if T=[] then 2 else 3) a:=by
 have e1:=esc_len true V
 have e2:=esc_len false T
 have hbL:Bs (quoteL q V T):=by
  have bV:=esc_bs (q:=true) hbV
  have bT:=esc_bs (q:=false) hbT
  intro x hx
  unfold quoteL at hx
  simp only [List.mem_cons,List.mem_append,List.not_mem_nil,or_false] at hx
  rcases hx with e | e | e | e | e | e | e | e | e | e | e | e | e | e
  all_goals first
   | exact bV x e
   | exact bT x e
   | omega
 obtain ⟨n,hn⟩:∃ n,(quoteL q V T).length=n:=⟨_,rfl⟩
 have hnl:n≤1000000:=by
  rw [←hn];unfold quoteL
  simp only [List.length_cons,List.length_append,List.length_nil]
  omega
 obtain ⟨NEW,CAP,hcv,hk⟩:=scan_str (quoteL q V T) S n hS hn hbL hnl
 refine ⟨NEW,CAP,n,hcv,fun W hW=>?_⟩
 obtain ⟨pa,pb,hsc⟩:=quotes_plain hq h hbV hbT haV haT
 have K:=hk W hW
 rw [hsc] at K
 refine K.mono ?_
 rintro e w' ⟨hb,a,n3,c3,m,rfl,hm,htk⟩
 obtain ⟨hnm,hg⟩:=htk.at
 have hml:m.length=if T=[] then 2 else 3:=by
  have:=congrArg List.length hm
  rw [List.length_map] at this
  rw [this]
  by_cases hT:T=[]
  ·simp [hT]
  ·simp [hT]
 have hm0:m≠[]:=by
  intro e;rw [e] at hml;simp at hml;split at hml <;> omega
 obtain ⟨g,rfl,hgB,h6⟩:=hg hm0
 have hn3:n3=if T=[] then 2 else 3:=by rw [hnm,hml]
 subst hn3
 obtain ⟨y0,hy0⟩:=at_some (l:=m) (i:=0) (by by_cases hT:T=[] <;> simp [hml,hT])
 have f0:y0.1=(⟨5,[97],[],[([98],V)],false⟩,0):=fst_at hm hy0 rfl
 have x0:=hy0
 have hat:=(htk.av _ (List.mem_of_getElem? x0)).1
 rw [f0] at hat
 obtain ⟨a1,cc,hv,h1'⟩:=hat.at
 obtain ⟨g1,rfl,_,h2'⟩:=h1' (by simp)
 have c3':=(h6 0 _ x0).a
 rw [hv] at c3'
 have y1:=(h2' 0 _ rfl).2
 refine ⟨hb,some ⟨g,0,none⟩,c3,rfl,g,g1,cc,rfl,c3',y1,fun h3=>?_⟩
 have hT:T≠[]:=fun e=>by rw [if_pos e] at h3;omega
 rw [if_neg hT] at hml
 obtain ⟨z1,x1⟩:=at_some (l:=m) (i:=1) (by omega)
 have f1:z1.1=(⟨4,[],T,[],false⟩,pa):=fst_at hm x1 (by rw [if_neg hT];rfl)
 have c8:=(h6 1 _ x1).t
 rw [f1] at c8
 exact c8
theorem raw_str (T:List Nat) (hb:Bs T) (ha:al charP T 0=none) (h13:13∉T) (h:ix [93,93,62] T=none) (h1:T.length≤1000) (S:ByteArray) (hS:S=txt ([60,33,91,67,68,65,84,65,91]++(T++[93,93,62]))) :
  ∃ (NEW:World→World) (CAP:World→Nat) (n:Nat),(∀ W,(convert 9 22 (.string S)).run Tryz.prog W = .ok (.slice (some ⟨W.heap.size,0,none⟩) n (CAP W)) (NEW W))∧
   ∀ W,TT W→Calls Tryz.prog 10 #[.slice (some ⟨W.heap.size,0,none⟩) n (CAP W)] (NEW W) fun e w'=>Below W.heap.size W w'∧∃ g c,e = .returned (.tuple #[.slice (some ⟨g,0,none⟩) 1 c,.int .i64 0,.int .i64 0])∧w'.cell? ⟨g,0,none⟩=some (.int .i64 4)∧w'.cell? ⟨g,2,none⟩=some (.string (txt T)):=by
 obtain ⟨L,hL⟩:∃ L,L=[60,33,91,67,68,65,84,65,91]++(T++[93,93,62]):=⟨_,rfl⟩
 have hsc:=raw_plain hb ha h13 h
 rw [←hL] at hS hsc
 have hbL:Bs L:=by
  rw [hL];intro x hx
  rcases List.mem_append.1 hx with e | e
  ·exact (bs_l _ (by decide)) x e
  ·rcases List.mem_append.1 e with e | e
   ·exact hb x e
   ·exact (bs_l _ (by decide)) x e
 obtain ⟨NEW,CAP,hcv,hk⟩:=scan_str L S L.length hS rfl hbL (by rw [hL];simp;omega)
 refine ⟨NEW,CAP,L.length,hcv,fun W hW=>?_⟩
 have K:=hk W hW
 rw [hsc] at K
 refine K.mono ?_
 rintro e w' ⟨hb,a,n3,c3,m,rfl,hm,htk⟩
 obtain ⟨hnm,hg⟩:=htk.at
 match m,hm with
 | [(t,v)],hm=>
  simp only [List.map_cons,List.map_nil,List.cons.injEq,and_true] at hm
  subst hm
  obtain ⟨g,rfl,hgB,h6⟩:=hg (by simp)
  have x0:=h6 0 _ rfl
  exact ⟨hb,g,c3,by rw [hnm];rfl,x0.k,x0.t⟩
set_option maxHeartbeats 12800000 in
theorem quotes_34 (s0 s1 V E:ByteArray) (xs1:List Nat) (w:World) (n k:Nat) (NEW:World→World) (CAP:World→Nat) (hk:k=if s1.toList.isEmpty=true then 2 else 3)
  (h0:¬(1000:Int)<s0.size) (h1:¬(1000:Int)<s1.size) (hV:V.size≤6000) (hE:E.size≤6000) (hT:Hid (∀ W,Below w.heap.size w W→TT W))
  (KA:Hid (Calls Tryz.prog 8 #[] w fun e w'=>e = .returned (.bool true)∧Below w.heap.size w w'))
  (KEa:Hid (∀ W,TT W→Calls Tryz.prog 18 #[.string s0,.bool true] W fun e w'=>e = .returned (.tuple #[.string V,.bool true])∧Below W.heap.size W w'))
  (KEb:Hid (∀ W,TT W→Calls Tryz.prog 18 #[.string s1,.bool false] W fun e w'=>e = .returned (.tuple #[.string E,.bool true])∧Below W.heap.size W w'))
  (hcv:∀ W,(convert 9 22 (.string (⟨#[60,97,32,98,32,61,32]⟩++⟨#[34]⟩++V++⟨#[34]⟩++⟨#[32,62]⟩++E++⟨#[60,47,97,10,62]⟩))).run Tryz.prog W = .ok (.slice (some ⟨W.heap.size,0,none⟩) n (CAP W)) (NEW W))
  (KQ:Hid (∀ W,TT W→Calls Tryz.prog 10 #[.slice (some ⟨W.heap.size,0,none⟩) n (CAP W)] (NEW W) fun e w'=>Below W.heap.size W w'∧∃ a c,e = .returned (.tuple #[.slice a k c,.int .i64 0,.int .i64 0])∧Q3 w' s0 s1 k a))
  (KIb:Hid (∀ W,Calls Tryz.prog 17 #[.string s1,.string ⟨#[93,93,62]⟩] W fun e w'=>e = .returned (.bool (ix [93,93,62] xs1).isSome)∧w'=W))
  (KIc:Hid (∀ W,Calls Tryz.prog 17 #[.string s1,.string ⟨#[13]⟩] W fun e w'=>e = .returned (.bool (ix [13] xs1).isSome)∧w'=W))
  (HRAW:Hid (13∉xs1→ix [93,93,62] xs1=none→∃ (NEW:World→World) (CAP:World→Nat) (n:Nat),(∀ W,(convert 9 22 (.string (⟨#[60,33,91,67,68,65,84,65,91]⟩++s1++⟨#[93,93,62]⟩))).run Tryz.prog W = .ok (.slice (some ⟨W.heap.size,0,none⟩) n (CAP W)) (NEW W))∧
   ∀ W,TT W→Calls Tryz.prog 10 #[.slice (some ⟨W.heap.size,0,none⟩) n (CAP W)] (NEW W) fun e w'=>Below W.heap.size W w'∧∃ g c,e = .returned (.tuple #[.slice (some ⟨g,0,none⟩) 1 c,.int .i64 0,.int .i64 0])∧w'.cell? ⟨g,0,none⟩=some (.int .i64 4)∧w'.cell? ⟨g,2,none⟩=some (.string s1))) :
  Calls Tryz.prog 5 #[.string s0,.string s1,.bool false] w fun e w'=>e = .returned (.bool true)∧Below w.heap.size w w':=by
 have HT:=hT
 clear hT
 cases hTe:s1.toList.isEmpty with
 | true=>
  rw [hTe] at hk
  simp only [if_true] at hk
  subst hk
  go_enter Tryz.func5,Tryz.ntmps5
  go_upto_region 18 with (first
   | (go_at_call 8;(with_reducible refine KA.out.mono ?_);rintro e w1 ⟨rfl,hb⟩;have HB1:=Lib.hid hb;clear hb)
   | (go_at_call 18;(with_reducible refine (KEa.out w1 (HT.out w1 HB1.out)).mono ?_);rintro e w2 ⟨rfl,hb⟩;have HB2:=Lib.hid (HB1.out.trans (hb.mono HB1.out.size));clear hb)
   | (go_at_call 18;(with_reducible refine (KEb.out w2 (HT.out w2 HB2.out)).mono ?_);rintro e w3 ⟨rfl,hb⟩;have HB3:=Lib.hid (HB2.out.trans (hb.mono HB2.out.size));clear hb)
   | (go_at_call 10;(with_reducible refine (KQ.out _ (HT.out _ HB3.out)).mono ?_);rintro e w5 ⟨hb,a5,c5,rfl,hq5⟩;have HB5:=Lib.hid (HB3.out.trans (hb.mono HB3.out.size));obtain ⟨g5,g6,cc5,rfl,q1,q2,q3⟩:=hq5;clear q3;clear hb))
  all_goals try (exfalso;omega)
  rcases hr1:ix [93,93,62] xs1 with _ | i1
  ·rw [hr1] at KIb
   have KIb:Hid (∀ W,Calls Tryz.prog 17 #[.string s1,.string ⟨#[93,93,62]⟩] W fun e w'=>e = .returned (.bool false)∧w'=W):=KIb
   rcases hr2:ix [13] xs1 with _ | i2
   ·rw [hr2] at KIc
    have KIc:Hid (∀ W,Calls Tryz.prog 17 #[.string s1,.string ⟨#[13]⟩] W fun e w'=>e = .returned (.bool false)∧w'=W):=KIc
    obtain ⟨NEW2,CAP2,n2,hcv2,hk2⟩:=HRAW.out (ix1_none.1 hr2) hr1
    have KR:=Lib.hid hk2
    clear hr1 hr2 hk2 HRAW
    go_wp2_with (first
     | (go_at_call 17;(with_reducible refine (KIb.out _).mono ?_);rintro e w6 ⟨rfl,rfl⟩)
     | (go_at_call 17;(with_reducible refine (KIc.out _).mono ?_);rintro e w7 ⟨rfl,rfl⟩)
     | (go_at_call 10;(with_reducible refine (KR.out _ (HT.out _ HB5.out)).mono ?_);rintro e w8 ⟨hb,g8,c8,rfl,hk8,ht8⟩;have HB8:=Lib.hid (HB5.out.trans (hb.mono HB5.out.size));clear hb))
    all_goals try (exfalso;omega)
    go_ret
    exact ⟨rfl,HB8.out⟩
   ·rw [hr2] at KIc
    have KIc:Hid (∀ W,Calls Tryz.prog 17 #[.string s1,.string ⟨#[13]⟩] W fun e w'=>e = .returned (.bool true)∧w'=W):=KIc
    clear hr1 hr2 HRAW
    go_wp2_with (first
     | (go_at_call 17;(with_reducible refine (KIb.out _).mono ?_);rintro e w6 ⟨rfl,rfl⟩)
     | (go_at_call 17;(with_reducible refine (KIc.out _).mono ?_);rintro e w7 ⟨rfl,rfl⟩))
    go_ret
    exact ⟨rfl,HB5.out⟩
  ·rw [hr1] at KIb
   have KIb:Hid (∀ W,Calls Tryz.prog 17 #[.string s1,.string ⟨#[93,93,62]⟩] W fun e w'=>e = .returned (.bool true)∧w'=W):=KIb
   clear hr1 HRAW
   go_wp2_with (go_at_call 17;(with_reducible refine (KIb.out _).mono ?_);rintro e w6 ⟨rfl,rfl⟩)
   go_ret
   exact ⟨rfl,HB5.out⟩
 | false=>
  rw [hTe] at hk
  simp only [Bool.false_eq_true,if_false] at hk
  subst hk
  go_enter Tryz.func5,Tryz.ntmps5
  go_upto_region 18 with (first
   | (go_at_call 8;(with_reducible refine KA.out.mono ?_);rintro e w1 ⟨rfl,hb⟩;have HB1:=Lib.hid hb;clear hb)
   | (go_at_call 18;(with_reducible refine (KEa.out w1 (HT.out w1 HB1.out)).mono ?_);rintro e w2 ⟨rfl,hb⟩;have HB2:=Lib.hid (HB1.out.trans (hb.mono HB1.out.size));clear hb)
   | (go_at_call 18;(with_reducible refine (KEb.out w2 (HT.out w2 HB2.out)).mono ?_);rintro e w3 ⟨rfl,hb⟩;have HB3:=Lib.hid (HB2.out.trans (hb.mono HB2.out.size));clear hb)
   | (go_at_call 10;(with_reducible refine (KQ.out _ (HT.out _ HB3.out)).mono ?_);rintro e w5 ⟨hb,a5,c5,rfl,hq5⟩;have HB5:=Lib.hid (HB3.out.trans (hb.mono HB3.out.size));obtain ⟨g5,g6,cc5,rfl,q1,q2,q3⟩:=hq5;have q3:=q3 rfl;clear hb))
  all_goals try (exfalso;omega)
  rcases hr1:ix [93,93,62] xs1 with _ | i1
  ·rw [hr1] at KIb
   have KIb:Hid (∀ W,Calls Tryz.prog 17 #[.string s1,.string ⟨#[93,93,62]⟩] W fun e w'=>e = .returned (.bool false)∧w'=W):=KIb
   rcases hr2:ix [13] xs1 with _ | i2
   ·rw [hr2] at KIc
    have KIc:Hid (∀ W,Calls Tryz.prog 17 #[.string s1,.string ⟨#[13]⟩] W fun e w'=>e = .returned (.bool false)∧w'=W):=KIc
    obtain ⟨NEW2,CAP2,n2,hcv2,hk2⟩:=HRAW.out (ix1_none.1 hr2) hr1
    have KR:=Lib.hid hk2
    clear hr1 hr2 hk2 HRAW
    go_wp2_with (first
     | (go_at_call 17;(with_reducible refine (KIb.out _).mono ?_);rintro e w6 ⟨rfl,rfl⟩)
     | (go_at_call 17;(with_reducible refine (KIc.out _).mono ?_);rintro e w7 ⟨rfl,rfl⟩)
     | (go_at_call 10;(with_reducible refine (KR.out _ (HT.out _ HB5.out)).mono ?_);rintro e w8 ⟨hb,g8,c8,rfl,hk8,ht8⟩;have HB8:=Lib.hid (HB5.out.trans (hb.mono HB5.out.size));clear hb))
    all_goals try (exfalso;omega)
    go_ret
    exact ⟨rfl,HB8.out⟩
   ·rw [hr2] at KIc
    have KIc:Hid (∀ W,Calls Tryz.prog 17 #[.string s1,.string ⟨#[13]⟩] W fun e w'=>e = .returned (.bool true)∧w'=W):=KIc
    clear hr1 hr2 HRAW
    go_wp2_with (first
     | (go_at_call 17;(with_reducible refine (KIb.out _).mono ?_);rintro e w6 ⟨rfl,rfl⟩)
     | (go_at_call 17;(with_reducible refine (KIc.out _).mono ?_);rintro e w7 ⟨rfl,rfl⟩))
    go_ret
    exact ⟨rfl,HB5.out⟩
  ·rw [hr1] at KIb
   have KIb:Hid (∀ W,Calls Tryz.prog 17 #[.string s1,.string ⟨#[93,93,62]⟩] W fun e w'=>e = .returned (.bool true)∧w'=W):=KIb
   clear hr1 HRAW
   go_wp2_with (go_at_call 17;(with_reducible refine (KIb.out _).mono ?_);rintro e w6 ⟨rfl,rfl⟩)
   go_ret
   exact ⟨rfl,HB5.out⟩
set_option maxHeartbeats 12800000 in
theorem quotes_34s (s0 s1 V E:ByteArray) (xs1:List Nat) (w:World) (n k:Nat) (NEW:World→World) (CAP:World→Nat) (hk:k=if s1.toList.isEmpty=true then 2 else 3)
  (h0:¬(1000:Int)<s0.size) (h1:¬(1000:Int)<s1.size) (hV:V.size≤6000) (hE:E.size≤6000) (hT:Hid (∀ W,Below w.heap.size w W→TT W))
  (KA:Hid (Calls Tryz.prog 8 #[] w fun e w'=>e = .returned (.bool true)∧Below w.heap.size w w'))
  (KEa:Hid (∀ W,TT W→Calls Tryz.prog 18 #[.string s0,.bool true] W fun e w'=>e = .returned (.tuple #[.string V,.bool true])∧Below W.heap.size W w'))
  (KEb:Hid (∀ W,TT W→Calls Tryz.prog 18 #[.string s1,.bool false] W fun e w'=>e = .returned (.tuple #[.string E,.bool true])∧Below W.heap.size W w'))
  (KIa:Hid (∀ W,Calls Tryz.prog 17 #[.string s0,.string ⟨#[39]⟩] W fun e w'=>e = .returned (.bool true)∧w'=W))
  (hcv:∀ W,(convert 9 22 (.string (⟨#[60,97,32,98,32,61,32]⟩++⟨#[34]⟩++V++⟨#[34]⟩++⟨#[32,62]⟩++E++⟨#[60,47,97,10,62]⟩))).run Tryz.prog W = .ok (.slice (some ⟨W.heap.size,0,none⟩) n (CAP W)) (NEW W))
  (KQ:Hid (∀ W,TT W→Calls Tryz.prog 10 #[.slice (some ⟨W.heap.size,0,none⟩) n (CAP W)] (NEW W) fun e w'=>Below W.heap.size W w'∧∃ a c,e = .returned (.tuple #[.slice a k c,.int .i64 0,.int .i64 0])∧Q3 w' s0 s1 k a))
  (KIb:Hid (∀ W,Calls Tryz.prog 17 #[.string s1,.string ⟨#[93,93,62]⟩] W fun e w'=>e = .returned (.bool (ix [93,93,62] xs1).isSome)∧w'=W))
  (KIc:Hid (∀ W,Calls Tryz.prog 17 #[.string s1,.string ⟨#[13]⟩] W fun e w'=>e = .returned (.bool (ix [13] xs1).isSome)∧w'=W))
  (HRAW:Hid (13∉xs1→ix [93,93,62] xs1=none→∃ (NEW:World→World) (CAP:World→Nat) (n:Nat),(∀ W,(convert 9 22 (.string (⟨#[60,33,91,67,68,65,84,65,91]⟩++s1++⟨#[93,93,62]⟩))).run Tryz.prog W = .ok (.slice (some ⟨W.heap.size,0,none⟩) n (CAP W)) (NEW W))∧
   ∀ W,TT W→Calls Tryz.prog 10 #[.slice (some ⟨W.heap.size,0,none⟩) n (CAP W)] (NEW W) fun e w'=>Below W.heap.size W w'∧∃ g c,e = .returned (.tuple #[.slice (some ⟨g,0,none⟩) 1 c,.int .i64 0,.int .i64 0])∧w'.cell? ⟨g,0,none⟩=some (.int .i64 4)∧w'.cell? ⟨g,2,none⟩=some (.string s1))) :
  Calls Tryz.prog 5 #[.string s0,.string s1,.bool true] w fun e w'=>e = .returned (.bool true)∧Below w.heap.size w w':=by
 have HT:=hT
 clear hT
 cases hTe:s1.toList.isEmpty with
 | true=>
  rw [hTe] at hk
  simp only [if_true] at hk
  subst hk
  go_enter Tryz.func5,Tryz.ntmps5
  go_upto_region 18 with (first
   | (go_at_call 8;(with_reducible refine KA.out.mono ?_);rintro e w1 ⟨rfl,hb⟩;have HB1:=Lib.hid hb;clear hb)
   | (go_at_call 18;(with_reducible refine (KEa.out w1 (HT.out w1 HB1.out)).mono ?_);rintro e w2 ⟨rfl,hb⟩;have HB2:=Lib.hid (HB1.out.trans (hb.mono HB1.out.size));clear hb)
   | (go_at_call 18;(with_reducible refine (KEb.out w2 (HT.out w2 HB2.out)).mono ?_);rintro e w3 ⟨rfl,hb⟩;have HB3:=Lib.hid (HB2.out.trans (hb.mono HB2.out.size));clear hb)
   | (go_at_call 17;(with_reducible refine (KIa.out _).mono ?_);rintro e w4 ⟨rfl,rfl⟩)
   | (go_at_call 10;(with_reducible refine (KQ.out _ (HT.out _ HB3.out)).mono ?_);rintro e w5 ⟨hb,a5,c5,rfl,hq5⟩;have HB5:=Lib.hid (HB3.out.trans (hb.mono HB3.out.size));obtain ⟨g5,g6,cc5,rfl,q1,q2,q3⟩:=hq5;clear q3;clear hb))
  all_goals try (exfalso;omega)
  rcases hr1:ix [93,93,62] xs1 with _ | i1
  ·rw [hr1] at KIb
   have KIb:Hid (∀ W,Calls Tryz.prog 17 #[.string s1,.string ⟨#[93,93,62]⟩] W fun e w'=>e = .returned (.bool false)∧w'=W):=KIb
   rcases hr2:ix [13] xs1 with _ | i2
   ·rw [hr2] at KIc
    have KIc:Hid (∀ W,Calls Tryz.prog 17 #[.string s1,.string ⟨#[13]⟩] W fun e w'=>e = .returned (.bool false)∧w'=W):=KIc
    obtain ⟨NEW2,CAP2,n2,hcv2,hk2⟩:=HRAW.out (ix1_none.1 hr2) hr1
    have KR:=Lib.hid hk2
    clear hr1 hr2 hk2 HRAW
    go_wp2_with (first
     | (go_at_call 17;(with_reducible refine (KIb.out _).mono ?_);rintro e w6 ⟨rfl,rfl⟩)
     | (go_at_call 17;(with_reducible refine (KIc.out _).mono ?_);rintro e w7 ⟨rfl,rfl⟩)
     | (go_at_call 10;(with_reducible refine (KR.out _ (HT.out _ HB5.out)).mono ?_);rintro e w8 ⟨hb,g8,c8,rfl,hk8,ht8⟩;have HB8:=Lib.hid (HB5.out.trans (hb.mono HB5.out.size));clear hb))
    all_goals try (exfalso;omega)
    go_ret
    exact ⟨rfl,HB8.out⟩
   ·rw [hr2] at KIc
    have KIc:Hid (∀ W,Calls Tryz.prog 17 #[.string s1,.string ⟨#[13]⟩] W fun e w'=>e = .returned (.bool true)∧w'=W):=KIc
    clear hr1 hr2 HRAW
    go_wp2_with (first
     | (go_at_call 17;(with_reducible refine (KIb.out _).mono ?_);rintro e w6 ⟨rfl,rfl⟩)
     | (go_at_call 17;(with_reducible refine (KIc.out _).mono ?_);rintro e w7 ⟨rfl,rfl⟩))
    go_ret
    exact ⟨rfl,HB5.out⟩
  ·rw [hr1] at KIb
   have KIb:Hid (∀ W,Calls Tryz.prog 17 #[.string s1,.string ⟨#[93,93,62]⟩] W fun e w'=>e = .returned (.bool true)∧w'=W):=KIb
   clear hr1 HRAW
   go_wp2_with (go_at_call 17;(with_reducible refine (KIb.out _).mono ?_);rintro e w6 ⟨rfl,rfl⟩)
   go_ret
   exact ⟨rfl,HB5.out⟩
 | false=>
  rw [hTe] at hk
  simp only [Bool.false_eq_true,if_false] at hk
  subst hk
  go_enter Tryz.func5,Tryz.ntmps5
  go_upto_region 18 with (first
   | (go_at_call 8;(with_reducible refine KA.out.mono ?_);rintro e w1 ⟨rfl,hb⟩;have HB1:=Lib.hid hb;clear hb)
   | (go_at_call 18;(with_reducible refine (KEa.out w1 (HT.out w1 HB1.out)).mono ?_);rintro e w2 ⟨rfl,hb⟩;have HB2:=Lib.hid (HB1.out.trans (hb.mono HB1.out.size));clear hb)
   | (go_at_call 18;(with_reducible refine (KEb.out w2 (HT.out w2 HB2.out)).mono ?_);rintro e w3 ⟨rfl,hb⟩;have HB3:=Lib.hid (HB2.out.trans (hb.mono HB2.out.size));clear hb)
   | (go_at_call 17;(with_reducible refine (KIa.out _).mono ?_);rintro e w4 ⟨rfl,rfl⟩)
   | (go_at_call 10;(with_reducible refine (KQ.out _ (HT.out _ HB3.out)).mono ?_);rintro e w5 ⟨hb,a5,c5,rfl,hq5⟩;have HB5:=Lib.hid (HB3.out.trans (hb.mono HB3.out.size));obtain ⟨g5,g6,cc5,rfl,q1,q2,q3⟩:=hq5;have q3:=q3 rfl;clear hb))
  all_goals try (exfalso;omega)
  rcases hr1:ix [93,93,62] xs1 with _ | i1
  ·rw [hr1] at KIb
   have KIb:Hid (∀ W,Calls Tryz.prog 17 #[.string s1,.string ⟨#[93,93,62]⟩] W fun e w'=>e = .returned (.bool false)∧w'=W):=KIb
   rcases hr2:ix [13] xs1 with _ | i2
   ·rw [hr2] at KIc
    have KIc:Hid (∀ W,Calls Tryz.prog 17 #[.string s1,.string ⟨#[13]⟩] W fun e w'=>e = .returned (.bool false)∧w'=W):=KIc
    obtain ⟨NEW2,CAP2,n2,hcv2,hk2⟩:=HRAW.out (ix1_none.1 hr2) hr1
    have KR:=Lib.hid hk2
    clear hr1 hr2 hk2 HRAW
    go_wp2_with (first
     | (go_at_call 17;(with_reducible refine (KIb.out _).mono ?_);rintro e w6 ⟨rfl,rfl⟩)
     | (go_at_call 17;(with_reducible refine (KIc.out _).mono ?_);rintro e w7 ⟨rfl,rfl⟩)
     | (go_at_call 10;(with_reducible refine (KR.out _ (HT.out _ HB5.out)).mono ?_);rintro e w8 ⟨hb,g8,c8,rfl,hk8,ht8⟩;have HB8:=Lib.hid (HB5.out.trans (hb.mono HB5.out.size));clear hb))
    all_goals try (exfalso;omega)
    go_ret
    exact ⟨rfl,HB8.out⟩
   ·rw [hr2] at KIc
    have KIc:Hid (∀ W,Calls Tryz.prog 17 #[.string s1,.string ⟨#[13]⟩] W fun e w'=>e = .returned (.bool true)∧w'=W):=KIc
    clear hr1 hr2 HRAW
    go_wp2_with (first
     | (go_at_call 17;(with_reducible refine (KIb.out _).mono ?_);rintro e w6 ⟨rfl,rfl⟩)
     | (go_at_call 17;(with_reducible refine (KIc.out _).mono ?_);rintro e w7 ⟨rfl,rfl⟩))
    go_ret
    exact ⟨rfl,HB5.out⟩
  ·rw [hr1] at KIb
   have KIb:Hid (∀ W,Calls Tryz.prog 17 #[.string s1,.string ⟨#[93,93,62]⟩] W fun e w'=>e = .returned (.bool true)∧w'=W):=KIb
   clear hr1 HRAW
   go_wp2_with (go_at_call 17;(with_reducible refine (KIb.out _).mono ?_);rintro e w6 ⟨rfl,rfl⟩)
   go_ret
   exact ⟨rfl,HB5.out⟩
set_option maxHeartbeats 12800000 in
theorem quotes_39 (s0 s1 V E:ByteArray) (xs1:List Nat) (w:World) (n k:Nat) (NEW:World→World) (CAP:World→Nat) (hk:k=if s1.toList.isEmpty=true then 2 else 3)
  (h0:¬(1000:Int)<s0.size) (h1:¬(1000:Int)<s1.size) (hV:V.size≤6000) (hE:E.size≤6000) (hT:Hid (∀ W,Below w.heap.size w W→TT W))
  (KA:Hid (Calls Tryz.prog 8 #[] w fun e w'=>e = .returned (.bool true)∧Below w.heap.size w w'))
  (KEa:Hid (∀ W,TT W→Calls Tryz.prog 18 #[.string s0,.bool true] W fun e w'=>e = .returned (.tuple #[.string V,.bool true])∧Below W.heap.size W w'))
  (KEb:Hid (∀ W,TT W→Calls Tryz.prog 18 #[.string s1,.bool false] W fun e w'=>e = .returned (.tuple #[.string E,.bool true])∧Below W.heap.size W w'))
  (KIa:Hid (∀ W,Calls Tryz.prog 17 #[.string s0,.string ⟨#[39]⟩] W fun e w'=>e = .returned (.bool false)∧w'=W))
  (hcv:∀ W,(convert 9 22 (.string (⟨#[60,97,32,98,32,61,32]⟩++⟨#[39]⟩++V++⟨#[39]⟩++⟨#[32,62]⟩++E++⟨#[60,47,97,10,62]⟩))).run Tryz.prog W = .ok (.slice (some ⟨W.heap.size,0,none⟩) n (CAP W)) (NEW W))
  (KQ:Hid (∀ W,TT W→Calls Tryz.prog 10 #[.slice (some ⟨W.heap.size,0,none⟩) n (CAP W)] (NEW W) fun e w'=>Below W.heap.size W w'∧∃ a c,e = .returned (.tuple #[.slice a k c,.int .i64 0,.int .i64 0])∧Q3 w' s0 s1 k a))
  (KIb:Hid (∀ W,Calls Tryz.prog 17 #[.string s1,.string ⟨#[93,93,62]⟩] W fun e w'=>e = .returned (.bool (ix [93,93,62] xs1).isSome)∧w'=W))
  (KIc:Hid (∀ W,Calls Tryz.prog 17 #[.string s1,.string ⟨#[13]⟩] W fun e w'=>e = .returned (.bool (ix [13] xs1).isSome)∧w'=W))
  (HRAW:Hid (13∉xs1→ix [93,93,62] xs1=none→∃ (NEW:World→World) (CAP:World→Nat) (n:Nat),(∀ W,(convert 9 22 (.string (⟨#[60,33,91,67,68,65,84,65,91]⟩++s1++⟨#[93,93,62]⟩))).run Tryz.prog W = .ok (.slice (some ⟨W.heap.size,0,none⟩) n (CAP W)) (NEW W))∧
   ∀ W,TT W→Calls Tryz.prog 10 #[.slice (some ⟨W.heap.size,0,none⟩) n (CAP W)] (NEW W) fun e w'=>Below W.heap.size W w'∧∃ g c,e = .returned (.tuple #[.slice (some ⟨g,0,none⟩) 1 c,.int .i64 0,.int .i64 0])∧w'.cell? ⟨g,0,none⟩=some (.int .i64 4)∧w'.cell? ⟨g,2,none⟩=some (.string s1))) :
  Calls Tryz.prog 5 #[.string s0,.string s1,.bool true] w fun e w'=>e = .returned (.bool true)∧Below w.heap.size w w':=by
 have HT:=hT
 clear hT
 cases hTe:s1.toList.isEmpty with
 | true=>
  rw [hTe] at hk
  simp only [if_true] at hk
  subst hk
  go_enter Tryz.func5,Tryz.ntmps5
  go_upto_region 18 with (first
   | (go_at_call 8;(with_reducible refine KA.out.mono ?_);rintro e w1 ⟨rfl,hb⟩;have HB1:=Lib.hid hb;clear hb)
   | (go_at_call 18;(with_reducible refine (KEa.out w1 (HT.out w1 HB1.out)).mono ?_);rintro e w2 ⟨rfl,hb⟩;have HB2:=Lib.hid (HB1.out.trans (hb.mono HB1.out.size));clear hb)
   | (go_at_call 18;(with_reducible refine (KEb.out w2 (HT.out w2 HB2.out)).mono ?_);rintro e w3 ⟨rfl,hb⟩;have HB3:=Lib.hid (HB2.out.trans (hb.mono HB2.out.size));clear hb)
   | (go_at_call 17;(with_reducible refine (KIa.out _).mono ?_);rintro e w4 ⟨rfl,rfl⟩)
   | (go_at_call 10;(with_reducible refine (KQ.out _ (HT.out _ HB3.out)).mono ?_);rintro e w5 ⟨hb,a5,c5,rfl,hq5⟩;have HB5:=Lib.hid (HB3.out.trans (hb.mono HB3.out.size));obtain ⟨g5,g6,cc5,rfl,q1,q2,q3⟩:=hq5;clear q3;clear hb))
  all_goals try (exfalso;omega)
  rcases hr1:ix [93,93,62] xs1 with _ | i1
  ·rw [hr1] at KIb
   have KIb:Hid (∀ W,Calls Tryz.prog 17 #[.string s1,.string ⟨#[93,93,62]⟩] W fun e w'=>e = .returned (.bool false)∧w'=W):=KIb
   rcases hr2:ix [13] xs1 with _ | i2
   ·rw [hr2] at KIc
    have KIc:Hid (∀ W,Calls Tryz.prog 17 #[.string s1,.string ⟨#[13]⟩] W fun e w'=>e = .returned (.bool false)∧w'=W):=KIc
    obtain ⟨NEW2,CAP2,n2,hcv2,hk2⟩:=HRAW.out (ix1_none.1 hr2) hr1
    have KR:=Lib.hid hk2
    clear hr1 hr2 hk2 HRAW
    go_wp2_with (first
     | (go_at_call 17;(with_reducible refine (KIb.out _).mono ?_);rintro e w6 ⟨rfl,rfl⟩)
     | (go_at_call 17;(with_reducible refine (KIc.out _).mono ?_);rintro e w7 ⟨rfl,rfl⟩)
     | (go_at_call 10;(with_reducible refine (KR.out _ (HT.out _ HB5.out)).mono ?_);rintro e w8 ⟨hb,g8,c8,rfl,hk8,ht8⟩;have HB8:=Lib.hid (HB5.out.trans (hb.mono HB5.out.size));clear hb))
    all_goals try (exfalso;omega)
    go_ret
    exact ⟨rfl,HB8.out⟩
   ·rw [hr2] at KIc
    have KIc:Hid (∀ W,Calls Tryz.prog 17 #[.string s1,.string ⟨#[13]⟩] W fun e w'=>e = .returned (.bool true)∧w'=W):=KIc
    clear hr1 hr2 HRAW
    go_wp2_with (first
     | (go_at_call 17;(with_reducible refine (KIb.out _).mono ?_);rintro e w6 ⟨rfl,rfl⟩)
     | (go_at_call 17;(with_reducible refine (KIc.out _).mono ?_);rintro e w7 ⟨rfl,rfl⟩))
    go_ret
    exact ⟨rfl,HB5.out⟩
  ·rw [hr1] at KIb
   have KIb:Hid (∀ W,Calls Tryz.prog 17 #[.string s1,.string ⟨#[93,93,62]⟩] W fun e w'=>e = .returned (.bool true)∧w'=W):=KIb
   clear hr1 HRAW
   go_wp2_with (go_at_call 17;(with_reducible refine (KIb.out _).mono ?_);rintro e w6 ⟨rfl,rfl⟩)
   go_ret
   exact ⟨rfl,HB5.out⟩
 | false=>
  rw [hTe] at hk
  simp only [Bool.false_eq_true,if_false] at hk
  subst hk
  go_enter Tryz.func5,Tryz.ntmps5
  go_upto_region 18 with (first
   | (go_at_call 8;(with_reducible refine KA.out.mono ?_);rintro e w1 ⟨rfl,hb⟩;have HB1:=Lib.hid hb;clear hb)
   | (go_at_call 18;(with_reducible refine (KEa.out w1 (HT.out w1 HB1.out)).mono ?_);rintro e w2 ⟨rfl,hb⟩;have HB2:=Lib.hid (HB1.out.trans (hb.mono HB1.out.size));clear hb)
   | (go_at_call 18;(with_reducible refine (KEb.out w2 (HT.out w2 HB2.out)).mono ?_);rintro e w3 ⟨rfl,hb⟩;have HB3:=Lib.hid (HB2.out.trans (hb.mono HB2.out.size));clear hb)
   | (go_at_call 17;(with_reducible refine (KIa.out _).mono ?_);rintro e w4 ⟨rfl,rfl⟩)
   | (go_at_call 10;(with_reducible refine (KQ.out _ (HT.out _ HB3.out)).mono ?_);rintro e w5 ⟨hb,a5,c5,rfl,hq5⟩;have HB5:=Lib.hid (HB3.out.trans (hb.mono HB3.out.size));obtain ⟨g5,g6,cc5,rfl,q1,q2,q3⟩:=hq5;have q3:=q3 rfl;clear hb))
  all_goals try (exfalso;omega)
  rcases hr1:ix [93,93,62] xs1 with _ | i1
  ·rw [hr1] at KIb
   have KIb:Hid (∀ W,Calls Tryz.prog 17 #[.string s1,.string ⟨#[93,93,62]⟩] W fun e w'=>e = .returned (.bool false)∧w'=W):=KIb
   rcases hr2:ix [13] xs1 with _ | i2
   ·rw [hr2] at KIc
    have KIc:Hid (∀ W,Calls Tryz.prog 17 #[.string s1,.string ⟨#[13]⟩] W fun e w'=>e = .returned (.bool false)∧w'=W):=KIc
    obtain ⟨NEW2,CAP2,n2,hcv2,hk2⟩:=HRAW.out (ix1_none.1 hr2) hr1
    have KR:=Lib.hid hk2
    clear hr1 hr2 hk2 HRAW
    go_wp2_with (first
     | (go_at_call 17;(with_reducible refine (KIb.out _).mono ?_);rintro e w6 ⟨rfl,rfl⟩)
     | (go_at_call 17;(with_reducible refine (KIc.out _).mono ?_);rintro e w7 ⟨rfl,rfl⟩)
     | (go_at_call 10;(with_reducible refine (KR.out _ (HT.out _ HB5.out)).mono ?_);rintro e w8 ⟨hb,g8,c8,rfl,hk8,ht8⟩;have HB8:=Lib.hid (HB5.out.trans (hb.mono HB5.out.size));clear hb))
    all_goals try (exfalso;omega)
    go_ret
    exact ⟨rfl,HB8.out⟩
   ·rw [hr2] at KIc
    have KIc:Hid (∀ W,Calls Tryz.prog 17 #[.string s1,.string ⟨#[13]⟩] W fun e w'=>e = .returned (.bool true)∧w'=W):=KIc
    clear hr1 hr2 HRAW
    go_wp2_with (first
     | (go_at_call 17;(with_reducible refine (KIb.out _).mono ?_);rintro e w6 ⟨rfl,rfl⟩)
     | (go_at_call 17;(with_reducible refine (KIc.out _).mono ?_);rintro e w7 ⟨rfl,rfl⟩))
    go_ret
    exact ⟨rfl,HB5.out⟩
  ·rw [hr1] at KIb
   have KIb:Hid (∀ W,Calls Tryz.prog 17 #[.string s1,.string ⟨#[93,93,62]⟩] W fun e w'=>e = .returned (.bool true)∧w'=W):=KIb
   clear hr1 HRAW
   go_wp2_with (go_at_call 17;(with_reducible refine (KIb.out _).mono ?_);rintro e w6 ⟨rfl,rfl⟩)
   go_ret
   exact ⟨rfl,HB5.out⟩
theorem bts_empty (s:ByteArray):s.toList.isEmpty=true↔bts s=[]:=by
 rw [ByteArray.toList_eq,List.isEmpty_iff]
 unfold bts
 rw [List.map_eq_nil_iff]
set_option maxHeartbeats 6400000 in
theorem quotes_big (s0 s1:ByteArray) (single:Bool) (w:World) (hT:TT w) (h:1000<s0.size∨1000<s1.size) :
  Calls Tryz.prog 5 #[.string s0,.string s1,.bool single] w fun e w'=>e = .returned (.bool true)∧Below w.heap.size w w':=by
 have KA:=Lib.hid (alive_any w hT)
 clear hT
 by_cases h0:1000<s0.size
 ·have e0:(1000:Int)<s0.size:=by omega
  clear h
  go_enter Tryz.func5,Tryz.ntmps5
  go_wp2_with (go_at_call 8;(with_reducible refine KA.out.mono ?_);rintro e w1 ⟨rfl,hb⟩;have HB1:=Lib.hid hb;clear hb)
  go_ret
  exact ⟨rfl,HB1.out⟩
 ·have e0:¬(1000:Int)<s0.size:=by omega
  have e1:(1000:Int)<s1.size:=by rcases h with h | h <;> omega
  clear h
  go_enter Tryz.func5,Tryz.ntmps5
  go_wp2_with (go_at_call 8;(with_reducible refine KA.out.mono ?_);rintro e w1 ⟨rfl,hb⟩;have HB1:=Lib.hid hb;clear hb)
  go_ret
  exact ⟨rfl,HB1.out⟩
set_option maxHeartbeats 6400000 in
theorem quotes_not (s0 s1 V E:ByteArray) (b0 b1 single:Bool) (w:World) (hb:b0=false∨b1=false) (hT:TT w) (h0:¬(1000:Int)<s0.size) (h1:¬(1000:Int)<s1.size)
  (KEa:Hid (∀ W,TT W→Calls Tryz.prog 18 #[.string s0,.bool true] W fun e w'=>e = .returned (.tuple #[.string V,.bool b0])∧Below W.heap.size W w'))
  (KEb:Hid (∀ W,TT W→Calls Tryz.prog 18 #[.string s1,.bool false] W fun e w'=>e = .returned (.tuple #[.string E,.bool b1])∧Below W.heap.size W w')) :
  Calls Tryz.prog 5 #[.string s0,.string s1,.bool single] w fun e w'=>e = .returned (.bool true)∧Below w.heap.size w w':=by
 have KA:=Lib.hid (alive_any w hT)
 have HT:=Lib.hid fun (W:World) (hW:Below w.heap.size w W)=>hT.grow hW
 clear hT
 cases b0
 ·go_enter Tryz.func5,Tryz.ntmps5
  go_wp2_with (first
   | (go_at_call 8;(with_reducible refine KA.out.mono ?_);rintro e w1 ⟨rfl,hb⟩;have HB1:=Lib.hid hb;clear hb)
   | (go_at_call 18;(with_reducible refine (KEa.out w1 (HT.out w1 HB1.out)).mono ?_);rintro e w2 ⟨rfl,hb⟩;have HB2:=Lib.hid (HB1.out.trans (hb.mono HB1.out.size));clear hb)
   | (go_at_call 18;(with_reducible refine (KEb.out w2 (HT.out w2 HB2.out)).mono ?_);rintro e w3 ⟨rfl,hb⟩;have HB3:=Lib.hid (HB2.out.trans (hb.mono HB2.out.size));clear hb))
  go_ret
  exact ⟨rfl,HB3.out⟩
 ·obtain rfl:b1=false:=by rcases hb with h | h;cases h;exact h
  clear hb
  go_enter Tryz.func5,Tryz.ntmps5
  go_wp2_with (first
   | (go_at_call 8;(with_reducible refine KA.out.mono ?_);rintro e w1 ⟨rfl,hb⟩;have HB1:=Lib.hid hb;clear hb)
   | (go_at_call 18;(with_reducible refine (KEa.out w1 (HT.out w1 HB1.out)).mono ?_);rintro e w2 ⟨rfl,hb⟩;have HB2:=Lib.hid (HB1.out.trans (hb.mono HB1.out.size));clear hb)
   | (go_at_call 18;(with_reducible refine (KEb.out w2 (HT.out w2 HB2.out)).mono ?_);rintro e w3 ⟨rfl,hb⟩;have HB3:=Lib.hid (HB2.out.trans (hb.mono HB2.out.size));clear hb))
  go_ret
  exact ⟨rfl,HB3.out⟩
theorem quote_cat (q:Nat) (V T:List Nat):txt [60,97,32,98,32,61,32]++txt [q]++txt (esc true V)++txt [q]++txt [32,62]++txt (esc false T)++txt [60,47,97,10,62]=txt (quoteL q V T):=by
 simp only [txt_app]
 unfold quoteL
 congr 1
 simp
theorem quotes_all (s0 s1:ByteArray) (single:Bool) (w:World) (hT:TT w) :
  Calls Tryz.prog 5 #[.string s0,.string s1,.bool single] w fun e w'=>e = .returned (.bool true)∧Below w.heap.size w w':=by
 by_cases hbig:1000<s0.size∨1000<s1.size
 ·exact quotes_big s0 s1 single w hT hbig
 have l0:(bts s0).length≤1000:=by rw [bts_len];omega
 have l1:(bts s1).length≤1000:=by rw [bts_len];omega
 have h0:¬(1000:Int)<s0.size:=by omega
 have h1:¬(1000:Int)<s1.size:=by omega
 have K0:=fun W hW=>escape_any (bts s0) s0 (txt_bts s0).symm (bts_bs s0) true W (by omega) hW
 have K1:=fun W hW=>escape_any (bts s1) s1 (txt_bts s1).symm (bts_bs s1) false W (by omega) hW
 unfold esA at K0 K1
 by_cases ha0:al charP (bts s0) 0=none
 ·rw [if_pos ha0] at K0
  by_cases ha1:al charP (bts s1) 0=none
  ·rw [if_pos ha1] at K1
   have KA:=Lib.hid (alive_any w hT)
   have HT:=Lib.hid fun (W:World) (hW:Below w.heap.size w W)=>hT.grow hW
   have HK0:=Lib.hid K0
   have HK1:=Lib.hid K1
   have KIb:Hid (∀ W,Calls Tryz.prog 17 #[.string s1,.string ⟨#[93,93,62]⟩] W fun e w'=>e = .returned (.bool (ix [93,93,62] (bts s1)).isSome)∧w'=W):=Lib.hid fun W=>inside_any (bts s1) [93,93,62] s1 _ (txt_bts s1).symm rfl (bts_bs s1) (bs_l _ (by decide)) (by omega) (by decide) (by decide) W
   have KIc:Hid (∀ W,Calls Tryz.prog 17 #[.string s1,.string ⟨#[13]⟩] W fun e w'=>e = .returned (.bool (ix [13] (bts s1)).isSome)∧w'=W):=Lib.hid fun W=>inside_any (bts s1) [13] s1 _ (txt_bts s1).symm rfl (bts_bs s1) (bs_l _ (by decide)) (by omega) (by decide) (by decide) W
   have KIa:∀ W,Calls Tryz.prog 17 #[.string s0,.string ⟨#[39]⟩] W fun e w'=>e = .returned (.bool (ix [39] (bts s0)).isSome)∧w'=W:=fun W=>inside_any (bts s0) [39] s0 _ (txt_bts s0).symm rfl (bts_bs s0) (bs_l _ (by decide)) (by omega) (by decide) (by decide) W
   have e0:=esc_len true (bts s0)
   have e1:=esc_len false (bts s1)
   have hV:(txt (esc true (bts s0))).size≤6000:=by rw [txt_size];omega
   have hE:(txt (esc false (bts s1))).size≤6000:=by rw [txt_size];omega
   have HRAW:=Lib.hid fun (h13:13∉bts s1) (hix:ix [93,93,62] (bts s1)=none)=>raw_str (bts s1) (bts_bs s1) ha1 h13 hix l1 (⟨#[60,33,91,67,68,65,84,65,91]⟩++s1++⟨#[93,93,62]⟩) (by
    rw [show (⟨#[60,33,91,67,68,65,84,65,91]⟩:ByteArray)=txt [60,33,91,67,68,65,84,65,91] from rfl,show (⟨#[93,93,62]⟩:ByteArray)=txt [93,93,62] from rfl]
    conv=>lhs;rw [←txt_bts s1]
    rw [txt_app,txt_app,List.append_assoc])
   rw [txt_bts] at HRAW
   have hkk:(if bts s1=[] then 2 else 3)=if s1.toList.isEmpty=true then 2 else 3:=by
    by_cases he:bts s1=[]
    ·rw [if_pos he,if_pos ((bts_empty s1).2 he)]
    ·rw [if_neg he,if_neg (fun e=>he ((bts_empty s1).1 e))]
   have KQ:=fun q hq h=>quote_str q hq (bts s0) (bts s1) h (bts_bs s0) (bts_bs s1) ha0 ha1 l0 l1 _ (quote_cat q (bts s0) (bts s1))
   rw [txt_bts,txt_bts] at KQ
   have K34:=KQ 34 (.inr rfl) esc_34
   obtain ⟨NEW,CAP,n,hcv,hk⟩:=K34
   cases single with
   | false=>exact quotes_34 s0 s1 _ _ (bts s1) w n _ NEW CAP hkk h0 h1 hV hE HT KA HK0 HK1 hcv (Lib.hid hk) KIb KIc HRAW
   | true=>
    rcases hi:ix [39] (bts s0) with _ | i
    ·rw [hi] at KIa
     obtain ⟨NEW,CAP,n,hcv,hk⟩:=KQ 39 (.inl rfl) (esc_39 (ix1_none.1 hi))
     exact quotes_39 s0 s1 _ _ (bts s1) w n _ NEW CAP hkk h0 h1 hV hE HT KA HK0 HK1 (Lib.hid KIa) hcv (Lib.hid hk) KIb KIc HRAW
    ·rw [hi] at KIa
     exact quotes_34s s0 s1 _ _ (bts s1) w n _ NEW CAP hkk h0 h1 hV hE HT KA HK0 HK1 (Lib.hid KIa) hcv (Lib.hid hk) KIb KIc HRAW
  ·rw [if_neg ha1] at K1
   exact quotes_not s0 s1 _ _ true false single w (.inr rfl) hT h0 h1 (Lib.hid K0) (Lib.hid K1)
 ·rw [if_neg ha0] at K0
  by_cases ha1:al charP (bts s1) 0=none
  ·rw [if_pos ha1] at K1
   exact quotes_not s0 s1 _ _ false true single w (.inl rfl) hT h0 h1 (Lib.hid K0) (Lib.hid K1)
  ·rw [if_neg ha1] at K1
   exact quotes_not s0 s1 _ _ false false single w (.inl rfl) hT h0 h1 (Lib.hid K0) (Lib.hid K1)
set_option maxHeartbeats 3200000 in
theorem rsign_name0 (w:World):Calls Tryz.prog 29 #[.string ⟨#[108,116]⟩] w fun e w'=>e = .returned (.int .i64 60)∧Below w.heap.size w w':=by
 have HB:=Lib.hid (lit_below w (.cells #[.string ⟨#[108,116]⟩,.string ⟨#[103,116]⟩,.string ⟨#[97,109,112]⟩,.string ⟨#[113,117,111,116]⟩,.string ⟨#[97,112,111,115]⟩] 9))
 obtain ⟨W,hW⟩:∃ W,W=w.alloc (.cells #[.string ⟨#[108,116]⟩,.string ⟨#[103,116]⟩,.string ⟨#[97,109,112]⟩,.string ⟨#[113,117,111,116]⟩,.string ⟨#[97,112,111,115]⟩] 9):=⟨_,rfl⟩
 have HC:=Lib.hid fun j (hj:j<5)=>show W.cell? ⟨w.heap.size,j,none⟩=(#[.string ⟨#[108,116]⟩,.string ⟨#[103,116]⟩,.string ⟨#[97,109,112]⟩,.string ⟨#[113,117,111,116]⟩,.string ⟨#[97,112,111,115]⟩]:Array Value)[j]? by rw [hW,World.cell?_alloc_at _ _ _ _ rfl]
 go_enter Tryz.func29,Tryz.ntmps29
 go_wp2
 rw [←hW] at HB ⊢
 clear hW
 go_loopg [4] 0 (fun g s4 wr=>wr=W∧∃ i:Nat,s4 = .int .i64 (i:Nat)∧i+g=0)
 case atStart=>exact ⟨rfl,0,rfl,rfl⟩
 case round=>
  obtain ⟨rfl,i,rfl,hi⟩:=hrel
  obtain rfl:i=0:=by omega
  ·have hc:wr.cell? ⟨w.heap.size,0,none⟩=some (.string ⟨#[108,116]⟩):=HC.out 0 (by decide)
   go_wp2
   go_ret
   refine ⟨?_,HB.out⟩
   kernel_rfl
set_option maxHeartbeats 3200000 in
theorem rsign_name1 (w:World):Calls Tryz.prog 29 #[.string ⟨#[103,116]⟩] w fun e w'=>e = .returned (.int .i64 62)∧Below w.heap.size w w':=by
 have HB:=Lib.hid (lit_below w (.cells #[.string ⟨#[108,116]⟩,.string ⟨#[103,116]⟩,.string ⟨#[97,109,112]⟩,.string ⟨#[113,117,111,116]⟩,.string ⟨#[97,112,111,115]⟩] 9))
 obtain ⟨W,hW⟩:∃ W,W=w.alloc (.cells #[.string ⟨#[108,116]⟩,.string ⟨#[103,116]⟩,.string ⟨#[97,109,112]⟩,.string ⟨#[113,117,111,116]⟩,.string ⟨#[97,112,111,115]⟩] 9):=⟨_,rfl⟩
 have HC:=Lib.hid fun j (hj:j<5)=>show W.cell? ⟨w.heap.size,j,none⟩=(#[.string ⟨#[108,116]⟩,.string ⟨#[103,116]⟩,.string ⟨#[97,109,112]⟩,.string ⟨#[113,117,111,116]⟩,.string ⟨#[97,112,111,115]⟩]:Array Value)[j]? by rw [hW,World.cell?_alloc_at _ _ _ _ rfl]
 go_enter Tryz.func29,Tryz.ntmps29
 go_wp2
 rw [←hW] at HB ⊢
 clear hW
 go_loopg [4] 1 (fun g s4 wr=>wr=W∧∃ i:Nat,s4 = .int .i64 (i:Nat)∧i+g=1)
 case atStart=>exact ⟨rfl,0,rfl,rfl⟩
 case round=>
  obtain ⟨rfl,i,rfl,hi⟩:=hrel
  have hi2:i=0∨i=1:=by omega
  rcases hi2 with rfl | rfl
  ·have hc:wr.cell? ⟨w.heap.size,0,none⟩=some (.string ⟨#[108,116]⟩):=HC.out 0 (by decide)
   go_wp2
   go_roundg 0
   case measure=>omega
   case rel=>exact ⟨rfl,1,rfl,rfl⟩
  ·have hc:wr.cell? ⟨w.heap.size,1,none⟩=some (.string ⟨#[103,116]⟩):=HC.out 1 (by decide)
   go_wp2
   go_ret
   refine ⟨?_,HB.out⟩
   kernel_rfl
set_option maxHeartbeats 3200000 in
theorem rsign_name2 (w:World):Calls Tryz.prog 29 #[.string ⟨#[97,109,112]⟩] w fun e w'=>e = .returned (.int .i64 38)∧Below w.heap.size w w':=by
 have HB:=Lib.hid (lit_below w (.cells #[.string ⟨#[108,116]⟩,.string ⟨#[103,116]⟩,.string ⟨#[97,109,112]⟩,.string ⟨#[113,117,111,116]⟩,.string ⟨#[97,112,111,115]⟩] 9))
 obtain ⟨W,hW⟩:∃ W,W=w.alloc (.cells #[.string ⟨#[108,116]⟩,.string ⟨#[103,116]⟩,.string ⟨#[97,109,112]⟩,.string ⟨#[113,117,111,116]⟩,.string ⟨#[97,112,111,115]⟩] 9):=⟨_,rfl⟩
 have HC:=Lib.hid fun j (hj:j<5)=>show W.cell? ⟨w.heap.size,j,none⟩=(#[.string ⟨#[108,116]⟩,.string ⟨#[103,116]⟩,.string ⟨#[97,109,112]⟩,.string ⟨#[113,117,111,116]⟩,.string ⟨#[97,112,111,115]⟩]:Array Value)[j]? by rw [hW,World.cell?_alloc_at _ _ _ _ rfl]
 go_enter Tryz.func29,Tryz.ntmps29
 go_wp2
 rw [←hW] at HB ⊢
 clear hW
 go_loopg [4] 2 (fun g s4 wr=>wr=W∧∃ i:Nat,s4 = .int .i64 (i:Nat)∧i+g=2)
 case atStart=>exact ⟨rfl,0,rfl,rfl⟩
 case round=>
  obtain ⟨rfl,i,rfl,hi⟩:=hrel
  have hi2:i=0∨i=1∨i=2:=by omega
  rcases hi2 with rfl | rfl | rfl
  ·have hc:wr.cell? ⟨w.heap.size,0,none⟩=some (.string ⟨#[108,116]⟩):=HC.out 0 (by decide)
   go_wp2
   go_roundg 1
   case measure=>omega
   case rel=>exact ⟨rfl,1,rfl,rfl⟩
  ·have hc:wr.cell? ⟨w.heap.size,1,none⟩=some (.string ⟨#[103,116]⟩):=HC.out 1 (by decide)
   go_wp2
   go_roundg 0
   case measure=>omega
   case rel=>exact ⟨rfl,2,rfl,rfl⟩
  ·have hc:wr.cell? ⟨w.heap.size,2,none⟩=some (.string ⟨#[97,109,112]⟩):=HC.out 2 (by decide)
   go_wp2
   go_ret
   refine ⟨?_,HB.out⟩
   kernel_rfl
set_option maxHeartbeats 3200000 in
theorem rsign_name3 (w:World):Calls Tryz.prog 29 #[.string ⟨#[113,117,111,116]⟩] w fun e w'=>e = .returned (.int .i64 34)∧Below w.heap.size w w':=by
 have HB:=Lib.hid (lit_below w (.cells #[.string ⟨#[108,116]⟩,.string ⟨#[103,116]⟩,.string ⟨#[97,109,112]⟩,.string ⟨#[113,117,111,116]⟩,.string ⟨#[97,112,111,115]⟩] 9))
 obtain ⟨W,hW⟩:∃ W,W=w.alloc (.cells #[.string ⟨#[108,116]⟩,.string ⟨#[103,116]⟩,.string ⟨#[97,109,112]⟩,.string ⟨#[113,117,111,116]⟩,.string ⟨#[97,112,111,115]⟩] 9):=⟨_,rfl⟩
 have HC:=Lib.hid fun j (hj:j<5)=>show W.cell? ⟨w.heap.size,j,none⟩=(#[.string ⟨#[108,116]⟩,.string ⟨#[103,116]⟩,.string ⟨#[97,109,112]⟩,.string ⟨#[113,117,111,116]⟩,.string ⟨#[97,112,111,115]⟩]:Array Value)[j]? by rw [hW,World.cell?_alloc_at _ _ _ _ rfl]
 go_enter Tryz.func29,Tryz.ntmps29
 go_wp2
 rw [←hW] at HB ⊢
 clear hW
 go_loopg [4] 3 (fun g s4 wr=>wr=W∧∃ i:Nat,s4 = .int .i64 (i:Nat)∧i+g=3)
 case atStart=>exact ⟨rfl,0,rfl,rfl⟩
 case round=>
  obtain ⟨rfl,i,rfl,hi⟩:=hrel
  have hi2:i=0∨i=1∨i=2∨i=3:=by omega
  rcases hi2 with rfl | rfl | rfl | rfl
  ·have hc:wr.cell? ⟨w.heap.size,0,none⟩=some (.string ⟨#[108,116]⟩):=HC.out 0 (by decide)
   go_wp2
   go_roundg 2
   case measure=>omega
   case rel=>exact ⟨rfl,1,rfl,rfl⟩
  ·have hc:wr.cell? ⟨w.heap.size,1,none⟩=some (.string ⟨#[103,116]⟩):=HC.out 1 (by decide)
   go_wp2
   go_roundg 1
   case measure=>omega
   case rel=>exact ⟨rfl,2,rfl,rfl⟩
  ·have hc:wr.cell? ⟨w.heap.size,2,none⟩=some (.string ⟨#[97,109,112]⟩):=HC.out 2 (by decide)
   go_wp2
   go_roundg 0
   case measure=>omega
   case rel=>exact ⟨rfl,3,rfl,rfl⟩
  ·have hc:wr.cell? ⟨w.heap.size,3,none⟩=some (.string ⟨#[113,117,111,116]⟩):=HC.out 3 (by decide)
   go_wp2
   go_ret
   refine ⟨?_,HB.out⟩
   kernel_rfl
set_option maxHeartbeats 3200000 in
theorem rsign_name4 (w:World):Calls Tryz.prog 29 #[.string ⟨#[97,112,111,115]⟩] w fun e w'=>e = .returned (.int .i64 39)∧Below w.heap.size w w':=by
 have HB:=Lib.hid (lit_below w (.cells #[.string ⟨#[108,116]⟩,.string ⟨#[103,116]⟩,.string ⟨#[97,109,112]⟩,.string ⟨#[113,117,111,116]⟩,.string ⟨#[97,112,111,115]⟩] 9))
 obtain ⟨W,hW⟩:∃ W,W=w.alloc (.cells #[.string ⟨#[108,116]⟩,.string ⟨#[103,116]⟩,.string ⟨#[97,109,112]⟩,.string ⟨#[113,117,111,116]⟩,.string ⟨#[97,112,111,115]⟩] 9):=⟨_,rfl⟩
 have HC:=Lib.hid fun j (hj:j<5)=>show W.cell? ⟨w.heap.size,j,none⟩=(#[.string ⟨#[108,116]⟩,.string ⟨#[103,116]⟩,.string ⟨#[97,109,112]⟩,.string ⟨#[113,117,111,116]⟩,.string ⟨#[97,112,111,115]⟩]:Array Value)[j]? by rw [hW,World.cell?_alloc_at _ _ _ _ rfl]
 go_enter Tryz.func29,Tryz.ntmps29
 go_wp2
 rw [←hW] at HB ⊢
 clear hW
 go_loopg [4] 4 (fun g s4 wr=>wr=W∧∃ i:Nat,s4 = .int .i64 (i:Nat)∧i+g=4)
 case atStart=>exact ⟨rfl,0,rfl,rfl⟩
 case round=>
  obtain ⟨rfl,i,rfl,hi⟩:=hrel
  have hi2:i=0∨i=1∨i=2∨i=3∨i=4:=by omega
  rcases hi2 with rfl | rfl | rfl | rfl | rfl
  ·have hc:wr.cell? ⟨w.heap.size,0,none⟩=some (.string ⟨#[108,116]⟩):=HC.out 0 (by decide)
   go_wp2
   go_roundg 3
   case measure=>omega
   case rel=>exact ⟨rfl,1,rfl,rfl⟩
  ·have hc:wr.cell? ⟨w.heap.size,1,none⟩=some (.string ⟨#[103,116]⟩):=HC.out 1 (by decide)
   go_wp2
   go_roundg 2
   case measure=>omega
   case rel=>exact ⟨rfl,2,rfl,rfl⟩
  ·have hc:wr.cell? ⟨w.heap.size,2,none⟩=some (.string ⟨#[97,109,112]⟩):=HC.out 2 (by decide)
   go_wp2
   go_roundg 1
   case measure=>omega
   case rel=>exact ⟨rfl,3,rfl,rfl⟩
  ·have hc:wr.cell? ⟨w.heap.size,3,none⟩=some (.string ⟨#[113,117,111,116]⟩):=HC.out 3 (by decide)
   go_wp2
   go_roundg 0
   case measure=>omega
   case rel=>exact ⟨rfl,4,rfl,rfl⟩
  ·have hc:wr.cell? ⟨w.heap.size,4,none⟩=some (.string ⟨#[97,112,111,115]⟩):=HC.out 4 (by decide)
   go_wp2
   go_ret
   refine ⟨?_,HB.out⟩
   kernel_rfl
end
end Go.Proofs.YtbogfailbgbdoaaGreatDoor.K
