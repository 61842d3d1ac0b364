/- Part 13. -/
import Derived.Test.YtbogfailbgbdoaaGreatDoorXB12
set_option linter.unusedVariables false
set_option linter.unusedSimpArgs false
namespace Go.Proofs.YtbogfailbgbdoaaGreatDoor.K
set_option maxRecDepth 100000
section
open Go.RowKit Go.Proofs.YtbogfailbgbdoaaGreatDoor U
theorem strip_no {b:List Nat} (h:¬(2<b.length∧b.getD 0 0=239∧b.getD 1 0=187)):stripP b=b:=by
 unfold stripP
 rw [if_neg]
 intro e
 apply h
 match b,e with
 | [],e=>cases e
 | [_],e=>simp at e
 | [_,_],e=>simp at e
 | x::y::z::t,e=>simp at e;simp [e.1,e.2.1]
theorem sc_no13 {b:List Nat} (h13:13∉b) (hs:stripP b=b):scP b=match al charP b 0 with
  | some k => .error (k,22)
  | none=>tsA 0 b:=by
 unfold scP
 rw [hs,lin_same b fun x hx e=>h13 (e ▸ hx)]
 rfl
theorem sc_ok {b:List Nat} {l:Tks0} (h13:13∉b) (hs:stripP b=b) (h:scP b = .ok l):al charP b 0=none∧tsA 0 b = .ok l:=by
 rw [sc_no13 h13 hs] at h
 rcases ha:al charP b 0 with _ | k
 ·rw [ha] at h;exact ⟨rfl,h⟩
 ·rw [ha] at h;cases h
theorem sc_of {b:List Nat} {l:Tks0} (h13:13∉b) (hs:stripP b=b) (ha:al charP b 0=none) (h:tsA 0 b = .ok l):scP b = .ok l:=by
 rw [sc_no13 h13 hs,ha];exact h
abbrev tk0:Tk × Nat:=(⟨0,[],[],[],false⟩,0)
theorem places_plain {b:List Nat} {l:Tks0} (hb:Bs b) (h13:13∉b) (hbom:¬(2<b.length∧b.getD 0 0=239∧b.getD 1 0=187)) (h:scP b = .ok l) :
  (l=[]↔b=[])∧(∀ i,i<l.length→(l.getD i tk0).2<b.length∧(i=0→(l.getD i tk0).2=0)∧(0<i→(l.getD (i-1) tk0).2<(l.getD i tk0).2)∧scP (b.take (l.getD i tk0).2) = .ok (l.take i)):=by
 obtain ⟨ha,ht⟩:=sc_ok h13 (strip_no hbom) h
 obtain ⟨i1,i2,i3,i4,i5⟩:=ts_places b.length 0 b l (Nat.le_refl _) hb ht
 refine ⟨i1,fun i hi=>⟨by have h7:(l.getD i tk0).2<0+b.length:=(i2 i hi).2;omega,i3 i hi,fun h0=>i4 i h0 hi,?_⟩⟩
 obtain ⟨j1,j2⟩:=i5 i hi
 have hlt:=(i2 i hi).2
 change (l.getD i tk0).2<0+b.length at hlt
 change tsA 0 (b.take ((l.getD i tk0).2-0))=_ at j1
 change (l.getD i tk0).2=0∨(∃ W,b.take ((l.getD i tk0).2-0)=W++[62])∨[60] <+: b.drop ((l.getD i tk0).2-0) at j2
 generalize (l.getD i tk0).2=q at *
 rw [Nat.sub_zero] at j1 j2
 refine sc_of (fun e=>h13 (List.mem_of_mem_take e)) (strip_no fun e=>hbom ?_) ?_ j1
 ·obtain ⟨e1,e2,e3⟩:=e
  rw [List.length_take] at e1
  have g:∀ j,j<q→(b.take q).getD j 0=b.getD j 0:=fun j hj=>by simp [List.getD,hj]
  rw [g 0 (by omega)] at e2
  rw [g 1 (by omega)] at e3
  exact ⟨by omega,e2,e3⟩
 ·have hba:Bs (b.take q++b.drop q):=by rw [List.take_append_drop];exact hb
  refine al_cut charP _ (b.take q) (b.drop q) 0 0 (Nat.le_refl _) hba ?_ (by rw [List.take_append_drop];exact ha)
  rcases j2 with e | ⟨W,e⟩ | e
  ·subst e;right;right;right;rfl
  ·exact Or.inr (Or.inr (Or.inl ⟨W,62,by decide,e⟩))
  ·obtain ⟨t,ht⟩:=pre1.1 e
   exact Or.inr (Or.inl ⟨60,t,by decide,ht⟩)
theorem strip_head {b:List Nat} (h:∀ x∈b.head?,x≠239):stripP b=b:=by
 apply strip_no
 rintro ⟨h1,h2,_⟩
 cases b with
 | nil=>simp at h1
 | cons x t=>exact h x (by simp) (by simpa using h2)
theorem rows_plain {a b:List Nat} {x y:Tks0} (hba:Bs a) (h13:13∉a) (ha:∀ c∈a.head?,c≠239) (hbh:∀ c∈b.head?,c≠239) (hx:scP a = .ok x) (hy:scP b = .ok y)
  (hx0:x≠[]) (hyk:∀ z∈y.head?,z.1.k≠1) (hxl:∀ z∈x.getLast?,z.1.k≠4) (hlb:Bs (lin false b)):scP (a++b) = .ok (x++sh a.length y):=by
 obtain ⟨ha1,ha2⟩:=sc_ok h13 (strip_head ha) hx
 have hane:a≠[]:=fun e=>by subst e;exact hx0 (ts_nil ha2)
 have hal:0<a.length:=List.length_pos_iff.2 hane
 have hsab:stripP (a++b)=a++b:=strip_head (by cases a with
  | nil=>exact absurd rfl hane
  | cons c t=>simpa using ha)
 unfold scP at hy ⊢
 rw [strip_head hbh] at hy
 rw [hsab]
 rcases hb1:al charP b 0 with _ | k
 ·rw [hb1] at hy
  simp only at hy
  rw [al_both charP hba ha1 hb1]
  simp only
  rw [lin_app a b fun z hz e=>h13 (e ▸ hz)]
  show tsA 0 (a++lin false b)=_
  refine ts_app a.length 0 a (lin false b) x _ (Nat.le_refl _) hba hlb ha2 hxl ?_
  have:=ts_shift (lin false b).length 0 a.length (lin false b) y (Nat.le_refl _) hlb hy (fun _=>hyk) hal
  exact this
 ·rw [hb1] at hy;cases hy
theorem sk_y {p:Nat→Bool} (h0:p 0=false) {c:Nat} (hc:c<128) (h:p c=true) (t:List Nat):sk p (c::t)=1+sk p t:=by
 have e:=nx_asc hc t
 rw [sk_yes h0 (by rw [e];exact h),e];rfl
theorem sk_n {p:Nat→Bool} {c:Nat} (hc:c<128) (h:p c=false) (t:List Nat):sk p (c::t)=0:=sk_no (by rw [nx_asc hc t];exact h)
theorem skb1 {c:Nat} (hc:c<128) (h:blaP c=false) (t:List Nat):sk blaP (32::c::t)=1:=by
 rw [sk_y blaP_zero (by decide) (by decide +kernel),sk_n hc h]
theorem nm1 {c d:Nat} (hc:c<128) (hd:d<128) (h:begP c=true) (h':goP c=true) (h2:goP d=false) (t:List Nat):nmP (c::d::t) = .ok 1:=by
 unfold nmP
 rw [nx_asc hc,if_pos h,sk_y goP_zero hc h',sk_n hd h2]
theorem qn1 {c d:Nat} (hc:c<128) (hd:d<128) (h:begP c=true) (h':goP c=true) (h2:goP d=false) (hd':d≠58) (t:List Nat):qnP (c::d::t) = .ok 1:=by
 unfold qnP
 rw [nm1 hc hd h h' h2]
 simp only [List.drop_succ_cons,List.drop_zero]
 rw [if_neg]
 intro e
 exact hd' (List.cons_prefix_cons.1 e).1.symm
theorem flat_same {L:List Nat} (h:∀ x∈L,x≠9∧x≠10):flat L=L:=by
 unfold flat
 induction L with
 | nil=>rfl
 | cons c t ih=>
  have hc:=h c (by simp)
  rw [List.map_cons,if_neg (by omega),ih fun x hx=>h x (by simp [hx])]
theorem esc_ne {q:Bool} {V:List Nat}:60∉esc q V∧62∉esc q V∧13∉esc q V:=
 ⟨fun h=>(esc_no q V 60 h).1 rfl,fun h=>(esc_no q V 62 h).2.1 rfl,fun h=>(esc_no q V 13 h).2.2.1 rfl⟩
theorem esc_39 {V:List Nat} (h:39∉V):39∉esc true V:=fun hx=>by
 obtain ⟨c,hc,hx⟩:=List.mem_flatMap.1 hx
 unfold esc1 at hx
 repeat' split at hx
 all_goals (simp at hx;try (subst hx;exact h hc))
theorem esc_34 {V:List Nat}:34∉esc true V:=fun h=>((esc_no true V 34 h).2.2.2 rfl).1 rfl
theorem qu_esc {q:Nat} {V:List Nat} (h:q∉esc true V) (t:List Nat):quP q (esc true V++q::t) = .ok (V,(esc true V).length+1):=by
 unfold quP upP
 rw [ix1_app h]
 simp only
 rw [List.take_left' rfl]
 unfold plP
 rw [if_neg esc_ne.1,flat_same (fun x hx=>((esc_no true V x hx).2.2.2 rfl).2),told_esc]
theorem bs_l (l:List Nat) (h:l.all (fun x=>decide (x<256))=true):Bs l:=fun x hx=>by simpa using List.all_eq_true.1 h x hx
theorem ok_n {α : Type} {a : α} {m n:Nat} (h:m=n):(Except.ok (a,m):Except Nat (α × Nat)) = .ok (a,n):=by rw [h]
theorem bg_quote {q:Nat} {V:List Nat} (hq:q=39∨q=34) (h:q∉esc true V) (t:List Nat) :
  bgP (97::32::98::32::61::32::q::(esc true V++q::32::62::t)) = .ok (⟨5,[97],[],[([98],V)],false⟩,(esc true V).length+10):=by
 have b32:goP 32=false:=by decide +kernel
 have b97:begP 97=true:=by decide +kernel
 have g97:goP 97=true:=by decide +kernel
 have b98:begP 98=true:=by decide +kernel
 have g98:goP 98=true:=by decide +kernel
 have l98:blaP 98=false:=by decide +kernel
 have l61:blaP 61=false:=by decide +kernel
 have l62:blaP 62=false:=by decide +kernel
 have b62:begP 62=false:=by decide +kernel
 have lq:blaP q=false:=by rcases hq with rfl | rfl <;> decide +kernel
 have hq8:q<128:=by omega
 have vl:vlP (32::61::32::q::(esc true V++q::32::62::t)) = .ok (V,(esc true V).length+5):=by
  unfold vlP
  rw [skb1 (by decide) l61]
  simp only [List.drop_succ_cons,List.drop_zero,Nat.reduceAdd]
  rw [if_pos (pre1.2 ⟨_,rfl⟩),skb1 hq8 lq]
  simp only [List.drop_succ_cons,List.drop_zero,Nat.reduceAdd]
  rcases hq with rfl | rfl
  ·rw [if_pos (pre1.2 ⟨_,rfl⟩),qu_esc h]
   show Except.ok (V,1+1+1+1+((esc true V).length+1))=_
   exact ok_n (by omega)
  ·rw [if_neg (by intro e;have:=(List.cons_prefix_cons.1 e).1;omega),if_pos (pre1.2 ⟨_,rfl⟩),qu_esc h]
   show Except.ok (V,1+1+1+1+((esc true V).length+1))=_
   exact ok_n (by omega)
 have on:onP (98::32::61::32::q::(esc true V++q::32::62::t)) = .ok (([98],V),(esc true V).length+6):=by
  unfold onP
  rw [qn1 (by decide) (by decide) b98 g98 b32 (by decide)]
  simp only [List.drop_succ_cons,List.drop_zero]
  rw [vl]
  simp only [List.take_succ_cons,List.take_zero]
  exact ok_n (by omega)
 have at2:∀ f acc,0<f→atF f acc (32::62::t) = .ok (acc,1):=fun f acc hf=>by
  obtain ⟨g,rfl⟩:∃ g,f=g+1:=⟨f-1,by omega⟩
  rw [atF,skb1 (by decide) l62,if_neg (by decide)]
  simp only [List.drop_succ_cons,List.drop_zero]
  rw [nx_asc (by decide),if_neg (by rw [b62];decide)]
 have at1:atP (32::98::32::61::32::q::(esc true V++q::32::62::t)) = .ok ([([98],V)],(esc true V).length+8):=by
  unfold atP
  simp only [List.length_cons]
  rw [atF,skb1 (by decide) l98,if_neg (by decide)]
  simp only [List.drop_succ_cons,List.drop_zero]
  rw [nx_asc (by decide),if_pos b98,on]
  simp only [List.map_nil,List.not_mem_nil,if_false,List.length_nil,List.nil_append]
  rw [if_neg (by decide)]
  have hd:(32::98::32::61::32::q::(esc true V++q::32::62::t)).drop (1+((esc true V).length+6))=32::62::t:=by
   rw [show 1+((esc true V).length+6)=(esc true V).length+1+6 by omega]
   simp only [List.drop_succ_cons]
   rw [List.drop_append,List.drop_eq_nil_of_le (by omega)]
   simp
  rw [hd,at2 _ _ (by simp)]
  simp only
  exact ok_n (by omega)
 unfold bgP
 rw [qn1 (by decide) (by decide) b97 g97 b32 (by decide)]
 simp only [List.drop_succ_cons,List.drop_zero]
 rw [at1]
 simp only
 have hd1:(97::32::98::32::61::32::q::(esc true V++q::32::62::t)).drop (1+((esc true V).length+8))=62::t:=by
  rw [show 1+((esc true V).length+8)=(esc true V).length+2+7 by omega]
  simp only [List.drop_succ_cons]
  rw [List.drop_append,List.drop_eq_nil_of_le (by omega)]
  simp
 rw [hd1,if_neg (by intro e;have:=(List.cons_prefix_cons.1 e).1;omega),if_pos (pre1.2 ⟨_,rfl⟩)]
 simp only [List.take_succ_cons,List.take_zero]
 exact ok_n (by omega)
theorem tk_bg {first:Bool} {c:Nat} {t:List Nat} (h1:c≠63) (h2:c≠33) (h3:c≠47):tkP first (60::c::t)=plus 1 (bgP (c::t)):=by
 have key:∀ d s,d≠c→¬(60::d::s) <+: (60::c::t):=fun d s hd e=>hd (List.cons_prefix_cons.1 (List.cons_prefix_cons.1 e).2).1
 unfold tkP
 rw [if_neg (fun e=>key _ _ h1.symm e.2.1),if_neg (key _ _ h1.symm),if_neg (key _ _ h2.symm),if_neg (key _ _ h2.symm),if_neg (key _ _ h2.symm),if_neg (key _ _ h3.symm),if_pos (pre1.2 ⟨_,rfl⟩)]
 rfl
theorem tk_en:tkP false [60,47,97,10,62] = .ok (⟨6,[97],[],[],false⟩,5):=by
 have key:∀ d s,d≠47→¬(60::d::s) <+: [60,47,97,10,62]:=fun d s hd e=>hd (List.cons_prefix_cons.1 (List.cons_prefix_cons.1 e).2).1
 unfold tkP
 rw [if_neg (fun e=>by cases e.1),if_neg (key _ _ (by decide)),if_neg (key _ _ (by decide)),if_neg (key _ _ (by decide)),if_neg (key _ _ (by decide)),if_pos (by decide)]
 simp only [List.drop_succ_cons,List.drop_zero]
 have:enP [97,10,62] = .ok (⟨6,[97],[],[],false⟩,3):=by
  unfold enP
  rw [qn1 (by decide) (by decide) (by decide +kernel) (by decide +kernel) (by decide +kernel) (by decide)]
  simp only [List.drop_succ_cons,List.drop_zero]
  rw [sk_y blaP_zero (by decide) (by decide +kernel),sk_n (by decide) (by decide +kernel)]
  simp only [List.drop_succ_cons,List.drop_zero,Nat.reduceAdd]
  rw [if_pos (by decide)]
  rfl
 rw [this]
 rfl
theorem tk_tx {T:List Nat} (hT:T≠[]) (Z:List Nat) (hZ:[60] <+: Z):tkP false (esc false T++Z) = .ok (⟨4,[],T,[],false⟩,(esc false T).length):=by
 have he:esc false T≠[]:=fun e=>by
  have:=told_esc false T
  rw [e,told_nil] at this
  injection this with this
  exact hT this.symm
 obtain ⟨h60,h62,_⟩:=esc_ne (q:=false) (V:=T)
 have hn:¬[60] <+: esc false T++Z:=by
  have hl:=List.length_pos_iff.2 he
  intro e
  rw [pre_short (by simp;omega)] at e
  obtain ⟨t,ht⟩:=e
  exact h60 (by rw [←ht];simp)
 rw [tk_text hn]
 unfold wdP
 rw [wd_app h60 (Or.inr hZ),List.take_left' rfl,told_esc,if_neg]
 intro e
 rcases hi:ix [93,93,62] (esc false T) with _ | i
 ·rw [hi] at e;cases e
 ·obtain ⟨t,ht⟩:=(ix_some hi).2
  have:62∈(esc false T).drop i:=by rw [←ht];simp
  exact h62 (List.mem_of_mem_drop this)
def quoteL (q:Nat) (V T:List Nat):List Nat:=60::97::32::98::32::61::32::q::(esc true V++q::32::62::(esc false T++[60,47,97,10,62]))
theorem quotes_plain {q:Nat} {V T:List Nat} (hq:q=39∨q=34) (h:q∉esc true V) (hbV:Bs V) (hbT:Bs T) (haV:al charP V 0=none) (haT:al charP T 0=none) :
  ∃ a b,scP (quoteL q V T) = .ok ((⟨5,[97],[],[([98],V)],false⟩,0)::((if T=[] then [] else [(⟨4,[],T,[],false⟩,a)])++[(⟨6,[97],[],[],false⟩,b)])):=by
 have bV:=esc_bs (q:=true) hbV
 have bT:=esc_bs (q:=false) hbT
 have hbL:Bs (quoteL q V T):=by
  intro x hx
  unfold quoteL at hx
  simp only [List.mem_cons,List.mem_append,List.not_mem_nil,or_false] at hx
  rcases hx with e | e | e | e | e | e | e | e | e | e | e | e | e | e
  all_goals first
   | exact bV x e
   | exact bT x e
   | omega
 have h13:13∉quoteL q V T:=by
  intro hx
  unfold quoteL at hx
  simp only [List.mem_cons,List.mem_append,List.not_mem_nil,or_false] at hx
  have e1:=(esc_ne (q:=true) (V:=V)).2.2
  have e2:=(esc_ne (q:=false) (V:=T)).2.2
  rcases hx with e | e | e | e | e | e | e | e | e | e | e | e | e | e
  all_goals first
   | exact absurd e e1
   | exact absurd e e2
   | omega
 have c1:charP q=true:=by rcases hq with rfl | rfl <;> decide +kernel
 have cs:∀ (l:List Nat),(∀ x∈l,x<128∧charP x=true)→Bs l∧al charP l 0=none:=fun l hl=>⟨fun x hx=>by have:=(hl x hx).1;omega,al_asc l 0 hl⟩
 have hA1:=cs [60,97,32,98,32,61,32,q] (fun x hx=>by
  simp only [List.mem_cons,List.not_mem_nil,or_false] at hx
  rcases hx with rfl | rfl | rfl | rfl | rfl | rfl | rfl | rfl
  all_goals first
   | exact ⟨by decide,by decide +kernel⟩
   | exact ⟨by omega,c1⟩)
 have hA2:=cs [q,32,62] (fun x hx=>by
  simp only [List.mem_cons,List.not_mem_nil,or_false] at hx
  rcases hx with rfl | rfl | rfl
  all_goals first
   | exact ⟨by decide,by decide +kernel⟩
   | exact ⟨by omega,c1⟩)
 have hA3:al charP [60,47,97,10,62] 0=none:=by decide +kernel
 have eL:quoteL q V T=[60,97,32,98,32,61,32,q]++(esc true V++([q,32,62]++(esc false T++[60,47,97,10,62]))):=by simp [quoteL]
 have ha:al charP (quoteL q V T) 0=none:=by
  rw [eL]
  exact al_both charP hA1.1 hA1.2 (al_both charP bV (esc_al true V.length V (Nat.le_refl _) hbV haV) (al_both charP hA2.1 hA2.2 (al_both charP bT (esc_al false T.length T (Nat.le_refl _) hbT haT) hA3)))
 have hs:stripP (quoteL q V T)=quoteL q V T:=strip_head (by intro x hx;unfold quoteL at hx;simp at hx;omega)
 have h1:tkP true (quoteL q V T) = .ok (⟨5,[97],[],[([98],V)],false⟩,(esc true V).length+11):=by
  unfold quoteL
  rw [tk_bg (by decide) (by decide) (by decide),bg_quote hq h]
  show Except.ok (_,1+((esc true V).length+10))=_
  exact ok_n (by omega)
 have hd1:(quoteL q V T).drop ((esc true V).length+11)=esc false T++[60,47,97,10,62]:=by
  unfold quoteL
  rw [show (esc true V).length+11=(esc true V).length+3+8 by omega]
  simp only [List.drop_succ_cons]
  rw [List.drop_append,List.drop_eq_nil_of_le (by omega)]
  simp
 have hlast:∀ k,0<k→tsA k [60,47,97,10,62] = .ok [(⟨6,[97],[],[],false⟩,k)]:=fun k hk=>by
  rw [tsA_step k (bs_l _ (by decide)) (by simp),show (k == 0)=false by rw [beq_eq_false_iff_ne];omega,tk_en]
  simp only [List.drop_succ_cons,List.drop_nil]
  rw [tsA_nil]
 have hne:quoteL q V T≠[]:=by simp [quoteL]
 by_cases hT:T=[]
 ·refine ⟨0,(esc true V).length+11,sc_of h13 hs ha ?_⟩
  rw [tsA_step 0 hbL hne,show ((0:Nat) == 0)=true from rfl,h1]
  simp only
  rw [hd1,hT,esc_nil,List.nil_append,hlast _ (by omega)]
  simp
 ·refine ⟨(esc true V).length+11,(esc true V).length+11+(esc false T).length,sc_of h13 hs ha ?_⟩
  rw [tsA_step 0 hbL hne,show ((0:Nat) == 0)=true from rfl,h1]
  simp only
  rw [hd1]
  have hb2:Bs (esc false T++[60,47,97,10,62]):=by rw [←hd1];exact hbL.drop _
  rw [tsA_step _ hb2 (by simp),show (0+((esc true V).length+11) == 0)=false by rw [beq_eq_false_iff_ne];omega,tk_tx hT _ (pre1.2 ⟨_,rfl⟩)]
  simp only
  rw [List.drop_left' rfl,hlast _ (by omega)]
  simp [hT]
theorem ix_raw {T:List Nat} (h:ix [93,93,62] T=none):ix [93,93,62] (T++[93,93,62])=some T.length:=by
 refine ix_is (by simp) (by rw [List.drop_left' rfl];exact List.prefix_refl _) fun j hj hp=>?_
 by_cases hl:j+3≤T.length
 ·rw [List.drop_append_of_le_length (by omega)] at hp
  rw [pre_short (by rw [List.length_drop];simp;omega)] at hp
  exact (ix_none (by simp)).1 h j hp
 ·obtain ⟨t,ht⟩:=hp
  have h2:(T++[93,93,62])[j+2]? = some 62:=by
   rw [←List.getElem?_drop,←ht];rfl
  rw [List.getElem?_append_right (by omega)] at h2
  have:j+2-T.length=0∨j+2-T.length=1:=by omega
  rcases this with e | e <;> rw [e] at h2 <;> simp at h2
theorem raw_plain {T:List Nat} (hb:Bs T) (ha:al charP T 0=none) (h13:13∉T) (h:ix [93,93,62] T=none) :
  scP ([60,33,91,67,68,65,84,65,91]++(T++[93,93,62])) = .ok [(⟨4,[],T,[],false⟩,0)]:=by
 obtain ⟨L,hL⟩:∃ L,L=[60,33,91,67,68,65,84,65,91]++(T++[93,93,62]):=⟨_,rfl⟩
 rw [←hL]
 have hbL:Bs L:=by
  rw [hL];intro x hx
  rcases List.mem_append.1 hx with e | e
  ·exact (bs_l _ (by decide)) x e
  ·rcases List.mem_append.1 e with e | e
   ·exact hb x e
   ·exact (bs_l _ (by decide)) x e
 have ha1:al charP L 0=none:=by
  rw [hL];exact al_both charP (bs_l _ (by decide)) (by decide +kernel) (al_both charP hb ha (by decide +kernel))
 have h1:13∉L:=by
  rw [hL];intro hx
  rcases List.mem_append.1 hx with e | e
  ·revert e;decide
  ·rcases List.mem_append.1 e with e | e
   ·exact h13 e
   ·revert e;decide
 have key:∀ d s,d≠33→¬(60::d::s) <+: L:=fun d s hd e=>by
  rw [hL] at e;exact hd (List.cons_prefix_cons.1 (List.cons_prefix_cons.1 e).2).1
 have k2:¬[60,33,45,45] <+: L:=fun e=>by
  rw [hL] at e
  have:=(List.cons_prefix_cons.1 (List.cons_prefix_cons.1 (List.cons_prefix_cons.1 e).2).2).1
  omega
 have htk:tkP true L = .ok (⟨4,[],T,[],false⟩,L.length):=by
  unfold tkP
  rw [if_neg (fun e=>key _ _ (by decide) e.2.1),if_neg (key _ _ (by decide)),if_neg k2,if_pos (by rw [hL];exact List.prefix_append _ _)]
  have:L.drop 9=T++[93,93,62]:=by rw [hL];rfl
  rw [this]
  unfold rwP upP
  rw [ix_raw h]
  simp only
  rw [List.take_left' rfl]
  show Except.ok (_,9+(T.length+3))=_
  exact ok_n (by rw [hL];simp;omega)
 refine sc_of h1 (strip_head (by rw [hL];simp)) ha1 ?_
 rw [tsA_step 0 hbL (by rw [hL];simp),show ((0:Nat) == 0)=true from rfl,htk]
 simp only
 rw [List.drop_length,tsA_nil]
def txP (s:List Nat):Option (List Nat):=if al charP s 0=none∧60∉s∧13∉s∧ix [93,93,62] s=none then told s else none
theorem tx_esc {q:Bool} {s:List Nat} (hb:Bs s) (h:al charP s 0=none):txP (esc q s)=some s:=by
 obtain ⟨h60,h62,h13⟩:=esc_ne (q:=q) (V:=s)
 have hix:ix [93,93,62] (esc q s)=none:=by
  rw [ix_none (by simp)]
  intro j hj
  obtain ⟨t,ht⟩:=hj
  have:62∈(esc q s).drop j:=by rw [←ht];simp
  exact h62 (List.mem_of_mem_drop this)
 unfold txP
 rw [if_pos ⟨esc_al q s.length s (Nat.le_refl _) hb h,h60,h13,hix⟩,told_esc]
theorem num_mem:∀ (b:Nat) (ds:List Nat) (v u:Nat),num b ds v=some u→∀ x∈ds,digit x<b
 | _,[],_,_,_,x,hx=>by cases hx
 | b,c::t,v,u,h,x,hx=>by
  unfold num at h
  split at h
  ·cases h
  ·rename_i hd
   rcases List.mem_cons.1 hx with rfl | hx
   ·omega
   ·exact num_mem b t _ u h x hx
def refc (x:Nat):Bool:=x != 9 && x != 10 && x != 32 && x != 60
theorem refc_ne {x:Nat} (h:refc x=true):x≠9∧x≠10∧x≠32∧x≠60:=by
 unfold refc at h
 simp at h
 omega
theorem digit_refc {x b:Nat} (hb:b≤16) (h:digit x<b):refc x=true:=by
 cases e:refc x with
 | true=>rfl
 | false=>
  exfalso
  have h4:x=9∨x=10∨x=32∨x=60:=by
   unfold refc at e;simp at e;omega
  have h9:digit x=99:=by rcases h4 with rfl | rfl | rfl | rfl <;> rfl
  omega
theorem tw_mem {p:Nat→Bool}:∀ {l:List Nat} {x:Nat},x∈l.takeWhile p→p x=true
 | [],_,h=>by cases h
 | c::t,x,h=>by
  rw [List.takeWhile_cons] at h
  split at h
  ·rename_i hc
   rcases List.mem_cons.1 h with rfl | h
   ·exact hc
   ·exact tw_mem h
  ·cases h
theorem numbered_refc {ds:List Nat} {b v:Nat} (hb:b≤16) (h:numbered ds b=some v):∀ x∈ds,refc x=true:=by
 unfold numbered at h
 split at h
 ·cases h
 ·unfold chr at h
  split at h
  ·cases h
  ·rename_i u hu
   have hm:=num_mem b _ 0 _ hu
   intro x hx
   rw [←List.takeWhile_append_dropWhile (p:=(· == 48)) (l:=ds)] at hx
   rcases List.mem_append.1 hx with hx | hx
   ·have:x=48:=by simpa using tw_mem hx
    subst this;rfl
   ·exact digit_refc hb (hm x hx)
theorem signOf_refc {r:List Nat} {v:Nat} (h:signOf r=some v):∀ x∈r,refc x=true:=by
 have hl:∀ (l:List Nat),l.all refc=true→r=l→∀ x∈r,refc x=true:=fun l hl e x hx=>by
  subst e;exact List.all_eq_true.1 hl x hx
 unfold signOf at h
 split at h
 ·exact hl _ rfl (by assumption)
 split at h
 ·exact hl _ rfl (by assumption)
 split at h
 ·exact hl _ rfl (by assumption)
 split at h
 ·exact hl _ rfl (by assumption)
 split at h
 ·exact hl _ rfl (by assumption)
 split at h
 ·rename_i hp
  obtain ⟨t,rfl⟩:=hp
  intro x hx
  have:=numbered_refc (by decide) h
  simp only [List.cons_append,List.nil_append,List.mem_cons] at hx
  rcases hx with rfl | rfl | hx
  ·rfl
  ·rfl
  ·exact this x (by simpa using hx)
 split at h
 ·rename_i hp
  obtain ⟨t,rfl⟩:=hp
  intro x hx
  have:=numbered_refc (by decide) h
  simp only [List.cons_append,List.nil_append,List.mem_cons] at hx
  rcases hx with rfl | hx
  ·rfl
  ·exact this x (by simpa using hx)
 ·cases h
def fl1 (b:Bool) (c:Nat):Nat:=if b=true∧(c=9∨c=10) then 32 else c
def fl (b:Bool) (L:List Nat):List Nat:=L.map (fl1 b)
theorem fl_true (L:List Nat):fl true L=flat L:=by
 unfold fl flat fl1;simp
theorem fl_false (L:List Nat):fl false L=L:=by
 unfold fl fl1;simp
theorem fl1_ne {b:Bool} {c x:Nat} (hx:x≠9∧x≠10∧x≠32):fl1 b c=x↔c=x:=by
 unfold fl1
 split
 ·omega
 ·exact Iff.rfl
theorem ix_fl {b:Bool} {x:Nat} (hx:x≠9∧x≠10∧x≠32):∀ L:List Nat,ix [x] (fl b L)=ix [x] L
 | []=>rfl
 | c::t=>by
  show ix [x] (fl1 b c::fl b t)=_
  rw [ix1_cons,ix1_cons,ix_fl hx t]
  by_cases h:x=c
  ·rw [if_pos h,if_pos ((fl1_ne hx).2 h.symm).symm]
  ·rw [if_neg h,if_neg (fun e=>h ((fl1_ne hx).1 e.symm).symm)]
theorem signOf_fl (b:Bool) (r:List Nat):signOf (fl b r)=signOf r:=by
 by_cases h:∀ x∈r,refc x=true
 ·have:fl b r=r:=by
   unfold fl
   conv=>rhs;rw [←List.map_id r]
   refine List.map_congr_left fun x hx=>?_
   have:=refc_ne (h x hx)
   unfold fl1
   rw [if_neg (by omega)];rfl
  rw [this]
 ·have h1:signOf r=none:=by
   cases e:signOf r with
   | none=>rfl
   | some v=>exact absurd (signOf_refc e) h
  rw [h1]
  cases e:signOf (fl b r) with
  | none=>rfl
  | some v=>
   exfalso
   refine h fun x hx=>?_
   have hm:fl1 b x∈fl b r:=List.mem_map_of_mem hx
   have h2:=signOf_refc e _ hm
   unfold fl1 at h2
   split at h2
   ·cases h2
   ·exact h2
def trF (b:Bool):Nat→List Nat→Option (List Nat)
 | 0,_=>some []
 | _+1,[]=>some []
 | f+1,c::t=>if c=60 then none else if c=38 then (match ix [59] t with
   | none=>none
   | some j=>match signOf (t.take j) with
    | none=>none
    | some v=>(trF b f (t.drop (j+1))).map (enc v ++ ·)) else (trF b f t).map (fl1 b c :: ·)
def tr (b:Bool) (L:List Nat):Option (List Nat):=trF b L.length L
theorem trF_is (b:Bool):∀ (f:Nat) (L:List Nat),L.length≤f→trF b f L=if 60∈L then none else toldF f (fl b L)
 | 0,L,h=>by
  have:L=[]:=List.eq_nil_of_length_eq_zero (by omega)
  subst this;rfl
 | f+1,[],_=>rfl
 | f+1,c::t,h=>by
  have hf:t.length≤f:=by simpa using h
  unfold trF
  by_cases h60:c=60
  ·rw [if_pos h60,if_pos (by simp [h60])]
  rw [if_neg h60]
  show _=if 60∈c::t then none else toldF (f+1) (fl1 b c::fl b t)
  unfold toldF
  by_cases h38:c=38
  ·subst h38
   rw [if_pos rfl,if_pos (show fl1 b 38=38 from (fl1_ne (by decide)).2 rfl),ix_fl (by decide)]
   rcases hi:ix [59] t with _ | j
   ·simp
   ·simp only
    rw [show (fl b t).take j=fl b (t.take j) by unfold fl;rw [List.map_take],signOf_fl]
    rcases hs:signOf (t.take j) with _ | v
    ·simp
    ·simp only
     rw [show (fl b t).drop (j+1)=fl b (t.drop (j+1)) by unfold fl;rw [List.map_drop],trF_is b f _ (by rw [List.length_drop];omega)]
     have hm:60∈38::t↔60∈t.drop (j+1):=by
      obtain ⟨j1,j2,j3⟩:=ix1_some hi
      have e:t=t.take j++59::t.drop (j+1):=by
       have e0:t.getD j 0=t[j]:=by simp [List.getD,j1]
       rw [←j3,e0,←List.drop_eq_getElem_cons j1,List.take_append_drop]
      constructor
      ·intro hx
       rcases List.mem_cons.1 hx with e1 | e1
       ·cases e1
       ·rw [e] at e1
        rcases List.mem_append.1 e1 with e1 | e1
        ·exact absurd rfl (refc_ne (signOf_refc hs 60 e1)).2.2.2
        ·rcases List.mem_cons.1 e1 with e2 | e2
         ·cases e2
         ·exact e2
      ·intro hx;exact List.mem_cons_of_mem _ (List.mem_of_mem_drop hx)
     by_cases h6:60∈t.drop (j+1)
     ·rw [if_pos h6,if_pos (hm.2 h6)];rfl
     ·rw [if_neg h6,if_neg (fun e=>h6 (hm.1 e))]
  ·rw [if_neg h38,if_neg (fun e=>h38 ((fl1_ne (by decide)).1 e)),trF_is b f t hf]
   have hm:60∈c::t↔60∈t:=by simp [Ne.symm h60]
   by_cases h6:60∈t
   ·rw [if_pos h6,if_pos (hm.2 h6)];rfl
   ·rw [if_neg h6,if_neg (fun e=>h6 (hm.1 e))]
theorem tr_is (b:Bool) (L:List Nat):tr b L=if 60∈L then none else told (fl b L):=by
 unfold tr told
 rw [trF_is b L.length L (Nat.le_refl _)]
 unfold fl
 rw [List.length_map]
theorem tr_cons (b:Bool) (c:Nat) (t:List Nat):tr b (c::t)=if c=60 then none else if c=38 then (match ix [59] t with
   | none=>none
   | some j=>match signOf (t.take j) with
    | none=>none
    | some v=>(tr b (t.drop (j+1))).map (enc v ++ ·)) else (tr b t).map (fl1 b c :: ·):=by
 have key:∀ f (L:List Nat),L.length≤f→trF b f L=tr b L:=fun f L h=>by
  unfold tr
  rw [trF_is b f L h,trF_is b L.length L (Nat.le_refl _)]
  split
  ·rfl
  ·exact toldF_fuel _ _ _ (by unfold fl;rw [List.length_map];exact h) (by unfold fl;rw [List.length_map];exact Nat.le_refl _)
 show trF b (t.length+1) (c::t)=_
 unfold trF
 rw [key _ t (Nat.le_refl _)]
 rcases hi:ix [59] t with _ | j
 ·rfl
 ·simp only
  rw [key _ (t.drop (j+1)) (by rw [List.length_drop];omega)]
theorem tr_plP (T:List Nat):tr true T=match plP T with
  | .error _=>none
  | .ok v=>some v:=by
 rw [tr_is,fl_true]
 unfold plP
 by_cases h:60∈T
 ·rw [if_pos h,if_pos h]
 ·rw [if_neg h,if_neg h]
  cases told (flat T) <;> rfl
theorem plP_err {T:List Nat} {e:Nat} (h:plP T = .error e):e=22:=by
 unfold plP at h
 split at h
 ·injection h with h;exact h.symm
 ·split at h
  ·injection h with h;exact h.symm
  ·cases h
def stopA (L:List Nat):Prop:=sk blaP L=0∨L.drop (sk blaP L)=[]∨[62] <+: L.drop (sk blaP L)∨[47] <+: L.drop (sk blaP L)∨[63] <+: L.drop (sk blaP L)
instance (L:List Nat):Decidable (stopA L):=by unfold stopA;infer_instance
def raF:Nat→List At→List Nat→Except Nat (List At × Nat)
 | 0,acc,_ => .ok (acc,0)
 | f+1,acc,L=>
  if stopA L then .ok (acc,0) else (match onP (L.drop (sk blaP L)) with
   | .error e => .error e
   | .ok (a,n)=>if a.1∈acc.map Prod.fst then .error 22 else if 256<acc.length+1 then .error 14 else (match raF f (acc++[a]) (L.drop (sk blaP L+n)) with
    | .error e => .error e
    | .ok (l,m) => .ok (l,sk blaP L+n+m)))
def raA (acc:List At) (L:List Nat):Except Nat (List At × Nat):=raF L.length acc L
theorem stopA_nil:stopA []:=Or.inl rfl
theorem raF_fuel:∀ (f g:Nat) (acc:List At) (L:List Nat),Bs L→L.length≤f→L.length≤g→raF f acc L=raF g acc L
 | 0,0,_,_,_,_,_=>rfl
 | 0,g+1,acc,L,_,h,_=>by
  have:L=[]:=List.eq_nil_of_length_eq_zero (by omega)
  subst this
  rw [raF,raF,if_pos stopA_nil]
 | f+1,0,acc,L,_,_,h=>by
  have:L=[]:=List.eq_nil_of_length_eq_zero (by omega)
  subst this
  rw [raF,raF,if_pos stopA_nil]
 | f+1,g+1,acc,L,hb,h,h'=>by
  unfold raF
  by_cases h0:stopA L
  ·rw [if_pos h0,if_pos h0]
  rw [if_neg h0,if_neg h0]
  rcases h1:onP (L.drop (sk blaP L)) with e | ⟨a,n⟩
  ·rfl
  ·simp only
   have h2:=onP_ok (hb.drop _) h1
   rw [List.length_drop] at h2
   rw [raF_fuel f g (acc++[a]) (L.drop (sk blaP L+n)) (hb.drop _) (by rw [List.length_drop];omega) (by rw [List.length_drop];omega)]
theorem raA_step (acc:List At) {L:List Nat} (hb:Bs L):raA acc L =
  if stopA L then .ok (acc,0) else (match onP (L.drop (sk blaP L)) with
   | .error e => .error e
   | .ok (a,n)=>if a.1∈acc.map Prod.fst then .error 22 else if 256<acc.length+1 then .error 14 else (match raA (acc++[a]) (L.drop (sk blaP L+n)) with
    | .error e => .error e
    | .ok (l,m) => .ok (l,sk blaP L+n+m))):=by
 unfold raA
 cases hl:L.length with
 | zero=>
  have:L=[]:=List.eq_nil_of_length_eq_zero hl
  subst this
  rw [raF,if_pos stopA_nil]
 | succ k=>
  rw [raF]
  by_cases h0:stopA L
  ·rw [if_pos h0,if_pos h0]
  rw [if_neg h0,if_neg h0]
  rcases h1:onP (L.drop (sk blaP L)) with e | ⟨a,n⟩
  ·rfl
  ·simp only
   have h2:=onP_ok (hb.drop _) h1
   rw [List.length_drop] at h2
   rw [raF_fuel k _ (acc++[a]) (L.drop (sk blaP L+n)) (hb.drop _) (by rw [List.length_drop];omega) (Nat.le_refl _)]
theorem onP_no {L:List Nat} (h:begP (nx L).1=false):onP L = .error 22:=by
 unfold onP qnP nmP
 rw [if_neg (by rw [h];decide)]
def noEnd (L:List Nat):Prop:=¬[62] <+: L∧¬[47] <+: L∧¬[63] <+: L
def RaOf (L:List Nat) (r:Except Nat (List At × Nat)):Except Nat (List At × Nat)→Prop
 | .error e=>r = .error e
 | .ok (l,m)=>(∃ m',r = .ok (l,m')∧m'+sk blaP (L.drop m')=m)∨(r = .error 22∧noEnd (L.drop m))
theorem pre_beg {c:Nat} {L:List Nat} (h8:c<128) (h:[c] <+: L):(nx L).1=c:=by
 obtain ⟨t,rfl⟩:=pre1.1 h
 rw [nx_asc h8]
theorem ra_of:∀ (n:Nat) (acc:List At) (L:List Nat),L.length≤n→Bs L→RaOf L (raA acc L) (atA acc L)
 | n,acc,L,hn,hb=>by
  rw [atA_step acc hb,raA_step acc hb]
  have hsk:=sk_len blaP_zero hb
  by_cases h0:sk blaP L=0
  ·rw [if_pos h0,if_pos (show stopA L from Or.inl h0)]
   exact Or.inl ⟨0,rfl,by rw [List.drop_zero,h0]⟩
  rw [if_neg h0]
  by_cases hp:begP (nx (L.drop (sk blaP L))).1=true
  ·have hs:¬stopA L:=by
    rintro (e | e | e | e | e)
    ·exact h0 e
    ·rw [e] at hp;revert hp;decide +kernel
    ·rw [pre_beg (by decide) e] at hp;revert hp;decide +kernel
    ·rw [pre_beg (by decide) e] at hp;revert hp;decide +kernel
    ·rw [pre_beg (by decide) e] at hp;revert hp;decide +kernel
   rw [if_pos hp,if_neg hs]
   rcases ho:onP (L.drop (sk blaP L)) with e | ⟨a,j⟩
   ·exact rfl
   ·simp only
    have hj:=onP_ok (hb.drop _) ho
    rw [List.length_drop] at hj
    split
    ·exact rfl
    split
    ·exact rfl
    cases n with
    | zero=>omega
    | succ n=>
     have ih:=ra_of n (acc++[a]) (L.drop (sk blaP L+j)) (by rw [List.length_drop];omega) (hb.drop _)
     rcases hr:atA (acc++[a]) (L.drop (sk blaP L+j)) with e | ⟨l,m⟩
     ·rw [hr] at ih
      rw [show raA (acc++[a]) (L.drop (sk blaP L+j)) = .error e from ih]
      exact rfl
     ·rw [hr] at ih
      rcases ih with ⟨m',h1,h2⟩ | ⟨h1,h2⟩
      ·rw [h1]
       refine Or.inl ⟨_,rfl,?_⟩
       rw [List.drop_drop] at h2
       omega
      ·rw [h1]
       refine Or.inr ⟨rfl,?_⟩
       rw [List.drop_drop] at h2
       exact h2
  ·have hp':begP (nx (L.drop (sk blaP L))).1=false:=by simpa using hp
   rw [if_neg hp]
   by_cases hs:stopA L
   ·rw [if_pos hs]
    exact Or.inl ⟨0,rfl,by rw [List.drop_zero,Nat.zero_add]⟩
   ·rw [if_neg hs,onP_no hp']
    exact Or.inr ⟨rfl,fun e=>hs (Or.inr (Or.inr (Or.inl e))),fun e=>hs (Or.inr (Or.inr (Or.inr (Or.inl e)))),fun e=>hs (Or.inr (Or.inr (Or.inr (Or.inr e))))⟩
def bgR (L:List Nat):Except Nat (Tk × Nat):=
 match qnP L with
 | .error e => .error e
 | .ok n=>match raA [] (L.drop n) with
  | .error e => .error e
  | .ok (l,m)=>if [47,62] <+: L.drop (n+m+sk blaP (L.drop (n+m))) then .ok (⟨5,L.take n,[],l,true⟩,n+m+sk blaP (L.drop (n+m))+2)
   else if [62] <+: L.drop (n+m+sk blaP (L.drop (n+m))) then .ok (⟨5,L.take n,[],l,false⟩,n+m+sk blaP (L.drop (n+m))+1) else .error 22
theorem pre_two {x y:Nat} {L:List Nat} {k:Nat}:[x,y] <+: L.drop k↔[x] <+: L.drop k∧[y] <+: L.drop (k+1):=by
 rw [←List.drop_drop]
 generalize L.drop k=M
 constructor
 ·rintro ⟨t,rfl⟩
  exact ⟨⟨y::t,rfl⟩,⟨t,rfl⟩⟩
 ·rintro ⟨⟨t,rfl⟩,⟨u,hu⟩⟩
  refine ⟨u,?_⟩
  simp at hu ⊢
  exact hu
theorem bgR_is {L:List Nat} (hb:Bs L):bgR L=bgP L:=by
 unfold bgR bgP
 rcases hq:qnP L with e | n
 ·rfl
 ·simp only
  have h:=ra_of (L.drop n).length [] (L.drop n) (Nat.le_refl _) (hb.drop _)
  rw [show atP (L.drop n)=atA [] (L.drop n) from rfl]
  rcases ha:atA [] (L.drop n) with e | ⟨l,m⟩
  ·rw [ha] at h
   rw [show raA [] (L.drop n) = .error e from h]
  ·rw [ha] at h
   simp only
   rcases h with ⟨m',h1,h2⟩ | ⟨h1,h2⟩
   ·rw [h1]
    simp only
    rw [List.drop_drop] at h2
    have e:n+m'+sk blaP (L.drop (n+m'))=n+m:=by omega
    rw [e]
    by_cases h47:[47] <+: L.drop (n+m)
    ·rw [if_pos h47]
     by_cases h62:[62] <+: L.drop (n+m+1)
     ·rw [if_pos h62,if_pos (pre_two.2 ⟨h47,h62⟩)]
     ·rw [if_neg h62,if_neg (fun e=>h62 (pre_two.1 e).2),if_neg]
      intro e
      obtain ⟨t,ht⟩:=pre1.1 h47
      obtain ⟨u,hu⟩:=pre1.1 e
      rw [ht] at hu;injection hu with hu;omega
    ·rw [if_neg h47,if_neg (fun e=>h47 (pre_two.1 e).1)]
   ·rw [h1]
    simp only
    rw [List.drop_drop] at h2
    rw [if_neg h2.2.1,if_neg h2.1]
def dcR (L:List Nat):Except Nat (Tk × Nat):=
 match raA [] L with
 | .error e => .error e
 | .ok (l,n)=>if [63,62] <+: L.drop (n+sk blaP (L.drop n)) then (match mdP l with
  | some e => .error e
  | none => .ok (⟨1,[],[],l,false⟩,n+sk blaP (L.drop n)+2)) else .error 22
theorem dcR_is {L:List Nat} (hb:Bs L):dcR L=dcP L:=by
 unfold dcR dcP
 have h:=ra_of L.length [] L (Nat.le_refl _) hb
 rw [show atP L=atA [] L from rfl]
 rcases ha:atA [] L with e | ⟨l,m⟩
 ·rw [ha] at h
  rw [show raA [] L = .error e from h]
 ·rw [ha] at h
  simp only
  rcases h with ⟨m',h1,h2⟩ | ⟨h1,h2⟩
  ·rw [h1]
   simp only
   rw [h2]
   rfl
  ·rw [h1]
   simp only
   rw [if_neg (fun e=>h2.2.2 (List.IsPrefix.trans (by simp [List.cons_prefix_cons]) e))]
set_option maxHeartbeats 3200000 in
theorem inside_any (xs s:List Nat) (S T:ByteArray) (hS:S=txt xs) (hT:T=txt s) (hb:Bs xs) (hs:Bs s) (hl:xs.length≤1000000) (hl2:s.length≤1000) (hs0:0<s.length) (w:World) :
  Calls Tryz.prog 17 #[.string S,.string T] w fun e w'=>e = .returned (.bool (ix s xs).isSome)∧w'=w:=by
 have HBS:=Lib.hid hb
 have HSS:=Lib.hid hs
 have HT:=Lib.hid hT
 obtain ⟨n,hn⟩:∃ n,n=s.length:=⟨_,rfl⟩
 have HN:=Lib.hid hn
 have hTn:(T.size:Int)=n:=by rw [hT,txt_size,hn]
 have hSz:S.size=xs.length:=by rw [hS,txt_size]
 have hSn:(S.size:Int)=xs.length:=by rw [hSz]
 have hEX:=Lib.hid fun i j=>txt_extract xs i j
 rw [←hS] at hEX
 obtain ⟨RES,hRES⟩:∃ RES,RES=(ix s xs).isSome:=⟨_,rfl⟩
 rw [←hRES]
 have HR0:=Lib.hid hRES
 rw [←hn] at hl2 hs0
 clear hS hT hb hs hn hRES
 go_enter Tryz.func17,Tryz.ntmps17
 go_wp2
 go_loopg [5] xs.length (fun gh s5 wr=>wr=w∧∃ j:Nat,s5 = .int .i64 (j:Nat)∧Hid (RES=(ix s (xs.drop j)).isSome)∧xs.length-j≤gh∧j≤xs.length)
 case atStart=>exact ⟨rfl,0,rfl,Lib.hid (by rw [HR0.out,List.drop_zero]),by omega,by omega⟩
 case round=>
  obtain ⟨rfl,kk,rfl,hst,hgh,hkj⟩:=hrel
  by_cases hfit:kk+n≤xs.length
  ·have hfI:(kk:Int)+n≤xs.length:=by omega
   obtain ⟨t,ht⟩:∃ t,t=kk+n:=⟨_,rfl⟩
   have hsum:(kk:Int)+n=t:=by omega
   have htl:t≤xs.length:=by omega
   have htk:kk≤t:=by omega
   have hsl:∀ W,(Instr.slice 9 (.string S) (some (.int .i64 (kk:Nat))) (some (.int .i64 (t:Nat))) none).run Tryz.prog W = .ok (.string (S.extract kk t)) W:=fun W=>by
    have h1:(0:Int)≤kk∧(kk:Int)≤t:=by omega
    have h2:(t:Int)≤S.size:=by rw [hSz];omega
    simp [go_sem,h1,h2]
   have hpre:(s <+: xs.drop kk)↔(xs.drop kk).take n=s:=by rw [HN.out];exact List.prefix_iff_eq_take.trans eq_comm
   have hcut:S.extract kk t=txt ((xs.drop kk).take n):=by rw [hEX.out,show t-kk=n by omega]
   rw [hcut] at hsl
   have hst2:=hst.out
   rw [ix_at (by omega)] at hst2
   by_cases hp:s <+: xs.drop kk
   ·rw [hpre.1 hp,←HT.out] at hsl
    rw [if_pos hp] at hst2
    have HRR:Hid (RES=true):=Lib.hid hst2
    clear hst2 hpre hp hcut ht
    go_wp2
    go_ret
    exact ⟨by rw [HRR.out];rfl,rfl⟩
   ·rw [if_neg hp] at hst2
    have hnt:¬(xs.drop kk).take n=s:=fun h=>hp (hpre.2 h)
    have hl1:(txt ((xs.drop kk).take n)).toList≠T.toList:=by
     rw [HT.out,txt_toList,txt_toList]
     exact fun e=>hnt (u8L_inj ((HBS.out.drop kk).take _) HSS.out e)
    have hl3:((txt ((xs.drop kk).take n)).toList == T.toList)=false:=beq_eq_false_iff_ne.2 hl1
    generalize txt ((xs.drop kk).take n)=PC at hsl hl1 hl3
    have HST2:Hid (RES=(ix s (xs.drop (kk+1))).isSome):=Lib.hid (by
     rw [hst2]
     cases ix s (xs.drop (kk+1)) <;> rfl)
    clear hst2 hpre hp hcut hnt ht
    go_wp2
    go_roundg (xs.length-(kk+1))
    case measure=>omega
    case rel=>exact ⟨rfl,kk+1,rfl,HST2,by omega,by omega⟩
  ·have hfI:¬(kk:Int)+n≤xs.length:=by omega
   have HRR:Hid (RES=false):=Lib.hid (by rw [hst.out,ix_short (by rw [List.length_drop,←HN.out];omega)];rfl)
   go_wp2
   go_ret
   exact ⟨by rw [HRR.out];rfl,rfl⟩
set_option maxHeartbeats 3200000 in
theorem rsign_name0 (w:World):Calls Tryz.prog 29 #[.string ⟨#[108,116]⟩] w fun e w'=>e = .returned (.int .i64 60)∧Below w.heap.size w w':=by
 have HB:=Lib.hid (lit_below w (.cells #[.string ⟨#[108,116]⟩,.string ⟨#[103,116]⟩,.string ⟨#[97,109,112]⟩,.string ⟨#[113,117,111,116]⟩,.string ⟨#[97,112,111,115]⟩] 9))
 obtain ⟨W,hW⟩:∃ W,W=w.alloc (.cells #[.string ⟨#[108,116]⟩,.string ⟨#[103,116]⟩,.string ⟨#[97,109,112]⟩,.string ⟨#[113,117,111,116]⟩,.string ⟨#[97,112,111,115]⟩] 9):=⟨_,rfl⟩
 have HC:=Lib.hid fun j (hj:j<5)=>show W.cell? ⟨w.heap.size,j,none⟩=(#[.string ⟨#[108,116]⟩,.string ⟨#[103,116]⟩,.string ⟨#[97,109,112]⟩,.string ⟨#[113,117,111,116]⟩,.string ⟨#[97,112,111,115]⟩]:Array Value)[j]? by rw [hW,World.cell?_alloc_at _ _ _ _ rfl]
 go_enter Tryz.func29,Tryz.ntmps29
 go_wp2
 rw [←hW] at HB ⊢
 clear hW
 go_loopg [4] 0 (fun g s4 wr=>wr=W∧∃ i:Nat,s4 = .int .i64 (i:Nat)∧i+g=0)
 case atStart=>exact ⟨rfl,0,rfl,rfl⟩
 case round=>
  obtain ⟨rfl,i,rfl,hi⟩:=hrel
  obtain rfl:i=0:=by omega
  ·have hc:wr.cell? ⟨w.heap.size,0,none⟩=some (.string ⟨#[108,116]⟩):=HC.out 0 (by decide)
   go_wp2
   go_ret
   refine ⟨?_,HB.out⟩
   kernel_rfl
set_option maxHeartbeats 3200000 in
theorem rsign_name1 (w:World):Calls Tryz.prog 29 #[.string ⟨#[103,116]⟩] w fun e w'=>e = .returned (.int .i64 62)∧Below w.heap.size w w':=by
 have HB:=Lib.hid (lit_below w (.cells #[.string ⟨#[108,116]⟩,.string ⟨#[103,116]⟩,.string ⟨#[97,109,112]⟩,.string ⟨#[113,117,111,116]⟩,.string ⟨#[97,112,111,115]⟩] 9))
 obtain ⟨W,hW⟩:∃ W,W=w.alloc (.cells #[.string ⟨#[108,116]⟩,.string ⟨#[103,116]⟩,.string ⟨#[97,109,112]⟩,.string ⟨#[113,117,111,116]⟩,.string ⟨#[97,112,111,115]⟩] 9):=⟨_,rfl⟩
 have HC:=Lib.hid fun j (hj:j<5)=>show W.cell? ⟨w.heap.size,j,none⟩=(#[.string ⟨#[108,116]⟩,.string ⟨#[103,116]⟩,.string ⟨#[97,109,112]⟩,.string ⟨#[113,117,111,116]⟩,.string ⟨#[97,112,111,115]⟩]:Array Value)[j]? by rw [hW,World.cell?_alloc_at _ _ _ _ rfl]
 go_enter Tryz.func29,Tryz.ntmps29
 go_wp2
 rw [←hW] at HB ⊢
 clear hW
 go_loopg [4] 1 (fun g s4 wr=>wr=W∧∃ i:Nat,s4 = .int .i64 (i:Nat)∧i+g=1)
 case atStart=>exact ⟨rfl,0,rfl,rfl⟩
 case round=>
  obtain ⟨rfl,i,rfl,hi⟩:=hrel
  have hi2:i=0∨i=1:=by omega
  rcases hi2 with rfl | rfl
  ·have hc:wr.cell? ⟨w.heap.size,0,none⟩=some (.string ⟨#[108,116]⟩):=HC.out 0 (by decide)
   go_wp2
   go_roundg 0
   case measure=>omega
   case rel=>exact ⟨rfl,1,rfl,rfl⟩
  ·have hc:wr.cell? ⟨w.heap.size,1,none⟩=some (.string ⟨#[103,116]⟩):=HC.out 1 (by decide)
   go_wp2
   go_ret
   refine ⟨?_,HB.out⟩
   kernel_rfl
set_option maxHeartbeats 3200000 in
theorem rsign_name2 (w:World):Calls Tryz.prog 29 #[.string ⟨#[97,109,112]⟩] w fun e w'=>e = .returned (.int .i64 38)∧Below w.heap.size w w':=by
 have HB:=Lib.hid (lit_below w (.cells #[.string ⟨#[108,116]⟩,.string ⟨#[103,116]⟩,.string ⟨#[97,109,112]⟩,.string ⟨#[113,117,111,116]⟩,.string ⟨#[97,112,111,115]⟩] 9))
 obtain ⟨W,hW⟩:∃ W,W=w.alloc (.cells #[.string ⟨#[108,116]⟩,.string ⟨#[103,116]⟩,.string ⟨#[97,109,112]⟩,.string ⟨#[113,117,111,116]⟩,.string ⟨#[97,112,111,115]⟩] 9):=⟨_,rfl⟩
 have HC:=Lib.hid fun j (hj:j<5)=>show W.cell? ⟨w.heap.size,j,none⟩=(#[.string ⟨#[108,116]⟩,.string ⟨#[103,116]⟩,.string ⟨#[97,109,112]⟩,.string ⟨#[113,117,111,116]⟩,.string ⟨#[97,112,111,115]⟩]:Array Value)[j]? by rw [hW,World.cell?_alloc_at _ _ _ _ rfl]
 go_enter Tryz.func29,Tryz.ntmps29
 go_wp2
 rw [←hW] at HB ⊢
 clear hW
 go_loopg [4] 2 (fun g s4 wr=>wr=W∧∃ i:Nat,s4 = .int .i64 (i:Nat)∧i+g=2)
 case atStart=>exact ⟨rfl,0,rfl,rfl⟩
 case round=>
  obtain ⟨rfl,i,rfl,hi⟩:=hrel
  have hi2:i=0∨i=1∨i=2:=by omega
  rcases hi2 with rfl | rfl | rfl
  ·have hc:wr.cell? ⟨w.heap.size,0,none⟩=some (.string ⟨#[108,116]⟩):=HC.out 0 (by decide)
   go_wp2
   go_roundg 1
   case measure=>omega
   case rel=>exact ⟨rfl,1,rfl,rfl⟩
  ·have hc:wr.cell? ⟨w.heap.size,1,none⟩=some (.string ⟨#[103,116]⟩):=HC.out 1 (by decide)
   go_wp2
   go_roundg 0
   case measure=>omega
   case rel=>exact ⟨rfl,2,rfl,rfl⟩
  ·have hc:wr.cell? ⟨w.heap.size,2,none⟩=some (.string ⟨#[97,109,112]⟩):=HC.out 2 (by decide)
   go_wp2
   go_ret
   refine ⟨?_,HB.out⟩
   kernel_rfl
set_option maxHeartbeats 3200000 in
theorem rsign_name3 (w:World):Calls Tryz.prog 29 #[.string ⟨#[113,117,111,116]⟩] w fun e w'=>e = .returned (.int .i64 34)∧Below w.heap.size w w':=by
 have HB:=Lib.hid (lit_below w (.cells #[.string ⟨#[108,116]⟩,.string ⟨#[103,116]⟩,.string ⟨#[97,109,112]⟩,.string ⟨#[113,117,111,116]⟩,.string ⟨#[97,112,111,115]⟩] 9))
 obtain ⟨W,hW⟩:∃ W,W=w.alloc (.cells #[.string ⟨#[108,116]⟩,.string ⟨#[103,116]⟩,.string ⟨#[97,109,112]⟩,.string ⟨#[113,117,111,116]⟩,.string ⟨#[97,112,111,115]⟩] 9):=⟨_,rfl⟩
 have HC:=Lib.hid fun j (hj:j<5)=>show W.cell? ⟨w.heap.size,j,none⟩=(#[.string ⟨#[108,116]⟩,.string ⟨#[103,116]⟩,.string ⟨#[97,109,112]⟩,.string ⟨#[113,117,111,116]⟩,.string ⟨#[97,112,111,115]⟩]:Array Value)[j]? by rw [hW,World.cell?_alloc_at _ _ _ _ rfl]
 go_enter Tryz.func29,Tryz.ntmps29
 go_wp2
 rw [←hW] at HB ⊢
 clear hW
 go_loopg [4] 3 (fun g s4 wr=>wr=W∧∃ i:Nat,s4 = .int .i64 (i:Nat)∧i+g=3)
 case atStart=>exact ⟨rfl,0,rfl,rfl⟩
 case round=>
  obtain ⟨rfl,i,rfl,hi⟩:=hrel
  have hi2:i=0∨i=1∨i=2∨i=3:=by omega
  rcases hi2 with rfl | rfl | rfl | rfl
  ·have hc:wr.cell? ⟨w.heap.size,0,none⟩=some (.string ⟨#[108,116]⟩):=HC.out 0 (by decide)
   go_wp2
   go_roundg 2
   case measure=>omega
   case rel=>exact ⟨rfl,1,rfl,rfl⟩
  ·have hc:wr.cell? ⟨w.heap.size,1,none⟩=some (.string ⟨#[103,116]⟩):=HC.out 1 (by decide)
   go_wp2
   go_roundg 1
   case measure=>omega
   case rel=>exact ⟨rfl,2,rfl,rfl⟩
  ·have hc:wr.cell? ⟨w.heap.size,2,none⟩=some (.string ⟨#[97,109,112]⟩):=HC.out 2 (by decide)
   go_wp2
   go_roundg 0
   case measure=>omega
   case rel=>exact ⟨rfl,3,rfl,rfl⟩
  ·have hc:wr.cell? ⟨w.heap.size,3,none⟩=some (.string ⟨#[113,117,111,116]⟩):=HC.out 3 (by decide)
   go_wp2
   go_ret
   refine ⟨?_,HB.out⟩
   kernel_rfl
set_option maxHeartbeats 3200000 in
theorem rsign_name4 (w:World):Calls Tryz.prog 29 #[.string ⟨#[97,112,111,115]⟩] w fun e w'=>e = .returned (.int .i64 39)∧Below w.heap.size w w':=by
 have HB:=Lib.hid (lit_below w (.cells #[.string ⟨#[108,116]⟩,.string ⟨#[103,116]⟩,.string ⟨#[97,109,112]⟩,.string ⟨#[113,117,111,116]⟩,.string ⟨#[97,112,111,115]⟩] 9))
 obtain ⟨W,hW⟩:∃ W,W=w.alloc (.cells #[.string ⟨#[108,116]⟩,.string ⟨#[103,116]⟩,.string ⟨#[97,109,112]⟩,.string ⟨#[113,117,111,116]⟩,.string ⟨#[97,112,111,115]⟩] 9):=⟨_,rfl⟩
 have HC:=Lib.hid fun j (hj:j<5)=>show W.cell? ⟨w.heap.size,j,none⟩=(#[.string ⟨#[108,116]⟩,.string ⟨#[103,116]⟩,.string ⟨#[97,109,112]⟩,.string ⟨#[113,117,111,116]⟩,.string ⟨#[97,112,111,115]⟩]:Array Value)[j]? by rw [hW,World.cell?_alloc_at _ _ _ _ rfl]
 go_enter Tryz.func29,Tryz.ntmps29
 go_wp2
 rw [←hW] at HB ⊢
 clear hW
 go_loopg [4] 4 (fun g s4 wr=>wr=W∧∃ i:Nat,s4 = .int .i64 (i:Nat)∧i+g=4)
 case atStart=>exact ⟨rfl,0,rfl,rfl⟩
 case round=>
  obtain ⟨rfl,i,rfl,hi⟩:=hrel
  have hi2:i=0∨i=1∨i=2∨i=3∨i=4:=by omega
  rcases hi2 with rfl | rfl | rfl | rfl | rfl
  ·have hc:wr.cell? ⟨w.heap.size,0,none⟩=some (.string ⟨#[108,116]⟩):=HC.out 0 (by decide)
   go_wp2
   go_roundg 3
   case measure=>omega
   case rel=>exact ⟨rfl,1,rfl,rfl⟩
  ·have hc:wr.cell? ⟨w.heap.size,1,none⟩=some (.string ⟨#[103,116]⟩):=HC.out 1 (by decide)
   go_wp2
   go_roundg 2
   case measure=>omega
   case rel=>exact ⟨rfl,2,rfl,rfl⟩
  ·have hc:wr.cell? ⟨w.heap.size,2,none⟩=some (.string ⟨#[97,109,112]⟩):=HC.out 2 (by decide)
   go_wp2
   go_roundg 1
   case measure=>omega
   case rel=>exact ⟨rfl,3,rfl,rfl⟩
  ·have hc:wr.cell? ⟨w.heap.size,3,none⟩=some (.string ⟨#[113,117,111,116]⟩):=HC.out 3 (by decide)
   go_wp2
   go_roundg 0
   case measure=>omega
   case rel=>exact ⟨rfl,4,rfl,rfl⟩
  ·have hc:wr.cell? ⟨w.heap.size,4,none⟩=some (.string ⟨#[97,112,111,115]⟩):=HC.out 4 (by decide)
   go_wp2
   go_ret
   refine ⟨?_,HB.out⟩
   kernel_rfl
end
end Go.Proofs.YtbogfailbgbdoaaGreatDoor.K
