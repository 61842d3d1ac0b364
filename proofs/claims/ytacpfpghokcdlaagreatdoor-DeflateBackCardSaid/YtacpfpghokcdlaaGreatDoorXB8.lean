/- Part 8. -/
import Derived.Test.YtacpfpghokcdlaaGreatDoorXB7
open Go.Proofs.Tryz
namespace Go.Proofs.YtacpfpghokcdlaaGreatDoor
set_option maxRecDepth 100000
section
open Go.Lib renaming hid → J
open Go.RowKit
section
variable {B K p pb:Nat}{g:Option Nat}{bs:List Nat}{lim:Nat}{w:World}{ov:Value}{s:Sta}
abbrev iv2 (x:Nat × Nat):Value:=.agg #[.int .i64 (x.1:Nat),.int .i64 (x.2:Nat)]
theorem xB {w1 W:World}{ov1:Value}{s1:Sta}{r:Nat}{cs:Array Value}(h:RS B K p pb g bs lim W ov1 s1) (m:Mv p pb w ov W ov1){t:TypeId}(hr:Blk W r t cs) (ht3:t=187∨((t=3∨t=111)∧K≤r)) (hrw:w.heap.size≤r) (ht:Touch (fun k=>k=r) W w1) :
  RS B K p pb g bs lim w1 ov1 s1∧Mv p pb w ov w1 ov1:=by
 have tne:t≠49∧t≠67∧t≠5∧(t=111→K≤r)∧t≠197∧t≠218∧(t=3→K≤r):=by
  rcases ht3 with rfl | ⟨rfl | rfl,hk⟩
  ·exact ⟨by decide,by decide,by decide,fun h=>absurd h (by decide),by decide,by decide,fun h=>absurd h (by decide)⟩
  ·exact ⟨by decide,by decide,by decide,fun _=>hk,by decide,by decide,fun _=>hk⟩
  ·exact ⟨by decide,by decide,by decide,fun _=>hk,by decide,by decide,fun _=>hk⟩
 obtain ⟨t1,t2,t3,t4,t5,t6,t7⟩:=tne;have ne:∀ {k:Nat} {t':TypeId} {c:Array Value},W.heap[k]? = some (.cells c t' (0,0))→t≠t'→k≠r:=by
  rintro k t' c hk hne rfl;rw [Blk,hk] at hr;simp at hr;exact hne hr.2.symm
 have bl:∀ {k:Nat} {t':TypeId} {c:Array Value},Blk W k t' c→t≠t'→Blk w1 k t' c:=fun hk hne=>hk.touch ht (ne hk hne)
 obtain ⟨fx,hb,hf⟩:=h.blk;obtain ⟨sv,o1,o2,o3⟩:=h.ob.blk;refine ⟨⟨⟨fx,bl hb t1,?_⟩,h.ob.touch ht ?_,zd h.own ht ?_,h.hp,h.row,h.len,h.lim_,h.in_,h.out,h.steps,h.blocks,h.bytes⟩,m.touch.trans' ht (fun i hi hlt=>by omega),m.row⟩
 ·rcases hf with hf | ⟨q,p1,p2,hv,a1,a2,a3,a4⟩
  ·exact .inl hf
  ·refine .inr ⟨q,p1,p2,hv,a1.touch ht ?_,a2.aside hr ht ⟨t5,t6,t7⟩,a3.aside hr ht ⟨t5,t6,t7⟩,a4⟩
   rintro rfl;rw [Blk,a1] at hr;simp at hr;have:=t4 hr.2.symm;omega
 ·rintro k (rfl | hk) e
  ·exact ne o1 t2 e
  ·rw [←o2] at hk
   obtain ⟨c,hc⟩:=zZ o3 hk;exact ne hc t3 e
 ·intro k hk e
  obtain ⟨c,hc⟩:=zZ h.own hk;exact ne hc t3 e
set_option maxHeartbeats 1600000 in
theorem UR {pc:Nat}{own:List Nat}(h:RS B K p pb g bs lim w ov s) (hc:zg w pc own) :
  Calls prog 167 #[.pointer (some ⟨p,0,none⟩),.pointer (some ⟨pc,0,none⟩)] w (RTo B K p pb g bs lim w ov iv2 (itm bs own s)):=by
 obtain ⟨R,hR⟩:=exq (itm bs own s);rw [←hR];unfold itm at hR;have HR:=J hR;clear hR;have hA:Below w.heap.size w (w.alloc (.cells #[.int .i64 0,.int .i64 0] 187)):=(Below.refl _ w).alloc (Nat.le_refl _) _;obtain ⟨h1,m1⟩:=h.grow hA;have hc1:=hc.below hA;have HV:Hid (Blk (w.alloc (.cells #[.int .i64 0,.int .i64 0] 187)) w.heap.size 187 #[.int .i64 0,.int .i64 0]):=J (Blk.made _ _ _);obtain ⟨r,hr⟩:=exq (w.heap.size);have HRW:Hid (w.heap.size≤r):=J (by omega);obtain ⟨W,hW⟩:=exq (w.alloc (.cells #[.int .i64 0,.int .i64 0] 187));go_enter func167,ntmps167;go_wp2_with fail
 rw [←hr,←hW] at HV;rw [←hW] at h1 m1 hc1 ⊢;rw [←hr];clear hr hW hA h hc;refine (yo h1 hc1).mono ?_;rintro e w2 h2;cases hr1:rdS bs own s with
 | bad er=>
  rw [hr1] at h2;obtain ⟨rfl,ht⟩:=h2;have hR:=HR.out;rw [hr1] at hR;have HR1:=J hR;clear hr1 hR h1 hc1;go_wp2;exact ⟨rfl,RTo.bad HR1.out (m1.bad ht)⟩
 | ok y s2=>
  rw [hr1] at h2;obtain ⟨rfl,ov2,h2,m2⟩:=h2;have hR:=HR.out;rw [hr1,Res.bind_ok] at hR;have HR1:=J hR;have hv2:=HV.out.safe m2.touch h1.safe (by decide);have M2:=J (m1.trans m2);have hy:y<320:=by
   have hb:=xU hr1;have h1:=jA (ls:=own) (s:=y) (by omega);have:=hc1.ok.len;omega
  clear hr1 hR h1 hc1 HR HV m1 m2;by_cases hy1:16≤y∧y≤18
  ·have hR:=HR1.out
   rw [if_pos hy1] at hR;have HR2:=J hR;have hN:=fun n (hn:n≤16)=>zY h2 n hn
   have hv0:=hv2.cell 0;obtain ⟨k,hk⟩:=exq (xb y);have hk16:k≤16:=by rw [hk];unfold xb;split <;> (try split) <;> (try split) <;> omega
   have hNk:=J (hN k hk16);rw [←hk] at HR2;have HV2:=J hv2;have fin:Hid (∀ e w3,RTo B K p pb g bs lim w2 ov2 nv (rdN bs k s2) e w3→(∃ er,e=pan er∧R=.bad er∧Touch (FT p pb ov) w w3)∨(∃ v s3,e=.returned (.int .i64 (v:Nat))∧R=.ok (y,v) s3∧∃ ov3,RS B K p pb g bs lim w3 ov3 s3∧Mv p pb w ov w3 ov3∧Blk w3 r 187 #[.int .i64 0,.int .i64 0])):=J fun e w3 h3=>by
    cases hr3:rdN bs k s2 with
    | bad er=>
     rw [hr3] at h3;obtain ⟨rfl,ht⟩:=h3;exact .inl ⟨er,rfl,by have:=HR2.out;rw [hr3] at this;exact this,M2.out.bad ht⟩
    | ok v s3=>
     rw [hr3] at h3;obtain ⟨rfl,ov3,h3,m3⟩:=h3;exact .inr ⟨v,s3,rfl,by have:=HR2.out;rw [hr3] at this;exact this,ov3,h3,M2.out.trans m3,HV2.out.safe m3.touch h2.safe (by decide)⟩
   have hb:y=16∨y=17∨y=18:=by omega
   clear hR hN hy1 h2 hv2 hv0;rcases hb with rfl | rfl | rfl
   ·have hk2:k=2:=hk
    subst hk2;clear hk;go_wp2_with fail
    refine hNk.out.mono ?_;rintro e w3 h3;rcases fin.out e w3 h3 with ⟨er,rfl,hRe,ht⟩ | ⟨v,s3,rfl,hRe,ov3,h4,m3,hv3⟩
    ·have HRE:=J hRe
     clear hRe h3;go_wp2;exact ⟨rfl,RTo.bad HRE.out ht⟩
    ·have HRE:=J hRe
     have H4:=J h4;have HV3:=J hv3;have v0:=hv3.cell 0;have v1:=hv3.cell 1;have f0:=hv3.free 0;have f1:=hv3.free 1;clear hRe h3 h4 hv3;go_wp2;refine bodyPost_ret (v:=.agg #[.int .i64 16,.int .i64 (v:Nat)]) (by simp [results,results167,go_sem,v0,v1]) rfl ?_;obtain ⟨f1,f2⟩:=xB H4.out m3 HV3.out (.inl rfl) HRW.out (((Touch.refl (fun k=>k=r) w3).setCell ⟨r,0,none⟩ (.int .i64 16) (.inl rfl)).setCell ⟨r,1,none⟩ (.int .i64 (v:Nat)) (.inl rfl));exact RTo.ok HRE.out f1 f2
   ·have hk2:k=3:=hk
    subst hk2;clear hk;go_wp2_with fail
    refine hNk.out.mono ?_;rintro e w3 h3;rcases fin.out e w3 h3 with ⟨er,rfl,hRe,ht⟩ | ⟨v,s3,rfl,hRe,ov3,h4,m3,hv3⟩
    ·have HRE:=J hRe
     clear hRe h3;go_wp2;exact ⟨rfl,RTo.bad HRE.out ht⟩
    ·have HRE:=J hRe
     have H4:=J h4;have HV3:=J hv3;have v0:=hv3.cell 0;have v1:=hv3.cell 1;have f0:=hv3.free 0;have f1:=hv3.free 1;clear hRe h3 h4 hv3;go_wp2;refine bodyPost_ret (v:=.agg #[.int .i64 17,.int .i64 (v:Nat)]) (by simp [results,results167,go_sem,v0,v1]) rfl ?_;obtain ⟨f1,f2⟩:=xB H4.out m3 HV3.out (.inl rfl) HRW.out (((Touch.refl (fun k=>k=r) w3).setCell ⟨r,0,none⟩ (.int .i64 17) (.inl rfl)).setCell ⟨r,1,none⟩ (.int .i64 (v:Nat)) (.inl rfl));exact RTo.ok HRE.out f1 f2
   ·have hk2:k=7:=hk
    subst hk2;clear hk;go_wp2_with fail
    refine hNk.out.mono ?_;rintro e w3 h3;rcases fin.out e w3 h3 with ⟨er,rfl,hRe,ht⟩ | ⟨v,s3,rfl,hRe,ov3,h4,m3,hv3⟩
    ·have HRE:=J hRe
     clear hRe h3;go_wp2;exact ⟨rfl,RTo.bad HRE.out ht⟩
    ·have HRE:=J hRe
     have H4:=J h4;have HV3:=J hv3;have v0:=hv3.cell 0;have v1:=hv3.cell 1;have f0:=hv3.free 0;have f1:=hv3.free 1;clear hRe h3 h4 hv3;go_wp2;refine bodyPost_ret (v:=.agg #[.int .i64 18,.int .i64 (v:Nat)]) (by simp [results,results167,go_sem,v0,v1]) rfl ?_;obtain ⟨f1,f2⟩:=xB H4.out m3 HV3.out (.inl rfl) HRW.out (((Touch.refl (fun k=>k=r) w3).setCell ⟨r,0,none⟩ (.int .i64 18) (.inl rfl)).setCell ⟨r,1,none⟩ (.int .i64 (v:Nat)) (.inl rfl));exact RTo.ok HRE.out f1 f2
  ·have hR:=HR1.out
   rw [if_neg hy1] at hR;have HR2:=J hR;have d1:((y:Int) == 16)=false:=by simp;omega
   have d2:((y:Int) == 17)=false:=by simp;omega
   have d3:((y:Int) == 18)=false:=by simp;omega
   have H2:=J h2;have HV2:=J hv2;have v0:=hv2.cell 0;have v1:=hv2.cell 1;have f0:=hv2.free 0;have f1:=hv2.free 1;clear hR hy1 h2 hv2;go_wp2;refine bodyPost_ret (v:=.agg #[.int .i64 (y:Nat),.int .i64 0]) (by simp [results,results167,go_sem,v0,v1]) rfl ?_;obtain ⟨f1,f2⟩:=xB H2.out M2.out HV2.out (.inl rfl) HRW.out (((Touch.refl (fun k=>k=r) w2).setCell ⟨r,0,none⟩ (.int .i64 (y:Nat)) (.inl rfl)).setCell ⟨r,1,none⟩ (.int .i64 0) (.inl rfl));exact RTo.ok HR2.out f1 f2
def zn (l:List Nat):List Int:=l.map fun x:Nat=>(x:Int)
theorem zH (l:List Nat):(zn l).length=l.length:=by simp [zn]
theorem xi (l:List Nat):nat (zn l)=l:=by simp [nat,zn,Function.comp_def]
theorem ze9 (a b:List Nat):zn (a++b)=zn a++zn b:=by simp [zn]
theorem Jc (l:List Nat) (k:Nat):(zn l).getD k 0=(l.getD k 0:Nat):=by
 unfold zn;rcases Nat.lt_or_ge k l.length with h | h <;> simp [List.getD,h]
def qO (y v:Nat) (row:List Nat):List Nat:=List.replicate ((if y=16 then 3 else if y=17 then 3 else if y=18 then 11 else 1)+v) (if y=16 then row.getLastD 0 else if y=17 then 0 else if y=18 then 0 else y)
theorem uq {y v:Nat}{row:List Nat}(hy:y≤18) (hv:y<16→v=0):told y v row=if y=16∧row=[] then none else some (qO y v row):=by
 unfold told qO;by_cases h1:y<16
 ·rw [if_pos h1,if_neg (by omega),hv h1,if_neg (by omega),if_neg (by omega),if_neg (by omega),if_neg (by omega),if_neg (by omega),if_neg (by omega)]
  rfl
 ·rw [if_neg h1]
  by_cases h2:y=16
  ·by_cases h3:row=[]
   ·simp [h2,h3]
   ·simp [h2,h3]
  ·by_cases h4:y=17
   ·simp [h4]
   ·have:y=18:=by omega
    simp [this]
theorem zbh {own:List Nat}{x:Nat × Nat}{t:Sta}(h:itm bs own s=.ok x t) (hl:own.length=19):x.1≤18∧(x.1<16→x.2=0)∧x.2<2^xb x.1:=by
 obtain ⟨y,s1,h1,h⟩:=Res.bind_is h;have hb:=xU h1;have hy:=jA (ls:=own) (s:=y) (by omega);split at h
 ·obtain ⟨v,s2,h2,h⟩:=Res.bind_is h
  cases h;exact ⟨by show y≤18;omega,fun h=>by have:y<16:=h;omega,qE h2⟩
 ·cases h
  exact ⟨by show y≤18;omega,fun _=>rfl,Nat.two_pow_pos _⟩
theorem zhf {y v:Nat}{ts:List Int}{row:List Nat}(hy:y≤18) (h0:y<16→v=0) (hv:v<2^xb y) (ht:ts.length≤1) (hr:y=16→ts≠[]∧ts.getD (ts.length-1) 0=(row.getLastD 0:Nat)) :
  Z.un [((y:Int),(v:Int))] ts=some (ts++zn (qO y v row)):=by
 have hW:¬Z.Wi y v ts.length∧((Z.spl y:Int)+v).toNat=(if y=16 then 3 else if y=17 then 3 else if y=18 then 11 else 1)+v∧Z.tv y ts=((if y=16 then row.getLastD 0 else if y=17 then 0 else if y=18 then 0 else y:Nat):Int):=by
  by_cases h1:y<16
  ·have e16:¬(y:Int)=16:=by omega
   have e17:¬(y:Int)=17:=by omega
   have e18:¬(y:Int)=18:=by omega
   have f16:¬y=16:=by omega
   have f17:¬y=17:=by omega
   have f18:¬y=18:=by omega
   have hv0:=h0 h1;unfold Z.Wi Z.Bad Z.spl Z.spm Z.tv;refine ⟨by simp [e16,e17,e18];omega,by simp [e16,e17,e18,f16,f17,f18];omega,by simp [e16,e17,e18,f16,f17,f18]⟩
  ·have hb:y=16∨y=17∨y=18:=by omega
   rcases hb with rfl | rfl | rfl
   ·obtain ⟨hne,hl⟩:=hr rfl
    have hp:ts.length≠0:=by simpa using hne
    have hv4:v<4:=hv;unfold Z.Wi Z.Bad Z.spl Z.spm Z.tv;refine ⟨by simp [hne];omega,by simp;omega,by rw [if_pos rfl,if_pos (show ((16:Nat):Int)=16 from rfl)];exact hl⟩
   ·have hv4:v<8:=hv
    unfold Z.Wi Z.Bad Z.spl Z.spm Z.tv;refine ⟨by simp;omega,by simp;omega,by simp⟩
   ·have hv4:v<128:=hv
    unfold Z.Wi Z.Bad Z.spl Z.spm Z.tv;refine ⟨by simp;omega,by simp;omega,by simp⟩
 unfold Z.un;rw [if_neg hW.1,hW.2.1,hW.2.2];unfold Z.un;unfold qO zn;rw [List.map_replicate]
theorem zcr (v:Nat):Z.un [((16:Int),(v:Int))] []=none:=by
 unfold Z.un;rw [if_pos (.inr (.inr (.inl ⟨rfl,rfl⟩)))]
theorem zkW {y v L:Nat}{row:List Nat}(hy:y≤18) (h0:y<16→v=0) (hv:v<2^xb y) (hL:row.getLastD 0=L) (hL15:L≤15):Z.un [((L:Int),0),((y:Int),(v:Int))] []=some ((L:Int)::zn (qO y v row)):=by
 have h1:Z.un [((L:Int),0),((y:Int),(v:Int))] []=Z.un [((y:Int),(v:Int))] [(L:Int)]:=by
  have hW:¬Z.Wi L 0 0∧((Z.spl L:Int)+0).toNat=1∧Z.tv L []=(L:Int):=by
   have e16:¬(L:Int)=16:=by omega
   have e17:¬(L:Int)=17:=by omega
   have e18:¬(L:Int)=18:=by omega
   unfold Z.Wi Z.Bad Z.spl Z.spm Z.tv;refine ⟨by simp [e16,e17,e18];omega,by simp [e16,e17,e18],by simp [e16,e17,e18]⟩
  rw [Z.un,List.length_nil,if_neg hW.1,hW.2.1,hW.2.2];rfl
 rw [h1,zhf (row:=row) hy h0 hv (by simp) fun _=>⟨by simp,by rw [hL];rfl⟩]
 rfl
end
theorem JI:AT 143 187 (.agg #[.int .i64 0,.int .i64 0]) 2 16:=⟨by kernel_rfl,by kernel_rfl,rfl,by omega⟩
theorem uH {w:World}{base n c:Nat}{ao:Option Addr}{r:List (Int × Int)}(h:w.ownsRow base 187 2 (.slice ao n c) n (Z.icl r)) (hn:r.length=n):Z.TS w ao r:=by
 rcases h.2 with ⟨_,h0⟩ | ⟨g,cap,cur,e,_,hh,_,_,_,ht⟩
 ·exact .inl (List.eq_nil_of_length_eq_zero (by omega))
 ·simp only [Value.slice.injEq] at e
  obtain ⟨rfl,_,rfl⟩:=e;refine .inr ⟨g,0,rfl,fun j v hv=>?_⟩;rw [Nat.zero_add,cell_of_row w g j cur 187 (0,0) hh,←Array.getElem?_toList];rw [←ht,List.getElem?_take] at hv;split at hv
  ·exact hv
  ·cases hv
theorem ziQ {w:World}{ao:Option Addr}{x:Int}{zs:List Int}(h:IS w ao (x::zs)):∃ b off,ao=some ⟨b,off,none⟩∧IS w (some ⟨b,off+1,none⟩) zs:=by
 rcases h with h | ⟨b,off,rfl,hc⟩
 ·cases h
 ·refine ⟨b,off,rfl,.inr ⟨b,off+1,rfl,fun j hj=>?_⟩⟩
  have:=hc (j+1) (by simp;omega);rw [show off+1+j=off+(j+1) by omega,this];rfl
theorem jI (w:World) (e:TypeId) (x y:Value):zI (w.alloc (.cells #[x,y] e)) (.slice (some ⟨w.heap.size,0,none⟩) 1 1) 1 [x,y]:=by
 refine .inr ⟨_,1,rfl,fun j u hu=>?_⟩;rw [Addr.add_lit,Nat.zero_add,(Blk.made w e _).cell];simpa using hu
theorem ua (x:Int × Int) (u:Value) (h:u∈[Value.int .i64 x.1,Value.int .i64 x.2]):u.oneCell'=true:=by
 simp at h;rcases h with rfl | rfl <;> rfl
theorem kN (y v:Nat) (row:List Nat):1≤(qO y v row).length:=by
 unfold qO;rw [List.length_replicate];split
 ·omega
 ·split
  ·omega
  ·split <;> omega
theorem vW {y v:Nat}(row:List Nat) (hv:v<2^xb y):(qO y v row).length≤138:=by
 unfold qO;rw [List.length_replicate];unfold xb at hv;split
 ·rename_i h;subst h;simp at hv;omega
 ·split
  ·rename_i h;subst h;simp at hv;omega
  ·split
   ·rename_i h;subst h;simp at hv;omega
   ·rename_i h1 h2 h3
    rw [if_neg h1,if_neg h2,if_neg h3] at hv;omega
section
variable {B K p pb:Nat}{g:Option Nat}{bs:List Nat}{lim:Nat}{w:World}{ov:Value}{s:Sta}
def nxt (bs own:List Nat) (row:List Nat) (s:Sta):Res (List Nat):=
 (itm bs own s).bind fun x s1=>match told x.1 x.2 row with | none => .bad 10 | some t => .ok t s1
def LB (B K p pb:Nat) (g:Option Nat) (bs:List Nat) (lim:Nat) (w:World) (ov:Value) (r:Res (List Nat)) (e:Ending) (w':World):Prop:=
 match r with
 | .bad er=>X5 p pb w ov er e w'
 | .ok t s=>∃ a c,e=.returned (.slice a t.length c)∧(IS w' a (zn t)∧t.length≤c)∧∃ ov',RS B K p pb g bs lim w' ov' s∧Mv p pb w ov w' ov'
theorem LB.bad {R:Res (List Nat)}{er:Nat}{w':World}(e:R=.bad er) (ht:Touch (FT p pb ov) w w'):LB B K p pb g bs lim w ov R (pan er) w':=by
 subst e;exact ⟨rfl,ht⟩
theorem LB.ok {R:Res (List Nat)}{t:List Nat}{s1:Sta}{w':World}{ov':Value}{a:Option Addr}{c n:Nat}(e:R=.ok t s1) (hn:t.length=n) (hcap:n≤c) (hi:IS w' a (zn t)) (h:RS B K p pb g bs lim w' ov' s1) (m:Mv p pb w ov w' ov') :
  LB B K p pb g bs lim w ov R (.returned (.slice a n c)) w':=by
 subst e;subst hn;exact ⟨a,c,rfl,⟨hi,hcap⟩,ov',h,m⟩
theorem XU {S:Nat→Prop}{w w':World}{base n:Nat}{v:Value}{xs:List Value}(h:w.ownsRow base 187 2 v n xs) (ht:Touch S w w') (hs:Safe w S):w'.ownsRow base 187 2 v n xs:=
 zd h ht fun k hk e=>by
  obtain ⟨cs,hc⟩:=zZ h hk;rcases hs k 187 cs hc e with x | x | x <;> simp at x
theorem RS.list {w1 W:World}{ov1:Value}{s1:Sta}{n:Nat}{v:Value}{xs:List Value}(h:RS B K p pb g bs lim W ov1 s1) (m:Mv p pb w ov W ov1) (hrow:W.ownsRow w.heap.size 187 2 v n xs) (ht:Touch (fun k=>v.ownBlock=some k) W w1) :
  RS B K p pb g bs lim w1 ov1 s1∧Mv p pb w ov w1 ov1:=by
 cases hv:v.ownBlock with
 | none=>
  obtain ⟨h2,m2⟩:=h.grow (ht.below (Nat.le_refl _) fun k hk=>by rw [hv] at hk;cases hk)
  exact ⟨h2,m.trans m2⟩
 | some k=>
  obtain ⟨cs,hc⟩:=zZ hrow hv;exact xB h m (show Blk W k 187 cs from hc) (.inl rfl) (hrow.lt k hv).1 (ht.mono fun i hi=>by rw [hv] at hi;cases hi;rfl)
theorem RS.built {w1 W:World}{ov1:Value}{s1:Sta}{n n':Nat}{v v':Value}{xs ys:List Value}{o:Obj}(h:RS B K p pb g bs lim W ov1 s1) (m:Mv p pb w ov W ov1) (hrow:W.ownsRow w.heap.size 187 2 v n xs) (hA:Apg (W.alloc o) w.heap.size 187 2 v n' ys v' w1) :
  RS B K p pb g bs lim w1 ov1 s1∧Mv p pb w ov w1 ov1:=by
 obtain ⟨h2,m2⟩:=h.grow ((Below.refl _ W).alloc (Nat.le_refl _) o);exact h2.list (m.trans m2) (World.ownsRow.alloc (w:=W) hrow _) hA.touch
set_option maxHeartbeats 3200000 in
theorem Xu {pc c:Nat}{ao:Option Addr}{own row:List Nat}(h:RS B K p pb g bs lim w ov s) (hc:zg w pc own) (hl:own.length=19) (hr:IS w ao (zn row)) (hrl:row.length≤320) (hr15:∀ x∈row,x≤15) (hne:row≠[]) :
  Calls prog 140 #[.pointer (some ⟨p,0,none⟩),.slice ao row.length c,.pointer (some ⟨pc,0,none⟩)] w (LB B K p pb g bs lim w ov (nxt bs own row s)):=by
 obtain ⟨R,hR⟩:=exq (nxt bs own row s);rw [←hR];unfold nxt at hR;have HR:=J hR;obtain ⟨n,hn⟩:∃ n,row.length=n+1:=⟨row.length-1,by have:=List.length_pos_iff.2 hne;omega⟩;obtain ⟨b,off,rfl,q0⟩:=hr.at (k:=n) (by rw [zH];omega);obtain ⟨L,hL⟩:=exq (row.getD n 0);rw [Jc,←hL] at q0;have hLL:row.getLastD 0=L:=by
  rw [hL,List.getLastD_eq_getLast?,List.getLast?_eq_getElem?,hn,Nat.add_sub_cancel,List.getD_eq_getElem?_getD]
 have hL15:L≤15:=by
  rw [hL,List.getD_eq_getElem?_getD,List.getElem?_eq_getElem (by omega)];exact hr15 _ (List.getElem_mem _)
 have HL:=J hLL;have HNE:=J hne;have H:=J h;have HC:=J hc;have HQ:=J q0;have hbl:=World.block_lt_of_cell? w _ q0;have hn':n≤319:=by omega
 obtain ⟨m,hm⟩:=exq (row.length);rw [←hm];have hm1:m=n+1:=by omega
 have e1:(m:Int)-1=n:=by omega
 have e2:(0:Int)<m:=by omega
 have e3:(n:Int)<m:=by omega
 have e4:(m:Int)≤320:=by omega
 have e5:(0:Int)≤(n:Int):=by omega
 clear hm hm1 hR hr hr15 hne hn hL hLL h hc q0 hrl;obtain ⟨i,hi1,hi2,hi3,hi4⟩:=info_parts JI.info;have HI:=J (And.intro hi1 (And.intro hi2 (And.intro hi3 hi4)));clear hi1 hi2 hi3 hi4;go_enter func140,ntmps140;go_wp2_with (first
  | (refine wpList_make_own _ rfl _ _ 143 rfl w.heap.size 187 i (.agg #[.int .i64 0,.int .i64 0]) 2 JI.hu HI.out.1 HI.out.2.1 HI.out.2.2.1 .i64 .i64 _ 2 rfl rfl rfl (by rw [HI.out.2.2.2];decide) (by decide) (Nat.le_refl _) ?_;intro W1 ho1 hg1;have HO1:=J ho1;have HT1:=J ((Touch.refl (fun _=>False) w).grown hg1 (fun k hk=>by cases hk));have q1:=((HT1.out.below (Nat.le_refl _) fun _ h=>h.elim).cell (p:=⟨b,off+n,none⟩) hbl).trans HQ.out;clear ho1 hg1)
  | (refine ze JI rfl (.tmp 17) (.tmp 24) rfl w.heap.size (.slice (some ⟨w.heap.size,0,none⟩) 0 2) (.slice (some ⟨W1.heap.size,0,none⟩) 1 1) 0 1 [] [.int .i64 (L:Nat),.int .i64 0] rfl rfl (World.ownsRow.alloc (w:=W1) HO1.out _) (jI W1 187 _ _) rfl (ua ((L:Int),0)) (Nat.le_trans HT1.out.size (by simp)) (by omega) (by omega) ?_;intro ao2 c2 W2 hA2;have HA2:=J hA2;clear hA2))
 have HB2:Hid (Below w.heap.size w W2):=J ((HT1.out.below (Nat.le_refl _) fun _ h=>h.elim).trans (((Below.refl W1.heap.size W1).alloc (Nat.le_refl _) _ |>.mono HT1.out.size).trans (HA2.out.below (World.ownsRow.alloc (w:=W1) HO1.out _) (Nat.le_trans HT1.out.size (by simp)))))
 obtain ⟨h2,m2⟩:=H.out.grow HB2.out;have k2:=HC.out.below HB2.out;have M2:=J m2;have HO2:Hid (W2.ownsRow w.heap.size 187 2 (.slice ao2 1 c2) 1 [.int .i64 (L:Nat),.int .i64 0]):=J HA2.out.own;clear HO1 HT1 HA2 q1 m2;refine (UR h2 k2).mono ?_;rintro e w3 h3;cases hr3:itm bs own s with
 | bad er=>
  rw [hr3] at h3;obtain ⟨rfl,ht⟩:=h3;have hR:=HR.out;rw [hr3] at hR;have HR1:=J hR;clear hr3 hR h2 k2;go_wp2;exact ⟨rfl,LB.bad HR1.out (M2.out.bad ht)⟩
 | ok x s3=>
  rw [hr3] at h3;obtain ⟨rfl,ov3,h3,m3⟩:=h3;obtain ⟨hy,h0,hv⟩:=zbh hr3 hl;have hR:=HR.out;rw [hr3,Res.bind_ok,uq hy h0] at hR;obtain ⟨y,v⟩:=x;simp only at hy h0 hv hR;have hne:¬(y=16∧row=[]):=fun e=>HNE.out e.2
  rw [if_neg hne] at hR;have HR1:=J hR;have hU:=zkW (row:=row) hy h0 hv HL.out hL15;have hlen:=kN y v row;have hlen2:=vW (v:=v) row hv;have HU:=J hU;have M3:=J (M2.out.trans m3);have HO3:=J (XU HO2.out m3.touch h2.safe);have H3:=J h3;have hbase:w.heap.size≤w3.heap.size:=Nat.le_trans HB2.out.size m3.touch.size;obtain ⟨t,ht⟩:=exq (qO y v row);rw [←ht] at HR1 HU hlen hlen2;have HLEN:=J (And.intro hlen hlen2);clear hlen2 hr3 hR hy h0 hv hne hU m3 h2 k2 h3 ht HO2 HB2 M2 HR hlen;go_wp2_with (refine ze JI rfl (.tmp 29) (.tmp 33) rfl w.heap.size (.slice ao2 1 c2) (.slice (some ⟨w3.heap.size,0,none⟩) 1 1) 1 1 [.int .i64 (L:Nat),.int .i64 0] [.int .i64 (y:Nat),.int .i64 (v:Nat)] rfl rfl (World.ownsRow.alloc (w:=w3) HO3.out _) (jI w3 187 _ _) rfl (ua ((y:Int),(v:Int))) (Nat.le_trans hbase (by simp)) (by omega) (by omega) ?_;intro ao4 c4 W4 hA4;have HA4:=J hA4;clear hA4);obtain ⟨h4,m4⟩:=H3.out.built M3.out HO3.out HA4.out;have hts:Z.TS W4 ao4 [((L:Int),0),((y:Int),(v:Int))]:=uH (n:=2) (c:=c4) HA4.out.own rfl;refine (Z.JU ao4 c4 [((L:Int),0),((y:Int),(v:Int))] W4 hts (by simp)).mono ?_;rintro e w5 ⟨hb5,_,hs5⟩;obtain ⟨a5,c5,rfl,i5,k5⟩:=hs5 _ HU.out;obtain ⟨h6,m6⟩:=h4.grow hb5;have M6:=J (m4.trans m6);have H6:=J h6;obtain ⟨b5,o5,rfl,i6⟩:=ziQ (zs:=zn t) i5;have I6:=J i6;have hz:((L:Int)::zn t).length=t.length+1:=by rw [List.length_cons,zH]
  rw [hz] at k5 ⊢;obtain ⟨q,hq⟩:=exq (t.length);rw [←hq] at k5 ⊢;have hq1:1≤q:=by have:=HLEN.out;omega
  have HQ2:=J hq;have hc5:¬(c5=1):=by omega
  clear h4 m4 hts hb5 hs5 h6 m6 i5 i6 hz hq H3 M3 HO3 HA4 HU;go_wp2_with (go_at_call 60;(with_reducible refine (zE _ _).mono ?_);rintro e w7 ⟨rfl,rfl⟩);go_ret;exact LB.ok HR1.out HQ2.out.symm (by omega) I6.out H6.out M6.out
set_option maxHeartbeats 3200000 in
theorem XM {pc c:Nat}{ao:Option Addr}{own:List Nat}(h:RS B K p pb g bs lim w ov s) (hc:zg w pc own) (hl:own.length=19) :
  Calls prog 140 #[.pointer (some ⟨p,0,none⟩),.slice ao 0 c,.pointer (some ⟨pc,0,none⟩)] w (LB B K p pb g bs lim w ov (nxt bs own [] s)):=by
 obtain ⟨R,hR⟩:=exq (nxt bs own [] s);rw [←hR];unfold nxt at hR;have HR:=J hR;have H:=J h;have HC:=J hc;clear hR h hc;obtain ⟨i,hi1,hi2,hi3,hi4⟩:=info_parts JI.info;have HI:=J (And.intro hi1 (And.intro hi2 (And.intro hi3 hi4)));clear hi1 hi2 hi3 hi4;go_enter func140,ntmps140;go_wp2_with (refine wpList_make_own _ rfl _ _ 143 rfl w.heap.size 187 i (.agg #[.int .i64 0,.int .i64 0]) 2 JI.hu HI.out.1 HI.out.2.1 HI.out.2.2.1 .i64 .i64 _ 2 rfl rfl rfl (by rw [HI.out.2.2.2];decide) (by decide) (Nat.le_refl _) ?_;intro W2 ho1 hg1;have HO2:=J ho1;have HT1:=J ((Touch.refl (fun _=>False) w).grown hg1 (fun k hk=>by cases hk));clear ho1 hg1);have HB2:Hid (Below w.heap.size w W2):=J (HT1.out.below (Nat.le_refl _) fun _ h=>h.elim);obtain ⟨h2,m2⟩:=H.out.grow HB2.out;have k2:=HC.out.below HB2.out;have M2:=J m2;clear HT1 m2;refine (UR h2 k2).mono ?_;rintro e w3 h3;cases hr3:itm bs own s with
 | bad er=>
  rw [hr3] at h3;obtain ⟨rfl,ht⟩:=h3;have hR:=HR.out;rw [hr3] at hR;have HR1:=J hR;clear hr3 hR h2 k2;go_wp2;exact ⟨rfl,LB.bad HR1.out (M2.out.bad ht)⟩
 | ok x s3=>
  rw [hr3] at h3;obtain ⟨rfl,ov3,h3,m3⟩:=h3;obtain ⟨hy,h0,hv⟩:=zbh hr3 hl;have hR:=HR.out;rw [hr3,Res.bind_ok,uq hy h0] at hR;obtain ⟨y,v⟩:=x;simp only at hy h0 hv hR;have HR1:=J hR;have M3:=J (M2.out.trans m3);have HO3:=J (XU HO2.out m3.touch h2.safe);have H3:=J h3;have hbase:w.heap.size≤w3.heap.size:=Nat.le_trans HB2.out.size m3.touch.size;have HY:=J (And.intro hy (And.intro h0 hv));clear hr3 hR hy h0 hv m3 h2 k2 h3 HO2 HB2 M2 HR;go_wp2_with (refine ze JI rfl (.tmp 29) (.tmp 33) rfl w.heap.size (.slice (some ⟨w.heap.size,0,none⟩) 0 2) (.slice (some ⟨w3.heap.size,0,none⟩) 1 1) 0 1 [] [.int .i64 (y:Nat),.int .i64 (v:Nat)] rfl rfl (World.ownsRow.alloc (w:=w3) HO3.out _) (jI w3 187 _ _) rfl (ua ((y:Int),(v:Int))) (Nat.le_trans hbase (by simp)) (by omega) (by omega) ?_;intro ao4 c4 W4 hA4;have HA4:=J hA4;clear hA4);obtain ⟨h4,m4⟩:=H3.out.built M3.out HO3.out HA4.out;have hts:Z.TS W4 ao4 [((y:Int),(v:Int))]:=uH (n:=1) (c:=c4) HA4.out.own rfl;refine (Z.JU ao4 c4 [((y:Int),(v:Int))] W4 hts (by simp)).mono ?_;rintro e w5 ⟨hb5,hn5,hs5⟩;obtain ⟨h6,m6⟩:=h4.grow hb5;have M6:=J (m4.trans m6);have H6:=J h6;by_cases hy16:y=16
  ·subst hy16
   have hR:=HR1.out;rw [if_pos (by simp)] at hR;have HR2:=J hR;obtain rfl:=hn5 (zcr v);clear h4 m4 hts hb5 hs5 h6 m6 H3 M3 HO3 HA4 hR hn5;go_wp2_with (go_at_call 60;(refine (qa 10 _).mono ?_);rintro e w7 ⟨rfl,rfl⟩);exact ⟨rfl,LB.bad HR2.out M6.out.touch⟩
  ·have hR:=HR1.out
   rw [if_neg (fun e=>hy16 e.1)] at hR;have HR2:=J hR;have hU:=zhf (row:=[]) (ts:=[]) HY.out.1 HY.out.2.1 HY.out.2.2 (by simp) fun e=>absurd e hy16
   obtain ⟨a5,c5,rfl,i5,k5⟩:=hs5 _ hU;rw [List.nil_append] at i5 k5;have I5:=J i5;have hz:([]++zn (qO y v [])).length=(qO y v []).length:=by rw [List.nil_append,zH]
   rw [hz];rw [zH] at k5;have hlen:=kN y v [];have hlen2:=vW (v:=v) [] HY.out.2.2;obtain ⟨q,hq⟩:=exq ((qO y v []).length);rw [←hq] at k5 hlen hlen2 ⊢;have HQ2:=J hq;have hc5:¬(c5=0):=by omega
   clear h4 m4 hts hb5 hs5 h6 m6 i5 hz hq H3 M3 HO3 HA4 hU hn5 hR hy16;go_wp2_with (go_at_call 60;(with_reducible refine (zE _ _).mono ?_);rintro e w7 ⟨rfl,rfl⟩);go_ret;exact LB.ok HR2.out HQ2.out.symm k5 I5.out H6.out M6.out
end
theorem zkp {α : Type}{L:Nat}{f : α → Sta→Res (Bool × α)}(hf:vg L f) (I O : α → Prop) (h:∀ a s x s',I a→s.at_≤L→f a s=.ok x s'→(x.1=true→O x.2)∧(x.1=false→I x.2)) :
  ∀ a s b t,I a→s.at_≤L→run L f a s=.ok b t→O b:=by
 have key:∀ n a s b t,L-s.at_≤n→I a→s.at_≤L→run L f a s=.ok b t→O b:=by
  intro n;induction n with
  | zero=>
   intro a s b t hn hI hs hr;rw [xl hf a hs] at hr;obtain ⟨x,s',h1,h2⟩:=Res.bind_is hr;have:=hf a s x s' hs h1;omega
  | succ n ih=>
   intro a s b t hn hI hs hr;rw [xl hf a hs] at hr;obtain ⟨x,s',h1,h2⟩:=Res.bind_is hr;have h3:=hf a s x s' hs h1;have h4:=h a s x s' hI hs h1;split at h2
   ·rename_i hx;cases h2;exact h4.1 hx
   ·rename_i hx;exact ih x.2 s' b t (by omega) (h4.2 (by simpa using hx)) h3.2 h2
 exact fun a s b t hI hs hr=>key _ a s b t (Nat.le_refl _) hI hs hr
section
variable {B K p pb:Nat}{g:Option Nat}{bs:List Nat}{lim:Nat}{w:World}{ov:Value}{s:Sta}
theorem uW {y v:Nat}{row:List Nat}(hy:y≤18) (hr:∀ x∈row,x≤15):∀ x∈qO y v row,x≤15:=by
 intro x hx;unfold qO at hx;rw [List.mem_replicate] at hx;rw [hx.2];split
 ·rw [List.getLastD_eq_getLast?]
  cases hl:row.getLast? with
  | none=>exact Nat.zero_le _
  | some z=>exact hr z (List.mem_of_getLast? hl)
 ·split
  ·exact Nat.zero_le _
  ·split
   ·exact Nat.zero_le _
   ·omega
theorem zeL {own row t:List Nat}{s1:Sta}(h:nxt bs own row s=.ok t s1) (hl:own.length=19) (hr:∀ x∈row,x≤15) (hs:s.at_≤8*bs.length):(∀ x∈t,x≤15)∧1≤t.length∧t.length≤138∧s.at_<s1.at_:=by
 obtain ⟨x,s',h1,h2⟩:=Res.bind_is h;obtain ⟨hy,h0,hv⟩:=zbh h1 hl;have h3:=zaB (lim:=0) own hs h1;rw [uq hy h0] at h2;split at h2
 ·cases h2
 ·rename_i ht
  split at ht
  ·cases ht
  ·cases ht
   cases h2;exact ⟨uW hy hr,kN _ _ _,vW _ hv,h3.1⟩
theorem XA (own:List Nat) (n:Nat) (row:List Nat) (s:Sta):yx bs own n row s=(nxt bs own row s).bind fun t s1=>if n<(row++t).length then .bad 10 else .ok (decide ((row++t).length=n),row++t) s1:=by
 unfold yx nxt;cases itm bs own s with
 | bad e=>rfl
 | ok x s1=>
  simp only [Res.bind_ok];cases told x.1 x.2 row with
  | none=>rfl
  | some t=>rfl
theorem zcd (own:List Nat) (n:Nat) (row:List Nat){s:Sta}(hs:s.at_≤8*bs.length):run (8*bs.length) (yx bs own n) row s=(nxt bs own row s).bind fun t s1=>
  if n<(row++t).length then .bad 10 else if (row++t).length=n then .ok (row++t) s1 else run (8*bs.length) (yx bs own n) (row++t) s1:=by
 rw [xl (xS own n) row hs,XA];cases nxt bs own row s with
 | bad e=>rfl
 | ok t s1=>
  simp only [Res.bind_ok];split
  ·rfl
  ·simp only [Res.bind_ok,decide_eq_true_eq]
theorem zi9 {own row:List Nat}{n:Nat}{t:Sta}(hl:own.length=19) (hs:s.at_≤8*bs.length) (h:lens bs own n s=.ok row t):row.length=n∧∀ x∈row,x≤15:=by
 refine zkp (xS own n) (fun row=>∀ x∈row,x≤15) (fun row=>row.length=n∧∀ x∈row,x≤15) (fun a s x s' hI hs hx=>?_) [] s row t (fun x hx=>by simp at hx) hs h;rw [XA] at hx;obtain ⟨t,s1,h1,h2⟩:=Res.bind_is hx;obtain ⟨k1,k2,k3,k4⟩:=zeL h1 hl hI hs;split at h2
 ·cases h2
 ·cases h2
  have hall:∀ x∈a++t,x≤15:=fun x hx=>by
   rcases List.mem_append.1 hx with hx | hx
   ·exact hI x hx
   ·exact k1 x hx
  exact ⟨fun he=>⟨by simpa using he,hall⟩,fun _=>hall⟩
theorem zba {pc c n:Nat}{ao:Option Addr}{own row:List Nat}(h:RS B K p pb g bs lim w ov s) (hc:zg w pc own) (hl:own.length=19) (hr:IS w ao (zn row)) (hn:row.length=n) (hrl:row.length≤320) (hr15:∀ x∈row,x≤15) :
  Calls prog 140 #[.pointer (some ⟨p,0,none⟩),.slice ao n c,.pointer (some ⟨pc,0,none⟩)] w (LB B K p pb g bs lim w ov (nxt bs own row s)):=by
 subst hn;by_cases hne:row=[]
 ·subst hne
  exact XM h hc hl
 ·exact Xu h hc hl hr hrl hr15 hne
def Lst (bs own:List Nat) (n:Nat) (R:Res (List Nat)) (row:List Nat) (s:Sta):Prop:=
 (row.length<n∧run (8*bs.length) (yx bs own n) row s=R)∨(row.length=n∧R=.ok row s)∨(n<row.length∧R=.bad 10)
structure Lx (B K p pb:Nat) (g:Option Nat) (bs:List Nat) (lim:Nat) (w:World) (ov:Value) (pc:Nat) (own:List Nat) (ao:Option Addr) (c:Nat) (wr:World) (ov':Value) (s':Sta) (row:List Nat):Prop where
 rs:RS B K p pb g bs lim wr ov' s'
 mv:Mv p pb w ov wr ov'
 code:xf wr w.heap.size pc own
 own_:wr.ownsRow w.heap.size 3 1 (.slice ao row.length c) row.length (iv (zn row))
 small:∀ x∈row,x≤15
theorem za3 {w1 W:World}(hK:K≤w.heap.size){ov1 v:Value}{s1:Sta}{n:Nat}{xs:List Value}(h:RS B K p pb g bs lim W ov1 s1) (m:Mv p pb w ov W ov1) (hrow:W.ownsRow w.heap.size 3 1 v n xs) (ht:Touch (fun k=>v.ownBlock=some k) W w1) :
  RS B K p pb g bs lim w1 ov1 s1∧Mv p pb w ov w1 ov1:=by
 cases hv:v.ownBlock with
 | none=>
  obtain ⟨h2,m2⟩:=h.grow (ht.below (Nat.le_refl _) fun k hk=>by rw [hv] at hk;cases hk)
  exact ⟨h2,m.trans m2⟩
 | some k=>
  obtain ⟨cs,hc⟩:=zZ hrow hv;exact xB h m (show Blk W k 3 cs from hc) (.inr ⟨.inl rfl,Nat.le_trans hK (hrow.lt k hv).1⟩) (hrow.lt k hv).1 (ht.mono fun i hi=>by rw [hv] at hi;cases hi;rfl)
theorem zdr {w1 W:World}{v:Value}{n pc:Nat}{ls:List Nat}{xs:List Value}(h:xf W w.heap.size pc ls) (hrow:W.ownsRow w.heap.size 3 1 v n xs) (ht:Touch (fun k=>v.ownBlock=some k) W w1):xf w1 w.heap.size pc ls:=by
 cases hv:v.ownBlock with
 | none=>exact h.safe (ht.mono (T:=fun _=>False) fun k hk=>by rw [hv] at hk;cases hk) (fun _ _ _ _ h=>h.elim)
 | some k=>
  obtain ⟨cs,hc⟩:=zZ hrow hv;exact h.aside (show Blk W k 3 cs from hc) (ht.mono fun i hi=>by rw [hv] at hi;cases hi;rfl) ⟨by decide,by decide,fun _=>(hrow.lt k hv).1⟩
set_option maxHeartbeats 3200000 in
theorem Uy {pc n:Nat}{own:List Nat}(hK:K≤w.heap.size) (h:RS B K p pb g bs lim w ov s) (hc:zg w pc own) (hl:own.length=19) (hn1:1≤n) (hn:n≤320) :
  Calls prog 102 #[.pointer (some ⟨p,0,none⟩),.pointer (some ⟨pc,0,none⟩),.int .i64 n] w (LB B K p pb g bs lim w ov (lens bs own n s)):=by
 obtain ⟨R,hR⟩:=exq (lens bs own n s);rw [←hR];have HL0:Hid (Lst bs own n R [] s):=J (.inl ⟨by simp;omega,hR.symm⟩);have H:=J h;have HK:=J hK;have HC:=J hc.in_;clear hR h hc hK;obtain ⟨i,hi1,hi2,hi3,hi4⟩:=info_parts kg.info;have HI:=J (And.intro hi1 (And.intro hi2 (And.intro hi3 hi4)));clear hi1 hi2 hi3 hi4;go_enter func102,ntmps102;go_wp2_with (refine wpList_make_own _ rfl _ _ 40 rfl w.heap.size 3 i (.int .i64 0) 1 kg.hu HI.out.1 HI.out.2.1 HI.out.2.2.1 .i64 .i64 _ n rfl rfl rfl (by rw [HI.out.2.2.2];omega) (by unfold maxLen;omega) (Nat.le_refl _) ?_;intro W1 ho1 hg1;have HO1:=J ho1;have HT1:=J ((Touch.refl (fun _=>False) w).grown hg1 (fun k hk=>by cases hk));clear ho1 hg1);have HX0:Hid (Lx B K p pb g bs lim w ov pc own (some ⟨w.heap.size,0,none⟩) n W1 ov s []):=J (by
  have hb:Below w.heap.size w W1:=HT1.out.below (Nat.le_refl _) fun _ h=>h.elim
  obtain ⟨h2,m2⟩:=H.out.grow hb;exact ⟨h2,m2,HC.out.safe (Touch.of_below hb:Touch (fun _=>False) w W1) (fun _ _ _ _ h=>h.elim),HO1.out,fun x hx=>by simp at hx⟩)
 clear HO1 HT1 H HC;go_loopg [7] (8*bs.length+1) (fun gm v wr=>∃ (row:List Nat) (s':Sta) (ao:Option Addr) (c:Nat) (ov':Value),8*bs.length+1-s'.at_≤gm∧v=.slice ao row.length c∧Hid (Lst bs own n R row s')∧row.length≤600∧Lx B K p pb g bs lim w ov pc own ao c wr ov' s' row)
 case atStart=>exact ⟨[],s,_,n,ov,by omega,rfl,HL0,by simp,HX0.out⟩
 case round=>
  clear HX0 HL0;obtain ⟨row,s1,ao,c,ov1,hgm,rfl,HS,hr6,hx⟩:=hrel;have HX:=J hx;have hin:=hx.rs.in_;clear hx;rcases HS.out with ⟨hlt,hrun⟩ | ⟨heq,hRe⟩ | ⟨hgt,hRe⟩
  ·have hRR:=hrun.symm
   rw [zcd own n row hin] at hRR;have HR:=J hRR;have hlt':(row.length:Int)<n:=by omega
   have hI:=HX.out.own_;have HI2:=J (j9 hI (zH row));clear hrun hRR hI;go_wp2_with fail
   refine (zba HX.out.rs HX.out.code.at_ hl HI2.out rfl (by omega) HX.out.small).mono ?_;rintro e w2 h2;have hRR:=HR.out;cases hr1:nxt bs own row s1 with
   | bad er=>
    rw [hr1] at h2 hRR;obtain ⟨rfl,ht⟩:=h2;have HR1:=J hRR;clear hr1 hRR;go_wp2;exact ⟨rfl,LB.bad HR1.out (HX.out.mv.bad ht)⟩
   | ok t s2=>
    rw [hr1,Res.bind_ok] at hRR;rw [hr1] at h2;obtain ⟨a2,c2,rfl,⟨i2,_⟩,ov2,h2,m2⟩:=h2;obtain ⟨k1,k2,k3,k4⟩:=zeL hr1 hl HX.out.small hin;have HR1:=J hRR;have hsf:=HX.out.rs.safe;have HC2:=J (HX.out.code.safe m2.touch hsf);have HO2:Hid (w2.ownsRow w.heap.size 3 1 (.slice ao row.length c) row.length (iv (zn row))):=J (zd HX.out.own_ m2.touch fun k hk e=>by
     obtain ⟨cs,hc⟩:=zZ HX.out.own_ hk;rcases hsf k 3 cs hc e with x | x | x <;> simp at x)
    have H2:=J h2;have M2:=J (HX.out.mv.trans m2);have hne:zn t≠[]:=fun e=>by have:=zH t;rw [e] at this;simp at this;omega
    have HCA:Hid (zI w2 (.slice a2 t.length c2) t.length (iv (zn t))):=J (by have:=i2.cells (c:=c2) fun e=>absurd e hne;rwa [zH] at this)
    have hsz:w.heap.size≤w2.heap.size:=M2.out.touch.size;have HSM:Hid (∀ x∈row++t,x≤15):=J fun x hx=>by
     rcases List.mem_append.1 hx with hx | hx
     ·exact HX.out.small x hx
     ·exact k1 x hx
    clear hr1 hRR h2 m2 i2 hne hsf k1;go_wp2_with (refine ze kg rfl (.tmp 14) (.tmp 18) rfl w.heap.size (.slice ao row.length c) (.slice a2 t.length c2) row.length t.length (iv (zn row)) (iv (zn t)) rfl rfl HO2.out HCA.out (by simp [Qy,zH]) (zbn _) hsz (by omega) (by omega) ?_;intro ao3 c3 W3 hA;have HA:=J hA;clear hA);go_roundg (8*bs.length+1-s2.at_)
    case measure=>omega
    case rel=>
     have hrow:(row++t).length=row.length+t.length:=List.length_append;refine ⟨row++t,s2,ao3,c3,ov2,Nat.le_refl _,by rw [hrow],?_,by omega,?_⟩
     ·have hR1:=HR1.out
      by_cases g1:n<(row++t).length
      ·rw [if_pos g1] at hR1
       exact J (.inr (.inr ⟨g1,hR1⟩))
      ·rw [if_neg g1] at hR1
       by_cases g2:(row++t).length=n
       ·rw [if_pos g2] at hR1
        exact J (.inr (.inl ⟨g2,hR1⟩))
       ·rw [if_neg g2] at hR1
        exact J (.inl ⟨by omega,hR1.symm⟩)
     ·have hA3:=HA.out
      have ho:=hA3.own;rw [jM,←ze9,←hrow] at ho;obtain ⟨h5,m5⟩:=za3 HK.out H2.out M2.out HO2.out hA3.touch;exact ⟨h5,m5,zdr HC2.out HO2.out hA3.touch,ho,HSM.out⟩
  ·have hge:(n:Int)≤row.length:=by omega
   have d1:((row.length:Int) == n)=true:=by simp;omega
   have HRE:=J hRe;have HQE:=J heq;have HI2:=J (j9 HX.out.own_ (zH row));clear hRe heq;go_wp2_with (go_at_call 60;(with_reducible refine (zE _ _).mono ?_);rintro e w7 ⟨rfl,rfl⟩);go_ret;exact LB.ok HRE.out rfl (Z.jU HX.out.own_) HI2.out HX.out.rs HX.out.mv
  ·have hge:(n:Int)≤row.length:=by omega
   have d1:((row.length:Int) == n)=false:=by simp;omega
   have HRE:=J hRe;clear hRe hgt;go_wp2_with (go_at_call 60;(refine (qa 10 _).mono ?_);rintro e w7 ⟨rfl,rfl⟩);exact ⟨rfl,LB.bad HRE.out HX.out.mv.touch⟩
end
def Tab (w:World):Prop:=∀ j,j<19→w.cell? ⟨2,j,none⟩=some (.int .i64 (ord.getD j 0:Nat))
theorem Tab.touch {S:Nat→Prop}{w w':World}(h:Tab w) (ht:Touch S w w') (hs:¬S 2):Tab w':=fun j hj=>by
 have h1:=h j hj;rw [←h1];exact World.cell?_of_block (ht.block 2 (World.block_lt_of_cell? w _ h1) hs)
theorem Tab.below {w w':World}(h:Tab w) (hb:Below w.heap.size w w'):Tab w':=h.touch (Touch.of_below hb:Touch (fun _=>False) w w') fun h=>h
theorem Tab.pos {w:World}(h:Tab w):2<w.heap.size:=World.block_lt_of_cell? w _ (h 0 (by omega))
theorem zi7:∀ i,i<19→∀ k,k<19→(ord.idxOf i=k↔i=ord.getD k 0):=by decide +kernel
theorem zbw:∀ k,k<19→ord.getD k 0<19:=by decide +kernel
theorem qk (l:List Nat):(zp l).length=19:=by simp [zp]
theorem J5 (l:List Nat) (i:Nat) (h:i<19):(zp l).getD i 0=l.getD (ord.idxOf i) 0:=by simp [zp,List.getD,h]
theorem KV (l:List Nat) (v:Nat) (hl:l.length<19):(ia 19 fun j=>(zp l).getD j 0).setIfInBounds (ord.getD l.length 0) (.int .i64 (v:Nat))=ia 19 fun j=>(zp (l++[v])).getD j 0:=by
 refine jW 19 _ _ _ v fun i hi=>?_
 rw [J5 _ _ hi,J5 _ _ hi];have h:=zi7 i hi l.length hl;by_cases h1:ord.idxOf i=l.length
 ·rw [if_pos (h.1 h1),h1]
  simp [List.getD]
 ·rw [if_neg (fun e=>h1 (h.2 e))]
  simp only [List.getD_eq_getElem?_getD,List.getElem?_append];split
  ·rfl
  ·rename_i h2
   rw [List.getElem?_eq_none (by omega:l.length≤_)];rw [List.getElem?_eq_none (by simp;omega)]
theorem Kn:(ia 19 fun j=>(zp []).getD j 0)=va (19*1) fun i=>(Value.int .i64 0).cells[i%(Value.int .i64 0).cells.size]! := by
 refine zq fun i hi=>?_
 show Value.int .i64 (((zp []).getD i 0:Nat):Int)=_;rw [J5 _ _ (by omega)];simp [Value.cells,Nat.mod_one]
theorem ko {o:List Nat}(h:∀ x∈o,x<8):∀ x∈zp o,x≤15:=by
 intro x hx;simp [zp] at hx;obtain ⟨j,_,rfl⟩:=hx;cases hj:o[ord.idxOf j]? with
 | none=>simp
 | some y=>have:=h y (List.mem_of_getElem? hj);simp;omega
theorem zic (A:Array Value) (w:World):(callFunc 38 A).run prog w=.ok (.enter 38 A) w:=by kernel_rfl
theorem UC {ops:Array Oper}{o:Oper}{a:Act}{w:World}{K:Act→World→Prop}{Q:Exit→Act→World→Prop}{E:Prop}(hw:Region.wanted o (yielded ops a.tmps)=true) (f:FuncId) (args:Array Value)
  (hr:(execOp a.eval o).run prog w=.ok (.enter f args) w) (hc:Calls prog f args w fun e w'=>∃ ch,e=.panicked ch∧Q (.panic ch) a w') :
  if Region.wanted o (yielded ops a.tmps)=true then Oper.wp prog o a w K Q else E:=by
 rw [if_pos hw];unfold Oper.wp;rw [hr];exact hc.mono (by rintro e w' ⟨ch,rfl,hR⟩;exact hR)
section
variable {B K p pb:Nat}{g:Option Nat}{bs:List Nat}{lim:Nat}{w:World}{ov:Value}{s:Sta}
def OC (B K p pb:Nat) (g:Option Nat) (bs:List Nat) (lim:Nat) (w:World) (ov:Value) (r:Res (List Nat)) (e:Ending) (w':World):Prop:=
 match r with
 | .bad er=>X5 p pb w ov er e w'
 | .ok o s=>∃ pc,e=.returned (.pointer (some ⟨pc,0,none⟩))∧zg w' pc (zp o)∧∃ ov',RS B K p pb g bs lim w' ov' s∧Mv p pb w ov w' ov'
theorem OC.bad {R:Res (List Nat)}{er:Nat}{w':World}(e:R=.bad er) (ht:Touch (FT p pb ov) w w'):OC B K p pb g bs lim w ov R (pan er) w':=by
 subst e;exact ⟨rfl,ht⟩
def zdw (bs:List Nat) (n:Nat) (s:Sta):Res (List Nat):=(rdO bs n [] s).bind fun o s4=>if room (zp o)≠32768 then .bad 10 else .ok o s4
structure Ox (B K p pb:Nat) (g:Option Nat) (bs:List Nat) (lim:Nat) (w:World) (ov:Value) (q:Nat) (l:List Nat) (wr:World) (ov':Value) (s':Sta):Prop where
 rs:RS B K p pb g bs lim wr ov' s'
 mv:Mv p pb w ov wr ov'
 row:Blk wr q 3 (ia 19 fun j=>(zp l).getD j 0)
 tab:Tab wr
set_option maxHeartbeats 3200000 in
theorem U7 {n:Nat}(hK:K≤w.heap.size) (hB:2<B) (hT:Tab w) (h:RS B K p pb g bs lim w ov s) (hn:n≤19) :
  Calls prog 101 #[.pointer (some ⟨p,0,none⟩),.int .i64 n] w (OC B K p pb g bs lim w ov (zdw bs n s)):=by
 obtain ⟨R,hR⟩:=exq (zdw bs n s);rw [←hR];unfold zdw at hR;obtain ⟨R0,hR0⟩:=exq (rdO bs n [] s);rw [←hR0] at hR;have HR:=J hR;have HR0:Hid (rdO bs (n-([]:List Nat).length) [] s=R0∧∀ x∈([]:List Nat),x<8):=J ⟨hR0.symm,fun x hx=>by simp at hx⟩
 obtain ⟨q,hq⟩:=exq (w.heap.size);have HQ:=J hq;have H:=J h;have HK:=J hK;have HT:=J hT;have HW0:=J hT.pos;have HBp:=J hB;clear hR hR0 h hT hq hK hB;go_enter func101,ntmps101;go_wp2_with (refine zy rfl 40 (.const (.int .i64 19)) (.const (.int .i64 19)) rfl 3 (.int .i64 0) 1 8 19 underlying40 (by kernel_rfl) .i64 .i64 _ _ rfl rfl rfl rfl (by omega) (by omega) ?_;intro W1 hb1 ht1 hs1;rw [←Kn,←HQ.out] at hb1;rw [←HQ.out];have HW1:=J hb1;have HT1:=J ht1;clear hb1 ht1 hs1);have HX0:Hid (Ox B K p pb g bs lim w ov q [] W1 ov s):=J (by
  have hb:Below w.heap.size w W1:=HT1.out.below (Nat.le_refl _) fun _ h=>h.elim
  obtain ⟨h2,m2⟩:=H.out.grow hb;exact ⟨h2,m2,HW1.out,HT.out.below hb⟩)
 clear HW1 HT1 H HT;go_loopw [6,10] (fun _ iv' wr=>∃ (l:List Nat) (s':Sta) (ov':Value),l.length≤n∧iv' = .int .i64 l.length∧Hid (rdO bs (n-l.length) l s'=R0∧∀ x∈l,x<8)∧Ox B K p pb g bs lim w ov q l wr ov' s') (fun _ iv' _=>n-(intOf iv').toNat)
 case atStart=>exact ⟨[],s,ov,Nat.zero_le _,rfl,HR0,HX0.out⟩
 case round=>
  clear HX0 HR0;obtain ⟨l,s1,ov1,hl,rfl,HS,hx⟩:=hrel;have HX:=J hx;clear hx;by_cases hlt:l.length<n
  ·obtain ⟨i,hi⟩:=exq (l.length)
   have hi19:i<19:=by omega
   obtain ⟨o,ho⟩:=exq (ord.getD i 0);have ho19:o<19:=by rw [ho];exact zbw i hi19
   have t0:=HX.out.tab i hi19;rw [←ho] at t0;have hD:=HX.out.rs.drewN 1;have hN:=zY hD.1 3 (by omega);have hS:=HS.out.1;rw [show n-l.length=(n-l.length-1)+1 by omega,rdO] at hS;have HO:=J (And.intro hi ho);cases hr:rdN bs 3 s1 with
   | bad er=>
    rw [hr] at hN hS;have HN:Hid (Calls prog 38 #[.pointer (some ⟨p,0,none⟩),.int .i64 3] wr.drew (X5 p pb wr.drew ov1 er)):=J hN;have FIN:Hid (∀ w2,X5 p pb wr.drew ov1 er (pan er) w2→OC B K p pb g bs lim w ov R (pan er) w2):=J fun w2 h2=>by
     refine OC.bad ?_ ((HX.out.mv.trans hD.2).bad h2.2);rw [HR.out,←hS];rfl
    have hin:(i:Int)<n:=by omega
    have hi0:(0:Int)≤i:=by omega
    have hi9:(i:Int)<19:=by omega
    clear hN hS hr hD ho;rw [←hi];clear hi hlt hl;go_wp2;refine wp_region_held_drew (S:=fun W=>W.cell? ⟨2,i,none⟩=some (.int .i64 (o:Nat))) (by kernel_rfl) t0 (fun hHeld=>?_)
    refine wpAnyH_take (i:=0) (v:=.slice (some ⟨q,0,none⟩) 19 19) (oi:={ dst:=some 13,op:=Op.move (Operand.tmp 5),type:=40,pos := "inflate.go:217",after := #[],guard:=none }) rfl (by kernel_rfl) (by kernel_rfl) (by kernel_rfl) (fun _ _ _ h=>h) (Or.inl ⟨by rfl,fun W hSw=>by go_simp⟩) hHeld ?_;try simp only [Act.put,List.setIfInBounds_toArray,List.set_cons_zero,List.set_cons_succ]
    refine wpAnyH_take (i:=1) (v:=.int .i64 i) (oi:={ dst:=some 14,op:=Op.move (Operand.tmp 6),type:=3,pos := "inflate.go:217",after := #[],guard:=none }) rfl (by kernel_rfl) (by kernel_rfl) (by kernel_rfl) (fun _ _ _ h=>h) (Or.inl ⟨by rfl,fun W hSw=>by go_simp⟩) hHeld ?_;try simp only [Act.put,List.setIfInBounds_toArray,List.set_cons_zero,List.set_cons_succ]
    refine wpAnyH_take (i:=2) (v:=.pointer (some ⟨2,i,none⟩)) (oi:={ dst:=some 15,op:=Op.indexAddr 186 (Operand.global 2) (Operand.tmp 14),type:=0,pos := "inflate.go:217",after := #[{ on:=1,ground:=Ground.data }],guard:=none }) rfl (by kernel_rfl) (by kernel_rfl) (by kernel_rfl) (fun _ _ _ h=>h) (Or.inl ⟨by rfl,fun W hSw=>by go_simp⟩) hHeld ?_;try simp only [Act.put,List.setIfInBounds_toArray,List.set_cons_zero,List.set_cons_succ]
    refine wpAnyH_take (i:=3) (v:=.int .i64 (o:Nat)) (oi:={ dst:=some 16,op:=Op.load 3 (Operand.tmp 15),type:=3,pos := "inflate.go:217",after := #[{ on:=2,ground:=Ground.data }],guard:=none }) rfl (by kernel_rfl) (by kernel_rfl) (by kernel_rfl) (fun _ _ _ h=>h) (Or.inl ⟨by rfl,fun W hSw=>by go_simp⟩) hHeld ?_;try simp only [Act.put,List.setIfInBounds_toArray,List.set_cons_zero,List.set_cons_succ]
    refine wpAnyH_take (i:=4) (v:=.pointer (some ⟨p,0,none⟩)) (oi:={ dst:=some 17,op:=Op.move (Operand.tmp 0),type:=44,pos := "inflate.go:217",after := #[],guard:=none }) rfl (by kernel_rfl) (by kernel_rfl) (by kernel_rfl) (fun _ _ _ h=>h) (Or.inl ⟨by rfl,fun W hSw=>by go_simp⟩) hHeld ?_;try simp only [Act.put,List.setIfInBounds_toArray,List.set_cons_zero,List.set_cons_succ]
    refine wpAnyH_ready (rs:=[5]) (by kernel_rfl) (by simp) ?_;refine AllReadyH.cons (o:={ dst:=some 18,op:=Op.call { callee:=Callee.value (Operand.func 38),args := #[Operand.tmp 17,Operand.const (Value.int IntKind.i64 3)],argTypes := #[44,3] },type:=3,pos := "inflate.go:217",after := #[{ on:=4,ground:=Ground.data }],guard:=none }) rfl (fun K hK=>?_) AllReadyH.nil;refine UC (by rfl) _ _ (Z.zB (.func 38) (.tmp 17) (.const (.int .i64 3)) _ 38 #[] (.pointer (some ⟨p,0,none⟩)) (.int .i64 3) (fun _=>zic _ _) rfl rfl rfl rfl) ?_;refine HN.out.mono ?_;rintro e w2 ⟨rfl,ht⟩;exact ⟨_,rfl,rfl,FIN.out _ ⟨rfl,ht⟩⟩
   | ok v s2=>
    rw [hr] at hN hS;rw [Res.bind_ok] at hS;have HN:Hid (Calls prog 38 #[.pointer (some ⟨p,0,none⟩),.int .i64 3] wr.drew (ROk B K p pb g bs lim wr.drew ov1 (.int .i64 (v:Nat)) s2)):=J hN;have HV8:Hid (∀ x∈l++[v],x<8):=J fun x hx=>by
     rcases List.mem_append.1 hx with hx | hx
     ·exact HS.out.2 x hx
     ·rw [List.mem_singleton.1 hx];exact qE hr
    have HS1:=J hS;have hq0:=hD.1;have hB0:=HBp.out;have AFT:Hid (∀ w2 ov2,RS B K p pb g bs lim w2 ov2 s2→Mv p pb wr.drew ov1 w2 ov2→
      w2.cell? ⟨2,i,none⟩=some (.int .i64 (o:Nat))∧w2.frozen? ⟨q,o,none⟩=false∧w2.cell? ⟨q,o,none⟩=some (.int .i64 ((zp l).getD o 0:Nat))∧Hid (Ox B K p pb g bs lim w ov q (l++[v]) (w2.setCell ⟨q,o,none⟩ (.int .i64 (v:Nat))) ov2 s2)):=J fun w2 ov2 h2 m2=>by
     have hrow:Blk wr.drew q 3 (ia 19 fun j=>(zp l).getD j 0):=HX.out.row;have hr2:=hrow.safe m2.touch hq0.safe (by decide);have htab:Tab wr.drew:=HX.out.tab;have ht2:=htab.touch m2.touch fun h0=>by have:=hq0.base 2 h0;omega
     have hi2:=ht2 i hi19;rw [←ho] at hi2;refine ⟨hi2,hr2.free o,(hr2.cell o).trans (zw 19 _ o ho19),J ?_⟩;have hset:Touch (fun k=>k=q) w2 (w2.setCell ⟨q,o,none⟩ (.int .i64 (v:Nat))):=(Touch.refl _ w2).setCell _ _ (.inl rfl);have hqw:w.heap.size≤q:=Nat.le_of_eq HQ.out.symm;obtain ⟨h3,m3⟩:=xB h2 ((HX.out.mv.trans hD.2).trans m2) hr2 (.inr ⟨.inl rfl,Nat.le_trans HK.out hqw⟩) hqw hset;refine ⟨h3,m3,?_,ht2.touch hset fun e=>?_⟩
     ·have:=hr2.setCell o (.int .i64 (v:Nat))
      have h5:=KV l v (by omega);rw [←hi,←ho] at h5;rwa [h5] at this
     ·have h6:=HW0.out
      have h7:q=2:=e.symm;have hz:=HQ.out;omega
    have hin:(i:Int)<n:=by omega
    have ho19':(o:Int)<19:=by omega
    have ho0:(0:Int)≤o:=by omega
    have hi0:(0:Int)≤i:=by omega
    have hi9:(i:Int)<19:=by omega
    clear hN hS hr hD ho hq0 hB0;rw [←hi];clear hi;go_wp2;go_region_with (go_at_call 38;(refine HN.out.mono ?_);rintro e w2 ⟨rfl,ov2,h2,m2⟩;obtain ⟨c1,c2,c3,c4⟩:=AFT.out w2 ov2 h2 m2;have C4:=J c4;clear h2 m2 c4)
    all_goals
     go_wp2;go_roundw;case rel=>
      refine ⟨l++[v],s2,ov2,by simp;omega,?_,?_,C4.out⟩
      ·have:=HO.out.1
       simp only [List.length_append,List.length_singleton];rw [←this];go_num
      ·have h6:=HS1.out
       have h7:=HO.out.1;rw [←h6];rw [List.length_append,List.length_singleton];exact J ⟨by congr 1,HV8.out⟩
     case measure=>have:=HO.out.1;simp [intOf];omega
  ·have hge:(n:Int)≤l.length:=by omega
   have hln:l.length=n:=by omega
   have hS:=HS.out.1;rw [hln,Nat.sub_self] at hS;have hR1:=HR.out;rw [←hS] at hR1;simp only [rdO,Res.bind_ok] at hR1;have HR1:=J hR1;have HI:Hid (IS wr (some ⟨q,0,none⟩) (zn (zp l))):=J (zfg HX.out.row (zn (zp l)) (by rw [zH,qk]) fun j _=>Jc _ _)
   have HV:Hid (Vd (zn (zp l))):=J ⟨by rw [zH,qk];omega,fun z hz=>by
    unfold zn at hz;obtain ⟨x,hx,rfl⟩:=List.mem_map.1 hz;have:=ko HS.out.2 x hx;omega⟩
   have HZL:Hid ((zn (zp l)).length=19):=J (by rw [zH,qk]);clear hS hR1 hln hlt hl;go_wp2_with fail
   by_cases hro:room (zp l)≤32768
   ·refine (xR (some ⟨q,0,none⟩) 19 19 (zn (zp l)) _ HI.out HZL.out HV.out (by rw [xi];exact hro)).mono ?_
    rintro e w2 ⟨pc,rfl,hc,hb⟩;rw [xi] at hc;have HC2:=J (yE pc (zp l) w2 hc);have HCC:=J hc;have HB:=J hb;by_cases hr2:room (zp l)=32768
    ·have hR2:=HR1.out
     rw [if_neg (by simpa using hr2)] at hR2;have HR2:=J hR2;simp only [hr2,decide_true] at HC2;clear hR2 hc hb hro hr2;go_wp2_with (first
      | (go_at_call 139;(refine HC2.out.mono ?_);rintro e w3 ⟨rfl,hb3⟩;have HB3:=J hb3;clear hb3)
      | (go_at_call 60;(with_reducible refine (zE _ _).mono ?_);rintro e w7 ⟨rfl,rfl⟩))
     go_ret;obtain ⟨h4,m4⟩:=HX.out.rs.grow HB.out;obtain ⟨h5,m5⟩:=h4.grow HB3.out;have hR2:=HR2.out;subst hR2;exact ⟨pc,rfl,HCC.out.below HB3.out,ov1,h5,HX.out.mv.trans (m4.trans m5)⟩
    ·have hR2:=HR1.out
     rw [if_pos (by simpa using hr2)] at hR2;have HR2:=J hR2;simp only [hr2,decide_false] at HC2;clear hR2 hc hb hro hr2;go_wp2_with (first
      | (go_at_call 139;(refine HC2.out.mono ?_);rintro e w3 ⟨rfl,hb3⟩;have HB3:=J hb3;clear hb3)
      | (go_at_call 60;(refine (qa 10 _).mono ?_);rintro e w7 ⟨rfl,rfl⟩))
     obtain ⟨h4,m4⟩:=HX.out.rs.grow HB.out;obtain ⟨h5,m5⟩:=h4.grow HB3.out;exact ⟨rfl,OC.bad HR2.out (HX.out.mv.trans (m4.trans m5)).touch⟩
   ·have hR2:=HR1.out
    rw [if_pos (by intro e;omega)] at hR2;have HR2:=J hR2;refine (uJ (some ⟨q,0,none⟩) 19 19 (zn (zp l)) _ HI.out HZL.out HV.out (by rw [xi];omega)).mono ?_;rintro e w2 ⟨rfl,hb⟩;have HB:=J hb;clear hR2 hro hb;go_wp2;obtain ⟨h4,m4⟩:=HX.out.rs.grow HB.out;exact ⟨rfl,OC.bad HR2.out (HX.out.mv.trans m4).touch⟩
end
end
end Go.Proofs.YtacpfpghokcdlaaGreatDoor
