/- Part 6. -/
import Derived.Test.YthbbpooobaahiaaGreatDoorXA4
import Derived.Test.YthbbpooobaahiaaGreatDoorXA5
namespace Go.Proofs.YthbbpooobaahiaaGreatDoor.Zz
set_option maxRecDepth 100000
section
open Go.RowKit
abbrev zpan (er:Nat):Ending := .panicked [{ v := .iface 85 (.int .i64 (er:Nat)),recovered:=false }]
theorem zmust_yes (er:Int) (w:World):Calls Tryz.prog 43 #[.bool true,.int .i64 er] w fun e w'=>e = .returned (.tuple #[])∧w=w':=by
 go_enter Tryz.func43,Tryz.ntmps43
 go_wp2
 go_end0
 exact ⟨rfl,rfl⟩
theorem zmust_no (er:Nat) (w:World):Calls Tryz.prog 43 #[.bool false,.int .i64 (er:Nat)] w fun e w'=>e=zpan er∧w=w':=by
 go_enter Tryz.func43,Tryz.ntmps43
 go_wp2
 exact ⟨rfl,rfl,rfl⟩
theorem nu2_lt {xs:List Nat} (hb:Bs xs) (p:Nat):nu2 xs p<65536:=by
 have h1:=Cu.num_lt (Cu.Bs.take (Cu.Bs.drop (show Cu.Bs xs from hb) p) 2)
 have h2:((xs.drop p).take 2).length≤2:=by rw [List.length_take];omega
 have h3:256^((xs.drop p).take 2).length≤256^2:=Nat.pow_le_pow_right (by omega) h2
 have h4:(256:Nat)^2=65536:=by decide
 unfold nu2
 omega
theorem nu4_lt {xs:List Nat} (hb:Bs xs) (p:Nat):nu4 xs p<4294967296:=Cu.win_lt (show Cu.Bs xs from hb) p 4 (by omega)
theorem endB_low {xs:List Nat} (hb:Bs xs):∀ k,k+65557≤xs.length→endB xs k=none
 | 0,_=>rfl
 | k+1,h=>by
  have:=nu2_lt hb (k+20)
  rw [endB,if_neg (by omega),endB_low hb k (by omega)]
def endI:Option Nat→Int
 | none => -1
 | some p=>(p:Int)
set_option maxHeartbeats 1600000 in
theorem endPlace_any (ao:Option Addr) (c:Nat) (xs:List Nat) (w:World) (h:Cu.Sl w ao c xs) (hm:xs.length≤1000000) :
  Calls Tryz.prog 44 #[.slice ao xs.length c] w fun e w'=>e = .returned (.int .i64 (endI (endP xs)))∧w=w':=by
 obtain ⟨A,hA⟩:∃ A,A=endP xs:=⟨_,rfl⟩
 rw [←hA]
 have HA:=Lib.hid hA
 have HS:=Lib.hid h
 have HB:=Lib.hid (show Bs xs from h.bs)
 have hbig:=h.big
 have hle:=h.le
 obtain ⟨L,hL⟩:∃ L,L=xs.length:=⟨_,rfl⟩
 have HL:=Lib.hid hL
 rw [←hL] at hm hle ⊢
 clear hA h hL
 go_enter Tryz.func44,Tryz.ntmps44
 go_wp2
 go_loop [4] (fun vi=>∃ k:Nat,k≤L-21∧vi = .int .i64 ((if L<22 then (L:Int)-22 else (k:Int)-1))∧Hid (A=endB xs k)) (fun vi=>((intOf vi)+1).toNat)
 case atStart=>exact ⟨L-21,Nat.le_refl _,by split <;> congr 1 <;> omega,Lib.hid (by rw [HA.out,HL.out];rfl)⟩
 case round=>
  obtain ⟨k,hk,rfl,hrel⟩:=hrel
  by_cases hs:L<22
  ·rw [if_pos hs]
   have HR:Hid (A=none):=Lib.hid (by rw [hrel.out,show k=0 by omega];rfl)
   go_wp2
   all_goals try (exfalso;omega)
   go_ret
   exact ⟨by rw [HR.out];rfl,rfl⟩
  rw [if_neg hs]
  cases k with
  | zero=>
   have HR:Hid (A=none):=Lib.hid (by rw [hrel.out];rfl)
   go_wp2
   all_goals try (exfalso;omega)
   go_ret
   exact ⟨by rw [HR.out];rfl,rfl⟩
  | succ k=>
   by_cases hlow:k+65557<L
   ·have HR:Hid (A=none):=Lib.hid (by rw [hrel.out,endB_low HB.out (k+1) (by have:=HL.out;omega)])
    have hmx:¬(max 0 ((L:Int)-22-65535)≤((k+1:Nat):Int)-1):=by omega
    go_wp2
    all_goals try (exfalso;omega)
    go_ret
    exact ⟨by rw [HR.out];rfl,rfl⟩
   ·have hk1:((k+1:Nat):Int)-1=k:=by omega
    rw [hk1]
    have hmx:max 0 ((L:Int)-22-65535)≤(k:Int):=by omega
    have K1:=Cu.u32_ok ao c xs k w HS.out (by have:=HL.out;omega)
    have K2:=Cu.u16_ok ao c xs (k+20) w HS.out (by have:=HL.out;omega)
    have hst:=hrel.out
    rw [endB] at hst
    rw [←HL.out] at K1 K2 hst
    change Calls _ _ _ _ fun e w'=>e = .returned (.tuple #[.int .i64 (nu4 xs k:Nat),.bool true])∧w=w' at K1
    change Calls _ _ _ _ fun e w'=>e = .returned (.tuple #[.int .i64 (nu2 xs (k+20):Nat),.bool true])∧w=w' at K2
    obtain ⟨x,hx⟩:∃ x,x=nu4 xs k:=⟨_,rfl⟩
    obtain ⟨y,hy⟩:∃ y,y=nu2 xs (k+20):=⟨_,rfl⟩
    rw [←hx] at K1 hst
    rw [←hy] at K2 hst
    rw [show ((k+20:Nat):Int)=(k:Int)+20 by omega] at K2
    have K1:=Lib.hid K1
    have K2:=Lib.hid K2
    clear hx hy hk1 hrel
    by_cases hyes:x=101010256∧k+22+y=L
    ·rw [if_pos hyes] at hst
     have HR:=Lib.hid hst
     have e1:(x:Int)=101010256:=by omega
     have e2:(y:Int)=(L:Int)-22-k:=by omega
     clear hst hyes
     go_wp2_with (first
      | (go_at_call 65;(with_reducible refine K1.out.mono ?_);rintro e w' ⟨rfl,rfl⟩)
      | (go_at_call 66;(with_reducible refine K2.out.mono ?_);rintro e w' ⟨rfl,rfl⟩))
     all_goals try (exfalso;omega)
     go_ret
     exact ⟨by rw [HR.out];rfl,rfl⟩
    ·rw [if_neg hyes] at hst
     have HR:=Lib.hid hst
     clear hst
     by_cases e1:(x:Int)=101010256
     ·have e2:¬(y:Int)=(L:Int)-22-k:=by omega
      clear hyes
      go_wp2_with (first
       | (go_at_call 65;(with_reducible refine K1.out.mono ?_);rintro e w' ⟨rfl,rfl⟩)
       | (go_at_call 66;(with_reducible refine K2.out.mono ?_);rintro e w' ⟨rfl,rfl⟩))
      all_goals try (exfalso;omega)
      go_round
      case rel=>exact ⟨k,by omega,by rw [if_neg hs],HR⟩
      case measure=>simp [intOf]
     ·clear hyes
      go_wp2_with (first
       | (go_at_call 65;(with_reducible refine K1.out.mono ?_);rintro e w' ⟨rfl,rfl⟩)
       | (go_at_call 66;(with_reducible refine K2.out.mono ?_);rintro e w' ⟨rfl,rfl⟩))
      all_goals try (exfalso;omega)
      go_round
      case rel=>exact ⟨k,by omega,by rw [if_neg hs],HR⟩
      case measure=>simp [intOf]
end
end Go.Proofs.YthbbpooobaahiaaGreatDoor.Zz
namespace Go.Proofs.YthbbpooobaahiaaGreatDoor
set_option maxRecDepth 100000
section
open Go.RowKit
theorem ownsRow_below {w w':World} {base:Nat} {e:TypeId} {size:Nat} {v:Value} {n:Nat} {xs:List Value} (h:w.ownsRow base e size v n xs) (hb:Below w.heap.size w w'):w'.ownsRow base e size v n xs:=
 ownsRow_touch h (Touch.of_below (S:=fun _=>False) hb) fun _ _ h=>h
theorem own_none (w:World) (e size:Nat):(w.alloc (.cells #[] e)).ownsRow w.heap.size e size (.slice (some ⟨w.heap.size,0,none⟩) 0 0) 0 []:=
 World.ownsRow_made w #[] 0 (Nat.le_refl _) (Nat.zero_le _) (by simp)
structure Apg (w:World) (base e sz:Nat) (v:Value) (n:Nat) (xs:List Value) (v':Value) (w':World):Prop where
 own:w'.ownsRow base e sz v' n xs
 touch:Touch (fun k=>v.ownBlock=some k) w w'
 row:∀ k,v'.ownBlock=some k→v.ownBlock=some k∨w.heap.size≤k
theorem Apg.alloc {a b:World} {base e sz n:Nat} {v1 v2:Value} {xs:List Value} {o:Obj} (k:Apg (a.alloc o) base e sz v1 n xs v2 b):Apg a base e sz v1 n xs v2 b:=
 ⟨k.own,((Touch.refl _ a).alloc o).trans k.touch,fun i hi=>by
  rcases k.row i hi with h | h
  ·exact .inl h
  ·right;simp at h;omega⟩
theorem Apg.below {a b:World} {base e sz n:Nat} {v1 v2:Value} {xs ys:List Value} {m:Nat} (k:Apg a base e sz v1 n xs v2 b) (h:a.ownsRow base e sz v1 m ys) (hb:base≤a.heap.size):Below base a b:=
 k.touch.below hb fun i hi=>(h.lt i hi).1
def CellsAt (w:World) (sv:Value) (m:Nat) (ys:List Value):Prop:=
 (sv = .slice none 0 0∧m=0∧ys=[])∨∃ ad c,sv = .slice (some ad) m c∧∀ j u,ys[j]? = some u→w.cell? (ad.add j)=some u
structure AT (t e:Nat) (z:Value) (size bytes:Nat):Prop where
 hu:Tryz.prog.underlying t=some (.slice e)
 info:(Tryz.prog.info? e).map (fun i=>(i.zero,i.size,i.bytes))=some (some z,size,bytes)
 zs:z.cells.size=size
 pos:0<size
theorem run_append_g {t e:Nat} {z:Value} {size bytes:Nat} (T:AT t e z size bytes) (w:World) {base:Nat} {v sv:Value} {n m:Nat} {xs ys:List Value} (ty:TypeId) (hown:w.ownsRow base e size v n xs) (hs:CellsAt w sv m ys)
  (hyl:ys.length=m*size) (h1:∀ u∈ys,u.oneCell'=true) (hbase:base≤w.heap.size) (hl:n+m≤140737488355328) (hby:(n+m)*bytes≤140737488355328) :
  ∃ v' w',(Builtin.append_ #[t,t] ty #[v,sv]).run Tryz.prog w = .ok v' w'∧Apg w base e size v (n+m) (xs++ys) v' w':=by
 obtain ⟨i0,hi,hz0,hz1,hz2⟩:=info_parts T.info
 rcases hs with ⟨rfl,rfl,rfl⟩ | ⟨ad,c,rfl,hcell⟩
 ·refine ⟨v,w,run_append_owned_none w base t ty e i0 size T.hu hi v n xs hown,?_,Touch.refl _ _,fun k hk => .inl hk⟩
  simpa using hown
 ·rcases hown.2 with ⟨rfl,hn0⟩ | ⟨g,cap,cur,rfl,hbg,hh,hnc,hcm,hcs,htake⟩
  ·subst hn0
   have hx:xs=[]:=List.eq_nil_of_length_eq_zero (by rw [hown.1,Nat.zero_mul])
   subst hx
   obtain ⟨v',w',hr,ho,hg,_⟩:=run_append_own (P:=Tryz.prog) w w.heap.size t ty e i0 z size bytes T.hu hi hz0 hz1 hz2 T.zs T.pos (.slice none 0 0) 0 [] (World.ownsRow_nil _ _ _ _) ad m c ys hyl hcell h1 (by unfold maxLen;omega) hby (Nat.le_refl _)
   exact ⟨v',w',hr,own_base ho hbase,(Touch.refl _ w).grown hg fun k hk=>by simp [Value.ownBlock] at hk,fun k hk => .inr (ho.lt k hk).1⟩
  ·by_cases hroom:n+m≤cap
   ·obtain ⟨w',hr,ho,hg⟩:=run_append_fits (P:=Tryz.prog) w base t ty e i0 size T.hu hi hz1 g n cap xs hown ad m c ys hyl hcell h1 hroom
    exact ⟨_,w',hr,ho,(Touch.refl _ w).grown hg fun k hk => .inl (by cases hk;simp [Value.ownBlock]),fun k hk => .inl (by simpa [Value.ownBlock] using hk)⟩
   ·obtain ⟨v',w',hr,ho,hg⟩:=run_append_arg_grows (P:=Tryz.prog) w t ty e i0 z size bytes T.hu hi hz0 hz1 hz2 T.zs T.pos ⟨g,0,none⟩ n cap xs hown.1 (hown.cells (by simp [Value.ownBlock])) ad m c ys hyl hcell (by omega) (by unfold maxLen;omega) hby
    exact ⟨v',w',hr,own_base ho hbase,(Touch.refl _ w).grown hg (fun k hk=>by cases hk),fun k hk => .inr (ho.lt k hk).1⟩
theorem wpList_append_g {t e:Nat} {z:Value} {size bytes:Nat} (T:AT t e z size bytes) {w:World} {ops:Array Oper} {rest:List Oper} {o:Oper} {a:Act} {Q:Exit→Act→World→Prop} (hgd:o.guard=none) (s x:Operand)
  (ho:o.op = .call { callee := .builtin .append,args := #[s,x],argTypes := #[t,t] })
  (base:Nat) (v sv:Value) (n m:Nat) (xs ys:List Value) (hs:a.eval s=v) (hx:a.eval x=sv) (hown:w.ownsRow base e size v n xs) (hsrc:CellsAt w sv m ys)
  (hyl:ys.length=m*size) (h1:∀ u∈ys,u.oneCell'=true) (hbase:base≤w.heap.size) (hl:n+m≤140737488355328) (hby:(n+m)*bytes≤140737488355328)
  (h:∀ ao c w',Apg w base e size v (n+m) (xs++ys) (.slice ao (n+m) c) w'→wpList Tryz.prog ops Q rest (a.put o.dst (.slice ao (n+m) c)) w'):wpList Tryz.prog ops Q (o::rest) a w:=by
 refine wpList_plain hgd fun K hK=>?_
 obtain ⟨v',w',hrun,hA⟩:=run_append_g T w o.type hown hsrc hyl h1 hbase hl hby
 obtain ⟨ao,c,rfl⟩:=own_shape hA.own
 unfold Oper.wp
 simp [execOp,ho,resolve,invoke,builtin,hs,hx,hrun,Result.andThen]
 exact hK _ _ (by simpa using h ao c w' hA)
def iv (zs:List Int):List Value:=zs.map fun z => .int .i64 z
theorem iv_len (zs:List Int):(iv zs).length=zs.length:=by simp [iv]
theorem iv_one (zs:List Int):∀ u∈iv zs,u.oneCell'=true:=by
 intro u hu
 obtain ⟨_,_,rfl⟩:=List.mem_map.1 hu
 rfl
theorem iv_app (a b:List Int):iv a++iv b=iv (a++b):=by simp [iv]
theorem iv_at (zs:List Int) (j:Nat) (h:j<zs.length):(iv zs)[j]? = some (.int .i64 (zs.getD j 0)):=by simp [iv,h,List.getD]
theorem at22:AT 88 3 (.int .i64 0) 1 8:=⟨by kernel_rfl,by kernel_rfl,rfl,by omega⟩
theorem IS.cells {w:World} {ao:Option Addr} {zs:List Int} {c:Nat} (h:IS w ao zs) (hn:zs=[]→ao=none→c=0):CellsAt w (.slice ao zs.length c) zs.length (iv zs):=by
 rcases h with rfl | ⟨b,off,rfl,hc⟩
 ·cases ao with
  | none=>exact .inl ⟨by rw [hn rfl rfl];rfl,rfl,rfl⟩
  | some ad=>exact .inr ⟨ad,c,rfl,fun j u hu=>by simp [iv] at hu⟩
 ·refine .inr ⟨_,c,rfl,fun j u hu=>?_⟩
  have hj:j<zs.length:=by
   have:=(List.getElem?_eq_some_iff.1 hu).1
   rwa [iv_len] at this
  rw [Addr.add_lit,hc j hj,←hu,iv_at zs j hj]
theorem own_is {w:World} {base:Nat} {ao:Option Addr} {c n:Nat} {zs:List Int} (h:w.ownsRow base 3 1 (.slice ao n c) n (iv zs)) (hn:zs.length=n):IS w ao zs:=by
 subst hn
 rcases h.2 with ⟨e,h0⟩ | ⟨g,cap,cur,e,hbg,hh,hnc,hcm,hcs,htake⟩
 ·exact .inl (List.eq_nil_of_length_eq_zero h0)
 ·simp only [Value.slice.injEq] at e
  obtain ⟨rfl,_,rfl⟩:=e
  refine .inr ⟨g,0,rfl,fun j hj=>?_⟩
  rw [Nat.zero_add,World.ownsRow.cellAt h j (by omega),iv_at zs j hj]
theorem blk_is {w:World} {g n:Nat} {f:Nat→Nat} (h:Blk w g 3 (ia n f)) (zs:List Int) (hn:zs.length=n) (hf:∀ j,j<n→zs.getD j 0=(f j:Nat)):IS w (some ⟨g,0,none⟩) zs:=
 .inr ⟨g,0,rfl,fun j hj=>by rw [Nat.zero_add,h.cell,va_at n _ j (by omega),hf j (by omega)]⟩
def cb (ls:List Nat) (s:Nat):List Nat:=(List.range (ln ls s)).map fun j=>cd ls s/2^(ln ls s-1-j)%2
structure Rw (w:World) (pr gl N rm:Nat) (F:Nat→Value) (X:Nat→List Nat) (wr:World):Prop where
 c:Blk wr pr 143 #[.slice (some ⟨gl,0,none⟩) N N,.int .i64 (rm:Nat)]
 l:Blk wr gl 22 (va N F)
 rows:∀ s,s<N→wr.ownsRow w.heap.size 5 1 (F s) (X s).length (u8s (X s))
 ap:∀ s t k,s<N→t<N→s≠t→(F s).ownBlock=some k→(F t).ownBlock≠some k
 off:∀ s k,s<N→(F s).ownBlock=some k→k≠pr∧k≠gl
 ne:pr≠gl
 below:Below w.heap.size w wr
 lo:w.heap.size≤pr∧w.heap.size≤gl
end
variable {bs:List Nat} {lim:Nat}
theorem rdN_is {n:Nat} {s t:Sta} {v:Nat} (h:rdN bs n s = .ok v t):s.at_+n≤8*bs.length∧v=pk bs s.at_ n∧t={ s with at_:=s.at_+n }:=by
 unfold rdN at h
 split at h
 ·cases h;exact ⟨by assumption,rfl,rfl⟩
 ·cases h
theorem rdN_pr (n:Nat):Pr (8*bs.length) lim (rdN bs n):=by
 intro s a t hs h
 obtain ⟨h1,_,rfl⟩:=rdN_is h
 exact Le.to (Nat.le_add_right _ _) h1
theorem findB_some {ls:List Nat} {A y:Nat} (h:findB ls A=some y):Beg ls A y:=by
 have:=List.find?_some h
 rw [decide_eq_true_iff] at this
 exact this
theorem findB_none {ls:List Nat} {A:Nat} (h:findB ls A=none) (y:Nat):¬Beg ls A y:=by
 intro hb
 have hlt:=ln_lt hb.1
 have:=List.find?_eq_none.1 h y (List.mem_range.2 hlt)
 exact this (by rw [decide_eq_true_iff];exact hb)
theorem findB_of {ls:List Nat} (H:Ok ls) {A y:Nat} (h:Beg ls A y):findB ls A=some y:=by
 cases hf:findB ls A with
 | none=>exact absurd h (findB_none hf y)
 | some z=>rw [beg_one H h (findB_some hf)]
theorem rdS_is {ls:List Nat} {s t:Sta} {y:Nat} (h:rdS bs ls s = .ok y t) :
  Beg ls (ahead bs s.at_) y∧1≤ln ls y∧s.at_+ln ls y≤8*bs.length∧t={ s with at_:=s.at_+ln ls y }:=by
 unfold rdS at h
 split at h
 ·cases h
 ·split at h
  ·cases h
  ·rename_i y' hf
   have hb:=findB_some hf
   split at h
   ·cases h
    exact ⟨hb,Nat.one_le_iff_ne_zero.2 hb.1,by assumption,rfl⟩
   ·cases h
theorem rdS_pr (ls:List Nat):Pr (8*bs.length) lim (rdS bs ls):=by
 intro s a t hs h
 obtain ⟨_,h1,h2,rfl⟩:=rdS_is h
 exact Le.to (Nat.le_add_right _ _) h2
theorem grown_pr (o:Option (Nat × Nat)):Pr (8*bs.length) lim (grown bs o):=by
 intro s a t hs h
 cases o with
 | none=>cases h
 | some x=>
  obtain ⟨v,s',h1,h2⟩:=Res.bind_is h
  cases h2
  exact rdN_pr _ _ _ _ hs h1
theorem back_len (far n:Nat):∀ l,(back far n l).length=l.length+n:=by
 induction n with
 | zero=>intro l;rfl
 | succ n ih=>intro l;rw [back,ih];simp;omega
theorem getD_bs {l:List Nat} (h:Bs l) (i:Nat):l.getD i 0<256:=by
 rw [List.getD_eq_getElem?_getD]
 rcases Nat.lt_or_ge i l.length with hi | hi
 ·rw [List.getElem?_eq_getElem hi];exact h _ (List.getElem_mem hi)
 ·rw [List.getElem?_eq_none hi];exact Nat.zero_lt_succ _
theorem bs_snoc {l:List Nat} (h:Bs l) {x:Nat} (hx:x<256):Bs (l++[x]):=by
 intro y hy
 rcases List.mem_append.1 hy with hy | hy
 ·exact h y hy
 ·rw [List.mem_singleton.1 hy];exact hx
theorem back_bs (far n:Nat):∀ l,Bs l→Bs (back far n l):=by
 induction n with
 | zero=>intro l h;exact h
 | succ n ih=>intro l h;rw [back];exact ih _ (bs_snoc h (getD_bs h _))
theorem again_pr (ol:List Nat) (y:Nat):Pr (8*bs.length) lim (again bs lim ol y):=by
 intro s a t hs h
 obtain ⟨n,s1,h1,h⟩:=Res.bind_is h
 obtain ⟨d,s2,h2,h⟩:=Res.bind_is h
 obtain ⟨far,s3,h3,h⟩:=Res.bind_is h
 have k1:=grown_pr (lim:=lim) _ _ _ _ hs h1
 have k2:=rdS_pr (lim:=lim) _ _ _ _ k1.end_ h2
 have k3:=grown_pr (lim:=lim) _ _ _ _ k2.end_ h3
 refine (k1.trans (k2.trans k3)).trans ?_
 split at h
 ·cases h
 ·split at h
  ·cases h
  ·cases h
   refine ⟨Nat.le_refl _,k3.end_,?_,fun _=>?_,Nat.le_refl _,Nat.le_refl _,back_bs _ _ _⟩
   ·show _≤(back _ _ _).length;rw [back_len];omega
   ·show (back _ _ _).length≤_;rw [back_len];omega
theorem sym1_le (fl ol:List Nat) {u:Unit} {s t:Sta} {x:Bool × Unit} (_hs:s.at_≤8*bs.length) (h:sym1 bs lim fl ol u s = .ok x t):s.at_<t.at_∧Le (8*bs.length) lim s t:=by
 obtain ⟨y,s1,h1,h⟩:=Res.bind_is h
 obtain ⟨_,k1,k2,rfl⟩:=rdS_is h1
 have kt:Le (8*bs.length) lim s { s with at_:=s.at_+ln fl y,steps:=s.steps+1 }:=
  ⟨Nat.le_add_right _ _,k2,Nat.le_refl _,id,by show s.steps+1+s.at_≤s.steps+(s.at_+ln fl y);omega,by show s.blocks+s.at_≤s.blocks+(s.at_+ln fl y);omega,id⟩
 split at h
 ·split at h
  ·cases h
  ·cases h
   refine ⟨by show s.at_<s.at_+ln fl y;omega,kt.trans ⟨Nat.le_refl _,k2,?_,fun _=>?_,Nat.le_refl _,Nat.le_refl _,fun hb=>bs_snoc hb (by assumption)⟩⟩
   ·show _≤(_++_:List Nat).length;simp
   ·show (_++_:List Nat).length≤_;simp at *;omega
 ·split at h
  ·cases h
   exact ⟨by show s.at_<s.at_+ln fl y;omega,kt⟩
  ·obtain ⟨_,s2,h2,h⟩:=Res.bind_is h
   cases h
   have k3:=again_pr ol y _ _ _ k2 h2
   have:=k3.at_
   exact ⟨by simp at this;omega,kt.trans k3⟩
theorem sym1_takes (fl ol:List Nat):Takes (8*bs.length) (sym1 bs lim fl ol):=fun _ _ _ _ hs h=>⟨(sym1_le fl ol hs h).1,(sym1_le fl ol hs h).2.end_⟩
theorem sym1_pr (fl ol:List Nat) (u:Unit):Pr (8*bs.length) lim (sym1 bs lim fl ol u):=fun _ _ _ hs h=>(sym1_le fl ol hs h).2
theorem syms_pr (fl ol:List Nat):Pr (8*bs.length) lim (syms bs lim fl ol):=Pr.run (sym1_takes fl ol) (sym1_pr fl ol) ()
theorem up8_le (n:Nat):n≤up8 n:=by unfold up8;omega
theorem up8_end {n L:Nat} (h:n≤8*L):up8 n≤8*L:=by unfold up8;omega
theorem cut_bs {l:List Nat} (h:Bs l) (a b:Nat):Bs ((l.drop a).take b):=fun x hx=>h x (List.mem_of_mem_drop (List.mem_of_mem_take hx))
theorem stored_pr (hb:Bs bs):Pr (8*bs.length) lim (stored bs lim):=by
 intro s a t hs h
 obtain ⟨n,s1,h1,h⟩:=Res.bind_is h
 obtain ⟨m,s2,h2,h⟩:=Res.bind_is h
 have k0:Le (8*bs.length) lim s { s with at_:=up8 s.at_ }:=Le.to (up8_le _) (up8_end hs)
 have k1:=rdN_pr (lim:=lim) _ _ _ _ k0.end_ h1
 have k2:=rdN_pr (lim:=lim) _ _ _ _ k1.end_ h2
 refine (k0.trans (k1.trans k2)).trans ?_
 split at h
 ·cases h
 ·split at h
  ·cases h
  ·split at h
   ·cases h
   ·cases h
    have hlen:((bs.drop (s2.at_/8)).take n).length≤n:=List.length_take_le _ _
    refine ⟨by show _≤s2.at_+8*n;omega,by show s2.at_+8*n≤_;omega,?_,fun _=>?_,by show s2.steps+n+s2.at_≤s2.steps+(s2.at_+8*n);omega,by show s2.blocks+s2.at_≤s2.blocks+(s2.at_+8*n);omega,fun hq=>?_⟩
    ·show _≤(_++_:List Nat).length;simp
    ·show (_++_:List Nat).length≤_;rw [List.length_append];omega
    ·intro x hx
     rcases List.mem_append.1 hx with hx | hx
     ·exact hq x hx
     ·exact cut_bs hb _ _ x hx
theorem itm_le (own:List Nat) {s t:Sta} {x:Nat × Nat} (hs:s.at_≤8*bs.length) (h:itm bs own s = .ok x t):s.at_<t.at_∧Le (8*bs.length) lim s t:=by
 obtain ⟨y,s1,h1,h⟩:=Res.bind_is h
 have k1:=rdS_pr (lim:=lim) _ _ _ _ hs h1
 obtain ⟨_,k2,_,rfl⟩:=rdS_is h1
 split at h
 ·obtain ⟨v,s2,h2,h⟩:=Res.bind_is h
  cases h
  have k3:=rdN_pr (lim:=lim) _ _ _ _ k1.end_ h2
  have:=k3.at_
  exact ⟨by simp at this;omega,k1.trans k3⟩
 ·cases h
  exact ⟨by show s.at_<s.at_+ln own y;omega,k1⟩
theorem len1_le (own:List Nat) (n:Nat) {row:List Nat} {s t:Sta} {x:Bool × List Nat} (hs:s.at_≤8*bs.length) (h:len1 bs own n row s = .ok x t):s.at_<t.at_∧Le (8*bs.length) lim s t:=by
 obtain ⟨y,s1,h1,h⟩:=Res.bind_is h
 have k:=itm_le (lim:=lim) own hs h1
 split at h
 ·cases h
 ·split at h
  ·cases h
  ·cases h
   exact k
theorem len1_takes (own:List Nat) (n:Nat):Takes (8*bs.length) (len1 bs own n):=fun _ _ _ _ hs h=>⟨(len1_le (lim:=0) own n hs h).1,(len1_le (lim:=0) own n hs h).2.end_⟩
theorem lens_pr (own:List Nat) (n:Nat):Pr (8*bs.length) lim (lens bs own n):=Pr.run (len1_takes own n) (fun _ _ _ _ hs h=>(len1_le own n hs h).2) []
theorem rdO_pr (k:Nat):∀ l,Pr (8*bs.length) lim (rdO bs k l):=by
 induction k with
 | zero=>intro l s a t hs h;cases h;exact Le.refl _ hs
 | succ k ih=>
  intro l s a t hs h
  obtain ⟨v,s1,h1,h⟩:=Res.bind_is h
  have k1:=rdN_pr (lim:=lim) _ _ _ _ hs h1
  exact k1.trans (ih _ _ _ _ k1.end_ h)
theorem codes_pr:Pr (8*bs.length) lim (codes bs):=by
 intro s a t hs h
 obtain ⟨l,s1,h1,h⟩:=Res.bind_is h
 obtain ⟨d,s2,h2,h⟩:=Res.bind_is h
 obtain ⟨c,s3,h3,h⟩:=Res.bind_is h
 have k1:=rdN_pr (lim:=lim) _ _ _ _ hs h1
 have k2:=rdN_pr (lim:=lim) _ _ _ _ k1.end_ h2
 have k3:=rdN_pr (lim:=lim) _ _ _ _ k2.end_ h3
 split at h
 ·cases h
 ·obtain ⟨o,s4,h4,h⟩:=Res.bind_is h
  have k4:=rdO_pr (lim:=lim) _ _ _ _ _ k3.end_ h4
  split at h
  ·cases h
  ·obtain ⟨row,s5,h5,h⟩:=Res.bind_is h
   have k5:=lens_pr (lim:=lim) _ _ _ _ _ k4.end_ h5
   split at h
   ·cases h
   ·split at h
    ·cases h
     exact k1.trans (k2.trans (k3.trans (k4.trans k5)))
    ·cases h
theorem blk_pr (hb:Bs bs):Pr (8*bs.length) lim (blk bs lim):=by
 intro s a t hs h
 obtain ⟨k,s1,h1,h⟩:=Res.bind_is h
 have k1:=rdN_pr (lim:=lim) _ _ _ _ hs h1
 refine k1.trans ?_
 split at h
 ·exact stored_pr hb _ _ _ k1.end_ h
 ·split at h
  ·exact syms_pr _ _ _ _ _ k1.end_ h
  ·split at h
   ·obtain ⟨c,s2,h2,h⟩:=Res.bind_is h
    have k2:=codes_pr (lim:=lim) _ _ _ k1.end_ h2
    exact k2.trans (syms_pr _ _ _ _ _ k2.end_ h)
   ·cases h
theorem blk1_le (hb:Bs bs) {u:Unit} {s t:Sta} {x:Bool × Unit} (hs:s.at_≤8*bs.length) (h:blk1 bs lim u s = .ok x t):s.at_<t.at_∧Le (8*bs.length) lim s t∧1≤t.blocks:=by
 obtain ⟨l,s1,h1,h⟩:=Res.bind_is h
 obtain ⟨u2,s2,h2,h⟩:=Res.bind_is h
 have k1:=rdN_pr (lim:=lim) _ _ _ _ hs h1
 obtain ⟨h3,_,h4⟩:=rdN_is h1
 have k2:=blk_pr hb _ _ _ k1.end_ h2
 have e1:s1.at_=s.at_+1:=by rw [h4]
 have e2:s1.blocks=s.blocks:=by rw [h4]
 cases h
 have:=k2.at_
 have:=k2.blocks
 have k:=k1.trans k2
 refine ⟨by show s.at_<s2.at_;omega,⟨k.at_,k.end_,k.out,k.lim_,k.steps,?_,k.bytes⟩,by show 1≤s2.blocks+1;omega⟩
 show s2.blocks+1+s.at_≤s.blocks+s2.at_;omega
theorem blk1_takes (hb:Bs bs):Takes (8*bs.length) (blk1 bs lim):=fun _ _ _ _ hs h=>⟨(blk1_le hb hs h).1,(blk1_le hb hs h).2.1.end_⟩
theorem blk1_pr (hb:Bs bs) (u:Unit):Pr (8*bs.length) lim (blk1 bs lim u):=fun _ _ _ hs h=>(blk1_le hb hs h).2.1
theorem infl_le (hb:Bs bs) {u:Unit} {t:Sta} (h:infl bs lim = .ok u t):Le (8*bs.length) lim st0 t:=Pr.run (blk1_takes hb) (blk1_pr hb) () _ _ _ (Nat.zero_le _) h
section
variable {lo_:Nat} (hl:lo_≤lim)
def Ov (l:Nat) (s:Sta):Prop:=l<s.out.length
theorem ov_le {L l m:Nat} (s t:Sta) (h:Le L m s t) (hs:Ov l s):Ov l t:=Nat.lt_of_lt_of_le hs h.out
include hl
theorem again_lim (ol:List Nat) (y:Nat) (s:Sta) (hs:s.at_≤8*bs.length):Rl 14 (Ov lo_) (again bs lo_ ol y s) (again bs lim ol y s):=by
 refine Rl.bind (.inl rfl) ?_ ?_
 ·intro n s1 h1 _
  refine Rl.bind (.inl rfl) ?_ ?_
  ·intro d s2 h2 _
   refine Rl.bind (.inl rfl) ?_ ?_
   ·intro far s3 h3 _
    split
    ·exact .inl rfl
    ·by_cases h4:lo_<s3.out.length+n
     ·rw [if_pos h4]
      refine .inr ⟨rfl,fun a t h=>?_⟩
      split at h
      ·cases h
      ·cases h
       show lo_<(back far n s3.out).length
       rw [back_len];exact h4
     ·rw [if_neg h4,if_neg (by omega)]
      exact .inl rfl
   ·intro far s3 b t h3 hp h
    split at h
    ·cases h
    ·split at h
     ·cases h
     ·cases h
      show lo_<(back far n s3.out).length
      rw [back_len]
      have:lo_<s3.out.length:=hp
      omega
  ·intro d s2 b t h2 hp h
   obtain ⟨far,s3,h3,h⟩:=Res.bind_is h
   have k1:=grown_pr (lim:=lim) _ _ _ _ hs h1
   have k2:=rdS_pr (lim:=lim) _ _ _ _ k1.end_ h2
   have k3:=grown_pr (lim:=lim) _ _ _ _ k2.end_ h3
   have hp3:=ov_le _ _ k3 hp
   split at h
   ·cases h
   ·split at h
    ·cases h
    ·cases h
     show lo_<(back far n s3.out).length
     rw [back_len]
     have:lo_<s3.out.length:=hp3
     omega
 ·intro n s1 b t h1 hp h
  have k1:=grown_pr (lim:=lim) _ _ _ _ hs h1
  obtain ⟨d,s2,h2,h⟩:=Res.bind_is h
  obtain ⟨far,s3,h3,h⟩:=Res.bind_is h
  have k2:=rdS_pr (lim:=lim) _ _ _ _ k1.end_ h2
  have k3:=grown_pr (lim:=lim) _ _ _ _ k2.end_ h3
  have hp3:=ov_le _ _ (k2.trans k3) hp
  split at h
  ·cases h
  ·split at h
   ·cases h
   ·cases h
    show lo_<(back far n s3.out).length
    rw [back_len]
    have:lo_<s3.out.length:=hp3
    omega
theorem sym1_lim (fl ol:List Nat) (u:Unit) (s:Sta) (hs:s.at_≤8*bs.length):Rl 14 (Ov lo_) (sym1 bs lo_ fl ol u s) (sym1 bs lim fl ol u s):=by
 refine Rl.bind (.inl rfl) ?_ ?_
 ·intro y s1 h1 _
  have k1:=rdS_pr (lim:=lim) _ _ _ _ hs h1
  split
  ·by_cases h4:lo_<s1.out.length+1
   ·rw [if_pos h4]
    refine .inr ⟨rfl,fun a t h=>?_⟩
    split at h
    ·cases h
    ·cases h
     show lo_<(_++_:List Nat).length
     simpa using h4
   ·rw [if_neg h4,if_neg (by omega)]
    exact .inl rfl
  ·split
   ·exact .inl rfl
   ·refine (again_lim hl ol y { s1 with steps:=s1.steps+1 } k1.end_).bind (fun _ _ _ _ => .inl rfl) ?_
    intro a s2 b t _ hp h
    cases h
    exact hp
 ·intro y s1 b t h1 hp h
  have k1:=rdS_pr (lim:=lim) _ _ _ _ hs h1
  split at h
  ·split at h
   ·cases h
   ·cases h
    show lo_<(_++_:List Nat).length
    have:lo_<s1.out.length:=hp
    simp;omega
  ·split at h
   ·cases h;exact hp
   ·obtain ⟨_,s2,h2,h⟩:=Res.bind_is h
    cases h
    exact ov_le _ _ (again_pr ol y { s1 with steps:=s1.steps+1 } _ _ k1.end_ h2) hp
theorem syms_lim (fl ol:List Nat) (s:Sta) (hs:s.at_≤8*bs.length):Rl 14 (Ov lo_) (syms bs lo_ fl ol s) (syms bs lim fl ol s):=
 Rl.run (lim:=lim) (Nat.le_refl _) (sym1_takes fl ol) (sym1_takes fl ol) (sym1_pr fl ol) ov_le (fun u s hs=>sym1_lim hl fl ol u s hs) () hs
theorem stored_lim (_hb:Bs bs) (s:Sta) (hs:s.at_≤8*bs.length):Rl 14 (Ov lo_) (stored bs lo_ s) (stored bs lim s):=by
 have hs0:({ s with at_:=up8 s.at_ }:Sta).at_≤8*bs.length:=up8_end hs
 have fin:∀ n m (s2:Sta) b t,Ov lo_ s2→(if m≠65535-n then Res.bad 10 else if 8*bs.length<s2.at_+8*n then .bad 15 else if lim<s2.out.length+n then .bad 14
   else .ok () { s2 with at_:=s2.at_+8*n,out:=s2.out++(bs.drop (s2.at_/8)).take n,steps:=s2.steps+n }) = .ok b t→Ov lo_ t:=by
  intro n m s2 b t hp h
  split at h
  ·cases h
  ·split at h
   ·cases h
   ·split at h
    ·cases h
    ·cases h
     have:lo_<s2.out.length:=hp
     show lo_<(_++_:List Nat).length
     rw [List.length_append];omega
 refine Rl.bind (.inl rfl) ?_ ?_
 ·intro n s1 h1 _
  refine Rl.bind (.inl rfl) ?_ ?_
  ·intro m s2 h2 _
   have k1:=rdN_pr (lim:=lim) _ _ _ _ hs0 h1
   have k2:=rdN_pr (lim:=lim) _ _ _ _ k1.end_ h2
   split
   ·exact .inl rfl
   ·split
    ·exact .inl rfl
    ·rename_i hle
     by_cases h4:lo_<s2.out.length+n
     ·rw [if_pos h4]
      refine .inr ⟨rfl,fun a t h=>?_⟩
      split at h
      ·cases h
      ·cases h
       show lo_<(_++_:List Nat).length
       rw [List.length_append,List.length_take,List.length_drop]
       obtain ⟨_,_,e1⟩:=rdN_is h1
       obtain ⟨_,_,e2⟩:=rdN_is h2
       have e3:s2.at_=up8 s.at_+16+16:=by rw [e2,e1]
       have e4:s2.at_%8=0:=by rw [e3];unfold up8;omega
       rw [Nat.min_eq_left (by omega)]
       exact h4
     ·rw [if_neg h4,if_neg (by omega)]
      exact .inl rfl
  ·intro m s2 b t h2 hp h
   exact fin _ _ _ _ _ hp h
 ·intro n s1 b t h1 hp h
  obtain ⟨m,s2,h2,h⟩:=Res.bind_is h
  have k1:=rdN_pr (lim:=lim) _ _ _ _ hs0 h1
  exact fin _ _ _ _ _ (ov_le _ _ (rdN_pr (lim:=lim) _ _ _ _ k1.end_ h2) hp) h
theorem blk_lim (hb:Bs bs) (s:Sta) (hs:s.at_≤8*bs.length):Rl 14 (Ov lo_) (blk bs lo_ s) (blk bs lim s):=by
 refine Rl.bind (.inl rfl) ?_ ?_
 ·intro k s1 h1 _
  have k1:=rdN_pr (lim:=lim) _ _ _ _ hs h1
  split
  ·exact stored_lim hl hb s1 k1.end_
  ·split
   ·exact syms_lim hl _ _ s1 k1.end_
   ·split
    ·refine Rl.bind (.inl rfl) ?_ ?_
     ·intro c s2 h2 _
      exact syms_lim hl _ _ s2 (codes_pr (lim:=lim) _ _ _ k1.end_ h2).end_
     ·intro c s2 b t h2 hp h
      exact ov_le _ _ (syms_pr _ _ _ _ _ (codes_pr (lim:=lim) _ _ _ k1.end_ h2).end_ h) hp
    ·exact .inl rfl
 ·intro k s1 b t h1 hp h
  have k1:=rdN_pr (lim:=lim) _ _ _ _ hs h1
  split at h
  ·exact ov_le _ _ (stored_pr hb _ _ _ k1.end_ h) hp
  ·split at h
   ·exact ov_le _ _ (syms_pr _ _ _ _ _ k1.end_ h) hp
   ·split at h
    ·obtain ⟨c,s2,h2,h⟩:=Res.bind_is h
     have k2:=codes_pr (lim:=lim) _ _ _ k1.end_ h2
     exact ov_le _ _ (k2.trans (syms_pr _ _ _ _ _ k2.end_ h)) hp
    ·cases h
theorem infl_lim (hb:Bs bs):Rl 14 (Ov lo_) (infl bs lo_) (infl bs lim):=by
 refine Rl.run (lim:=lim) (Nat.le_refl _) (blk1_takes hb) (blk1_takes hb) (blk1_pr hb) ov_le (fun u s hs=>?_) () (Nat.zero_le _)
 refine Rl.bind (.inl rfl) ?_ ?_
 ·intro l s1 h1 _
  have k1:=rdN_pr (lim:=lim) _ _ _ _ hs h1
  refine (blk_lim hl hb s1 k1.end_).bind (fun _ _ _ _ => .inl rfl) ?_
  intro a s2 b t _ hp h
  cases h
  exact hp
 ·intro l s1 b t h1 hp h
  have k1:=rdN_pr (lim:=lim) _ _ _ _ hs h1
  obtain ⟨_,s2,h2,h⟩:=Res.bind_is h
  have k2:=ov_le _ _ (blk_pr hb _ _ _ k1.end_ h2) hp
  cases h
  exact k2
end
theorem infl_need (hb:Bs bs) {t:Sta} (h:infl bs lim = .ok () t) {m:Nat} (hm:m≤lim):(t.out.length≤m→infl bs m = .ok () t)∧(m<t.out.length→infl bs m = .bad 14):=by
 have hr:=infl_lim (lo_:=m) hm hb
 constructor
 ·intro hle
  exact hr.ok h (by unfold Ov;omega)
 ·intro hlt
  rcases hr with hr | ⟨hr,_⟩
  ·rw [h] at hr
   have:=(infl_le hb hr).lim_ (Nat.zero_le _)
   omega
  ·exact hr
section
open Go.RowKit
abbrev pan (er:Nat):Ending := .panicked [{ v := .iface 187 (.int .i64 (er:Nat)),recovered:=false }]
theorem must_yes (er:Int) (w:World):Calls Tryz.prog 135 #[.bool true,.int .i64 er] w fun e w'=>e = .returned (.tuple #[])∧w=w':=by
 go_enter Tryz.func135,Tryz.ntmps135
 go_wp2
 go_end0
 exact ⟨rfl,rfl⟩
theorem must_no (er:Nat) (w:World):Calls Tryz.prog 135 #[.bool false,.int .i64 (er:Nat)] w fun e w'=>e=pan er∧w=w':=by
 go_enter Tryz.func135,Tryz.ntmps135
 go_wp2
 exact ⟨rfl,rfl,rfl⟩
theorem inflBytesFor (n:Nat) (w:World) (h:n≤10000000000):Calls Tryz.prog 100 #[.int .i64 n] w fun e w'=>e = .returned (.int .i64 ((n+7)/8:Nat))∧w=w':=by
 go_enter Tryz.func100,Tryz.ntmps100
 go_wp2
 go_ret
 exact ⟨by simp,rfl⟩
theorem spread_lo (s g:Nat) (w:World) (h:s<g):Calls Tryz.prog 177 #[.int .i64 s,.int .i64 g] w fun e w'=>e = .returned (.tuple #[.int .i64 s,.int .i64 0])∧w=w':=by
 go_enter Tryz.func177,Tryz.ntmps177
 go_wp2
 go_ret2
 exact ⟨rfl,rfl⟩
theorem spread_hi (s g e v:Nat) (w:World) (h:g≤s) (hg:1≤g) (hs:s≤100) (he:s/g=e+1) (he':e≤20) (hv:(g+s%g)*2^e=v) (hv':v≤1000000):Calls Tryz.prog 177 #[.int .i64 s,.int .i64 g] w fun e' w'=>e' = .returned (.tuple #[.int .i64 v,.int .i64 e])∧w=w':=by
 have h1:¬((g:Int)=0):=by omega
 have h2:(s:Int)/g=(e:Int)+1:=by rw [←Int.natCast_ediv];omega
 obtain ⟨m,hm⟩:∃ m,m=s%g:=⟨_,rfl⟩
 have h3:(s:Int)%g=(m:Int):=by rw [hm];simp
 have h4:((g:Int)+m)*2^e=v:=by rw [←hv,hm];simp
 have hmg:m<g:=by rw [hm];exact Nat.mod_lt _ hg
 have H4:=Lib.hid h4
 have h5:s<100000:=by omega
 clear hv hm
 go_enter Tryz.func177,Tryz.ntmps177
 go_wp2
 go_ret2
 exact ⟨rfl,rfl⟩
def tells:Option (Nat × Nat)→Value
 | none => .tuple #[.int .i64 0,.int .i64 0,.bool false]
 | some x => .tuple #[.int .i64 (x.1:Nat),.int .i64 (x.2:Nat),.bool true]
theorem spread_small (k g e:Nat) (hg:g≤4) (hg0:1≤g) (he:e≤14):(g+k%g)*2^e≤1000000:=by
 have h1:k%g<g:=Nat.mod_lt _ hg0
 have h2:2^e≤2^14:=Nat.pow_le_pow_right (by omega) he
 exact Nat.le_trans (Nat.mul_le_mul (show g+k%g≤8 by omega) h2) (by decide)
theorem Length_no (y:Int) (w:World) (h:y<257∨285<y):Calls Tryz.prog 167 #[.int .i64 y] w fun e w'=>e = .returned (tells none)∧w=w':=by
 by_cases h1:y<257
 ·clear h
  go_enter Tryz.func167,Tryz.ntmps167
  go_wp2
  go_ret3
  exact ⟨rfl,rfl⟩
 ·have h2:285<y:=by omega
  clear h
  go_enter Tryz.func167,Tryz.ntmps167
  go_wp2
  go_ret3
  exact ⟨rfl,rfl⟩
theorem Length_any (y:Nat) (w:World):Calls Tryz.prog 167 #[.int .i64 y] w fun e w'=>e = .returned (tells (lenOf y))∧w=w':=by
 by_cases h:y<257∨285<y
 ·unfold lenOf
  rw [if_pos h]
  exact Length_no y w (by omega)
 ·have ha:¬(y:Int)<257:=by omega
  have hb:¬(285:Int)<y:=by omega
  have hc:(257:Int)≤y:=by omega
  have hd:(y:Int)≤285:=by omega
  by_cases h1:y=285
  ·subst h1
   go_enter Tryz.func167,Tryz.ntmps167
   go_wp2
   go_ret3
   exact ⟨rfl,rfl⟩
  ·have e1:((y:Int) == 285)=false:=by simp;omega
   obtain ⟨k,hk⟩:∃ k,y=k+257:=⟨y-257,by omega⟩
   have e2:(y:Int)-257=(k:Nat):=by omega
   by_cases h2:y<261
   ·have hr:lenOf y=some (3+k,0):=by unfold lenOf;rw [if_neg h,if_neg h1,if_pos h2,show y-254=3+k by omega]
    have HR:=Lib.hid hr
    have hk4:k<4:=by omega
    rw [hr]
    clear hr h hk
    go_enter Tryz.func167,Tryz.ntmps167
    go_wp2_with (go_at_call 177;(refine (spread_lo k 4 _ hk4).mono ?_);rintro e w2 ⟨rfl,rfl⟩)
    go_ret3
    exact ⟨rfl,rfl⟩
   ·obtain ⟨e,he⟩:∃ e,e=k/4-1:=⟨_,rfl⟩
    obtain ⟨v,hv⟩:∃ v,(4+k%4)*2^e=v:=⟨_,rfl⟩
    have hvb:=spread_small k 4 e (by omega) (by omega) (by omega)
    rw [hv] at hvb
    have hr:lenOf y=some (3+v,e):=by
     unfold lenOf
     rw [if_neg h,if_neg h1,if_neg h2,show y-257=k by omega,←he,hv]
    rw [hr]
    have HV:=Lib.hid hv
    have hk4:4≤k:=by omega
    have hk5:k≤100:=by omega
    have hke:k/4=e+1:=by omega
    have he5:e≤20:=by omega
    have HKE:=Lib.hid hke
    clear hr h hk hv he hke
    go_enter Tryz.func167,Tryz.ntmps167
    go_wp2_with (go_at_call 177;(refine (spread_hi k 4 e v _ hk4 (by omega) hk5 HKE.out he5 HV.out hvb).mono ?_);rintro e w2 ⟨rfl,rfl⟩)
    go_ret3
    exact ⟨rfl,rfl⟩
theorem Distance_no (y:Int) (w:World) (h:y<0∨29<y):Calls Tryz.prog 168 #[.int .i64 y] w fun e w'=>e = .returned (tells none)∧w=w':=by
 by_cases h1:y<0
 ·clear h
  go_enter Tryz.func168,Tryz.ntmps168
  go_wp2
  go_ret3
  exact ⟨rfl,rfl⟩
 ·have h2:29<y:=by omega
  clear h
  go_enter Tryz.func168,Tryz.ntmps168
  go_wp2
  go_ret3
  exact ⟨rfl,rfl⟩
theorem Distance_any (y:Nat) (w:World):Calls Tryz.prog 168 #[.int .i64 y] w fun e w'=>e = .returned (tells (disOf y))∧w=w':=by
 by_cases h:29<y
 ·unfold disOf
  rw [if_pos h]
  exact Distance_no y w (by omega)
 ·have ha:¬(y:Int)<0:=by omega
  have hb:¬(29:Int)<y:=by omega
  have hc:(0:Int)≤y:=by omega
  have hd:(y:Int)≤29:=by omega
  by_cases h2:y<2
  ·have hr:disOf y=some (1+y,0):=by unfold disOf;rw [if_neg h,if_pos h2]
   rw [hr]
   clear hr h
   go_enter Tryz.func168,Tryz.ntmps168
   go_wp2_with (go_at_call 177;(refine (spread_lo y 2 _ h2).mono ?_);rintro e w2 ⟨rfl,rfl⟩)
   go_ret3
   exact ⟨rfl,rfl⟩
  ·obtain ⟨e,he⟩:∃ e,e=y/2-1:=⟨_,rfl⟩
   obtain ⟨v,hv⟩:∃ v,(2+y%2)*2^e=v:=⟨_,rfl⟩
   have hvb:=spread_small y 2 e (by omega) (by omega) (by omega)
   rw [hv] at hvb
   have hr:disOf y=some (1+v,e):=by
    unfold disOf
    rw [if_neg h,if_neg h2,←he,hv]
   rw [hr]
   have HV:=Lib.hid hv
   have hk4:2≤y:=by omega
   have hk5:y≤100:=by omega
   have hke:y/2=e+1:=by omega
   have he5:e≤20:=by omega
   have HKE:=Lib.hid hke
   clear hr h hv he hke
   go_enter Tryz.func168,Tryz.ntmps168
   go_wp2_with (go_at_call 177;(refine (spread_hi y 2 e v _ hk4 (by omega) hk5 HKE.out he5 HV.out hvb).mono ?_);rintro e w2 ⟨rfl,rfl⟩)
   go_ret3
   exact ⟨rfl,rfl⟩
def Safe (w:World) (S:Nat→Prop):Prop:=∀ k t cs,Blk w k t cs→S k→t=168∨t=186∨t=5
theorem Blk.safe {S:Nat→Prop} {w w':World} {g:Nat} {t:TypeId} {cs:Array Value} (h:Blk w g t cs) (ht:Touch S w w') (hs:Safe w S) (h1:t≠168∧t≠186∧t≠5):Blk w' g t cs:=
 h.touch ht fun k=>by rcases hs g t cs h k with e | e | e <;> simp [e] at h1
theorem CodeAt.safe {S:Nat→Prop} {w w':World} {p:Nat} {ls:List Nat} (h:CodeAt w p ls) (ht:Touch S w w') (hs:Safe w S):CodeAt w' p ls:=by
 obtain ⟨ho,gw,go,F,h1,h2,h3,h4⟩:=h
 exact ⟨ho,gw,go,F,h1.safe ht hs (by decide),h2.safe ht hs (by decide),h3.safe ht hs (by decide),h4⟩
def CodeIn (w:World) (K p:Nat) (ls:List Nat):Prop:=
 Ok ls∧∃ gw go F,Blk w p 239 (cc (.slice (some ⟨gw,0,none⟩) ls.length ls.length) (.slice (some ⟨go,0,none⟩) (many ls) (many ls)) (fc ls) (cn ls))∧
  Blk w gw 260 (va (ls.length*2) (wordF ls))∧Blk w go 3 (va (many ls) F)∧Ordered ls ls.length F∧go<K
theorem CodeAt.in_ {w:World} {p:Nat} {ls:List Nat} (h:CodeAt w p ls):CodeIn w w.heap.size p ls:=by
 obtain ⟨ho,gw,go,F,h1,h2,h3,h4⟩:=h
 exact ⟨ho,gw,go,F,h1,h2,h3,h4,h3.lt⟩
theorem CodeIn.at_ {w:World} {K p:Nat} {ls:List Nat} (h:CodeIn w K p ls):CodeAt w p ls:=by
 obtain ⟨ho,gw,go,F,h1,h2,h3,h4,_⟩:=h
 exact ⟨ho,gw,go,F,h1,h2,h3,h4⟩
theorem CodeIn.safe {S:Nat→Prop} {w w':World} {K p:Nat} {ls:List Nat} (h:CodeIn w K p ls) (ht:Touch S w w') (hs:Safe w S):CodeIn w' K p ls:=by
 obtain ⟨ho,gw,go,F,h1,h2,h3,h4,h5⟩:=h
 exact ⟨ho,gw,go,F,h1.safe ht hs (by decide),h2.safe ht hs (by decide),h3.safe ht hs (by decide),h4,h5⟩
theorem CodeIn.aside {w w':World} {K p r:Nat} {t:TypeId} {cs:Array Value} {ls:List Nat} (h:CodeIn w K p ls) (hr:Blk w r t cs) (ht:Touch (fun k=>k=r) w w') (hk:t≠239∧t≠260∧(t=3→K≤r)):CodeIn w' K p ls:=by
 obtain ⟨ho,gw,go,F,h1,h2,h3,h4,h5⟩:=h
 refine ⟨ho,gw,go,F,h1.touch ht ?_,h2.touch ht ?_,h3.touch ht ?_,h4,h5⟩
 ·rintro rfl
  rw [Blk,h1] at hr
  simp at hr
  exact hk.1 hr.2.symm
 ·rintro rfl
  rw [Blk,h2] at hr
  simp at hr
  exact hk.2.1 hr.2.symm
 ·rintro rfl
  rw [Blk,h3] at hr
  simp at hr
  have:=hk.2.2 hr.2.symm
  omega
def FixAt (w:World) (K:Nat) (v:Value):Prop:=
 v = .pointer none∨∃ q p1 p2,v = .pointer (some ⟨q,0,none⟩)∧Blk w q 203 #[.pointer (some ⟨p1,0,none⟩),.pointer (some ⟨p2,0,none⟩)]∧CodeIn w K p1 fixF∧CodeIn w K p2 fixO∧q<K
theorem FixAt.safe {S:Nat→Prop} {w w':World} {K:Nat} {v:Value} (h:FixAt w K v) (ht:Touch S w w') (hs:Safe w S):FixAt w' K v:=by
 rcases h with h | ⟨q,p1,p2,hv,h1,h2,h3,h4⟩
 ·exact .inl h
 ·exact .inr ⟨q,p1,p2,hv,h1.safe ht hs (by decide),h2.safe ht hs,h3.safe ht hs,h4⟩
def rc (pb:Nat) (ov:Value) (lim:Nat) (s:Sta) (fx:Value):Array Value:=
 #[.pointer (some ⟨pb,0,none⟩),ov,.int .i64 (lim:Nat),.int .i64 (s.steps:Nat),.int .i64 (s.blocks:Nat),fx]
structure RS (B K p pb:Nat) (g:Option Nat) (bs:List Nat) (lim:Nat) (w:World) (ov:Value) (s:Sta):Prop where
 blk:∃ fx,Blk w p 168 (rc pb ov lim s fx)∧FixAt w K fx
 ob:Ob w B 186 pb g bs s.at_
 own:w.ownsRow B 5 1 ov s.out.length (u8s s.out)
 hp:B≤p
 row:∀ k,ov.ownBlock=some k→g≠some k
 len:bs.length≤100000
 lim_:lim≤2000000
 in_:s.at_≤8*bs.length
 out:s.out.length≤lim
 steps:s.steps≤s.at_
 blocks:s.blocks≤s.at_
 bytes:Bs s.out
def FT (p pb:Nat) (ov:Value) (k:Nat):Prop:=k=p∨k=pb∨ov.ownBlock=some k
structure Mv (p pb:Nat) (w:World) (ov:Value) (w':World) (ov':Value):Prop where
 touch:Touch (FT p pb ov) w w'
 row:∀ k,ov'.ownBlock=some k→ov.ownBlock=some k∨w.heap.size≤k
theorem Mv.trans {p pb:Nat} {a b c:World} {o1 o2 o3:Value} (h:Mv p pb a o1 b o2) (k:Mv p pb b o2 c o3):Mv p pb a o1 c o3:=by
 refine ⟨h.touch.trans' k.touch ?_,fun i hi=>?_⟩
 ·rintro i (hi | hi | hi) hlt
  ·exact .inl hi
  ·exact .inr (.inl hi)
  ·rcases h.row i hi with hi | hi
   ·exact .inr (.inr hi)
   ·omega
 ·rcases k.row i hi with hi | hi
  ·exact h.row i hi
  ·exact .inr (Nat.le_trans h.touch.size hi)
theorem Mv.bad {p pb:Nat} {a b c:World} {o1 o2:Value} (h:Mv p pb a o1 b o2) (k:Touch (FT p pb o2) b c):Touch (FT p pb o1) a c:=
 (h.trans ⟨k,fun _ h => .inl h⟩:Mv p pb a o1 c o2).touch
section
variable {B K p pb:Nat} {g:Option Nat} {bs:List Nat} {lim:Nat} {w:World} {ov:Value} {s:Sta}
theorem own_ty {e size n base:Nat} {v:Value} {xs:List Value} (h:w.ownsRow base e size v n xs) {k:Nat} (hk:v.ownBlock=some k):∃ cs,w.heap[k]? = some (.cells cs e (0,0)):=by
 rcases h.2 with ⟨rfl,_⟩ | ⟨g',cap,cur,rfl,_,hh,_⟩
 ·simp [Value.ownBlock] at hk
 ·simp [Value.ownBlock] at hk
  subst hk
  exact ⟨cur,hh⟩
theorem RS.safe (h:RS B K p pb g bs lim w ov s):Safe w (FT p pb ov):=by
 obtain ⟨fx,hb,_⟩:=h.blk
 obtain ⟨sv,ho,_⟩:=h.ob.blk
 rintro k t cs hk (rfl | rfl | hk')
 ·rw [Blk,hb] at hk
  simp at hk
  exact .inl hk.2.symm
 ·rw [Blk,ho] at hk
  simp at hk
  exact .inr (.inl hk.2.symm)
 ·obtain ⟨cs',hc⟩:=own_ty h.own hk'
  rw [Blk,hc] at hk
  simp at hk
  exact .inr (.inr hk.2.symm)
theorem RS.ne (h:RS B K p pb g bs lim w ov s):p≠pb∧(∀ k,ov.ownBlock=some k→k≠p∧k≠pb)∧(∀ k,g=some k→k≠p∧k≠pb):=by
 obtain ⟨fx,hb,_⟩:=h.blk
 obtain ⟨sv,ho,hg,hs⟩:=h.ob.blk
 have hs':∀ k,g=some k→k≠p∧k≠pb:=by
  intro k hk
  rw [←hg] at hk
  obtain ⟨cs',hc⟩:=own_ty hs hk
  constructor
  ·rintro rfl
   rw [Blk,hc] at hb
   simp at hb
  ·rintro rfl
   rw [hc] at ho
   simp at ho
 refine ⟨?_,?_,hs'⟩
 ·rintro rfl
  rw [Blk,ho] at hb
  simp at hb
 ·intro k hk
  obtain ⟨cs',hc⟩:=own_ty h.own hk
  constructor
  ·rintro rfl
   rw [Blk,hc] at hb
   simp at hb
  ·rintro rfl
   rw [hc] at ho
   simp at ho
theorem RS.base (h:RS B K p pb g bs lim w ov s):∀ k,FT p pb ov k→B≤k:=by
 rintro k (rfl | rfl | hk)
 ·exact h.hp
 ·exact h.ob.hp
 ·exact (h.own.lt k hk).1
theorem RS.size (h:RS B K p pb g bs lim w ov s):B≤w.heap.size:=by
 obtain ⟨fx,hb,_⟩:=h.blk
 have:=hb.lt
 have:=h.hp
 omega
structure Rcs (w:World) (p pb:Nat) (ov:Value) (lim:Nat) (s:Sta):Prop where
 c0:w.cell? ⟨p,0,none⟩=some (.pointer (some ⟨pb,0,none⟩))
 c1:w.cell? ⟨p,1,none⟩=some ov
 c2:w.cell? ⟨p,2,none⟩=some (.int .i64 (lim:Nat))
 c3:w.cell? ⟨p,3,none⟩=some (.int .i64 (s.steps:Nat))
 c4:w.cell? ⟨p,4,none⟩=some (.int .i64 (s.blocks:Nat))
 f1:w.frozen? ⟨p,1,none⟩=false
 f3:w.frozen? ⟨p,3,none⟩=false
 f4:w.frozen? ⟨p,4,none⟩=false
 f5:w.frozen? ⟨p,5,none⟩=false
theorem RS.cells (h:RS B K p pb g bs lim w ov s):Rcs w p pb ov lim s:=by
 obtain ⟨fx,hb,_⟩:=h.blk
 exact ⟨(hb.cell 0).trans rfl,(hb.cell 1).trans rfl,(hb.cell 2).trans rfl,(hb.cell 3).trans rfl,(hb.cell 4).trans rfl,hb.free 1,hb.free 3,hb.free 4,hb.free 5⟩
theorem RS.moved {m:Nat} {w':World} (h:RS B K p pb g bs lim w ov s) (k:Moved w B 186 pb g bs m w') (hm:s.at_≤m) (hm':m≤8*bs.length) :
  RS B K p pb g bs lim w' ov { s with at_:=m }∧Mv p pb w ov w' ov:=by
 obtain ⟨ho,ht⟩:=k
 obtain ⟨n1,n2,n3⟩:=h.ne
 have hT:Touch (FT p pb ov) w w':=ht.mono fun i hi => .inr (.inl hi)
 obtain ⟨fx,hb,hf⟩:=h.blk
 refine ⟨⟨⟨fx,hb.touch ht n1,hf.safe hT h.safe⟩,ho,ownsRow_touch h.own ht fun i hi e=>(n2 i hi).2 e,h.hp,h.row,h.len,h.lim_,hm',h.out,Nat.le_trans h.steps hm,Nat.le_trans h.blocks hm,h.bytes⟩,hT,fun _ x => .inl x⟩
theorem RS.drewN (h:RS B K p pb g bs lim w ov s) (q:Nat):RS B K p pb g bs lim (w.drewN q) ov s∧Mv p pb w ov (w.drewN q) ov:=by
 have:=h.moved ⟨h.ob.drewN q,(Touch.refl _ w).drewN q⟩ (Nat.le_refl _) h.in_
 exact ⟨this.1,this.2⟩
theorem RS.grow {w':World} (h:RS B K p pb g bs lim w ov s) (k:Below w.heap.size w w'):RS B K p pb g bs lim w' ov s∧Mv p pb w ov w' ov:=by
 have ht:Touch (fun _=>False) w w':=Touch.of_below k
 have:=h.moved (m:=s.at_) ⟨h.ob.touch ht fun _ _ h=>h,Touch.of_below k⟩ (Nat.le_refl _) h.in_
 exact ⟨this.1,this.2⟩
theorem RS.setSteps (h:RS B K p pb g bs lim w ov s) (m:Nat) (hm:m≤s.at_) {x:Int} (hx:x=(m:Int)) :
  RS B K p pb g bs lim (w.setCell ⟨p,3,none⟩ (.int .i64 x)) ov { s with steps:=m }∧Mv p pb w ov (w.setCell ⟨p,3,none⟩ (.int .i64 x)) ov:=by
 subst hx
 obtain ⟨n1,n2,n3⟩:=h.ne
 have ht:Touch (fun k=>k=p) w (w.setCell ⟨p,3,none⟩ (.int .i64 (m:Nat))):=(Touch.refl _ w).setCell _ _ (.inl rfl)
 have hT:Touch (FT p pb ov) w (w.setCell ⟨p,3,none⟩ (.int .i64 (m:Nat))):=ht.mono fun i hi => .inl hi
 obtain ⟨fx,hb,hf⟩:=h.blk
 exact ⟨⟨⟨fx,hb.setCell 3 _,hf.safe hT h.safe⟩,h.ob.touch ht fun k hk e=>by rcases hk with hk | hk;exact n1 (e.symm.trans hk);exact (n3 k hk).1 e,ownsRow_touch h.own ht fun i hi e=>(n2 i hi).1 e,h.hp,h.row,h.len,h.lim_,h.in_,h.out,hm,h.blocks,h.bytes⟩,hT,fun _ x => .inl x⟩
theorem RS.setBlocks (h:RS B K p pb g bs lim w ov s) (m:Nat) (hm:m≤s.at_) {x:Int} (hx:x=(m:Int)) :
  RS B K p pb g bs lim (w.setCell ⟨p,4,none⟩ (.int .i64 x)) ov { s with blocks:=m }∧Mv p pb w ov (w.setCell ⟨p,4,none⟩ (.int .i64 x)) ov:=by
 subst hx
 obtain ⟨n1,n2,n3⟩:=h.ne
 have ht:Touch (fun k=>k=p) w (w.setCell ⟨p,4,none⟩ (.int .i64 (m:Nat))):=(Touch.refl _ w).setCell _ _ (.inl rfl)
 have hT:Touch (FT p pb ov) w (w.setCell ⟨p,4,none⟩ (.int .i64 (m:Nat))):=ht.mono fun i hi => .inl hi
 obtain ⟨fx,hb,hf⟩:=h.blk
 exact ⟨⟨⟨fx,hb.setCell 4 _,hf.safe hT h.safe⟩,h.ob.touch ht fun k hk e=>by rcases hk with hk | hk;exact n1 (e.symm.trans hk);exact (n3 k hk).1 e,ownsRow_touch h.own ht fun i hi e=>(n2 i hi).1 e,h.hp,h.row,h.len,h.lim_,h.in_,h.out,h.steps,hm,h.bytes⟩,hT,fun _ x => .inl x⟩
theorem RS.setOut {w1:World} {ov':Value} {xs:List Nat} (h:RS B K p pb g bs lim w ov s) (hA:Apd w B ov xs ov' w1) (hx:xs.length≤lim) (hb':Bs xs) :
  RS B K p pb g bs lim (w1.setCell ⟨p,1,none⟩ ov') ov' { s with out:=xs }∧Mv p pb w ov (w1.setCell ⟨p,1,none⟩ ov') ov':=by
 obtain ⟨n1,n2,n3⟩:=h.ne
 obtain ⟨fx,hb,hf⟩:=h.blk
 have hp:=hb.lt
 have hT1:Touch (FT p pb ov) w w1:=hA.touch.mono fun i hi => .inr (.inr hi)
 have hT:Touch (FT p pb ov) w (w1.setCell ⟨p,1,none⟩ ov'):=hT1.setCell _ _ (.inl (.inl rfl))
 have ht2:Touch (fun k=>k=p) w1 (w1.setCell ⟨p,1,none⟩ ov'):=(Touch.refl _ w1).setCell _ _ (.inl rfl)
 have hb1:Blk w1 p 168 (rc pb ov lim s fx):=hb.touch hA.touch fun e=>(n2 _ e).1 rfl
 have hg:=h.ob.lt.2
 have ho1:Ob w1 B 186 pb g bs s.at_:=h.ob.touch hA.touch fun k hk e=>by
  rcases hk with rfl | hk
  ·exact (n2 _ e).2 rfl
  ·exact h.row k e hk
 refine ⟨⟨⟨fx,hb1.setCell 1 _,hf.safe hT h.safe⟩,ho1.touch ht2 fun k hk e=>?_,ownsRow_touch hA.own ht2 fun i hi e=>?_,h.hp,fun k hk hgk=>?_,h.len,h.lim_,h.in_,hx,h.steps,h.blocks,hb'⟩,hT,hA.row⟩
 ·rcases hk with hk | hk
  ·exact n1 (e.symm.trans hk)
  ·exact (n3 k hk).1 e
 ·rcases hA.row i hi with h1 | h1
  ·exact (n2 i h1).1 e
  ·omega
 ·rcases hA.row k hk with h1 | h1
  ·exact h.row k h1 hgk
  ·have:=hg k hgk
   omega
def ROk (B K p pb:Nat) (g:Option Nat) (bs:List Nat) (lim:Nat) (w:World) (ov:Value) (v:Value) (s:Sta) (e:Ending) (w':World):Prop:=
 e = .returned v∧∃ ov',RS B K p pb g bs lim w' ov' s∧Mv p pb w ov w' ov'
def RBad (p pb:Nat) (w:World) (ov:Value) (er:Nat) (e:Ending) (w':World):Prop:=e=pan er∧Touch (FT p pb ov) w w'
def RTo {α : Type} (B K p pb:Nat) (g:Option Nat) (bs:List Nat) (lim:Nat) (w:World) (ov:Value) (enc : α → Value) (r:Res α) (e:Ending) (w':World):Prop:=
 match r with
 | .bad er=>RBad p pb w ov er e w'
 | .ok a s=>ROk B K p pb g bs lim w ov (enc a) s e w'
end
theorem Moved.on {w w2:World} {B t p m q:Nat} {g:Option Nat} {bs:List Nat} (h:Moved (w.drewN q) B t p g bs m w2):Moved w B t p g bs m w2:=
 ⟨h.1,((Touch.refl _ w).drewN q).trans h.2⟩
theorem peekX {w:World} {base p:Nat} {g:Option Nat} {bs:List Nat} {at_:Nat} (h:Ob w base 186 p g bs at_) (hl:bs.length≤100000) (ha:at_≤8*bs.length) (X:Nat) (hX:pk bs at_ 15=X) :
  Calls Tryz.prog 147 #[.pointer (some ⟨p,0,none⟩),.int .i64 15] w fun e w'=>e = .returned (.int .u32 X)∧w=w':=by
 subst hX
 exact h.peek (by omega) ha 15 (by omega)
def NextTo (w:World) (B p:Nat) (g:Option Nat) (bs:List Nat) (r:Res Nat) (e:Ending) (w':World):Prop:=
 match r with
 | .bad er=>e = .returned (.tuple #[.int .i64 0,.int .i64 (er:Nat)])∧∃ nq,w'=w.drewN nq
 | .ok y t=>e = .returned (.tuple #[.int .i64 (y:Nat),.int .i64 0])∧Moved w B 186 p g bs t.at_ w'
set_option maxHeartbeats 1600000 in
theorem next_ok {w:World} {p pr at_ B:Nat} {g:Option Nat} {bs ls:List Nat} (h:CodeAt w p ls) (hr:Ob w B 186 pr g bs at_) (hl:bs.length≤100000) (s:Nat) (hb:Beg ls (ahead bs at_) s) (hle:at_+ln ls s≤8*bs.length) :
  Calls Tryz.prog 165 #[.pointer (some ⟨p,0,none⟩),.pointer (some ⟨pr,0,none⟩)] w fun e w'=>e = .returned (.tuple #[.int .i64 s,.int .i64 0])∧Moved w B 186 pr g bs (at_+ln ls s) w':=by
 have HO:=Lib.hid h.ok
 have HC:=Lib.hid h
 have HR:=Lib.hid hr
 have hX:=pk_lt bs at_ 15
 have hA:=ahead_lt bs at_
 have HB:=Lib.hid hb
 obtain ⟨X,hXe⟩:∃ X,X=pk bs at_ 15:=⟨_,rfl⟩
 obtain ⟨A,hAe⟩:∃ A,A=rv 15 X:=⟨_,rfl⟩
 obtain ⟨m,hm⟩:∃ m,m=ln ls s:=⟨_,rfl⟩
 have hm1:1≤m:=by have:=hb.1;omega
 have hm15:m≤15:=by have:=ln_le h.ok s;omega
 have hA':A=ahead bs at_:=by unfold ahead;rw [hAe,hXe]
 rw [←hXe] at hX
 rw [←hA'] at hA
 rw [←hm] at hle
 have HX:=Lib.hid hXe.symm
 have HA:=Lib.hid hAe.symm
 have HA':=Lib.hid hA'
 have HM:=Lib.hid hm
 clear h hr hXe hAe hA' hb
 rw [←hm]
 clear hm
 have hX':X<4294967296:=by omega
 have d1:decide ((8*(bs.length:Int)-at_)<m)=false:=by simp;omega
 have d2:((8*(bs.length:Int)-at_) == 0)=false:=by simp;omega
 have d3:((m:Int) == 0)=false:=by simp;omega
 have hK:Hid (∀ W,CodeAt W p ls→Calls Tryz.prog 176 #[.pointer (some ⟨p,0,none⟩),.int .i64 A] W fun e w'=>e = .returned (.tuple #[.int .i64 s,.int .i64 m])∧∃ nq,w'=W.drewN nq):=Lib.hid fun W hW=>(find_any p A ls W hW hA).mono fun e w' k=>by
  refine ⟨?_,k.2⟩
  rcases k.1 with ⟨t,ht,he⟩ | ⟨hro,_⟩
  ·rw [HA'.out] at ht
   obtain rfl:=beg_one HO.out HB.out ht
   rw [he,HM.out]
  ·exact absurd HB.out (none_of HO.out (by rw [←HA'.out];exact hro) s)
 go_enter Tryz.func165,Tryz.ntmps165
 go_wp2_with (first
  | (go_at_call 147;(refine (peekX HR.out hl (by omega) X HX.out).mono ?_);rintro e w2 ⟨rfl,rfl⟩)
  | (go_at_call 175;(refine (reverse_yes X 15 _ hX' (by omega)).mono ?_);rw [HA.out];rintro e w2 ⟨rfl,rfl⟩)
  | (go_at_call 176;(refine (hK.out _ HC.out).mono ?_);rintro e w2 ⟨rfl,nq,rfl⟩)
  | (go_at_call 163;(refine ((HR.out.drewN _).left (by omega) (by omega)).mono ?_);rintro e w3 ⟨rfl,nq3,rfl⟩)
  | (go_at_call 148;(refine ((HR.out.drewN _).skip_yes (by omega) m (by omega)).mono ?_);rintro e w4 ⟨rfl,hr4⟩;have HR4:=Lib.hid hr4;clear hr4))
 go_ret2
 exact ⟨rfl,HR4.out.on⟩
set_option maxHeartbeats 1600000 in
theorem next_bad {w:World} {p pr at_ B:Nat} {g:Option Nat} {bs ls:List Nat} (h:CodeAt w p ls) (hr:Ob w B 186 pr g bs at_) (hl:bs.length≤100000) (ha:at_≤8*bs.length) (t m:Nat) (hm:m≤15) (hf:Finds p (ahead bs at_) ls t m) (er:Nat)
  (hc:(er=15∧(8*bs.length<at_+m∨at_=8*bs.length))∨(er=10∧m=0∧at_<8*bs.length)) :
  Calls Tryz.prog 165 #[.pointer (some ⟨p,0,none⟩),.pointer (some ⟨pr,0,none⟩)] w fun e w'=>e = .returned (.tuple #[.int .i64 0,.int .i64 (er:Nat)])∧∃ nq,w'=w.drewN nq:=by
 have HC:=Lib.hid h
 have HR:=Lib.hid hr
 have hX:=pk_lt bs at_ 15
 have hA:=ahead_lt bs at_
 obtain ⟨X,hXe⟩:∃ X,X=pk bs at_ 15:=⟨_,rfl⟩
 obtain ⟨A,hAe⟩:∃ A,A=rv 15 X:=⟨_,rfl⟩
 have hA':A=ahead bs at_:=by unfold ahead;rw [hAe,hXe]
 rw [←hA'] at hf hA
 rw [←hXe] at hX
 have HX:=Lib.hid hXe.symm
 have HA:=Lib.hid hAe.symm
 have HF:Hid (∀ W,CodeAt W p ls→Calls Tryz.prog 176 #[.pointer (some ⟨p,0,none⟩),.int .i64 A] W fun e w'=>e = .returned (.tuple #[.int .i64 t,.int .i64 m])∧∃ nq,w'=W.drewN nq):=Lib.hid hf
 clear h hr hXe hAe hA' hf
 have hX':X<4294967296:=by omega
 rcases hc with ⟨rfl,hc⟩ | ⟨rfl,rfl,hc⟩
 ·by_cases h1:8*bs.length<at_+m
  ·have d1:decide ((8*(bs.length:Int)-at_)<m)=true:=by simp;omega
   clear hc
   go_enter Tryz.func165,Tryz.ntmps165
   go_wp2_with (first
    | (go_at_call 147;(refine (peekX HR.out hl (by omega) X HX.out).mono ?_);rintro e w2 ⟨rfl,rfl⟩)
    | (go_at_call 175;(refine (reverse_yes X 15 _ hX' (by omega)).mono ?_);rw [HA.out];rintro e w2 ⟨rfl,rfl⟩)
    | (go_at_call 176;(with_reducible refine (HF.out _ HC.out).mono ?_);rintro e w2 ⟨rfl,nq,rfl⟩)
    | (go_at_call 163;(refine ((HR.out.drewN _).left (by omega) (by omega)).mono ?_);rintro e w3 ⟨rfl,nq3,rfl⟩))
   go_ret2
   exact ⟨rfl,_,rfl⟩
  ·have h2:at_=8*bs.length:=by omega
   have h3:m=0:=by omega
   have d1:decide ((8*(bs.length:Int)-at_)<(0:Nat))=false:=by simp;omega
   have d2:((8*(bs.length:Int)-at_) == 0)=true:=by simp;omega
   have H2:=Lib.hid h2
   subst h3
   clear hc h1 h2
   go_enter Tryz.func165,Tryz.ntmps165
   go_wp2_with (first
    | (go_at_call 147;(refine (peekX HR.out hl (by omega) X HX.out).mono ?_);rintro e w2 ⟨rfl,rfl⟩)
    | (go_at_call 175;(refine (reverse_yes X 15 _ hX' (by omega)).mono ?_);rw [HA.out];rintro e w2 ⟨rfl,rfl⟩)
    | (go_at_call 176;(with_reducible refine (HF.out _ HC.out).mono ?_);rintro e w2 ⟨rfl,nq,rfl⟩)
    | (go_at_call 163;(refine ((HR.out.drewN _).left (by omega) (by omega)).mono ?_);rintro e w3 ⟨rfl,nq3,rfl⟩))
   go_ret2
   exact ⟨rfl,_,rfl⟩
 ·have d1:decide ((8*(bs.length:Int)-at_)<(0:Nat))=false:=by simp;omega
  have d2:((8*(bs.length:Int)-at_) == 0)=false:=by simp;omega
  go_enter Tryz.func165,Tryz.ntmps165
  go_wp2_with (first
   | (go_at_call 147;(refine (peekX HR.out hl (by omega) X HX.out).mono ?_);rintro e w2 ⟨rfl,rfl⟩)
   | (go_at_call 175;(refine (reverse_yes X 15 _ hX' (by omega)).mono ?_);rw [HA.out];rintro e w2 ⟨rfl,rfl⟩)
   | (go_at_call 176;(with_reducible refine (HF.out _ HC.out).mono ?_);rintro e w2 ⟨rfl,nq,rfl⟩)
   | (go_at_call 163;(refine ((HR.out.drewN _).left (by omega) (by omega)).mono ?_);rintro e w3 ⟨rfl,nq3,rfl⟩))
  go_ret2
  exact ⟨rfl,_,rfl⟩
theorem next_any {w:World} {p pr B:Nat} {g:Option Nat} {bs ls:List Nat} {s:Sta} (h:CodeAt w p ls) (hr:Ob w B 186 pr g bs s.at_) (hl:bs.length≤100000) (ha:s.at_≤8*bs.length) :
  Calls Tryz.prog 165 #[.pointer (some ⟨p,0,none⟩),.pointer (some ⟨pr,0,none⟩)] w (NextTo w B pr g bs (rdS bs ls s)):=by
 have hf:=finds_some (p:=p) h.ok (ahead_lt bs s.at_)
 by_cases h1:s.at_=8*bs.length
 ·have hr':rdS bs ls s = .bad 15:=by unfold rdS;rw [if_pos h1]
  rw [hr']
  rcases hf with ⟨y,hb,hF⟩ | ⟨_,hF⟩
  ·exact next_bad h hr hl ha y _ (ln_le h.ok y) hF 15 (.inl ⟨rfl,.inr h1⟩)
  ·exact next_bad h hr hl ha 0 0 (by omega) hF 15 (.inl ⟨rfl,.inr h1⟩)
 ·rcases hf with ⟨y,hb,hF⟩ | ⟨hro,hF⟩
  ·by_cases h2:s.at_+ln ls y≤8*bs.length
   ·have hr':rdS bs ls s = .ok y { s with at_:=s.at_+ln ls y }:=by unfold rdS;rw [if_neg h1,findB_of h.ok hb];simp only;rw [if_pos h2]
    rw [hr']
    exact next_ok h hr hl y hb h2
   ·have hr':rdS bs ls s = .bad 15:=by unfold rdS;rw [if_neg h1,findB_of h.ok hb];simp only;rw [if_neg h2]
    rw [hr']
    exact next_bad h hr hl ha y _ (ln_le h.ok y) hF 15 (.inl ⟨rfl,.inl (by omega)⟩)
  ·have hr':rdS bs ls s = .bad 10:=by
    unfold rdS
    rw [if_neg h1]
    cases hfb:findB ls (ahead bs s.at_) with
    | none=>rfl
    | some z=>exact absurd (findB_some hfb) (none_of h.ok hro z)
   rw [hr']
   exact next_bad h hr hl ha 0 0 (by omega) hF 10 (.inr ⟨rfl,rfl,by omega⟩)
section
variable {B K p pb:Nat} {g:Option Nat} {bs:List Nat} {lim:Nat} {w:World} {ov:Value} {s:Sta}
abbrev nv (n:Nat):Value := .int .i64 (n:Nat)
theorem number_any (h:RS B K p pb g bs lim w ov s) (n:Nat) (hn:n≤16) :
  Calls Tryz.prog 117 #[.pointer (some ⟨p,0,none⟩),.int .i64 n] w (RTo B K p pb g bs lim w ov nv (rdN bs n s)):=by
 have hl:=h.len
 have hi:=h.in_
 obtain ⟨c0⟩:=h.cells
 by_cases hle:s.at_+n≤8*bs.length
 ·have hr:rdN bs n s = .ok (pk bs s.at_ n) { s with at_:=s.at_+n }:=by unfold rdN;rw [if_pos hle]
  rw [hr]
  have hV:=pk_lt bs s.at_ n
  have hV2:pk bs s.at_ n<65536:=Nat.lt_of_lt_of_le hV (Nat.le_trans (Nat.pow_le_pow_right (by omega) hn) (by decide:2^16≤65536))
  have HB:=Lib.hid (h.ob.bits_yes (by omega) n (by omega) hle)
  have HM:=Lib.hid fun w' (k:Moved w B 186 pb g bs (s.at_+n) w')=>h.moved k (by omega) hle
  obtain ⟨V,hVe⟩:∃ V,V=pk bs s.at_ n:=⟨_,rfl⟩
  rw [←hVe] at hV2 HB ⊢
  clear h hr hV hVe
  go_enter Tryz.func117,Tryz.ntmps117
  go_wp2_with (first
   | (go_at_call 134;(refine HB.out.mono ?_);rintro e w2 ⟨rfl,hm⟩;have H2:=Lib.hid (HM.out _ hm);clear hm)
   | (go_at_call 135;refine (must_yes _ _).mono ?_;rintro e w3 ⟨rfl,rfl⟩))
  go_ret
  exact ⟨rfl,ov,H2.out⟩
 ·have hr:rdN bs n s = .bad 15:=by unfold rdN;rw [if_neg hle]
  rw [hr]
  have HB:=Lib.hid (h.ob.bits_no (by omega) hi n (by omega))
  clear h hr
  go_enter Tryz.func117,Tryz.ntmps117
  go_wp2_with (first
   | (go_at_call 134;(refine HB.out.mono ?_);rintro e w2 ⟨rfl,nq,rfl⟩)
   | (go_at_call 135;refine (must_no 15 _).mono ?_;rintro e w3 ⟨rfl,rfl⟩))
  exact ⟨rfl,rfl,(Touch.refl _ w).drewN nq⟩
theorem symbol_any {pc:Nat} {ls:List Nat} (h:RS B K p pb g bs lim w ov s) (hc:CodeAt w pc ls) :
  Calls Tryz.prog 152 #[.pointer (some ⟨p,0,none⟩),.pointer (some ⟨pc,0,none⟩)] w (RTo B K p pb g bs lim w ov nv (rdS bs ls s)):=by
 obtain ⟨c0⟩:=h.cells
 have HN:=Lib.hid (next_any hc h.ob h.len h.in_)
 have H:=Lib.hid h
 cases hr:rdS bs ls s with
 | bad er=>
  rw [hr] at HN
  have her:er=15∨er=10:=by
   unfold rdS at hr
   split at hr
   ·cases hr;exact .inl rfl
   ·split at hr
    ·cases hr;exact .inr rfl
    ·split at hr
     ·cases hr
     ·cases hr;exact .inl rfl
  have hd:((er:Int) == 0)=false:=by simp;omega
  clear h hc hr her
  go_enter Tryz.func152,Tryz.ntmps152
  go_wp2_with (first
   | (go_at_call 165;(refine HN.out.mono ?_);rintro e w2 ⟨rfl,nq,rfl⟩)
   | (go_at_call 135;refine (must_no er _).mono ?_;rintro e w3 ⟨rfl,rfl⟩))
  exact ⟨rfl,rfl,(Touch.refl _ w).drewN nq⟩
 | ok y t=>
  rw [hr] at HN
  obtain ⟨_,k1,k2,k3⟩:=rdS_is hr
  have HK:=Lib.hid (And.intro k2 k3)
  clear h hc hr k1 k2 k3
  go_enter Tryz.func152,Tryz.ntmps152
  go_wp2_with (first
   | (go_at_call 165;(refine HN.out.mono ?_);rintro e w2 ⟨rfl,hm⟩;have HM:=Lib.hid hm;clear hm)
   | (go_at_call 135;refine (must_yes _ _).mono ?_;rintro e w3 ⟨rfl,rfl⟩))
  go_ret
  obtain ⟨k2,rfl⟩:=HK.out
  exact ⟨rfl,ov,H.out.moved HM.out (Nat.le_add_right _ _) k2⟩
end
end
end Go.Proofs.YthbbpooobaahiaaGreatDoor
