/- Part 4. -/
import Derived.Laws.AppendOwn
import Derived.Laws.OwnMore
import Derived.OwnWalk
import Derived.Test.YtacpfpghokcdlaaGreatDoorXA3
namespace Go.Proofs.YtacpfpghokcdlaaGreatDoor
set_option maxRecDepth 100000
structure Sta where
 at_:Nat
 out:List Nat
 steps:Nat
 blocks:Nat
inductive Res (α : Type) where
 | bad (e:Nat)
 | ok (a : α) (s:Sta)
section
variable {α β γ : Type}
def Res.bind (r:Res α) (k : α → Sta→Res β):Res β :=
 match r with
 | .bad e => .bad e
 | .ok a s=>k a s
theorem Res.bind_ok {a : α} {s:Sta} {k : α → Sta→Res β}:(Res.ok a s).bind k=k a s:=rfl
theorem Res.bind_bad {e:Nat} {k : α → Sta→Res β}:(Res.bad e:Res α).bind k = .bad e:=rfl
theorem Res.bind_is {r:Res α} {k : α → Sta→Res β} {b : β} {t:Sta} (h:r.bind k = .ok b t):∃ a s,r = .ok a s∧k a s = .ok b t:=by
 cases r with
 | bad e=>cases h
 | ok a s=>exact ⟨a,s,rfl,h⟩
def iter (f : α → Sta→Res (Bool × α)):Nat → α → Sta→Res α
 | 0,_,_ => .bad 0
 | n+1,a,s=>(f a s).bind fun x s'=>if x.1 then .ok x.2 s' else iter f n x.2 s'
def run (L:Nat) (f : α → Sta→Res (Bool × α)) (a : α) (s:Sta):Res α := iter f (L+1-s.at_) a s
def Takes (L:Nat) (f : α → Sta→Res (Bool × α)):Prop:=∀ a s x s',s.at_≤L→f a s = .ok x s'→s.at_<s'.at_∧s'.at_≤L
theorem iter_more {L:Nat} {f : α → Sta→Res (Bool × α)} (hf:Takes L f):∀ m n a s,s.at_≤L→L+1-s.at_≤m→L+1-s.at_≤n→iter f m a s=iter f n a s:=by
 intro m
 induction m with
 | zero=>intro n a s h1 h2;omega
 | succ m ih=>
  intro n a s h1 h2 h3
  obtain ⟨k,rfl⟩:∃ k,n=k+1:=⟨n-1,by omega⟩
  unfold iter
  cases hx:f a s with
  | bad e=>rfl
  | ok x s'=>
   obtain ⟨h4,h5⟩:=hf a s x s' h1 hx
   simp only [Res.bind_ok]
   split
   ·rfl
   ·exact ih k x.2 s' h5 (by omega) (by omega)
theorem run_eq {L:Nat} {f : α → Sta→Res (Bool × α)} (hf:Takes L f) (a : α) {s:Sta} (hs:s.at_≤L):run L f a s=(f a s).bind fun x s'=>if x.1 then .ok x.2 s' else run L f x.2 s':=by
 unfold run
 rw [show L+1-s.at_=(L-s.at_)+1 by omega,iter]
 cases hx:f a s with
 | bad e=>rfl
 | ok x s'=>
  obtain ⟨h4,h5⟩:=hf a s x s' hs hx
  simp only [Res.bind_ok]
  split
  ·rfl
  ·exact iter_more hf _ _ _ _ h5 (by omega) (by omega)
structure Le (L lim:Nat) (s s':Sta):Prop where
 at_:s.at_≤s'.at_
 end_:s'.at_≤L
 out:s.out.length≤s'.out.length
 lim_:s.out.length≤lim→s'.out.length≤lim
 steps:s'.steps+s.at_≤s.steps+s'.at_
 blocks:s'.blocks+s.at_≤s.blocks+s'.at_
 bytes:Bs s.out→Bs s'.out
theorem Le.refl {L:Nat} (lim:Nat) {s:Sta} (h:s.at_≤L):Le L lim s s:=⟨Nat.le_refl _,h,Nat.le_refl _,id,Nat.le_refl _,Nat.le_refl _,id⟩
theorem Le.trans {L lim:Nat} {a b c:Sta} (h:Le L lim a b) (k:Le L lim b c):Le L lim a c:=by
 have:=h.at_;have:=h.out;have:=h.steps;have:=h.blocks;have:=k.at_;have:=k.out;have:=k.steps;have:=k.blocks
 exact ⟨by omega,k.end_,by omega,fun x=>k.lim_ (h.lim_ x),by omega,by omega,fun x=>k.bytes (h.bytes x)⟩
theorem Le.to {L lim:Nat} {s:Sta} {a:Nat} (h:s.at_≤a) (hL:a≤L):Le L lim s { s with at_:=a }:=
 ⟨h,hL,Nat.le_refl _,id,by show s.steps+s.at_≤s.steps+a;omega,by show s.blocks+s.at_≤s.blocks+a;omega,id⟩
def Pr (L lim:Nat) (f:Sta→Res α):Prop:=∀ s a s',s.at_≤L→f s = .ok a s'→Le L lim s s'
theorem Pr.run {L lim:Nat} {f : α → Sta→Res (Bool × α)} (hf:Takes L f) (h:∀ a,Pr L lim (f a)) (a : α):Pr L lim (run L f a):=by
 have key:∀ n s a b t,L-s.at_≤n→s.at_≤L→YtacpfpghokcdlaaGreatDoor.run L f a s = .ok b t→Le L lim s t:=by
  intro n
  induction n with
  | zero=>
   intro s a b t hn hs hr
   rw [run_eq hf a hs] at hr
   obtain ⟨x,s',h1,h2⟩:=Res.bind_is hr
   have:=hf a s x s' hs h1
   omega
  | succ n ih=>
   intro s a b t hn hs hr
   rw [run_eq hf a hs] at hr
   obtain ⟨x,s',h1,h2⟩:=Res.bind_is hr
   have h3:=hf a s x s' hs h1
   have h4:=h a s x s' hs h1
   split at h2
   ·cases h2;exact h4
   ·exact h4.trans (ih s' x.2 b t (by omega) h3.2 h2)
 intro s b t hs hr
 exact key _ s a b t (Nat.le_refl _) hs hr
end
def rdN (bs:List Nat) (n:Nat) (s:Sta):Res Nat:=if s.at_+n≤8*bs.length then .ok (pk bs s.at_ n) { s with at_:=s.at_+n } else .bad 15
def findB (ls:List Nat) (A:Nat):Option Nat:=(List.range ls.length).find? fun s=>decide (ln ls s≠0∧A/2^(15-ln ls s)=cd ls s)
def rdS (bs ls:List Nat) (s:Sta):Res Nat:=
 if s.at_=8*bs.length then .bad 15
 else match findB ls (ahead bs s.at_) with
  | none => .bad 10
  | some y=>if s.at_+ln ls y≤8*bs.length then .ok y { s with at_:=s.at_+ln ls y } else .bad 15
def lenOf (y:Nat):Option (Nat × Nat):=
 if y<257∨285<y then none else if y=285 then some (258,0) else if y<261 then some (y-254,0) else some (3+(4+(y-257)%4)*2^((y-257)/4-1),(y-257)/4-1)
def disOf (d:Nat):Option (Nat × Nat):=
 if 29<d then none else if d<2 then some (1+d,0) else some (1+(2+d%2)*2^(d/2-1),d/2-1)
def grown (bs:List Nat) (o:Option (Nat × Nat)) (s:Sta):Res Nat:=
 match o with
 | none => .bad 10
 | some x=>(rdN bs x.2 s).bind fun v s' => .ok (x.1+v) s'
def back (far:Nat):Nat→List Nat→List Nat
 | 0,l=>l
 | n+1,l=>back far n (l++[l.getD (l.length-far) 0])
def again (bs:List Nat) (lim:Nat) (ol:List Nat) (y:Nat) (s:Sta):Res Unit:=
 (grown bs (lenOf y) s).bind fun n s1=>(rdS bs ol s1).bind fun d s2=>(grown bs (disOf d) s2).bind fun far s3=>
  if s3.out.length<far then .bad 10 else if lim<s3.out.length+n then .bad 14 else .ok () { s3 with out:=back far n s3.out }
def sym1 (bs:List Nat) (lim:Nat) (fl ol:List Nat) (_:Unit) (s:Sta):Res (Bool × Unit):=
 (rdS bs fl s).bind fun y s1=>
  if y<256 then (if lim<s1.out.length+1 then .bad 14 else .ok (false,()) { s1 with steps:=s1.steps+1,out:=s1.out++[y] })
  else if y=256 then .ok (true,()) { s1 with steps:=s1.steps+1 }
  else (again bs lim ol y { s1 with steps:=s1.steps+1 }).bind fun _ s2 => .ok (false,()) s2
def syms (bs:List Nat) (lim:Nat) (fl ol:List Nat) (s:Sta):Res Unit:=run (8*bs.length) (sym1 bs lim fl ol) () s
def stored (bs:List Nat) (lim:Nat) (s:Sta):Res Unit:=
 (rdN bs 16 { s with at_:=up8 s.at_ }).bind fun n s1=>(rdN bs 16 s1).bind fun m s2=>
  if m≠65535-n then .bad 10 else if 8*bs.length<s2.at_+8*n then .bad 15 else if lim<s2.out.length+n then .bad 14
  else .ok () { s2 with at_:=s2.at_+8*n,out:=s2.out++(bs.drop (s2.at_/8)).take n,steps:=s2.steps+n }
def xb (y:Nat):Nat:=if y=16 then 2 else if y=17 then 3 else if y=18 then 7 else 0
def itm (bs own:List Nat) (s:Sta):Res (Nat × Nat):=
 (rdS bs own s).bind fun y s1=>if 16≤y∧y≤18 then (rdN bs (xb y) s1).bind fun v s2 => .ok (y,v) s2 else .ok (y,0) s1
def told (y v:Nat) (row:List Nat):Option (List Nat):=
 if y<16 then some [y] else if y=16 then (if row=[] then none else some (List.replicate (3+v) (row.getLastD 0))) else if y=17 then some (List.replicate (3+v) 0) else if y=18 then some (List.replicate (11+v) 0) else none
def len1 (bs own:List Nat) (n:Nat) (row:List Nat) (s:Sta):Res (Bool × List Nat):=
 (itm bs own s).bind fun x s1=>
  match told x.1 x.2 row with
  | none => .bad 10
  | some t=>if n<(row++t).length then .bad 10 else .ok (decide ((row++t).length=n),row++t) s1
def lens (bs own:List Nat) (n:Nat) (s:Sta):Res (List Nat):=run (8*bs.length) (len1 bs own n) [] s
def ord:List Nat:=[16,17,18,0,8,7,9,6,10,5,11,4,12,3,13,2,14,1,15]
def ownOf (l:List Nat):List Nat:=(List.range 19).map fun j=>l.getD (ord.idxOf j) 0
def rdO (bs:List Nat):Nat→List Nat→Sta→Res (List Nat)
 | 0,l,s => .ok l s
 | k+1,l,s=>(rdN bs 3 s).bind fun v s'=>rdO bs k (l++[v]) s'
def whole (ls:List Nat):Bool:=decide (room ls=32768∨(many ls=1∧1∈ls))
def fits (row:List Nat) (l:Nat):Bool:=
 decide (room (row.take l)≤32768∧room (row.drop l)≤32768) && whole (row.take l) && (whole (row.drop l) || decide (many (row.drop l)=0))
def codes (bs:List Nat) (s:Sta):Res (List Nat × List Nat):=
 (rdN bs 5 s).bind fun l s1=>(rdN bs 5 s1).bind fun d s2=>(rdN bs 4 s2).bind fun c s3=>
  if 29<l∨29<d then .bad 10 else
  (rdO bs (4+c) [] s3).bind fun o s4=>
   if room (ownOf o)≠32768 then .bad 10 else
   (lens bs (ownOf o) (258+l+d) s4).bind fun row s5=>
    if row.getD 256 0=0 then .bad 10 else
    if fits row (257+l) then .ok (row.take (257+l),row.drop (257+l)) s5 else .bad 10
def fixF:List Nat:=List.replicate 144 8++List.replicate 112 9++List.replicate 24 7++List.replicate 8 8
def fixO:List Nat:=List.replicate 32 5
def blk (bs:List Nat) (lim:Nat) (s:Sta):Res Unit:=
 (rdN bs 2 s).bind fun k s1=>
  if k=0 then stored bs lim s1 else if k=1 then syms bs lim fixF fixO s1 else if k=2 then (codes bs s1).bind fun c s2=>syms bs lim c.1 c.2 s2 else .bad 10
def blk1 (bs:List Nat) (lim:Nat) (_:Unit) (s:Sta):Res (Bool × Unit):=
 (rdN bs 1 s).bind fun last s1=>(blk bs lim s1).bind fun _ s2 => .ok (decide (last=1),()) { s2 with blocks:=s2.blocks+1 }
def st0:Sta:=⟨0,[],0,0⟩
def infl (bs:List Nat) (lim:Nat):Res Unit:=run (8*bs.length) (blk1 bs lim) () st0
section
open Go.RowKit
theorem Touch.none_below {a b:World} (h:Touch (fun _=>False) a b):Below a.heap.size a b:=h.below (Nat.le_refl _) fun _ h=>h.elim
theorem ownsRow_below {w w':World} {base:Nat} {e:TypeId} {size:Nat} {v:Value} {n:Nat} {xs:List Value} (h:w.ownsRow base e size v n xs) (hb:Below w.heap.size w w'):w'.ownsRow base e size v n xs:=
 ownsRow_touch h (Touch.of_below (S:=fun _=>False) hb) fun _ _ h=>h
structure Apg (w:World) (base e sz:Nat) (v:Value) (n:Nat) (xs:List Value) (v':Value) (w':World):Prop where
 own:w'.ownsRow base e sz v' n xs
 touch:Touch (fun k=>v.ownBlock=some k) w w'
 row:∀ k,v'.ownBlock=some k→v.ownBlock=some k∨w.heap.size≤k
theorem Apg.alloc {a b:World} {base e sz n:Nat} {v1 v2:Value} {xs:List Value} {o:Obj} (k:Apg (a.alloc o) base e sz v1 n xs v2 b):Apg a base e sz v1 n xs v2 b:=
 ⟨k.own,((Touch.refl _ a).alloc o).trans k.touch,fun i hi=>by
  rcases k.row i hi with h | h
  ·exact .inl h
  ·right;simp at h;omega⟩
theorem Apg.below {a b:World} {base e sz n:Nat} {v1 v2:Value} {xs ys:List Value} {m:Nat} (k:Apg a base e sz v1 n xs v2 b) (h:a.ownsRow base e sz v1 m ys) (hb:base≤a.heap.size):Below base a b:=
 k.touch.below hb fun i hi=>(h.lt i hi).1
def CellsAt (w:World) (sv:Value) (m:Nat) (ys:List Value):Prop:=
 (sv = .slice none 0 0∧m=0∧ys=[])∨∃ ad c,sv = .slice (some ad) m c∧∀ j u,ys[j]? = some u→w.cell? (ad.add j)=some u
structure AT (t e:Nat) (z:Value) (size bytes:Nat):Prop where
 hu:Tryz.prog.underlying t=some (.slice e)
 info:(Tryz.prog.info? e).map (fun i=>(i.zero,i.size,i.bytes))=some (some z,size,bytes)
 zs:z.cells.size=size
 pos:0<size
theorem run_append_g {t e:Nat} {z:Value} {size bytes:Nat} (T:AT t e z size bytes) (w:World) {base:Nat} {v sv:Value} {n m:Nat} {xs ys:List Value} (ty:TypeId) (hown:w.ownsRow base e size v n xs) (hs:CellsAt w sv m ys)
  (hyl:ys.length=m*size) (h1:∀ u∈ys,u.oneCell'=true) (hbase:base≤w.heap.size) (hl:n+m≤140737488355328) (hby:(n+m)*bytes≤140737488355328) :
  ∃ v' w',(Builtin.append_ #[t,t] ty #[v,sv]).run Tryz.prog w = .ok v' w'∧Apg w base e size v (n+m) (xs++ys) v' w':=by
 obtain ⟨i0,hi,hz0,hz1,hz2⟩:=info_parts T.info
 rcases hs with ⟨rfl,rfl,rfl⟩ | ⟨ad,c,rfl,hcell⟩
 ·refine ⟨v,w,run_append_owned_none w base t ty e i0 size T.hu hi v n xs hown,?_,Touch.refl _ _,fun k hk => .inl hk⟩
  simpa using hown
 ·rcases hown.2 with ⟨rfl,hn0⟩ | ⟨g,cap,cur,rfl,hbg,hh,hnc,hcm,hcs,htake⟩
  ·subst hn0
   have hx:xs=[]:=List.eq_nil_of_length_eq_zero (by rw [hown.1,Nat.zero_mul])
   subst hx
   obtain ⟨v',w',hr,ho,hg,_⟩:=run_append_own (P:=Tryz.prog) w w.heap.size t ty e i0 z size bytes T.hu hi hz0 hz1 hz2 T.zs T.pos (.slice none 0 0) 0 [] (World.ownsRow_nil _ _ _ _) ad m c ys hyl hcell h1 (by unfold maxLen;omega) hby (Nat.le_refl _)
   exact ⟨v',w',hr,own_base ho hbase,(Touch.refl _ w).grown hg fun k hk=>by simp [Value.ownBlock] at hk,fun k hk => .inr (ho.lt k hk).1⟩
  ·by_cases hroom:n+m≤cap
   ·obtain ⟨w',hr,ho,hg⟩:=run_append_fits (P:=Tryz.prog) w base t ty e i0 size T.hu hi hz1 g n cap xs hown ad m c ys hyl hcell h1 hroom
    exact ⟨_,w',hr,ho,(Touch.refl _ w).grown hg fun k hk => .inl (by cases hk;simp [Value.ownBlock]),fun k hk => .inl (by simpa [Value.ownBlock] using hk)⟩
   ·obtain ⟨v',w',hr,ho,hg⟩:=run_append_arg_grows (P:=Tryz.prog) w t ty e i0 z size bytes T.hu hi hz0 hz1 hz2 T.zs T.pos ⟨g,0,none⟩ n cap xs hown.1 (hown.cells (by simp [Value.ownBlock])) ad m c ys hyl hcell (by omega) (by unfold maxLen;omega) hby
    exact ⟨v',w',hr,own_base ho hbase,(Touch.refl _ w).grown hg (fun k hk=>by cases hk),fun k hk => .inr (ho.lt k hk).1⟩
theorem wpList_append_g {t e:Nat} {z:Value} {size bytes:Nat} (T:AT t e z size bytes) {w:World} {ops:Array Oper} {rest:List Oper} {o:Oper} {a:Act} {Q:Exit→Act→World→Prop} (hgd:o.guard=none) (s x:Operand)
  (ho:o.op = .call { callee := .builtin .append,args := #[s,x],argTypes := #[t,t] })
  (base:Nat) (v sv:Value) (n m:Nat) (xs ys:List Value) (hs:a.eval s=v) (hx:a.eval x=sv) (hown:w.ownsRow base e size v n xs) (hsrc:CellsAt w sv m ys)
  (hyl:ys.length=m*size) (h1:∀ u∈ys,u.oneCell'=true) (hbase:base≤w.heap.size) (hl:n+m≤140737488355328) (hby:(n+m)*bytes≤140737488355328)
  (h:∀ ao c w',Apg w base e size v (n+m) (xs++ys) (.slice ao (n+m) c) w'→wpList Tryz.prog ops Q rest (a.put o.dst (.slice ao (n+m) c)) w'):wpList Tryz.prog ops Q (o::rest) a w:=by
 refine wpList_plain hgd fun K hK=>?_
 obtain ⟨v',w',hrun,hA⟩:=run_append_g T w o.type hown hsrc hyl h1 hbase hl hby
 obtain ⟨ao,c,rfl⟩:=own_shape hA.own
 unfold Oper.wp
 simp [execOp,ho,resolve,invoke,builtin,hs,hx,hrun,Result.andThen]
 exact hK _ _ (by simpa using h ao c w' hA)
def iv (zs:List Int):List Value:=zs.map fun z => .int .i64 z
theorem iv_len (zs:List Int):(iv zs).length=zs.length:=by simp [iv]
theorem iv_one (zs:List Int):∀ u∈iv zs,u.oneCell'=true:=by
 intro u hu
 obtain ⟨_,_,rfl⟩:=List.mem_map.1 hu
 rfl
theorem iv_app (a b:List Int):iv a++iv b=iv (a++b):=by simp [iv]
theorem iv_at (zs:List Int) (j:Nat) (h:j<zs.length):(iv zs)[j]? = some (.int .i64 (zs.getD j 0)):=by simp [iv,h,List.getD]
theorem at22:AT 40 3 (.int .i64 0) 1 8:=⟨by kernel_rfl,by kernel_rfl,rfl,by omega⟩
theorem IS.cells {w:World} {ao:Option Addr} {zs:List Int} {c:Nat} (h:IS w ao zs) (hn:zs=[]→ao=none→c=0):CellsAt w (.slice ao zs.length c) zs.length (iv zs):=by
 rcases h with rfl | ⟨b,off,rfl,hc⟩
 ·cases ao with
  | none=>exact .inl ⟨by rw [hn rfl rfl];rfl,rfl,rfl⟩
  | some ad=>exact .inr ⟨ad,c,rfl,fun j u hu=>by simp [iv] at hu⟩
 ·refine .inr ⟨_,c,rfl,fun j u hu=>?_⟩
  have hj:j<zs.length:=by
   have:=(List.getElem?_eq_some_iff.1 hu).1
   rwa [iv_len] at this
  rw [Addr.add_lit,hc j hj,←hu,iv_at zs j hj]
theorem own_is {w:World} {base:Nat} {ao:Option Addr} {c n:Nat} {zs:List Int} (h:w.ownsRow base 3 1 (.slice ao n c) n (iv zs)) (hn:zs.length=n):IS w ao zs:=by
 subst hn
 rcases h.2 with ⟨e,h0⟩ | ⟨g,cap,cur,e,hbg,hh,hnc,hcm,hcs,htake⟩
 ·exact .inl (List.eq_nil_of_length_eq_zero h0)
 ·simp only [Value.slice.injEq] at e
  obtain ⟨rfl,_,rfl⟩:=e
  refine .inr ⟨g,0,rfl,fun j hj=>?_⟩
  rw [Nat.zero_add,World.ownsRow.cellAt h j (by omega),iv_at zs j hj]
theorem blk_is {w:World} {g n:Nat} {f:Nat→Nat} (h:Blk w g 3 (ia n f)) (zs:List Int) (hn:zs.length=n) (hf:∀ j,j<n→zs.getD j 0=(f j:Nat)):IS w (some ⟨g,0,none⟩) zs:=
 .inr ⟨g,0,rfl,fun j hj=>by rw [Nat.zero_add,h.cell,va_at n _ j (by omega),hf j (by omega)]⟩
def part1 (x:Nat):Nat:=if x=0 then 0 else 2^(15-x)
def rsum (l:List Nat):Nat:=(l.map part1).sum
theorem rsum_app (l:List Nat) (x:Nat):rsum (l++[x])=rsum l+part1 x:=by simp [rsum]
theorem cn_app (l:List Nat) (x n:Nat):cn (l++[x]) n=cn l n+if n=x∧n≠0 then 1 else 0:=by
 unfold cn
 by_cases h0:n=0
 ·simp [h0]
 ·rw [if_neg h0,if_neg h0,List.count_append,List.count_singleton]
  by_cases h:n=x
  ·simp [h];intro e;omega
  ·simp [h,Ne.symm h]
theorem sp_app (l:List Nat) (x n:Nat):sp (l++[x]) n=sp l n+if x<n then part1 x else 0:=by
 induction n with
 | zero=>simp [sp]
 | succ n ih=>
  rw [sp,sp,ih,cn_app,Nat.add_mul]
  by_cases h:n=x
  ·subst h
   rw [if_neg (Nat.lt_irrefl n),if_pos (Nat.lt_succ_self n)]
   by_cases h0:n=0
   ·rw [if_neg (show ¬(n=n∧n≠0) from fun e=>e.2 h0),Nat.zero_mul]
    unfold part1
    rw [if_pos h0]
    omega
   ·rw [if_pos ⟨rfl,h0⟩,Nat.one_mul]
    unfold part1
    rw [if_neg h0]
    omega
  ·rw [if_neg (show ¬(n=x∧n≠0) from fun e=>h e.1),Nat.zero_mul]
   by_cases h2:x<n
   ·rw [if_pos h2,if_pos (show x<n+1 by omega)]
    omega
   ·rw [if_neg h2,if_neg (show ¬x<n+1 by omega)]
    omega
theorem sp_nil (n:Nat):sp [] n=0:=by
 induction n with
 | zero=>rfl
 | succ n ih=>rw [sp,ih];simp [cn]
theorem room_rsum (l:List Nat) (h:∀ x∈l,x≤15):room l=rsum l:=by
 have key:∀ k,k≤l.length→sp (l.take k) 16=rsum (l.take k):=by
  intro k
  induction k with
  | zero=>intro _;rw [List.take_zero,sp_nil];rfl
  | succ k ih=>
   intro hk
   rw [List.take_succ_eq_append_getElem (by omega),sp_app,rsum_app,ih (by omega),if_pos]
   have:=h _ (List.getElem_mem (show k<l.length by omega))
   omega
 have:=key l.length (Nat.le_refl _)
 rwa [List.take_length] at this
def cb (ls:List Nat) (s:Nat):List Nat:=(List.range (ln ls s)).map fun j=>cd ls s/2^(ln ls s-1-j)%2
def RAt (w:World) (p:Nat) (ls:List Nat):Prop:=
 ∃ (gl rm:Nat) (F:Nat→Value),w.cell? ⟨p,0,none⟩=some (.slice (some ⟨gl,0,none⟩) ls.length ls.length)∧w.cell? ⟨p,1,none⟩=some (.int .i64 (rm:Nat))∧
  ∀ s,s<ls.length→w.cell? ⟨gl,s,none⟩=some (F s)∧BySl w (F s) (cb ls s)
theorem lo_of {ls:List Nat} (H:Ok ls) {s:Nat} (hs:ln ls s≠0):rv (ln ls s) (rv (ln ls s) (cd ls s))=cd ls s:=by
 rw [rv_rv,Nat.mod_eq_of_lt (cd_lt H hs)]
theorem rv_mod (n X:Nat):rv n (X%2^n)=rv n X:=by
 apply Nat.eq_of_testBit_eq
 intro i
 rw [rv_bit,rv_bit,Nat.testBit_mod_two_pow]
 by_cases h:i<n
 ·simp [h,show n-1-i<n by omega]
 ·simp [h]
def wstep (ls:List Nat) (t:Nat × Nat) (s:Nat):Nat × Nat:=(t.1+rv (ln ls s) (cd ls s)*2^t.2,t.2+ln ls s)
def wl (ls:List Nat) (l:List Nat):Nat × Nat:=l.foldl (wstep ls) (0,0)
theorem beg_of {ls bs:List Nat} (H:Ok ls) {s at_:Nat} (hs:ln ls s≠0) (h:num bs/2^at_%2^ln ls s=rv (ln ls s) (cd ls s)):Beg ls (ahead bs at_) s:=by
 refine ⟨hs,?_⟩
 have hle:=ln_le H s
 unfold ahead
 have h2:=rv_div (ln ls s) (15-ln ls s) (pk bs at_ 15)
 rw [show ln ls s+(15-ln ls s)=15 by omega] at h2
 rw [h2,←rv_mod]
 unfold pk
 rw [Nat.mod_mod_of_dvd _ (Nat.pow_dvd_pow 2 hle),h,lo_of H hs]
def sumlt (ls l:List Nat) (k:Nat):Nat:=((l.filter fun x=>decide (x<k)).map (ln ls)).sum
theorem sumlt_step (ls l:List Nat) (k:Nat):sumlt ls l (k+1)=sumlt ls l k+l.count k*ln ls k:=by
 unfold sumlt
 induction l with
 | nil=>simp
 | cons x r ih=>
  simp only [List.filter_cons,List.count_cons]
  by_cases h1:x<k
  ·simp [h1,show x<k+1 by omega,show ¬x=k by omega,ih];omega
  ·by_cases h2:x=k
   ·subst h2;simp [ih,Nat.add_mul];omega
   ·simp [h1,show ¬x<k+1 by omega,h2,ih]
theorem sumlt_all (ls l:List Nat) (N:Nat) (h:∀ x∈l,x<N):sumlt ls l N=(l.map (ln ls)).sum:=by
 unfold sumlt
 rw [List.filter_eq_self.2 (fun x hx=>by simpa using h x hx)]
theorem wl_sum (ls l:List Nat):(wl ls l).2=(l.map (ln ls)).sum:=by
 have key:∀ (l:List Nat) (t:Nat × Nat),(l.foldl (wstep ls) t).2=t.2+(l.map (ln ls)).sum:=by
  intro l
  induction l with
  | nil=>intro t;simp
  | cons s r ih=>
   intro t
   rw [List.foldl_cons,ih]
   simp only [wstep,List.map_cons,List.sum_cons]
   omega
 simpa [wl] using key l (0,0)
def cz (N:Nat) (l:List Nat):List Int:=(List.range N).map fun s=>((l.count s:Nat):Int)
theorem cz_at (N:Nat) (l:List Nat) (s:Nat) (h:s<N):(cz N l).getD s 0=(l.count s:Nat):=by simp [cz,List.getD,h]
theorem cst_cz (ls l:List Nat) (hl:l.length≤1000) (k:Nat) (hk:k≤ls.length):cst ls (cz ls.length l) k=sumlt ls l k:=by
 induction k with
 | zero=>
  have:l.filter (fun x=>decide (x<0))=[]:=by simp
  rw [cst,sumlt,this];rfl
 | succ k ih=>
  rw [cst,sumlt_step,ih (by omega),cz_at _ _ _ (by omega)]
  have hc:l.count k≤l.length:=List.count_le_length
  by_cases h0:l.count k=0
  ·simp [h0]
  ·rw [if_pos ⟨by omega,by omega⟩,Int.toNat_natCast]
theorem cost_len {ls l:List Nat} (hl:l.length≤1000) (h:∀ x∈l,ln ls x≠0):cst ls (cz ls.length l) ls.length=(wl ls l).2:=by
 rw [cst_cz ls l hl ls.length (Nat.le_refl _),sumlt_all ls l _ (fun x hx=>ln_lt (h x hx)),wl_sum]
section
variable {B pw gc m sc:Nat} {so:Option Addr} {C:Array Value} {l:List Nat} {N n:Nat} {w wr w':World}
end
def rbits (bs:List Nat) (k:Nat):List Nat:=(List.range k).map fun i=>num bs/2^i%2
end
variable {bs:List Nat} {lim:Nat}
theorem rdN_is {n:Nat} {s t:Sta} {v:Nat} (h:rdN bs n s = .ok v t):s.at_+n≤8*bs.length∧v=pk bs s.at_ n∧t={ s with at_:=s.at_+n }:=by
 unfold rdN at h
 split at h
 ·cases h;exact ⟨by assumption,rfl,rfl⟩
 ·cases h
theorem rdN_pr (n:Nat):Pr (8*bs.length) lim (rdN bs n):=by
 intro s a t hs h
 obtain ⟨h1,_,rfl⟩:=rdN_is h
 exact Le.to (Nat.le_add_right _ _) h1
theorem findB_some {ls:List Nat} {A y:Nat} (h:findB ls A=some y):Beg ls A y:=by
 have:=List.find?_some h
 rw [decide_eq_true_iff] at this
 exact this
theorem findB_none {ls:List Nat} {A:Nat} (h:findB ls A=none) (y:Nat):¬Beg ls A y:=by
 intro hb
 have hlt:=ln_lt hb.1
 have:=List.find?_eq_none.1 h y (List.mem_range.2 hlt)
 exact this (by rw [decide_eq_true_iff];exact hb)
theorem findB_of {ls:List Nat} (H:Ok ls) {A y:Nat} (h:Beg ls A y):findB ls A=some y:=by
 cases hf:findB ls A with
 | none=>exact absurd h (findB_none hf y)
 | some z=>rw [beg_one H h (findB_some hf)]
theorem rdS_is {ls:List Nat} {s t:Sta} {y:Nat} (h:rdS bs ls s = .ok y t) :
  Beg ls (ahead bs s.at_) y∧1≤ln ls y∧s.at_+ln ls y≤8*bs.length∧t={ s with at_:=s.at_+ln ls y }:=by
 unfold rdS at h
 split at h
 ·cases h
 ·split at h
  ·cases h
  ·rename_i y' hf
   have hb:=findB_some hf
   split at h
   ·cases h
    exact ⟨hb,Nat.one_le_iff_ne_zero.2 hb.1,by assumption,rfl⟩
   ·cases h
theorem rdS_pr (ls:List Nat):Pr (8*bs.length) lim (rdS bs ls):=by
 intro s a t hs h
 obtain ⟨_,h1,h2,rfl⟩:=rdS_is h
 exact Le.to (Nat.le_add_right _ _) h2
theorem grown_pr (o:Option (Nat × Nat)):Pr (8*bs.length) lim (grown bs o):=by
 intro s a t hs h
 cases o with
 | none=>cases h
 | some x=>
  obtain ⟨v,s',h1,h2⟩:=Res.bind_is h
  cases h2
  exact rdN_pr _ _ _ _ hs h1
theorem back_len (far n:Nat):∀ l,(back far n l).length=l.length+n:=by
 induction n with
 | zero=>intro l;rfl
 | succ n ih=>intro l;rw [back,ih];simp;omega
theorem getD_bs {l:List Nat} (h:Bs l) (i:Nat):l.getD i 0<256:=by
 rw [List.getD_eq_getElem?_getD]
 rcases Nat.lt_or_ge i l.length with hi | hi
 ·rw [List.getElem?_eq_getElem hi];exact h _ (List.getElem_mem hi)
 ·rw [List.getElem?_eq_none hi];exact Nat.zero_lt_succ _
theorem bs_snoc {l:List Nat} (h:Bs l) {x:Nat} (hx:x<256):Bs (l++[x]):=by
 intro y hy
 rcases List.mem_append.1 hy with hy | hy
 ·exact h y hy
 ·rw [List.mem_singleton.1 hy];exact hx
theorem back_bs (far n:Nat):∀ l,Bs l→Bs (back far n l):=by
 induction n with
 | zero=>intro l h;exact h
 | succ n ih=>intro l h;rw [back];exact ih _ (bs_snoc h (getD_bs h _))
theorem again_pr (ol:List Nat) (y:Nat):Pr (8*bs.length) lim (again bs lim ol y):=by
 intro s a t hs h
 obtain ⟨n,s1,h1,h⟩:=Res.bind_is h
 obtain ⟨d,s2,h2,h⟩:=Res.bind_is h
 obtain ⟨far,s3,h3,h⟩:=Res.bind_is h
 have k1:=grown_pr (lim:=lim) _ _ _ _ hs h1
 have k2:=rdS_pr (lim:=lim) _ _ _ _ k1.end_ h2
 have k3:=grown_pr (lim:=lim) _ _ _ _ k2.end_ h3
 refine (k1.trans (k2.trans k3)).trans ?_
 split at h
 ·cases h
 ·split at h
  ·cases h
  ·cases h
   refine ⟨Nat.le_refl _,k3.end_,?_,fun _=>?_,Nat.le_refl _,Nat.le_refl _,back_bs _ _ _⟩
   ·show _≤(back _ _ _).length;rw [back_len];omega
   ·show (back _ _ _).length≤_;rw [back_len];omega
theorem sym1_le (fl ol:List Nat) {u:Unit} {s t:Sta} {x:Bool × Unit} (_hs:s.at_≤8*bs.length) (h:sym1 bs lim fl ol u s = .ok x t):s.at_<t.at_∧Le (8*bs.length) lim s t:=by
 obtain ⟨y,s1,h1,h⟩:=Res.bind_is h
 obtain ⟨_,k1,k2,rfl⟩:=rdS_is h1
 have kt:Le (8*bs.length) lim s { s with at_:=s.at_+ln fl y,steps:=s.steps+1 }:=
  ⟨Nat.le_add_right _ _,k2,Nat.le_refl _,id,by show s.steps+1+s.at_≤s.steps+(s.at_+ln fl y);omega,by show s.blocks+s.at_≤s.blocks+(s.at_+ln fl y);omega,id⟩
 split at h
 ·split at h
  ·cases h
  ·cases h
   refine ⟨by show s.at_<s.at_+ln fl y;omega,kt.trans ⟨Nat.le_refl _,k2,?_,fun _=>?_,Nat.le_refl _,Nat.le_refl _,fun hb=>bs_snoc hb (by assumption)⟩⟩
   ·show _≤(_++_:List Nat).length;simp
   ·show (_++_:List Nat).length≤_;simp at *;omega
 ·split at h
  ·cases h
   exact ⟨by show s.at_<s.at_+ln fl y;omega,kt⟩
  ·obtain ⟨_,s2,h2,h⟩:=Res.bind_is h
   cases h
   have k3:=again_pr ol y _ _ _ k2 h2
   have:=k3.at_
   exact ⟨by simp at this;omega,kt.trans k3⟩
theorem sym1_takes (fl ol:List Nat):Takes (8*bs.length) (sym1 bs lim fl ol):=fun _ _ _ _ hs h=>⟨(sym1_le fl ol hs h).1,(sym1_le fl ol hs h).2.end_⟩
theorem sym1_pr (fl ol:List Nat) (u:Unit):Pr (8*bs.length) lim (sym1 bs lim fl ol u):=fun _ _ _ hs h=>(sym1_le fl ol hs h).2
theorem syms_pr (fl ol:List Nat):Pr (8*bs.length) lim (syms bs lim fl ol):=Pr.run (sym1_takes fl ol) (sym1_pr fl ol) ()
theorem up8_le (n:Nat):n≤up8 n:=by unfold up8;omega
theorem up8_end {n L:Nat} (h:n≤8*L):up8 n≤8*L:=by unfold up8;omega
theorem cut_bs {l:List Nat} (h:Bs l) (a b:Nat):Bs ((l.drop a).take b):=fun x hx=>h x (List.mem_of_mem_drop (List.mem_of_mem_take hx))
theorem stored_pr (hb:Bs bs):Pr (8*bs.length) lim (stored bs lim):=by
 intro s a t hs h
 obtain ⟨n,s1,h1,h⟩:=Res.bind_is h
 obtain ⟨m,s2,h2,h⟩:=Res.bind_is h
 have k0:Le (8*bs.length) lim s { s with at_:=up8 s.at_ }:=Le.to (up8_le _) (up8_end hs)
 have k1:=rdN_pr (lim:=lim) _ _ _ _ k0.end_ h1
 have k2:=rdN_pr (lim:=lim) _ _ _ _ k1.end_ h2
 refine (k0.trans (k1.trans k2)).trans ?_
 split at h
 ·cases h
 ·split at h
  ·cases h
  ·split at h
   ·cases h
   ·cases h
    have hlen:((bs.drop (s2.at_/8)).take n).length≤n:=List.length_take_le _ _
    refine ⟨by show _≤s2.at_+8*n;omega,by show s2.at_+8*n≤_;omega,?_,fun _=>?_,by show s2.steps+n+s2.at_≤s2.steps+(s2.at_+8*n);omega,by show s2.blocks+s2.at_≤s2.blocks+(s2.at_+8*n);omega,fun hq=>?_⟩
    ·show _≤(_++_:List Nat).length;simp
    ·show (_++_:List Nat).length≤_;rw [List.length_append];omega
    ·intro x hx
     rcases List.mem_append.1 hx with hx | hx
     ·exact hq x hx
     ·exact cut_bs hb _ _ x hx
theorem itm_le (own:List Nat) {s t:Sta} {x:Nat × Nat} (hs:s.at_≤8*bs.length) (h:itm bs own s = .ok x t):s.at_<t.at_∧Le (8*bs.length) lim s t:=by
 obtain ⟨y,s1,h1,h⟩:=Res.bind_is h
 have k1:=rdS_pr (lim:=lim) _ _ _ _ hs h1
 obtain ⟨_,k2,_,rfl⟩:=rdS_is h1
 split at h
 ·obtain ⟨v,s2,h2,h⟩:=Res.bind_is h
  cases h
  have k3:=rdN_pr (lim:=lim) _ _ _ _ k1.end_ h2
  have:=k3.at_
  exact ⟨by simp at this;omega,k1.trans k3⟩
 ·cases h
  exact ⟨by show s.at_<s.at_+ln own y;omega,k1⟩
theorem len1_le (own:List Nat) (n:Nat) {row:List Nat} {s t:Sta} {x:Bool × List Nat} (hs:s.at_≤8*bs.length) (h:len1 bs own n row s = .ok x t):s.at_<t.at_∧Le (8*bs.length) lim s t:=by
 obtain ⟨y,s1,h1,h⟩:=Res.bind_is h
 have k:=itm_le (lim:=lim) own hs h1
 split at h
 ·cases h
 ·split at h
  ·cases h
  ·cases h
   exact k
theorem len1_takes (own:List Nat) (n:Nat):Takes (8*bs.length) (len1 bs own n):=fun _ _ _ _ hs h=>⟨(len1_le (lim:=0) own n hs h).1,(len1_le (lim:=0) own n hs h).2.end_⟩
theorem lens_pr (own:List Nat) (n:Nat):Pr (8*bs.length) lim (lens bs own n):=Pr.run (len1_takes own n) (fun _ _ _ _ hs h=>(len1_le own n hs h).2) []
theorem rdO_pr (k:Nat):∀ l,Pr (8*bs.length) lim (rdO bs k l):=by
 induction k with
 | zero=>intro l s a t hs h;cases h;exact Le.refl _ hs
 | succ k ih=>
  intro l s a t hs h
  obtain ⟨v,s1,h1,h⟩:=Res.bind_is h
  have k1:=rdN_pr (lim:=lim) _ _ _ _ hs h1
  exact k1.trans (ih _ _ _ _ k1.end_ h)
theorem codes_pr:Pr (8*bs.length) lim (codes bs):=by
 intro s a t hs h
 obtain ⟨l,s1,h1,h⟩:=Res.bind_is h
 obtain ⟨d,s2,h2,h⟩:=Res.bind_is h
 obtain ⟨c,s3,h3,h⟩:=Res.bind_is h
 have k1:=rdN_pr (lim:=lim) _ _ _ _ hs h1
 have k2:=rdN_pr (lim:=lim) _ _ _ _ k1.end_ h2
 have k3:=rdN_pr (lim:=lim) _ _ _ _ k2.end_ h3
 split at h
 ·cases h
 ·obtain ⟨o,s4,h4,h⟩:=Res.bind_is h
  have k4:=rdO_pr (lim:=lim) _ _ _ _ _ k3.end_ h4
  split at h
  ·cases h
  ·obtain ⟨row,s5,h5,h⟩:=Res.bind_is h
   have k5:=lens_pr (lim:=lim) _ _ _ _ _ k4.end_ h5
   split at h
   ·cases h
   ·split at h
    ·cases h
     exact k1.trans (k2.trans (k3.trans (k4.trans k5)))
    ·cases h
theorem blk_pr (hb:Bs bs):Pr (8*bs.length) lim (blk bs lim):=by
 intro s a t hs h
 obtain ⟨k,s1,h1,h⟩:=Res.bind_is h
 have k1:=rdN_pr (lim:=lim) _ _ _ _ hs h1
 refine k1.trans ?_
 split at h
 ·exact stored_pr hb _ _ _ k1.end_ h
 ·split at h
  ·exact syms_pr _ _ _ _ _ k1.end_ h
  ·split at h
   ·obtain ⟨c,s2,h2,h⟩:=Res.bind_is h
    have k2:=codes_pr (lim:=lim) _ _ _ k1.end_ h2
    exact k2.trans (syms_pr _ _ _ _ _ k2.end_ h)
   ·cases h
theorem blk1_le (hb:Bs bs) {u:Unit} {s t:Sta} {x:Bool × Unit} (hs:s.at_≤8*bs.length) (h:blk1 bs lim u s = .ok x t):s.at_<t.at_∧Le (8*bs.length) lim s t∧1≤t.blocks:=by
 obtain ⟨l,s1,h1,h⟩:=Res.bind_is h
 obtain ⟨u2,s2,h2,h⟩:=Res.bind_is h
 have k1:=rdN_pr (lim:=lim) _ _ _ _ hs h1
 obtain ⟨h3,_,h4⟩:=rdN_is h1
 have k2:=blk_pr hb _ _ _ k1.end_ h2
 have e1:s1.at_=s.at_+1:=by rw [h4]
 have e2:s1.blocks=s.blocks:=by rw [h4]
 cases h
 have:=k2.at_
 have:=k2.blocks
 have k:=k1.trans k2
 refine ⟨by show s.at_<s2.at_;omega,⟨k.at_,k.end_,k.out,k.lim_,k.steps,?_,k.bytes⟩,by show 1≤s2.blocks+1;omega⟩
 show s2.blocks+1+s.at_≤s.blocks+s2.at_;omega
theorem blk1_takes (hb:Bs bs):Takes (8*bs.length) (blk1 bs lim):=fun _ _ _ _ hs h=>⟨(blk1_le hb hs h).1,(blk1_le hb hs h).2.1.end_⟩
section
variable {lo_:Nat} (hl:lo_≤lim)
include hl
end
section
open Go.RowKit
abbrev pan (er:Nat):Ending := .panicked [{ v := .iface 68 (.int .i64 (er:Nat)),recovered:=false }]
theorem must_yes (er:Int) (w:World):Calls Tryz.prog 60 #[.bool true,.int .i64 er] w fun e w'=>e = .returned (.tuple #[])∧w=w':=by
 go_enter Tryz.func60,Tryz.ntmps60
 go_wp2
 go_end0
 exact ⟨rfl,rfl⟩
theorem must_no (er:Nat) (w:World):Calls Tryz.prog 60 #[.bool false,.int .i64 (er:Nat)] w fun e w'=>e=pan er∧w=w':=by
 go_enter Tryz.func60,Tryz.ntmps60
 go_wp2
 exact ⟨rfl,rfl,rfl⟩
theorem inflBytesFor (n:Nat) (w:World) (h:n≤10000000000):Calls Tryz.prog 22 #[.int .i64 n] w fun e w'=>e = .returned (.int .i64 ((n+7)/8:Nat))∧w=w':=by
 go_enter Tryz.func22,Tryz.ntmps22
 go_wp2
 go_ret
 exact ⟨by simp,rfl⟩
theorem spread_lo (s g:Nat) (w:World) (h:s<g):Calls Tryz.prog 118 #[.int .i64 s,.int .i64 g] w fun e w'=>e = .returned (.tuple #[.int .i64 s,.int .i64 0])∧w=w':=by
 go_enter Tryz.func118,Tryz.ntmps118
 go_wp2
 go_ret2
 exact ⟨rfl,rfl⟩
theorem spread_hi (s g e v:Nat) (w:World) (h:g≤s) (hg:1≤g) (hs:s≤100) (he:s/g=e+1) (he':e≤20) (hv:(g+s%g)*2^e=v) (hv':v≤1000000):Calls Tryz.prog 118 #[.int .i64 s,.int .i64 g] w fun e' w'=>e' = .returned (.tuple #[.int .i64 v,.int .i64 e])∧w=w':=by
 have h1:¬((g:Int)=0):=by omega
 have h2:(s:Int)/g=(e:Int)+1:=by rw [←Int.natCast_ediv];omega
 obtain ⟨m,hm⟩:∃ m,m=s%g:=⟨_,rfl⟩
 have h3:(s:Int)%g=(m:Int):=by rw [hm];simp
 have h4:((g:Int)+m)*2^e=v:=by rw [←hv,hm];simp
 have hmg:m<g:=by rw [hm];exact Nat.mod_lt _ hg
 have H4:=Lib.hid h4
 have h5:s<100000:=by omega
 clear hv hm
 go_enter Tryz.func118,Tryz.ntmps118
 go_wp2
 go_ret2
 exact ⟨rfl,rfl⟩
def tells:Option (Nat × Nat)→Value
 | none => .tuple #[.int .i64 0,.int .i64 0,.bool false]
 | some x => .tuple #[.int .i64 (x.1:Nat),.int .i64 (x.2:Nat),.bool true]
theorem spread_small (k g e:Nat) (hg:g≤4) (hg0:1≤g) (he:e≤14):(g+k%g)*2^e≤1000000:=by
 have h1:k%g<g:=Nat.mod_lt _ hg0
 have h2:2^e≤2^14:=Nat.pow_le_pow_right (by omega) he
 exact Nat.le_trans (Nat.mul_le_mul (show g+k%g≤8 by omega) h2) (by decide)
theorem Length_no (y:Int) (w:World) (h:y<257∨285<y):Calls Tryz.prog 76 #[.int .i64 y] w fun e w'=>e = .returned (tells none)∧w=w':=by
 by_cases h1:y<257
 ·clear h
  go_enter Tryz.func76,Tryz.ntmps76
  go_wp2
  go_ret3
  exact ⟨rfl,rfl⟩
 ·have h2:285<y:=by omega
  clear h
  go_enter Tryz.func76,Tryz.ntmps76
  go_wp2
  go_ret3
  exact ⟨rfl,rfl⟩
theorem Length_any (y:Nat) (w:World):Calls Tryz.prog 76 #[.int .i64 y] w fun e w'=>e = .returned (tells (lenOf y))∧w=w':=by
 by_cases h:y<257∨285<y
 ·unfold lenOf
  rw [if_pos h]
  exact Length_no y w (by omega)
 ·have ha:¬(y:Int)<257:=by omega
  have hb:¬(285:Int)<y:=by omega
  have hc:(257:Int)≤y:=by omega
  have hd:(y:Int)≤285:=by omega
  by_cases h1:y=285
  ·subst h1
   go_enter Tryz.func76,Tryz.ntmps76
   go_wp2
   go_ret3
   exact ⟨rfl,rfl⟩
  ·have e1:((y:Int) == 285)=false:=by simp;omega
   obtain ⟨k,hk⟩:∃ k,y=k+257:=⟨y-257,by omega⟩
   have e2:(y:Int)-257=(k:Nat):=by omega
   by_cases h2:y<261
   ·have hr:lenOf y=some (3+k,0):=by unfold lenOf;rw [if_neg h,if_neg h1,if_pos h2,show y-254=3+k by omega]
    have HR:=Lib.hid hr
    have hk4:k<4:=by omega
    rw [hr]
    clear hr h hk
    go_enter Tryz.func76,Tryz.ntmps76
    go_wp2_with (go_at_call 118;(refine (spread_lo k 4 _ hk4).mono ?_);rintro e w2 ⟨rfl,rfl⟩)
    go_ret3
    exact ⟨rfl,rfl⟩
   ·obtain ⟨e,he⟩:∃ e,e=k/4-1:=⟨_,rfl⟩
    obtain ⟨v,hv⟩:∃ v,(4+k%4)*2^e=v:=⟨_,rfl⟩
    have hvb:=spread_small k 4 e (by omega) (by omega) (by omega)
    rw [hv] at hvb
    have hr:lenOf y=some (3+v,e):=by
     unfold lenOf
     rw [if_neg h,if_neg h1,if_neg h2,show y-257=k by omega,←he,hv]
    rw [hr]
    have HV:=Lib.hid hv
    have hk4:4≤k:=by omega
    have hk5:k≤100:=by omega
    have hke:k/4=e+1:=by omega
    have he5:e≤20:=by omega
    have HKE:=Lib.hid hke
    clear hr h hk hv he hke
    go_enter Tryz.func76,Tryz.ntmps76
    go_wp2_with (go_at_call 118;(refine (spread_hi k 4 e v _ hk4 (by omega) hk5 HKE.out he5 HV.out hvb).mono ?_);rintro e w2 ⟨rfl,rfl⟩)
    go_ret3
    exact ⟨rfl,rfl⟩
theorem Distance_no (y:Int) (w:World) (h:y<0∨29<y):Calls Tryz.prog 77 #[.int .i64 y] w fun e w'=>e = .returned (tells none)∧w=w':=by
 by_cases h1:y<0
 ·clear h
  go_enter Tryz.func77,Tryz.ntmps77
  go_wp2
  go_ret3
  exact ⟨rfl,rfl⟩
 ·have h2:29<y:=by omega
  clear h
  go_enter Tryz.func77,Tryz.ntmps77
  go_wp2
  go_ret3
  exact ⟨rfl,rfl⟩
theorem Distance_any (y:Nat) (w:World):Calls Tryz.prog 77 #[.int .i64 y] w fun e w'=>e = .returned (tells (disOf y))∧w=w':=by
 by_cases h:29<y
 ·unfold disOf
  rw [if_pos h]
  exact Distance_no y w (by omega)
 ·have ha:¬(y:Int)<0:=by omega
  have hb:¬(29:Int)<y:=by omega
  have hc:(0:Int)≤y:=by omega
  have hd:(y:Int)≤29:=by omega
  by_cases h2:y<2
  ·have hr:disOf y=some (1+y,0):=by unfold disOf;rw [if_neg h,if_pos h2]
   rw [hr]
   clear hr h
   go_enter Tryz.func77,Tryz.ntmps77
   go_wp2_with (go_at_call 118;(refine (spread_lo y 2 _ h2).mono ?_);rintro e w2 ⟨rfl,rfl⟩)
   go_ret3
   exact ⟨rfl,rfl⟩
  ·obtain ⟨e,he⟩:∃ e,e=y/2-1:=⟨_,rfl⟩
   obtain ⟨v,hv⟩:∃ v,(2+y%2)*2^e=v:=⟨_,rfl⟩
   have hvb:=spread_small y 2 e (by omega) (by omega) (by omega)
   rw [hv] at hvb
   have hr:disOf y=some (1+v,e):=by
    unfold disOf
    rw [if_neg h,if_neg h2,←he,hv]
   rw [hr]
   have HV:=Lib.hid hv
   have hk4:2≤y:=by omega
   have hk5:y≤100:=by omega
   have hke:y/2=e+1:=by omega
   have he5:e≤20:=by omega
   have HKE:=Lib.hid hke
   clear hr h hv he hke
   go_enter Tryz.func77,Tryz.ntmps77
   go_wp2_with (go_at_call 118;(refine (spread_hi y 2 e v _ hk4 (by omega) hk5 HKE.out he5 HV.out hvb).mono ?_);rintro e w2 ⟨rfl,rfl⟩)
   go_ret3
   exact ⟨rfl,rfl⟩
def Safe (w:World) (S:Nat→Prop):Prop:=∀ k t cs,Blk w k t cs→S k→t=49∨t=67∨t=5
theorem Blk.safe {S:Nat→Prop} {w w':World} {g:Nat} {t:TypeId} {cs:Array Value} (h:Blk w g t cs) (ht:Touch S w w') (hs:Safe w S) (h1:t≠49∧t≠67∧t≠5):Blk w' g t cs:=
 h.touch ht fun k=>by rcases hs g t cs h k with e | e | e <;> simp [e] at h1
theorem CodeAt.safe {S:Nat→Prop} {w w':World} {p:Nat} {ls:List Nat} (h:CodeAt w p ls) (ht:Touch S w w') (hs:Safe w S):CodeAt w' p ls:=by
 obtain ⟨ho,gw,go,F,h1,h2,h3,h4⟩:=h
 exact ⟨ho,gw,go,F,h1.safe ht hs (by decide),h2.safe ht hs (by decide),h3.safe ht hs (by decide),h4⟩
def CodeIn (w:World) (K p:Nat) (ls:List Nat):Prop:=
 Ok ls∧∃ gw go F,Blk w p 197 (cc (.slice (some ⟨gw,0,none⟩) ls.length ls.length) (.slice (some ⟨go,0,none⟩) (many ls) (many ls)) (fc ls) (cn ls))∧
  Blk w gw 218 (va (ls.length*2) (wordF ls))∧Blk w go 3 (va (many ls) F)∧Ordered ls ls.length F∧go<K
theorem CodeAt.in_ {w:World} {p:Nat} {ls:List Nat} (h:CodeAt w p ls):CodeIn w w.heap.size p ls:=by
 obtain ⟨ho,gw,go,F,h1,h2,h3,h4⟩:=h
 exact ⟨ho,gw,go,F,h1,h2,h3,h4,h3.lt⟩
theorem CodeIn.at_ {w:World} {K p:Nat} {ls:List Nat} (h:CodeIn w K p ls):CodeAt w p ls:=by
 obtain ⟨ho,gw,go,F,h1,h2,h3,h4,_⟩:=h
 exact ⟨ho,gw,go,F,h1,h2,h3,h4⟩
theorem CodeIn.safe {S:Nat→Prop} {w w':World} {K p:Nat} {ls:List Nat} (h:CodeIn w K p ls) (ht:Touch S w w') (hs:Safe w S):CodeIn w' K p ls:=by
 obtain ⟨ho,gw,go,F,h1,h2,h3,h4,h5⟩:=h
 exact ⟨ho,gw,go,F,h1.safe ht hs (by decide),h2.safe ht hs (by decide),h3.safe ht hs (by decide),h4,h5⟩
theorem CodeIn.aside {w w':World} {K p r:Nat} {t:TypeId} {cs:Array Value} {ls:List Nat} (h:CodeIn w K p ls) (hr:Blk w r t cs) (ht:Touch (fun k=>k=r) w w') (hk:t≠197∧t≠218∧(t=3→K≤r)):CodeIn w' K p ls:=by
 obtain ⟨ho,gw,go,F,h1,h2,h3,h4,h5⟩:=h
 refine ⟨ho,gw,go,F,h1.touch ht ?_,h2.touch ht ?_,h3.touch ht ?_,h4,h5⟩
 ·rintro rfl
  rw [Blk,h1] at hr
  simp at hr
  exact hk.1 hr.2.symm
 ·rintro rfl
  rw [Blk,h2] at hr
  simp at hr
  exact hk.2.1 hr.2.symm
 ·rintro rfl
  rw [Blk,h3] at hr
  simp at hr
  have:=hk.2.2 hr.2.symm
  omega
def FixAt (w:World) (K:Nat) (v:Value):Prop:=
 v = .pointer none∨∃ q p1 p2,v = .pointer (some ⟨q,0,none⟩)∧Blk w q 111 #[.pointer (some ⟨p1,0,none⟩),.pointer (some ⟨p2,0,none⟩)]∧CodeIn w K p1 fixF∧CodeIn w K p2 fixO∧q<K
theorem FixAt.safe {S:Nat→Prop} {w w':World} {K:Nat} {v:Value} (h:FixAt w K v) (ht:Touch S w w') (hs:Safe w S):FixAt w' K v:=by
 rcases h with h | ⟨q,p1,p2,hv,h1,h2,h3,h4⟩
 ·exact .inl h
 ·exact .inr ⟨q,p1,p2,hv,h1.safe ht hs (by decide),h2.safe ht hs,h3.safe ht hs,h4⟩
def rc (pb:Nat) (ov:Value) (lim:Nat) (s:Sta) (fx:Value):Array Value:=
 #[.pointer (some ⟨pb,0,none⟩),ov,.int .i64 (lim:Nat),.int .i64 (s.steps:Nat),.int .i64 (s.blocks:Nat),fx]
structure RS (B K p pb:Nat) (g:Option Nat) (bs:List Nat) (lim:Nat) (w:World) (ov:Value) (s:Sta):Prop where
 blk:∃ fx,Blk w p 49 (rc pb ov lim s fx)∧FixAt w K fx
 ob:Ob w B 67 pb g bs s.at_
 own:w.ownsRow B 5 1 ov s.out.length (u8s s.out)
 hp:B≤p
 row:∀ k,ov.ownBlock=some k→g≠some k
 len:bs.length≤100000
 lim_:lim≤2000000
 in_:s.at_≤8*bs.length
 out:s.out.length≤lim
 steps:s.steps≤s.at_
 blocks:s.blocks≤s.at_
 bytes:Bs s.out
def FT (p pb:Nat) (ov:Value) (k:Nat):Prop:=k=p∨k=pb∨ov.ownBlock=some k
structure Mv (p pb:Nat) (w:World) (ov:Value) (w':World) (ov':Value):Prop where
 touch:Touch (FT p pb ov) w w'
 row:∀ k,ov'.ownBlock=some k→ov.ownBlock=some k∨w.heap.size≤k
theorem Mv.trans {p pb:Nat} {a b c:World} {o1 o2 o3:Value} (h:Mv p pb a o1 b o2) (k:Mv p pb b o2 c o3):Mv p pb a o1 c o3:=by
 refine ⟨h.touch.trans' k.touch ?_,fun i hi=>?_⟩
 ·rintro i (hi | hi | hi) hlt
  ·exact .inl hi
  ·exact .inr (.inl hi)
  ·rcases h.row i hi with hi | hi
   ·exact .inr (.inr hi)
   ·omega
 ·rcases k.row i hi with hi | hi
  ·exact h.row i hi
  ·exact .inr (Nat.le_trans h.touch.size hi)
theorem Mv.bad {p pb:Nat} {a b c:World} {o1 o2:Value} (h:Mv p pb a o1 b o2) (k:Touch (FT p pb o2) b c):Touch (FT p pb o1) a c:=
 (h.trans ⟨k,fun _ h => .inl h⟩:Mv p pb a o1 c o2).touch
section
variable {B K p pb:Nat} {g:Option Nat} {bs:List Nat} {lim:Nat} {w:World} {ov:Value} {s:Sta}
theorem own_ty {e size n base:Nat} {v:Value} {xs:List Value} (h:w.ownsRow base e size v n xs) {k:Nat} (hk:v.ownBlock=some k):∃ cs,w.heap[k]? = some (.cells cs e (0,0)):=by
 rcases h.2 with ⟨rfl,_⟩ | ⟨g',cap,cur,rfl,_,hh,_⟩
 ·simp [Value.ownBlock] at hk
 ·simp [Value.ownBlock] at hk
  subst hk
  exact ⟨cur,hh⟩
theorem RS.safe (h:RS B K p pb g bs lim w ov s):Safe w (FT p pb ov):=by
 obtain ⟨fx,hb,_⟩:=h.blk
 obtain ⟨sv,ho,_⟩:=h.ob.blk
 rintro k t cs hk (rfl | rfl | hk')
 ·rw [Blk,hb] at hk
  simp at hk
  exact .inl hk.2.symm
 ·rw [Blk,ho] at hk
  simp at hk
  exact .inr (.inl hk.2.symm)
 ·obtain ⟨cs',hc⟩:=own_ty h.own hk'
  rw [Blk,hc] at hk
  simp at hk
  exact .inr (.inr hk.2.symm)
theorem RS.ne (h:RS B K p pb g bs lim w ov s):p≠pb∧(∀ k,ov.ownBlock=some k→k≠p∧k≠pb)∧(∀ k,g=some k→k≠p∧k≠pb):=by
 obtain ⟨fx,hb,_⟩:=h.blk
 obtain ⟨sv,ho,hg,hs⟩:=h.ob.blk
 have hs':∀ k,g=some k→k≠p∧k≠pb:=by
  intro k hk
  rw [←hg] at hk
  obtain ⟨cs',hc⟩:=own_ty hs hk
  constructor
  ·rintro rfl
   rw [Blk,hc] at hb
   simp at hb
  ·rintro rfl
   rw [hc] at ho
   simp at ho
 refine ⟨?_,?_,hs'⟩
 ·rintro rfl
  rw [Blk,ho] at hb
  simp at hb
 ·intro k hk
  obtain ⟨cs',hc⟩:=own_ty h.own hk
  constructor
  ·rintro rfl
   rw [Blk,hc] at hb
   simp at hb
  ·rintro rfl
   rw [hc] at ho
   simp at ho
theorem RS.base (h:RS B K p pb g bs lim w ov s):∀ k,FT p pb ov k→B≤k:=by
 rintro k (rfl | rfl | hk)
 ·exact h.hp
 ·exact h.ob.hp
 ·exact (h.own.lt k hk).1
theorem RS.size (h:RS B K p pb g bs lim w ov s):B≤w.heap.size:=by
 obtain ⟨fx,hb,_⟩:=h.blk
 have:=hb.lt
 have:=h.hp
 omega
structure Rcs (w:World) (p pb:Nat) (ov:Value) (lim:Nat) (s:Sta):Prop where
 c0:w.cell? ⟨p,0,none⟩=some (.pointer (some ⟨pb,0,none⟩))
 c1:w.cell? ⟨p,1,none⟩=some ov
 c2:w.cell? ⟨p,2,none⟩=some (.int .i64 (lim:Nat))
 c3:w.cell? ⟨p,3,none⟩=some (.int .i64 (s.steps:Nat))
 c4:w.cell? ⟨p,4,none⟩=some (.int .i64 (s.blocks:Nat))
 f1:w.frozen? ⟨p,1,none⟩=false
 f3:w.frozen? ⟨p,3,none⟩=false
 f4:w.frozen? ⟨p,4,none⟩=false
 f5:w.frozen? ⟨p,5,none⟩=false
theorem RS.cells (h:RS B K p pb g bs lim w ov s):Rcs w p pb ov lim s:=by
 obtain ⟨fx,hb,_⟩:=h.blk
 exact ⟨(hb.cell 0).trans rfl,(hb.cell 1).trans rfl,(hb.cell 2).trans rfl,(hb.cell 3).trans rfl,(hb.cell 4).trans rfl,hb.free 1,hb.free 3,hb.free 4,hb.free 5⟩
theorem RS.moved {m:Nat} {w':World} (h:RS B K p pb g bs lim w ov s) (k:Moved w B 67 pb g bs m w') (hm:s.at_≤m) (hm':m≤8*bs.length) :
  RS B K p pb g bs lim w' ov { s with at_:=m }∧Mv p pb w ov w' ov:=by
 obtain ⟨ho,ht⟩:=k
 obtain ⟨n1,n2,n3⟩:=h.ne
 have hT:Touch (FT p pb ov) w w':=ht.mono fun i hi => .inr (.inl hi)
 obtain ⟨fx,hb,hf⟩:=h.blk
 refine ⟨⟨⟨fx,hb.touch ht n1,hf.safe hT h.safe⟩,ho,ownsRow_touch h.own ht fun i hi e=>(n2 i hi).2 e,h.hp,h.row,h.len,h.lim_,hm',h.out,Nat.le_trans h.steps hm,Nat.le_trans h.blocks hm,h.bytes⟩,hT,fun _ x => .inl x⟩
theorem RS.drewN (h:RS B K p pb g bs lim w ov s) (q:Nat):RS B K p pb g bs lim (w.drewN q) ov s∧Mv p pb w ov (w.drewN q) ov:=by
 have:=h.moved ⟨h.ob.drewN q,(Touch.refl _ w).drewN q⟩ (Nat.le_refl _) h.in_
 exact ⟨this.1,this.2⟩
theorem RS.grow {w':World} (h:RS B K p pb g bs lim w ov s) (k:Below w.heap.size w w'):RS B K p pb g bs lim w' ov s∧Mv p pb w ov w' ov:=by
 have ht:Touch (fun _=>False) w w':=Touch.of_below k
 have:=h.moved (m:=s.at_) ⟨h.ob.touch ht fun _ _ h=>h,Touch.of_below k⟩ (Nat.le_refl _) h.in_
 exact ⟨this.1,this.2⟩
theorem RS.setSteps (h:RS B K p pb g bs lim w ov s) (m:Nat) (hm:m≤s.at_) {x:Int} (hx:x=(m:Int)) :
  RS B K p pb g bs lim (w.setCell ⟨p,3,none⟩ (.int .i64 x)) ov { s with steps:=m }∧Mv p pb w ov (w.setCell ⟨p,3,none⟩ (.int .i64 x)) ov:=by
 subst hx
 obtain ⟨n1,n2,n3⟩:=h.ne
 have ht:Touch (fun k=>k=p) w (w.setCell ⟨p,3,none⟩ (.int .i64 (m:Nat))):=(Touch.refl _ w).setCell _ _ (.inl rfl)
 have hT:Touch (FT p pb ov) w (w.setCell ⟨p,3,none⟩ (.int .i64 (m:Nat))):=ht.mono fun i hi => .inl hi
 obtain ⟨fx,hb,hf⟩:=h.blk
 exact ⟨⟨⟨fx,hb.setCell 3 _,hf.safe hT h.safe⟩,h.ob.touch ht fun k hk e=>by rcases hk with hk | hk;exact n1 (e.symm.trans hk);exact (n3 k hk).1 e,ownsRow_touch h.own ht fun i hi e=>(n2 i hi).1 e,h.hp,h.row,h.len,h.lim_,h.in_,h.out,hm,h.blocks,h.bytes⟩,hT,fun _ x => .inl x⟩
theorem RS.setBlocks (h:RS B K p pb g bs lim w ov s) (m:Nat) (hm:m≤s.at_) {x:Int} (hx:x=(m:Int)) :
  RS B K p pb g bs lim (w.setCell ⟨p,4,none⟩ (.int .i64 x)) ov { s with blocks:=m }∧Mv p pb w ov (w.setCell ⟨p,4,none⟩ (.int .i64 x)) ov:=by
 subst hx
 obtain ⟨n1,n2,n3⟩:=h.ne
 have ht:Touch (fun k=>k=p) w (w.setCell ⟨p,4,none⟩ (.int .i64 (m:Nat))):=(Touch.refl _ w).setCell _ _ (.inl rfl)
 have hT:Touch (FT p pb ov) w (w.setCell ⟨p,4,none⟩ (.int .i64 (m:Nat))):=ht.mono fun i hi => .inl hi
 obtain ⟨fx,hb,hf⟩:=h.blk
 exact ⟨⟨⟨fx,hb.setCell 4 _,hf.safe hT h.safe⟩,h.ob.touch ht fun k hk e=>by rcases hk with hk | hk;exact n1 (e.symm.trans hk);exact (n3 k hk).1 e,ownsRow_touch h.own ht fun i hi e=>(n2 i hi).1 e,h.hp,h.row,h.len,h.lim_,h.in_,h.out,h.steps,hm,h.bytes⟩,hT,fun _ x => .inl x⟩
theorem RS.setOut {w1:World} {ov':Value} {xs:List Nat} (h:RS B K p pb g bs lim w ov s) (hA:Apd w B ov xs ov' w1) (hx:xs.length≤lim) (hb':Bs xs) :
  RS B K p pb g bs lim (w1.setCell ⟨p,1,none⟩ ov') ov' { s with out:=xs }∧Mv p pb w ov (w1.setCell ⟨p,1,none⟩ ov') ov':=by
 obtain ⟨n1,n2,n3⟩:=h.ne
 obtain ⟨fx,hb,hf⟩:=h.blk
 have hp:=hb.lt
 have hT1:Touch (FT p pb ov) w w1:=hA.touch.mono fun i hi => .inr (.inr hi)
 have hT:Touch (FT p pb ov) w (w1.setCell ⟨p,1,none⟩ ov'):=hT1.setCell _ _ (.inl (.inl rfl))
 have ht2:Touch (fun k=>k=p) w1 (w1.setCell ⟨p,1,none⟩ ov'):=(Touch.refl _ w1).setCell _ _ (.inl rfl)
 have hb1:Blk w1 p 49 (rc pb ov lim s fx):=hb.touch hA.touch fun e=>(n2 _ e).1 rfl
 have hg:=h.ob.lt.2
 have ho1:Ob w1 B 67 pb g bs s.at_:=h.ob.touch hA.touch fun k hk e=>by
  rcases hk with rfl | hk
  ·exact (n2 _ e).2 rfl
  ·exact h.row k e hk
 refine ⟨⟨⟨fx,hb1.setCell 1 _,hf.safe hT h.safe⟩,ho1.touch ht2 fun k hk e=>?_,ownsRow_touch hA.own ht2 fun i hi e=>?_,h.hp,fun k hk hgk=>?_,h.len,h.lim_,h.in_,hx,h.steps,h.blocks,hb'⟩,hT,hA.row⟩
 ·rcases hk with hk | hk
  ·exact n1 (e.symm.trans hk)
  ·exact (n3 k hk).1 e
 ·rcases hA.row i hi with h1 | h1
  ·exact (n2 i h1).1 e
  ·omega
 ·rcases hA.row k hk with h1 | h1
  ·exact h.row k h1 hgk
  ·have:=hg k hgk
   omega
def ROk (B K p pb:Nat) (g:Option Nat) (bs:List Nat) (lim:Nat) (w:World) (ov:Value) (v:Value) (s:Sta) (e:Ending) (w':World):Prop:=
 e = .returned v∧∃ ov',RS B K p pb g bs lim w' ov' s∧Mv p pb w ov w' ov'
def RBad (p pb:Nat) (w:World) (ov:Value) (er:Nat) (e:Ending) (w':World):Prop:=e=pan er∧Touch (FT p pb ov) w w'
def RTo {α : Type} (B K p pb:Nat) (g:Option Nat) (bs:List Nat) (lim:Nat) (w:World) (ov:Value) (enc : α → Value) (r:Res α) (e:Ending) (w':World):Prop:=
 match r with
 | .bad er=>RBad p pb w ov er e w'
 | .ok a s=>ROk B K p pb g bs lim w ov (enc a) s e w'
end
theorem Moved.on {w w2:World} {B t p m q:Nat} {g:Option Nat} {bs:List Nat} (h:Moved (w.drewN q) B t p g bs m w2):Moved w B t p g bs m w2:=
 ⟨h.1,((Touch.refl _ w).drewN q).trans h.2⟩
theorem peekX {w:World} {base p:Nat} {g:Option Nat} {bs:List Nat} {at_:Nat} (h:Ob w base 67 p g bs at_) (hl:bs.length≤100000) (ha:at_≤8*bs.length) (X:Nat) (hX:pk bs at_ 15=X) :
  Calls Tryz.prog 93 #[.pointer (some ⟨p,0,none⟩),.int .i64 15] w fun e w'=>e = .returned (.int .u32 X)∧w=w':=by
 subst hX
 exact h.peek (by omega) ha 15 (by omega)
def NextTo (w:World) (B p:Nat) (g:Option Nat) (bs:List Nat) (r:Res Nat) (e:Ending) (w':World):Prop:=
 match r with
 | .bad er=>e = .returned (.tuple #[.int .i64 0,.int .i64 (er:Nat)])∧∃ nq,w'=w.drewN nq
 | .ok y t=>e = .returned (.tuple #[.int .i64 (y:Nat),.int .i64 0])∧Moved w B 67 p g bs t.at_ w'
set_option maxHeartbeats 1600000 in
theorem next_ok {w:World} {p pr at_ B:Nat} {g:Option Nat} {bs ls:List Nat} (h:CodeAt w p ls) (hr:Ob w B 67 pr g bs at_) (hl:bs.length≤100000) (s:Nat) (hb:Beg ls (ahead bs at_) s) (hle:at_+ln ls s≤8*bs.length) :
  Calls Tryz.prog 137 #[.pointer (some ⟨p,0,none⟩),.pointer (some ⟨pr,0,none⟩)] w fun e w'=>e = .returned (.tuple #[.int .i64 s,.int .i64 0])∧Moved w B 67 pr g bs (at_+ln ls s) w':=by
 have HO:=Lib.hid h.ok
 have HC:=Lib.hid h
 have HR:=Lib.hid hr
 have hX:=pk_lt bs at_ 15
 have hA:=ahead_lt bs at_
 have HB:=Lib.hid hb
 obtain ⟨X,hXe⟩:∃ X,X=pk bs at_ 15:=⟨_,rfl⟩
 obtain ⟨A,hAe⟩:∃ A,A=rv 15 X:=⟨_,rfl⟩
 obtain ⟨m,hm⟩:∃ m,m=ln ls s:=⟨_,rfl⟩
 have hm1:1≤m:=by have:=hb.1;omega
 have hm15:m≤15:=by have:=ln_le h.ok s;omega
 have hA':A=ahead bs at_:=by unfold ahead;rw [hAe,hXe]
 rw [←hXe] at hX
 rw [←hA'] at hA
 rw [←hm] at hle
 have HX:=Lib.hid hXe.symm
 have HA:=Lib.hid hAe.symm
 have HA':=Lib.hid hA'
 have HM:=Lib.hid hm
 clear h hr hXe hAe hA' hb
 rw [←hm]
 clear hm
 have hX':X<4294967296:=by omega
 have d1:decide ((8*(bs.length:Int)-at_)<m)=false:=by simp;omega
 have d2:((8*(bs.length:Int)-at_) == 0)=false:=by simp;omega
 have d3:((m:Int) == 0)=false:=by simp;omega
 have hK:Hid (∀ W,CodeAt W p ls→Calls Tryz.prog 165 #[.pointer (some ⟨p,0,none⟩),.int .i64 A] W fun e w'=>e = .returned (.tuple #[.int .i64 s,.int .i64 m])∧∃ nq,w'=W.drewN nq):=Lib.hid fun W hW=>(find_any p A ls W hW hA).mono fun e w' k=>by
  refine ⟨?_,k.2⟩
  rcases k.1 with ⟨t,ht,he⟩ | ⟨hro,_⟩
  ·rw [HA'.out] at ht
   obtain rfl:=beg_one HO.out HB.out ht
   rw [he,HM.out]
  ·exact absurd HB.out (none_of HO.out (by rw [←HA'.out];exact hro) s)
 go_enter Tryz.func137,Tryz.ntmps137
 go_wp2_with (first
  | (go_at_call 93;(refine (peekX HR.out hl (by omega) X HX.out).mono ?_);rintro e w2 ⟨rfl,rfl⟩)
  | (go_at_call 164;(refine (reverse_yes X 15 _ hX' (by omega)).mono ?_);rw [HA.out];rintro e w2 ⟨rfl,rfl⟩)
  | (go_at_call 165;(refine (hK.out _ HC.out).mono ?_);rintro e w2 ⟨rfl,nq,rfl⟩)
  | (go_at_call 135;(refine ((HR.out.drewN _).left (by omega) (by omega)).mono ?_);rintro e w3 ⟨rfl,nq3,rfl⟩)
  | (go_at_call 94;(refine ((HR.out.drewN _).skip_yes (by omega) m (by omega)).mono ?_);rintro e w4 ⟨rfl,hr4⟩;have HR4:=Lib.hid hr4;clear hr4))
 go_ret2
 exact ⟨rfl,HR4.out.on⟩
set_option maxHeartbeats 1600000 in
theorem next_bad {w:World} {p pr at_ B:Nat} {g:Option Nat} {bs ls:List Nat} (h:CodeAt w p ls) (hr:Ob w B 67 pr g bs at_) (hl:bs.length≤100000) (ha:at_≤8*bs.length) (t m:Nat) (hm:m≤15) (hf:Finds p (ahead bs at_) ls t m) (er:Nat)
  (hc:(er=15∧(8*bs.length<at_+m∨at_=8*bs.length))∨(er=10∧m=0∧at_<8*bs.length)) :
  Calls Tryz.prog 137 #[.pointer (some ⟨p,0,none⟩),.pointer (some ⟨pr,0,none⟩)] w fun e w'=>e = .returned (.tuple #[.int .i64 0,.int .i64 (er:Nat)])∧∃ nq,w'=w.drewN nq:=by
 have HC:=Lib.hid h
 have HR:=Lib.hid hr
 have hX:=pk_lt bs at_ 15
 have hA:=ahead_lt bs at_
 obtain ⟨X,hXe⟩:∃ X,X=pk bs at_ 15:=⟨_,rfl⟩
 obtain ⟨A,hAe⟩:∃ A,A=rv 15 X:=⟨_,rfl⟩
 have hA':A=ahead bs at_:=by unfold ahead;rw [hAe,hXe]
 rw [←hA'] at hf hA
 rw [←hXe] at hX
 have HX:=Lib.hid hXe.symm
 have HA:=Lib.hid hAe.symm
 have HF:Hid (∀ W,CodeAt W p ls→Calls Tryz.prog 165 #[.pointer (some ⟨p,0,none⟩),.int .i64 A] W fun e w'=>e = .returned (.tuple #[.int .i64 t,.int .i64 m])∧∃ nq,w'=W.drewN nq):=Lib.hid hf
 clear h hr hXe hAe hA' hf
 have hX':X<4294967296:=by omega
 rcases hc with ⟨rfl,hc⟩ | ⟨rfl,rfl,hc⟩
 ·by_cases h1:8*bs.length<at_+m
  ·have d1:decide ((8*(bs.length:Int)-at_)<m)=true:=by simp;omega
   clear hc
   go_enter Tryz.func137,Tryz.ntmps137
   go_wp2_with (first
    | (go_at_call 93;(refine (peekX HR.out hl (by omega) X HX.out).mono ?_);rintro e w2 ⟨rfl,rfl⟩)
    | (go_at_call 164;(refine (reverse_yes X 15 _ hX' (by omega)).mono ?_);rw [HA.out];rintro e w2 ⟨rfl,rfl⟩)
    | (go_at_call 165;(with_reducible refine (HF.out _ HC.out).mono ?_);rintro e w2 ⟨rfl,nq,rfl⟩)
    | (go_at_call 135;(refine ((HR.out.drewN _).left (by omega) (by omega)).mono ?_);rintro e w3 ⟨rfl,nq3,rfl⟩))
   go_ret2
   exact ⟨rfl,_,rfl⟩
  ·have h2:at_=8*bs.length:=by omega
   have h3:m=0:=by omega
   have d1:decide ((8*(bs.length:Int)-at_)<(0:Nat))=false:=by simp;omega
   have d2:((8*(bs.length:Int)-at_) == 0)=true:=by simp;omega
   have H2:=Lib.hid h2
   subst h3
   clear hc h1 h2
   go_enter Tryz.func137,Tryz.ntmps137
   go_wp2_with (first
    | (go_at_call 93;(refine (peekX HR.out hl (by omega) X HX.out).mono ?_);rintro e w2 ⟨rfl,rfl⟩)
    | (go_at_call 164;(refine (reverse_yes X 15 _ hX' (by omega)).mono ?_);rw [HA.out];rintro e w2 ⟨rfl,rfl⟩)
    | (go_at_call 165;(with_reducible refine (HF.out _ HC.out).mono ?_);rintro e w2 ⟨rfl,nq,rfl⟩)
    | (go_at_call 135;(refine ((HR.out.drewN _).left (by omega) (by omega)).mono ?_);rintro e w3 ⟨rfl,nq3,rfl⟩))
   go_ret2
   exact ⟨rfl,_,rfl⟩
 ·have d1:decide ((8*(bs.length:Int)-at_)<(0:Nat))=false:=by simp;omega
  have d2:((8*(bs.length:Int)-at_) == 0)=false:=by simp;omega
  go_enter Tryz.func137,Tryz.ntmps137
  go_wp2_with (first
   | (go_at_call 93;(refine (peekX HR.out hl (by omega) X HX.out).mono ?_);rintro e w2 ⟨rfl,rfl⟩)
   | (go_at_call 164;(refine (reverse_yes X 15 _ hX' (by omega)).mono ?_);rw [HA.out];rintro e w2 ⟨rfl,rfl⟩)
   | (go_at_call 165;(with_reducible refine (HF.out _ HC.out).mono ?_);rintro e w2 ⟨rfl,nq,rfl⟩)
   | (go_at_call 135;(refine ((HR.out.drewN _).left (by omega) (by omega)).mono ?_);rintro e w3 ⟨rfl,nq3,rfl⟩))
  go_ret2
  exact ⟨rfl,_,rfl⟩
theorem next_any {w:World} {p pr B:Nat} {g:Option Nat} {bs ls:List Nat} {s:Sta} (h:CodeAt w p ls) (hr:Ob w B 67 pr g bs s.at_) (hl:bs.length≤100000) (ha:s.at_≤8*bs.length) :
  Calls Tryz.prog 137 #[.pointer (some ⟨p,0,none⟩),.pointer (some ⟨pr,0,none⟩)] w (NextTo w B pr g bs (rdS bs ls s)):=by
 have hf:=finds_some (p:=p) h.ok (ahead_lt bs s.at_)
 by_cases h1:s.at_=8*bs.length
 ·have hr':rdS bs ls s = .bad 15:=by unfold rdS;rw [if_pos h1]
  rw [hr']
  rcases hf with ⟨y,hb,hF⟩ | ⟨_,hF⟩
  ·exact next_bad h hr hl ha y _ (ln_le h.ok y) hF 15 (.inl ⟨rfl,.inr h1⟩)
  ·exact next_bad h hr hl ha 0 0 (by omega) hF 15 (.inl ⟨rfl,.inr h1⟩)
 ·rcases hf with ⟨y,hb,hF⟩ | ⟨hro,hF⟩
  ·by_cases h2:s.at_+ln ls y≤8*bs.length
   ·have hr':rdS bs ls s = .ok y { s with at_:=s.at_+ln ls y }:=by unfold rdS;rw [if_neg h1,findB_of h.ok hb];simp only;rw [if_pos h2]
    rw [hr']
    exact next_ok h hr hl y hb h2
   ·have hr':rdS bs ls s = .bad 15:=by unfold rdS;rw [if_neg h1,findB_of h.ok hb];simp only;rw [if_neg h2]
    rw [hr']
    exact next_bad h hr hl ha y _ (ln_le h.ok y) hF 15 (.inl ⟨rfl,.inl (by omega)⟩)
  ·have hr':rdS bs ls s = .bad 10:=by
    unfold rdS
    rw [if_neg h1]
    cases hfb:findB ls (ahead bs s.at_) with
    | none=>rfl
    | some z=>exact absurd (findB_some hfb) (none_of h.ok hro z)
   rw [hr']
   exact next_bad h hr hl ha 0 0 (by omega) hF 10 (.inr ⟨rfl,rfl,by omega⟩)
section
variable {B K p pb:Nat} {g:Option Nat} {bs:List Nat} {lim:Nat} {w:World} {ov:Value} {s:Sta}
abbrev nv (n:Nat):Value := .int .i64 (n:Nat)
theorem number_any (h:RS B K p pb g bs lim w ov s) (n:Nat) (hn:n≤16) :
  Calls Tryz.prog 38 #[.pointer (some ⟨p,0,none⟩),.int .i64 n] w (RTo B K p pb g bs lim w ov nv (rdN bs n s)):=by
 have hl:=h.len
 have hi:=h.in_
 obtain ⟨c0⟩:=h.cells
 by_cases hle:s.at_+n≤8*bs.length
 ·have hr:rdN bs n s = .ok (pk bs s.at_ n) { s with at_:=s.at_+n }:=by unfold rdN;rw [if_pos hle]
  rw [hr]
  have hV:=pk_lt bs s.at_ n
  have hV2:pk bs s.at_ n<65536:=Nat.lt_of_lt_of_le hV (Nat.le_trans (Nat.pow_le_pow_right (by omega) hn) (by decide:2^16≤65536))
  have HB:=Lib.hid (h.ob.bits_yes (by omega) n (by omega) hle)
  have HM:=Lib.hid fun w' (k:Moved w B 67 pb g bs (s.at_+n) w')=>h.moved k (by omega) hle
  obtain ⟨V,hVe⟩:∃ V,V=pk bs s.at_ n:=⟨_,rfl⟩
  rw [←hVe] at hV2 HB ⊢
  clear h hr hV hVe
  go_enter Tryz.func38,Tryz.ntmps38
  go_wp2_with (first
   | (go_at_call 59;(refine HB.out.mono ?_);rintro e w2 ⟨rfl,hm⟩;have H2:=Lib.hid (HM.out _ hm);clear hm)
   | (go_at_call 60;refine (must_yes _ _).mono ?_;rintro e w3 ⟨rfl,rfl⟩))
  go_ret
  exact ⟨rfl,ov,H2.out⟩
 ·have hr:rdN bs n s = .bad 15:=by unfold rdN;rw [if_neg hle]
  rw [hr]
  have HB:=Lib.hid (h.ob.bits_no (by omega) hi n (by omega))
  clear h hr
  go_enter Tryz.func38,Tryz.ntmps38
  go_wp2_with (first
   | (go_at_call 59;(refine HB.out.mono ?_);rintro e w2 ⟨rfl,nq,rfl⟩)
   | (go_at_call 60;refine (must_no 15 _).mono ?_;rintro e w3 ⟨rfl,rfl⟩))
  exact ⟨rfl,rfl,(Touch.refl _ w).drewN nq⟩
theorem symbol_any {pc:Nat} {ls:List Nat} (h:RS B K p pb g bs lim w ov s) (hc:CodeAt w pc ls) :
  Calls Tryz.prog 98 #[.pointer (some ⟨p,0,none⟩),.pointer (some ⟨pc,0,none⟩)] w (RTo B K p pb g bs lim w ov nv (rdS bs ls s)):=by
 obtain ⟨c0⟩:=h.cells
 have HN:=Lib.hid (next_any hc h.ob h.len h.in_)
 have H:=Lib.hid h
 cases hr:rdS bs ls s with
 | bad er=>
  rw [hr] at HN
  have her:er=15∨er=10:=by
   unfold rdS at hr
   split at hr
   ·cases hr;exact .inl rfl
   ·split at hr
    ·cases hr;exact .inr rfl
    ·split at hr
     ·cases hr
     ·cases hr;exact .inl rfl
  have hd:((er:Int) == 0)=false:=by simp;omega
  clear h hc hr her
  go_enter Tryz.func98,Tryz.ntmps98
  go_wp2_with (first
   | (go_at_call 137;(refine HN.out.mono ?_);rintro e w2 ⟨rfl,nq,rfl⟩)
   | (go_at_call 60;refine (must_no er _).mono ?_;rintro e w3 ⟨rfl,rfl⟩))
  exact ⟨rfl,rfl,(Touch.refl _ w).drewN nq⟩
 | ok y t=>
  rw [hr] at HN
  obtain ⟨_,k1,k2,k3⟩:=rdS_is hr
  have HK:=Lib.hid (And.intro k2 k3)
  clear h hc hr k1 k2 k3
  go_enter Tryz.func98,Tryz.ntmps98
  go_wp2_with (first
   | (go_at_call 137;(refine HN.out.mono ?_);rintro e w2 ⟨rfl,hm⟩;have HM:=Lib.hid hm;clear hm)
   | (go_at_call 60;refine (must_yes _ _).mono ?_;rintro e w3 ⟨rfl,rfl⟩))
  go_ret
  obtain ⟨k2,rfl⟩:=HK.out
  exact ⟨rfl,ov,H.out.moved HM.out (Nat.le_add_right _ _) k2⟩
end
end
end Go.Proofs.YtacpfpghokcdlaaGreatDoor
