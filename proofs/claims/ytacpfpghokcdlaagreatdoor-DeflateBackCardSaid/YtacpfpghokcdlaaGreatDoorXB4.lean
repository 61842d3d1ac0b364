/- Part 4. -/
import Derived.Laws.AppendOwn
import Derived.Laws.OwnMore
import Derived.OwnWalk
import Derived.Test.YtacpfpghokcdlaaGreatDoorXB3
open Go.Proofs.Tryz
namespace Go.Proofs.YtacpfpghokcdlaaGreatDoor
set_option maxRecDepth 100000
structure Sta where
 at_:Nat
 out:List Nat
 steps:Nat
 blocks:Nat
inductive Res (α : Type) where
 | bad (e:Nat)
 | ok (a : α) (s:Sta)
section
variable {α β γ : Type}
def Res.bind (r:Res α) (k : α → Sta→Res β):Res β :=
 match r with
 | .bad e => .bad e
 | .ok a s=>k a s
theorem Res.bind_ok {a : α}{s:Sta}{k : α → Sta→Res β}:(Res.ok a s).bind k=k a s:=rfl
theorem Res.bind_bad {e:Nat}{k : α → Sta→Res β}:(Res.bad e:Res α).bind k=.bad e:=rfl
theorem Res.bind_is {r:Res α}{k : α → Sta→Res β}{b : β}{t:Sta}(h:r.bind k=.ok b t):∃ a s,r=.ok a s∧k a s=.ok b t:=by
 cases r with
 | bad e=>cases h
 | ok a s=>exact ⟨a,s,rfl,h⟩
def iter (f : α → Sta→Res (Bool × α)):Nat → α → Sta→Res α
 | 0,_,_ => .bad 0
 | n+1,a,s=>(f a s).bind fun x s'=>if x.1 then .ok x.2 s' else iter f n x.2 s'
def run (L:Nat) (f : α → Sta→Res (Bool × α)) (a : α) (s:Sta):Res α := iter f (L+1-s.at_) a s
def vg (L:Nat) (f : α → Sta→Res (Bool × α)):Prop:=∀ a s x s',s.at_≤L→f a s=.ok x s'→s.at_<s'.at_∧s'.at_≤L
theorem zd1 {L:Nat}{f : α → Sta→Res (Bool × α)}(hf:vg L f):∀ m n a s,s.at_≤L→L+1-s.at_≤m→L+1-s.at_≤n→iter f m a s=iter f n a s:=by
 intro m;induction m with
 | zero=>intro n a s h1 h2;omega
 | succ m ih=>
  intro n a s h1 h2 h3;obtain ⟨k,rfl⟩:∃ k,n=k+1:=⟨n-1,by omega⟩;unfold iter;cases hx:f a s with
  | bad e=>rfl
  | ok x s'=>
   obtain ⟨h4,h5⟩:=hf a s x s' h1 hx;simp only [Res.bind_ok];split
   ·rfl
   ·exact ih k x.2 s' h5 (by omega) (by omega)
theorem xl {L:Nat}{f : α → Sta→Res (Bool × α)}(hf:vg L f) (a : α){s:Sta}(hs:s.at_≤L):run L f a s=(f a s).bind fun x s'=>if x.1 then .ok x.2 s' else run L f x.2 s':=by
 unfold run;rw [show L+1-s.at_=(L-s.at_)+1 by omega,iter];cases hx:f a s with
 | bad e=>rfl
 | ok x s'=>
  obtain ⟨h4,h5⟩:=hf a s x s' hs hx;simp only [Res.bind_ok];split
  ·rfl
  ·exact zd1 hf _ _ _ _ h5 (by omega) (by omega)
structure Le (L lim:Nat) (s s':Sta):Prop where
 at_:s.at_≤s'.at_
 end_:s'.at_≤L
 out:s.out.length≤s'.out.length
 lim_:s.out.length≤lim→s'.out.length≤lim
 steps:s'.steps+s.at_≤s.steps+s'.at_
 blocks:s'.blocks+s.at_≤s.blocks+s'.at_
 bytes:Bs s.out→Bs s'.out
theorem Le.refl {L:Nat}(lim:Nat){s:Sta}(h:s.at_≤L):Le L lim s s:=⟨Nat.le_refl _,h,Nat.le_refl _,id,Nat.le_refl _,Nat.le_refl _,id⟩
theorem Le.trans {L lim:Nat}{a b c:Sta}(h:Le L lim a b) (k:Le L lim b c):Le L lim a c:=by
 have:=h.at_;have:=h.out;have:=h.steps;have:=h.blocks;have:=k.at_;have:=k.out;have:=k.steps;have:=k.blocks;exact ⟨by omega,k.end_,by omega,fun x=>k.lim_ (h.lim_ x),by omega,by omega,fun x=>k.bytes (h.bytes x)⟩
theorem Le.to {L lim:Nat}{s:Sta}{a:Nat}(h:s.at_≤a) (hL:a≤L):Le L lim s { s with at_:=a }:=
 ⟨h,hL,Nat.le_refl _,id,by show s.steps+s.at_≤s.steps+a;omega,by show s.blocks+s.at_≤s.blocks+a;omega,id⟩
def Pr (L lim:Nat) (f:Sta→Res α):Prop:=∀ s a s',s.at_≤L→f s=.ok a s'→Le L lim s s'
theorem Pr.bind {L lim:Nat}{f:Sta→Res α}{k : α → Sta→Res β}(h:Pr L lim f) (hk:∀ a,Pr L lim (k a)):Pr L lim fun s=>(f s).bind k:=by
 intro s b t hs hb;obtain ⟨a,s',h1,h2⟩:=Res.bind_is hb;have h3:=h s a s' hs h1;exact h3.trans (hk a s' b t h3.end_ h2)
theorem Pr.run {L lim:Nat}{f : α → Sta→Res (Bool × α)}(hf:vg L f) (h:∀ a,Pr L lim (f a)) (a : α):Pr L lim (run L f a):=by
 have key:∀ n s a b t,L-s.at_≤n→s.at_≤L→YtacpfpghokcdlaaGreatDoor.run L f a s=.ok b t→Le L lim s t:=by
  intro n;induction n with
  | zero=>
   intro s a b t hn hs hr;rw [xl hf a hs] at hr;obtain ⟨x,s',h1,h2⟩:=Res.bind_is hr;have:=hf a s x s' hs h1;omega
  | succ n ih=>
   intro s a b t hn hs hr;rw [xl hf a hs] at hr;obtain ⟨x,s',h1,h2⟩:=Res.bind_is hr;have h3:=hf a s x s' hs h1;have h4:=h a s x s' hs h1;split at h2
   ·cases h2;exact h4
   ·exact h4.trans (ih s' x.2 b t (by omega) h3.2 h2)
 intro s b t hs hr;exact key _ s a b t (Nat.le_refl _) hs hr
end
def rdN (bs:List Nat) (n:Nat) (s:Sta):Res Nat:=if s.at_+n≤8*bs.length then .ok (pk bs s.at_ n) { s with at_:=s.at_+n } else .bad 15
def yH (ls:List Nat) (A:Nat):Option Nat:=(List.range ls.length).find? fun s=>decide (ln ls s≠0∧A/2^(15-ln ls s)=cd ls s)
def rdS (bs ls:List Nat) (s:Sta):Res Nat:=
 if s.at_=8*bs.length then .bad 15
 else match yH ls (ahead bs s.at_) with
  | none => .bad 10
  | some y=>if s.at_+ln ls y≤8*bs.length then .ok y { s with at_:=s.at_+ln ls y } else .bad 15
def lenOf (y:Nat):Option (Nat × Nat):=
 if y<257∨285<y then none else if y=285 then some (258,0) else if y<261 then some (y-254,0) else some (3+(4+(y-257)%4)*2^((y-257)/4-1),(y-257)/4-1)
def xu (d:Nat):Option (Nat × Nat):=
 if 29<d then none else if d<2 then some (1+d,0) else some (1+(2+d%2)*2^(d/2-1),d/2-1)
def grown (bs:List Nat) (o:Option (Nat × Nat)) (s:Sta):Res Nat:=
 match o with
 | none => .bad 10
 | some x=>(rdN bs x.2 s).bind fun v s' => .ok (x.1+v) s'
def back (far:Nat):Nat→List Nat→List Nat
 | 0,l=>l
 | n+1,l=>back far n (l++[l.getD (l.length-far) 0])
def again (bs:List Nat) (lim:Nat) (ol:List Nat) (y:Nat) (s:Sta):Res Unit:=
 (grown bs (lenOf y) s).bind fun n s1=>(rdS bs ol s1).bind fun d s2=>(grown bs (xu d) s2).bind fun far s3=>
  if s3.out.length<far then .bad 10 else if lim<s3.out.length+n then .bad 14 else .ok () { s3 with out:=back far n s3.out }
def zan (bs:List Nat) (lim:Nat) (fl ol:List Nat) (_:Unit) (s:Sta):Res (Bool × Unit):=
 (rdS bs fl s).bind fun y s1=>
  if y<256 then (if lim<s1.out.length+1 then .bad 14 else .ok (false,()) { s1 with steps:=s1.steps+1,out:=s1.out++[y] })
  else if y=256 then .ok (true,()) { s1 with steps:=s1.steps+1 }
  else (again bs lim ol y { s1 with steps:=s1.steps+1 }).bind fun _ s2 => .ok (false,()) s2
def xF (bs:List Nat) (lim:Nat) (fl ol:List Nat) (s:Sta):Res Unit:=run (8*bs.length) (zan bs lim fl ol) () s
def stored (bs:List Nat) (lim:Nat) (s:Sta):Res Unit:=
 (rdN bs 16 { s with at_:=up8 s.at_ }).bind fun n s1=>(rdN bs 16 s1).bind fun m s2=>
  if m≠65535-n then .bad 10 else if 8*bs.length<s2.at_+8*n then .bad 15 else if lim<s2.out.length+n then .bad 14
  else .ok () { s2 with at_:=s2.at_+8*n,out:=s2.out++(bs.drop (s2.at_/8)).take n,steps:=s2.steps+n }
def xb (y:Nat):Nat:=if y=16 then 2 else if y=17 then 3 else if y=18 then 7 else 0
def itm (bs own:List Nat) (s:Sta):Res (Nat × Nat):=
 (rdS bs own s).bind fun y s1=>if 16≤y∧y≤18 then (rdN bs (xb y) s1).bind fun v s2 => .ok (y,v) s2 else .ok (y,0) s1
def told (y v:Nat) (row:List Nat):Option (List Nat):=
 if y<16 then some [y] else if y=16 then (if row=[] then none else some (List.replicate (3+v) (row.getLastD 0))) else if y=17 then some (List.replicate (3+v) 0) else if y=18 then some (List.replicate (11+v) 0) else none
def yx (bs own:List Nat) (n:Nat) (row:List Nat) (s:Sta):Res (Bool × List Nat):=
 (itm bs own s).bind fun x s1=>
  match told x.1 x.2 row with
  | none => .bad 10
  | some t=>if n<(row++t).length then .bad 10 else .ok (decide ((row++t).length=n),row++t) s1
def lens (bs own:List Nat) (n:Nat) (s:Sta):Res (List Nat):=run (8*bs.length) (yx bs own n) [] s
def ord:List Nat:=[16,17,18,0,8,7,9,6,10,5,11,4,12,3,13,2,14,1,15]
def zp (l:List Nat):List Nat:=(List.range 19).map fun j=>l.getD (ord.idxOf j) 0
def rdO (bs:List Nat):Nat→List Nat→Sta→Res (List Nat)
 | 0,l,s => .ok l s
 | k+1,l,s=>(rdN bs 3 s).bind fun v s'=>rdO bs k (l++[v]) s'
def whole (ls:List Nat):Bool:=decide (room ls=32768∨(many ls=1∧1∈ls))
def fits (row:List Nat) (l:Nat):Bool:=
 decide (room (row.take l)≤32768∧room (row.drop l)≤32768) && whole (row.take l) && (whole (row.drop l) || decide (many (row.drop l)=0))
def kn (bs:List Nat) (s:Sta):Res (List Nat × List Nat):=
 (rdN bs 5 s).bind fun l s1=>(rdN bs 5 s1).bind fun d s2=>(rdN bs 4 s2).bind fun c s3=>
  if 29<l∨29<d then .bad 10 else
  (rdO bs (4+c) [] s3).bind fun o s4=>
   if room (zp o)≠32768 then .bad 10 else
   (lens bs (zp o) (258+l+d) s4).bind fun row s5=>
    if row.getD 256 0=0 then .bad 10 else
    if fits row (257+l) then .ok (row.take (257+l),row.drop (257+l)) s5 else .bad 10
def zU:List Nat:=List.replicate 144 8++List.replicate 112 9++List.replicate 24 7++List.replicate 8 8
def ql:List Nat:=List.replicate 32 5
def blk (bs:List Nat) (lim:Nat) (s:Sta):Res Unit:=
 (rdN bs 2 s).bind fun k s1=>
  if k=0 then stored bs lim s1 else if k=1 then xF bs lim zU ql s1 else if k=2 then (kn bs s1).bind fun c s2=>xF bs lim c.1 c.2 s2 else .bad 10
def xJ (bs:List Nat) (lim:Nat) (_:Unit) (s:Sta):Res (Bool × Unit):=
 (rdN bs 1 s).bind fun last s1=>(blk bs lim s1).bind fun _ s2 => .ok (decide (last=1),()) { s2 with blocks:=s2.blocks+1 }
def st0:Sta:=⟨0,[],0,0⟩
def infl (bs:List Nat) (lim:Nat):Res Unit:=run (8*bs.length) (xJ bs lim) () st0
section
open Go.RowKit
theorem Touch.none_below {a b:World}(h:Touch (fun _=>False) a b):Below a.heap.size a b:=h.below (Nat.le_refl _) fun _ h=>h.elim
theorem ownsRow_below {w w':World}{base:Nat}{e:TypeId}{size:Nat}{v:Value}{n:Nat}{xs:List Value}(h:w.ownsRow base e size v n xs) (hb:Below w.heap.size w w'):w'.ownsRow base e size v n xs:=
 zd h (Touch.of_below (S:=fun _=>False) hb) fun _ _ h=>h
theorem yP (w:World) (e size:Nat):(w.alloc (.cells #[] e)).ownsRow w.heap.size e size (.slice (some ⟨w.heap.size,0,none⟩) 0 0) 0 []:=
 World.ownsRow_made w #[] 0 (Nat.le_refl _) (Nat.zero_le _) (by simp)
structure Apg (w:World) (base e sz:Nat) (v:Value) (n:Nat) (xs:List Value) (v':Value) (w':World):Prop where
 own:w'.ownsRow base e sz v' n xs
 touch:Touch (fun k=>v.ownBlock=some k) w w'
 row:∀ k,v'.ownBlock=some k→v.ownBlock=some k∨w.heap.size≤k
theorem Apg.alloc {a b:World}{base e sz n:Nat}{v1 v2:Value}{xs:List Value}{o:Obj}(k:Apg (a.alloc o) base e sz v1 n xs v2 b):Apg a base e sz v1 n xs v2 b:=
 ⟨k.own,((Touch.refl _ a).alloc o).trans k.touch,fun i hi=>by
  rcases k.row i hi with h | h
  ·exact .inl h
  ·right;simp at h;omega⟩
theorem Apg.below {a b:World}{base e sz n:Nat}{v1 v2:Value}{xs ys:List Value}{m:Nat}(k:Apg a base e sz v1 n xs v2 b) (h:a.ownsRow base e sz v1 m ys) (hb:base≤a.heap.size):Below base a b:=
 k.touch.below hb fun i hi=>(h.lt i hi).1
def zI (w:World) (sv:Value) (m:Nat) (ys:List Value):Prop:=
 (sv=.slice none 0 0∧m=0∧ys=[])∨∃ ad c,sv=.slice (some ad) m c∧∀ j u,ys[j]? = some u→w.cell? (ad.add j)=some u
structure AT (t e:Nat) (z:Value) (size bytes:Nat):Prop where
 hu:prog.underlying t=some (.slice e)
 info:(prog.info? e).map (fun i=>(i.zero,i.size,i.bytes))=some (some z,size,bytes)
 zs:z.cells.size=size
 pos:0<size
theorem qY {t e:Nat}{z:Value}{size bytes:Nat}(T:AT t e z size bytes) (w:World){base:Nat}{v sv:Value}{n m:Nat}{xs ys:List Value}(ty:TypeId) (hown:w.ownsRow base e size v n xs) (hs:zI w sv m ys)
  (hyl:ys.length=m*size) (h1:∀ u∈ys,u.oneCell'=true) (hbase:base≤w.heap.size) (hl:n+m≤140737488355328) (hby:(n+m)*bytes≤140737488355328) :
  ∃ v' w',(Builtin.append_ #[t,t] ty #[v,sv]).run prog w=.ok v' w'∧Apg w base e size v (n+m) (xs++ys) v' w':=by
 obtain ⟨i0,hi,hz0,hz1,hz2⟩:=info_parts T.info;rcases hs with ⟨rfl,rfl,rfl⟩ | ⟨ad,c,rfl,hcell⟩
 ·refine ⟨v,w,run_append_owned_none w base t ty e i0 size T.hu hi v n xs hown,?_,Touch.refl _ _,fun k hk => .inl hk⟩
  simpa using hown
 ·rcases hown.2 with ⟨rfl,hn0⟩ | ⟨g,cap,cur,rfl,hbg,hh,hnc,hcm,hcs,htake⟩
  ·subst hn0
   have hx:xs=[]:=List.eq_nil_of_length_eq_zero (by rw [hown.1,Nat.zero_mul]);subst hx;obtain ⟨v',w',hr,ho,hg,_⟩:=run_append_own (P:=prog) w w.heap.size t ty e i0 z size bytes T.hu hi hz0 hz1 hz2 T.zs T.pos (.slice none 0 0) 0 [] (World.ownsRow_nil _ _ _ _) ad m c ys hyl hcell h1 (by unfold maxLen;omega) hby (Nat.le_refl _);exact ⟨v',w',hr,zz ho hbase,(Touch.refl _ w).grown hg fun k hk=>by simp [Value.ownBlock] at hk,fun k hk => .inr (ho.lt k hk).1⟩
  ·by_cases hroom:n+m≤cap
   ·obtain ⟨w',hr,ho,hg⟩:=run_append_fits (P:=prog) w base t ty e i0 size T.hu hi hz1 g n cap xs hown ad m c ys hyl hcell h1 hroom
    exact ⟨_,w',hr,ho,(Touch.refl _ w).grown hg fun k hk => .inl (by cases hk;simp [Value.ownBlock]),fun k hk => .inl (by simpa [Value.ownBlock] using hk)⟩
   ·obtain ⟨v',w',hr,ho,hg⟩:=run_append_arg_grows (P:=prog) w t ty e i0 z size bytes T.hu hi hz0 hz1 hz2 T.zs T.pos ⟨g,0,none⟩ n cap xs hown.1 (hown.cells (by simp [Value.ownBlock])) ad m c ys hyl hcell (by omega) (by unfold maxLen;omega) hby
    exact ⟨v',w',hr,zz ho hbase,(Touch.refl _ w).grown hg (fun k hk=>by cases hk),fun k hk => .inr (ho.lt k hk).1⟩
theorem ze {t e:Nat}{z:Value}{size bytes:Nat}(T:AT t e z size bytes){w:World}{ops:Array Oper}{rest:List Oper}{o:Oper}{a:Act}{Q:Exit→Act→World→Prop}(hgd:o.guard=none) (s x:Operand)
  (ho:o.op=.call { callee:=.builtin .append,args := #[s,x],argTypes := #[t,t] })
  (base:Nat) (v sv:Value) (n m:Nat) (xs ys:List Value) (hs:a.eval s=v) (hx:a.eval x=sv) (hown:w.ownsRow base e size v n xs) (hsrc:zI w sv m ys)
  (hyl:ys.length=m*size) (h1:∀ u∈ys,u.oneCell'=true) (hbase:base≤w.heap.size) (hl:n+m≤140737488355328) (hby:(n+m)*bytes≤140737488355328)
  (h:∀ ao c w',Apg w base e size v (n+m) (xs++ys) (.slice ao (n+m) c) w'→wpList prog ops Q rest (a.put o.dst (.slice ao (n+m) c)) w'):wpList prog ops Q (o::rest) a w:=by
 refine wpList_plain hgd fun K hK=>?_
 obtain ⟨v',w',hrun,hA⟩:=qY T w o.type hown hsrc hyl h1 hbase hl hby
 obtain ⟨ao,c,rfl⟩:=zr hA.own;unfold Oper.wp;simp [execOp,ho,resolve,invoke,builtin,hs,hx,hrun,Result.andThen];exact hK _ _ (by simpa using h ao c w' hA)
def iv (zs:List Int):List Value:=zs.map fun z => .int .i64 z
theorem Qy (zs:List Int):(iv zs).length=zs.length:=by simp [iv]
theorem zbn (zs:List Int):∀ u∈iv zs,u.oneCell'=true:=by
 intro u hu;obtain ⟨_,_,rfl⟩:=List.mem_map.1 hu;rfl
theorem jM (a b:List Int):iv a++iv b=iv (a++b):=by simp [iv]
theorem zfM (zs:List Int) (j:Nat) (h:j<zs.length):(iv zs)[j]? = some (.int .i64 (zs.getD j 0)):=by simp [iv,h,List.getD]
theorem kg:AT 40 3 (.int .i64 0) 1 8:=⟨by kernel_rfl,by kernel_rfl,rfl,by omega⟩
theorem IS.cells {w:World}{ao:Option Addr}{zs:List Int}{c:Nat}(h:IS w ao zs) (hn:zs=[]→ao=none→c=0):zI w (.slice ao zs.length c) zs.length (iv zs):=by
 rcases h with rfl | ⟨b,off,rfl,hc⟩
 ·cases ao with
  | none=>exact .inl ⟨by rw [hn rfl rfl];rfl,rfl,rfl⟩
  | some ad=>exact .inr ⟨ad,c,rfl,fun j u hu=>by simp [iv] at hu⟩
 ·refine .inr ⟨_,c,rfl,fun j u hu=>?_⟩
  have hj:j<zs.length:=by
   have:=(List.getElem?_eq_some_iff.1 hu).1;rwa [Qy] at this
  rw [Addr.add_lit,hc j hj,←hu,zfM zs j hj]
theorem j9 {w:World}{base:Nat}{ao:Option Addr}{c n:Nat}{zs:List Int}(h:w.ownsRow base 3 1 (.slice ao n c) n (iv zs)) (hn:zs.length=n):IS w ao zs:=by
 subst hn;rcases h.2 with ⟨e,h0⟩ | ⟨g,cap,cur,e,hbg,hh,hnc,hcm,hcs,htake⟩
 ·exact .inl (List.eq_nil_of_length_eq_zero h0)
 ·simp only [Value.slice.injEq] at e
  obtain ⟨rfl,_,rfl⟩:=e;refine .inr ⟨g,0,rfl,fun j hj=>?_⟩;rw [Nat.zero_add,World.ownsRow.cellAt h j (by omega),zfM zs j hj]
theorem zfg {w:World}{g n:Nat}{f:Nat→Nat}(h:Blk w g 3 (ia n f)) (zs:List Int) (hn:zs.length=n) (hf:∀ j,j<n→zs.getD j 0=(f j:Nat)):IS w (some ⟨g,0,none⟩) zs:=
 .inr ⟨g,0,rfl,fun j hj=>by rw [Nat.zero_add,h.cell,zw n _ j (by omega),hf j (by omega)]⟩
end
section
open Go.Lib renaming hid → J
open Go.RowKit
def qZ (x:Nat):Nat:=if x=0 then 0 else 2^(15-x)
def yB (l:List Nat):Nat:=(l.map qZ).sum
theorem y9 (l:List Nat) (x:Nat):yB (l++[x])=yB l+qZ x:=by simp [yB]
theorem zfZ (l:List Nat) (x n:Nat):cn (l++[x]) n=cn l n+if n=x∧n≠0 then 1 else 0:=by
 unfold cn;by_cases h0:n=0
 ·simp [h0]
 ·rw [if_neg h0,if_neg h0,List.count_append,List.count_singleton]
  by_cases h:n=x
  ·simp [h];intro e;omega
  ·simp [h,Ne.symm h]
theorem zk6 (l:List Nat) (x n:Nat):sp (l++[x]) n=sp l n+if x<n then qZ x else 0:=by
 induction n with
 | zero=>simp [sp]
 | succ n ih=>
  rw [sp,sp,ih,zfZ,Nat.add_mul];by_cases h:n=x
  ·subst h
   rw [if_neg (Nat.lt_irrefl n),if_pos (Nat.lt_succ_self n)];by_cases h0:n=0
   ·rw [if_neg (show ¬(n=n∧n≠0) from fun e=>e.2 h0),Nat.zero_mul]
    unfold qZ;rw [if_pos h0];omega
   ·rw [if_pos ⟨rfl,h0⟩,Nat.one_mul]
    unfold qZ;rw [if_neg h0];omega
  ·rw [if_neg (show ¬(n=x∧n≠0) from fun e=>h e.1),Nat.zero_mul]
   by_cases h2:x<n
   ·rw [if_pos h2,if_pos (show x<n+1 by omega)]
    omega
   ·rw [if_neg h2,if_neg (show ¬x<n+1 by omega)]
    omega
theorem zko (n:Nat):sp [] n=0:=by
 induction n with
 | zero=>rfl
 | succ n ih=>rw [sp,ih];simp [cn]
theorem ux (l:List Nat) (h:∀ x∈l,x≤15):room l=yB l:=by
 have key:∀ k,k≤l.length→sp (l.take k) 16=yB (l.take k):=by
  intro k;induction k with
  | zero=>intro _;rw [List.take_zero,zko];rfl
  | succ k ih=>
   intro hk;rw [List.take_succ_eq_append_getElem (by omega),zk6,y9,ih (by omega),if_pos];have:=h _ (List.getElem_mem (show k<l.length by omega));omega
 have:=key l.length (Nat.le_refl _);rwa [List.take_length] at this
theorem UP (x:Nat):qZ x≤32768:=by
 unfold qZ;split
 ·omega
 ·have:2^(15-x)≤2^15:=Nat.pow_le_pow_right (by omega) (by omega)
  omega
theorem zhO (l:List Nat):yB l≤l.length*32768:=by
 unfold yB;induction l with
 | nil=>simp
 | cons x r ih=>have:=UP x;simp only [List.map_cons,List.sum_cons,List.length_cons];omega
def zk3 (zs:List Int) (w:World) (e:Ending) (w':World):Prop:=w=w'∧(Vd zs→e=.returned (.tuple #[.int .i64 (room (nat zs):Nat),.bool true]))∧(¬Vd zs→e=.returned (.tuple #[.int .i64 0,.bool false]))
theorem zl0 {zs:List Int}{k:Nat}{x:Nat}(hk:k<zs.length) (hx:zs.getD k 0=(x:Int)):yB (nat (zs.take (k+1)))=yB (nat (zs.take k))+qZ x:=by
 rw [List.take_succ_eq_append_getElem hk,show zs[k]=(x:Int) by rw [←hx];simp [List.getD,hk],nat,List.map_append];exact y9 _ _
theorem zfO {x:Nat}(h1:1≤x) (h15:x≤15):(32768:Int)/2^x=(qZ x:Nat):=by
 unfold qZ;rw [if_neg (by omega)];exact zb4 x (by omega)
set_option maxHeartbeats 1600000 in
theorem zdN (ao:Option Addr) (c:Nat) (zs:List Int) (w:World) (h:IS w ao zs) :
  Calls prog 42 #[.slice ao zs.length c] w (zk3 zs w):=by
 have HI:=J h;clear h;by_cases hl:320<zs.length
 ·have hl':(320:Int)<zs.length:=by omega
  go_enter func42,ntmps42;go_wp2;go_ret2
  exact ⟨rfl,fun v=>absurd v.len (by omega),fun _=>rfl⟩
 ·have hl':(zs.length:Int)≤320:=by omega
  go_enter func42,ntmps42;go_wp2;go_loop [4,5] (fun nv iv=>∃ k:Nat,k≤zs.length∧iv=.int .i64 k∧nv=.int .i64 (yB (nat (zs.take k)):Nat)∧∀ j,j<k→0≤zs.getD j 0∧zs.getD j 0≤15) (fun _ iv=>zs.length-(intOf iv).toNat)
  case atStart=>exact ⟨0,Nat.zero_le _,rfl,rfl,fun j hj=>absurd hj (Nat.not_lt_zero j)⟩
  case round=>
   obtain ⟨k,hk,rfl,rfl,hgood⟩:=hrel;have HG:=J hgood;clear hgood;by_cases hlt:k<zs.length
   ·have hkk:(k:Int)<zs.length:=by omega
    obtain ⟨b,off,rfl,hcell⟩:=HI.out.at hlt;obtain ⟨x,hx⟩:=exq (zs.getD k 0);have HX:=J hx;rw [←hx] at hcell;clear hx;by_cases hbad:x<0∨15<x
    ·have hno:Hid (¬Vd zs):=J fun v=>by
      have:=v.all _ (jD hlt);rw [←HX.out] at this;omega
     rcases hbad with hbad | hbad
     ·go_wp2
      go_ret2
      exact ⟨rfl,fun v=>absurd v hno.out,fun _=>rfl⟩
     ·have hpos:0≤x:=by omega
      go_wp2;go_ret2
      exact ⟨rfl,fun v=>absurd v hno.out,fun _=>rfl⟩
    ·obtain ⟨n,rfl⟩:∃ n:Nat,x=(n:Int):=⟨x.toNat,by omega⟩
     have hn:n≤15:=by omega
     have h1:decide ((n:Int)<0)=false:=by simp
     have h2:decide (15<(n:Int))=false:=by simp;omega
     have HS:=J (zl0 hlt HX.out.symm);have hb1:=zhO (nat (zs.take k));rw [xt,List.length_take] at hb1;obtain ⟨z,hz⟩:=exq (yB (nat (zs.take k)));have HZ:=J hz;rw [←hz] at hb1 ⊢;clear hz hbad;by_cases h0:n=0
     ·subst h0
      go_wp2;go_round
      case rel=>
       refine ⟨k+1,by omega,by go_num,by rw [HS.out,←HZ.out];rfl,fun j hj=>?_⟩
       by_cases e:j=k
       ·subst e;rw [←HX.out];omega
       ·exact HG.out j (by omega)
      case measure=>simp [intOf];omega
     ·have h3:decide (0<(n:Int))=true:=by simp;omega
      have hp:=UP n;have e1:=zfO (show 1≤n by omega) hn;go_wp2;go_round
      case rel=>
       refine ⟨k+1,by omega,by go_num,by rw [HS.out,←HZ.out];go_num,fun j hj=>?_⟩
       by_cases e:j=k
       ·subst e;rw [←HX.out];omega
       ·exact HG.out j (by omega)
      case measure=>simp [intOf];omega
   ·have hk':k=zs.length:=by omega
    subst hk';go_wp2;go_ret2
    have HV:Vd zs:=⟨by omega,fun z hz=>by
     obtain ⟨j,hj,rfl⟩:=List.getElem_of_mem hz;have:=HG.out j hj;simpa [List.getD,hj] using this⟩
    refine ⟨rfl,fun _=>?_,fun v=>absurd HV v⟩;rw [ux (nat zs) (fun x hx=>by
     obtain ⟨z,hz,rfl⟩:=List.mem_map.1 hx;have:=HV.all z hz;omega)]
    rfl
end
section
open Go.RowKit
def cb (ls:List Nat) (s:Nat):List Nat:=(List.range (ln ls s)).map fun j=>cd ls s/2^(ln ls s-1-j)%2
theorem JD (ls:List Nat) (s:Nat):(cb ls s).length=ln ls s:=by simp [cb]
theorem zlU (ls:List Nat) (s j:Nat) (h:j<ln ls s):(cb ls s).getD j 0=cd ls s/2^(ln ls s-1-j)%2:=by simp [cb,List.getD,h]
theorem ziC (ls:List Nat) (s j:Nat) (h:j<ln ls s):(cb ls s).take (j+1)=(cb ls s).take j++[cd ls s/2^(ln ls s-1-j)%2]:=by
 rw [List.take_succ_eq_append_getElem (by rw [JD];exact h)];simp [cb]
structure Rw (w:World) (pr gl N rm:Nat) (F:Nat→Value) (X:Nat→List Nat) (wr:World):Prop where
 c:Blk wr pr 75 #[.slice (some ⟨gl,0,none⟩) N N,.int .i64 (rm:Nat)]
 l:Blk wr gl 22 (va N F)
 rows:∀ s,s<N→wr.ownsRow w.heap.size 5 1 (F s) (X s).length (u8s (X s))
 ap:∀ s t k,s<N→t<N→s≠t→(F s).ownBlock=some k→(F t).ownBlock≠some k
 off:∀ s k,s<N→(F s).ownBlock=some k→k≠pr∧k≠gl
 ne:pr≠gl
 below:Below w.heap.size w wr
 lo:w.heap.size≤pr∧w.heap.size≤gl
theorem Rw.put {w wr w1:World}{pr gl N rm:Nat}{F:Nat→Value}{X:Nat→List Nat}(h:Rw w pr gl N rm F X wr){s:Nat}(hs:s<N){o:Obj}{bit:Nat}{v':Value}(hA:Apd (wr.alloc o).drew w.heap.size (F s) (X s++[bit]) v' w1) :
  Rw w pr gl N rm (fun t=>if t=s then v' else F t) (fun t=>if t=s then X s++[bit] else X t) (w1.setCell ⟨gl,s,none⟩ v'):=by
 have t1:Touch (fun k=>(F s).ownBlock=some k) wr w1:=(((Touch.refl _ wr).alloc o).drew).trans hA.touch;have t2:Touch (fun k=>k=gl) w1 (w1.setCell ⟨gl,s,none⟩ v'):=(Touch.refl _ _).setCell _ _ (.inl rfl);have hc:=h.c.touch t1 (fun e=>(h.off s _ hs e).1 rfl);have hl:=h.l.touch t1 (fun e=>(h.off s _ hs e).2 rfl);have hv:∀ k,v'.ownBlock=some k→k≠pr∧k≠gl:=fun k hk=>by
  rcases hA.row k hk with h1 | h1
  ·exact h.off s k hs h1
  ·have h2:=h.c.lt
   have h3:=h.l.lt;have h4:wr.heap.size≤k:=by
    have:(wr.alloc o).drew.heap.size=wr.heap.size+1:=by simp [World.drew]
    omega
   omega
 have hB:w.heap.size≤wr.heap.size:=h.below.size;refine ⟨hc.touch t2 h.ne,?_,fun t ht=>?_,fun a b k ha hb hab hk=>?_,fun t k ht hk=>?_,h.ne,?_,h.lo⟩
 ·have:=hl.setCell s v'
  rwa [qF] at this
 ·show (w1.setCell ⟨gl,s,none⟩ v').ownsRow _ 5 1 (if t=s then v' else F t) (if t=s then X s++[bit] else X t).length (u8s (if t=s then X s++[bit] else X t))
  by_cases e:t=s
  ·subst e
   rw [if_pos rfl,if_pos rfl];exact zd hA.own t2 (fun k hk e=>(hv k hk).2 e)
  ·rw [if_neg e,if_neg e]
   refine zd (zd (h.rows t ht) t1 (fun k hk hk2=>h.ap t s k ht hs e hk hk2)) t2 (fun k hk e2=>(h.off t k ht hk).2 e2)
 ·have hk':(if a=s then v' else F a).ownBlock=some k:=hk
  show (if b=s then v' else F b).ownBlock≠some k;intro hk2;by_cases ea:a=s
  ·rw [if_pos ea] at hk'
   have eb:b≠s:=fun e=>hab (ea.trans e.symm)
   rw [if_neg eb] at hk2;rcases hA.row k hk' with h1 | h1
   ·exact h.ap s b k hs hb (fun e=>eb e.symm) h1 hk2
   ·have h2:=(h.rows b hb).lt k hk2
    have:(wr.alloc o).drew.heap.size=wr.heap.size+1:=by simp [World.drew]
    omega
  ·rw [if_neg ea] at hk'
   by_cases eb:b=s
   ·rw [if_pos eb] at hk2
    rcases hA.row k hk2 with h1 | h1
    ·exact h.ap a s k ha hs ea hk' h1
    ·have h2:=(h.rows a ha).lt k hk'
     have:(wr.alloc o).drew.heap.size=wr.heap.size+1:=by simp [World.drew]
     omega
   ·rw [if_neg eb] at hk2
    exact h.ap a b k ha hb hab hk' hk2
 ·have hk':(if t=s then v' else F t).ownBlock=some k:=hk
  by_cases e:t=s
  ·rw [if_pos e] at hk';exact hv k hk'
  ·rw [if_neg e] at hk';exact h.off t k ht hk'
 ·exact (h.below.trans (t1.below hB fun k hk=>((h.rows s hs).lt k hk).1)).setCell (by show w.heap.size≤gl;exact h.lo.2) _
def RAt (w:World) (p:Nat) (ls:List Nat):Prop:=
 ∃ (gl rm:Nat) (F:Nat→Value),w.cell? ⟨p,0,none⟩=some (.slice (some ⟨gl,0,none⟩) ls.length ls.length)∧w.cell? ⟨p,1,none⟩=some (.int .i64 (rm:Nat))∧
  ∀ s,s<ls.length→w.cell? ⟨gl,s,none⟩=some (F s)∧zi w (F s) (cb ls s)
end
section
open Go.Lib renaming hid → J
open Go.RowKit
def eqs (ls rb:List Nat) (at_ s k:Nat):Bool:=decide (∀ j,j<k→(cb ls s).getD j 0=rb.getD (at_+j) 0)
theorem zfG (ls rb:List Nat) (at_ s:Nat):eqs ls rb at_ s 0=true:=by simp [eqs]
theorem zgT (ls rb:List Nat) (at_ s k:Nat) (h:eqs ls rb at_ s k=true):eqs ls rb at_ s (k+1)=decide ((cb ls s).getD k 0=rb.getD (at_+k) 0):=by
 unfold eqs at h ⊢;have h':=of_decide_eq_true h;by_cases e:(cb ls s).getD k 0=rb.getD (at_+k) 0
 ·rw [decide_eq_true e]
  refine decide_eq_true fun j hj=>?_
  by_cases ej:j=k
  ·subst ej;exact e
  ·exact h' j (by omega)
 ·rw [decide_eq_false e]
  exact decide_eq_false fun f=>e (f k (by omega))
theorem zfu {ls rb:List Nat}{at_ s k m:Nat}(h:eqs ls rb at_ s m=true) (hk:k≤m):eqs ls rb at_ s k=true:=by
 unfold eqs at h ⊢;have h':=of_decide_eq_true h;exact decide_eq_true fun j hj=>h' j (by omega)
def Ft (ls rb:List Nat) (at_ s:Nat):Bool:=eqs ls rb at_ s (min (ln ls s) (rb.length-at_))
def qP (ls rb:List Nat) (at_ s:Nat):Bool:=(List.range s).any fun t=>decide (ln ls t≠0) && Ft ls rb at_ t
theorem x5 (ls rb:List Nat) (at_ s:Nat):qP ls rb at_ (s+1)=(qP ls rb at_ s || (decide (ln ls s≠0) && Ft ls rb at_ s)):=by
 simp [qP,List.range_succ]
theorem zfb {ls rb:List Nat}{at_ s k n:Nat}(hn:ln ls s=n) (hk:k≤n) (hl:at_+k≤rb.length) (h:eqs ls rb at_ s k=false):Ft ls rb at_ s=false:=by
 cases hf:Ft ls rb at_ s with
 | false=>rfl
 | true=>
  unfold Ft at hf;rw [zfu hf (k:=k) (by omega)] at h;exact h
theorem zj1 {ls rb:List Nat}{at_ s k n:Nat}(hn:ln ls s=n) (hk:k=min n (rb.length-at_)) (h:eqs ls rb at_ s k=true):Ft ls rb at_ s=true:=by
 unfold Ft;rw [hn,←hk];exact h
def uF (ls rb:List Nat) (at_ s:Nat):Prop:=∀ t,t<s→ln ls t≠0→Ft ls rb at_ t=true→rb.length<at_+ln ls t
def zca (ls rb:List Nat) (at_:Nat) (w:World) (e:Ending) (w':World):Prop:=
 (
  (∃ s n:Nat,ln ls s=n∧n≠0∧Ft ls rb at_ s=true∧at_+n≤rb.length∧e=.returned (.tuple #[.int .i64 s,.int .i64 n,.int .i64 0])) ∨
  (uF ls rb at_ ls.length∧(qP ls rb at_ ls.length=true∨rb.length≤at_)∧e=.returned (.tuple #[.int .i64 0,.int .i64 0,.int .i64 15])) ∨
  (qP ls rb at_ ls.length=false∧at_<rb.length∧e=.returned (.tuple #[.int .i64 0,.int .i64 0,.int .i64 10])))∧∃ q,w'=w.drewN q
theorem zi.len {w:World}{v:Value}{xs:List Nat}(h:zi w v xs):∃ ao c,v=.slice ao xs.length c:=by
 rcases h with ⟨rfl,rfl⟩ | ⟨ad,c,rfl,_⟩
 ·exact ⟨none,0,rfl⟩
 ·exact ⟨some ad,c,rfl⟩
theorem zi.get {w:World}{ao:Option Addr}{n c:Nat}{xs:List Nat}(h:zi w (.slice ao n c) xs) (j:Nat) (hj:j<xs.length):∃ b off,ao=some ⟨b,off,none⟩∧w.cell? ⟨b,off+j,none⟩=some (.int .u8 (xs.getD j 0:Nat)):=by
 obtain ⟨b,off,c',he,_,hc⟩:=h.at (by omega);simp only [Value.slice.injEq] at he;exact ⟨b,off,he.1,hc j hj⟩
set_option maxRecDepth 100000 in
set_option maxHeartbeats 6400000 in
theorem zc1 (p:Nat) (ls:List Nat) (ao:Option Addr) (c:Nat) (rb:List Nat) (at_:Nat) (w:World) (h:RAt w p ls) (hr:zi w (.slice ao rb.length c) rb) (hls:ls.length≤320) (hl15:∀ s,ln ls s≤15) (hL:rb.length≤100000) (hat:at_≤rb.length) :
  Calls prog 65 #[.pointer (some ⟨p,0,none⟩),.slice ao rb.length c,.int .i64 at_] w (zca ls rb at_ w):=by
 obtain ⟨gl,rm,F,c0,c1,hF⟩:=h;have HF:=J hF;have HR:=J hr;have HL15:=J hl15;clear hF hr hl15 c1;go_enter func65,ntmps65;go_wp2;go_loopw [9,10] (fun pv sv wr=>∃ s q:Nat,s≤ls.length∧sv=.int .i64 s∧pv=.bool (qP ls rb at_ s)∧uF ls rb at_ s∧wr=w.drewN q) (fun _ sv _=>ls.length-(intOf sv).toNat)
 case atStart=>exact ⟨0,0,Nat.zero_le _,rfl,rfl,fun t ht=>absurd ht (Nat.not_lt_zero t),rfl⟩
 case round=>
  obtain ⟨s,q,hs,rfl,rfl,hno,rfl⟩:=hrel;have HNO:=J hno;clear hno;by_cases hlt:s<ls.length
  ·have hss:(s:Int)<ls.length:=by omega
   obtain ⟨f1,f2⟩:=HF.out s hlt;obtain ⟨a1,k1,hfs⟩:=f2.len;rw [JD] at hfs;rw [hfs] at f1 f2;have H2:=J f2;clear f2 hfs;have hn15:=HL15.out s;obtain ⟨n,hn⟩:=exq (ln ls s);rw [←hn] at f1 hn15 H2;have HN:=J hn.symm;clear hn;by_cases h0:n=0
   ·subst h0
    have HS:Hid (qP ls rb at_ (s+1)=qP ls rb at_ s):=J (by rw [x5,HN.out];simp);go_wp2;go_roundw;case rel=>
     refine ⟨s+1,_,by omega,by go_num,by rw [HS.out],fun t ht hn0 hf=>?_,rfl⟩
     by_cases e:t=s
     ·subst e;exact absurd HN.out hn0
     ·exact HNO.out t (by omega) hn0 hf
    case measure=>simp [intOf];omega
   ·have hb0:((n:Int) == 0)=false:=by simp;omega
    have hn1:1≤n:=by omega
    clear h0;go_wp2;go_loopw [12,13] (fun fv kv wr=>∃ k q:Nat,k≤n∧at_+k≤rb.length∧kv=.int .i64 k∧fv=.bool (eqs ls rb at_ s k)∧wr=w.drewN q) (fun _ kv _=>n-(intOf kv).toNat)
    case atStart=>exact ⟨0,_,Nat.zero_le _,by omega,rfl,by rw [zfG],rfl⟩
    case round=>
     obtain ⟨k,q2,hk,hak,rfl,rfl,rfl⟩:=hrel;obtain ⟨fb,hfb⟩:=exq (eqs ls rb at_ s k);have HFB:=J hfb;rw [←hfb];clear hfb;by_cases hgo:k<n∧at_+k<rb.length∧fb=true
     ·obtain ⟨hkn,hal,rfl⟩:=hgo
      have hkn':(k:Int)<n:=by omega
      have hal':(at_:Int)+k<rb.length:=by omega
      obtain ⟨b1,o1,rfl,g1⟩:=H2.out.get k (by rw [JD,HN.out];exact hkn);obtain ⟨b2,o2,rfl,g2⟩:=HR.out.get (at_+k) hal;have HES:=J (zgT ls rb at_ s k HFB.out.symm);obtain ⟨x,hx⟩:=exq ((cb ls s).getD k 0);obtain ⟨y,hy⟩:=exq (rb.getD (at_+k) 0);rw [←hx] at g1 HES;rw [←hy] at g2 HES;have e1:IntKind.i64.wrap ((at_:Int)+k)=(at_:Int)+k:=by rw [IntKind.wrap_i64];omega
      have e2:(0:Int)≤(at_:Int)+k:=by omega
      have e3:((at_:Int)+k).toNat=at_+k:=by omega
      clear hx hy;go_wp2;go_quiet (fail)
      go_wp2;have hxy:((x:Int) == y)=decide (x=y):=by rw [Bool.eq_iff_iff];simp;omega
      rw [←hxy] at HES;clear hxy;go_roundw;case rel=>exact ⟨k+1,_,by omega,by omega,by go_num,by rw [HES.out],rfl⟩
      case measure=>simp [intOf];omega
     ·by_cases hkn:k<n
      ·have hkn':(k:Int)<n:=by omega
       have hke:((k:Int) == n)=false:=by simp;omega
       by_cases hal:at_+k<rb.length
       ·have hal':(at_:Int)+k<rb.length:=by omega
        obtain rfl:fb=false:=by
         cases fb
         ·rfl
         ·exact absurd ⟨hkn,hal,rfl⟩ hgo
        have HFT:Hid (Ft ls rb at_ s=false):=J (zfb HN.out (by omega) hak HFB.out.symm);clear hgo;have HNF:Hid (uF ls rb at_ (s+1)):=J fun t ht hn0 hf=>by
         by_cases e:t=s
         ·subst e
          rw [HN.out];first | omega | (rw [HFT.out] at hf;cases hf)
         ·exact HNO.out t (by omega) hn0 hf
        obtain ⟨pb,hpb⟩:=exq (qP ls rb at_ s);have HST:Hid (qP ls rb at_ (s+1)=(pb || false)):=J (by rw [x5,HFT.out,←hpb,decide_eq_true (show ln ls s≠0 by rw [HN.out];omega)];simp);rw [←hpb];clear hpb;cases pb;all_goals
         go_wp2;go_roundw;case rel=>exact ⟨s+1,_,by omega,by go_num,by rw [HST.out];rfl,HNF.out,rfl⟩
         case measure=>simp [intOf];omega
       ·have hal':decide ((at_:Int)+k<rb.length)=false:=by simp;omega
        have hal2:¬(at_:Int)+k<rb.length:=by omega
        clear hgo;cases fb
        ·have HFT:Hid (Ft ls rb at_ s=false):=J (zfb HN.out (by omega) hak HFB.out.symm)
         have HNF:Hid (uF ls rb at_ (s+1)):=J fun t ht hn0 hf=>by
          by_cases e:t=s
          ·subst e
           rw [HN.out];first | omega | (rw [HFT.out] at hf;cases hf)
          ·exact HNO.out t (by omega) hn0 hf
         obtain ⟨pb,hpb⟩:=exq (qP ls rb at_ s);have HST:Hid (qP ls rb at_ (s+1)=(pb || false)):=J (by rw [x5,HFT.out,←hpb,decide_eq_true (show ln ls s≠0 by rw [HN.out];omega)];simp);rw [←hpb];clear hpb;cases pb;all_goals
          go_wp2;go_roundw;case rel=>exact ⟨s+1,_,by omega,by go_num,by rw [HST.out];rfl,HNF.out,rfl⟩
          case measure=>simp [intOf];omega
        ·have HFT:Hid (Ft ls rb at_ s=true):=J (zj1 HN.out (by omega) HFB.out.symm)
         have HNF:Hid (uF ls rb at_ (s+1)):=J fun t ht hn0 hf=>by
          by_cases e:t=s
          ·subst e
           rw [HN.out];first | omega | (rw [HFT.out] at hf;cases hf)
          ·exact HNO.out t (by omega) hn0 hf
         obtain ⟨pb,hpb⟩:=exq (qP ls rb at_ s);have HST:Hid (qP ls rb at_ (s+1)=(pb || true)):=J (by rw [x5,HFT.out,←hpb,decide_eq_true (show ln ls s≠0 by rw [HN.out];omega)];simp);rw [←hpb];clear hpb;cases pb;all_goals
          go_wp2;go_roundw;case rel=>exact ⟨s+1,_,by omega,by go_num,by rw [HST.out];rfl,HNF.out,rfl⟩
          case measure=>simp [intOf];omega
      ·have hkn':decide ((k:Int)<n)=false:=by simp;omega
       have hkn2:decide (k<n)=false:=by simp;omega
       have hke:k=n:=by omega
       subst hke;have hkk:((k:Int) == k)=true:=by simp
       clear hgo;cases fb
       ·have HFT:Hid (Ft ls rb at_ s=false):=J (zfb HN.out (by omega) hak HFB.out.symm)
        have HNF:Hid (uF ls rb at_ (s+1)):=J fun t ht hn0 hf=>by
         by_cases e:t=s
         ·subst e
          rw [HN.out];first | omega | (rw [HFT.out] at hf;cases hf)
         ·exact HNO.out t (by omega) hn0 hf
        obtain ⟨pb,hpb⟩:=exq (qP ls rb at_ s);have HST:Hid (qP ls rb at_ (s+1)=(pb || false)):=J (by rw [x5,HFT.out,←hpb,decide_eq_true (show ln ls s≠0 by rw [HN.out];omega)];simp);rw [←hpb];clear hpb;cases pb;all_goals
         go_wp2;go_roundw;case rel=>exact ⟨s+1,_,by omega,by go_num,by rw [HST.out];rfl,HNF.out,rfl⟩
         case measure=>simp [intOf];omega
       ·have HFT:Hid (Ft ls rb at_ s=true):=J (zj1 HN.out (by omega) HFB.out.symm)
        go_wp2;go_ret3
        exact ⟨.inl ⟨s,k,HN.out,by omega,HFT.out,hak,rfl⟩,_,rfl⟩
  ·have hs':s=ls.length:=by omega
   subst hs';obtain ⟨pb,hpb⟩:=exq (qP ls rb at_ ls.length);have HPB:=J hpb.symm;rw [←hpb];clear hpb;cases pb
   ·by_cases hend:rb.length≤at_
    ·have hend':(rb.length:Int)≤at_:=by omega
     go_wp2;go_ret3
     exact ⟨.inr (.inl ⟨HNO.out,.inr hend,rfl⟩),_,rfl⟩
    ·have hend':decide ((rb.length:Int)≤at_)=false:=by simp;omega
     have hend2:decide (rb.length≤at_)=false:=by simp;omega
     go_wp2;go_ret3
     exact ⟨.inr (.inr ⟨HPB.out,by omega,rfl⟩),_,rfl⟩
   ·go_wp2
    go_ret3
    exact ⟨.inr (.inl ⟨HNO.out,.inl HPB.out,rfl⟩),_,rfl⟩
end
section
open Go.RowKit
theorem zjQ {ls:List Nat}(H:Ok ls){s:Nat}(hs:ln ls s≠0):rv (ln ls s) (rv (ln ls s) (cd ls s))=cd ls s:=by
 rw [zgJ,Nat.mod_eq_of_lt (zjR H hs)]
theorem za0 (n X:Nat):rv n (X%2^n)=rv n X:=by
 apply Nat.eq_of_testBit_eq;intro i;rw [uM,uM,Nat.testBit_mod_two_pow];by_cases h:i<n
 ·simp [h,show n-1-i<n by omega]
 ·simp [h]
def zhd (ls:List Nat) (t:Nat × Nat) (s:Nat):Nat × Nat:=(t.1+rv (ln ls s) (cd ls s)*2^t.2,t.2+ln ls s)
def wl (ls:List Nat) (l:List Nat):Nat × Nat:=l.foldl (zhd ls) (0,0)
theorem zf0 {ls bs:List Nat}(H:Ok ls){s at_:Nat}(hs:ln ls s≠0) (h:num bs/2^at_%2^ln ls s=rv (ln ls s) (cd ls s)):Beg ls (ahead bs at_) s:=by
 refine ⟨hs,?_⟩;have hle:=z6 H s;unfold ahead;have h2:=Jy (ln ls s) (15-ln ls s) (pk bs at_ 15);rw [show ln ls s+(15-ln ls s)=15 by omega] at h2;rw [h2,←za0];unfold pk;rw [Nat.mod_mod_of_dvd _ (Nat.pow_dvd_pow 2 hle),h,zjQ H hs]
def vS (ls l:List Nat) (k:Nat):Nat:=((l.filter fun x=>decide (x<k)).map (ln ls)).sum
theorem zbM (ls l:List Nat) (k:Nat):vS ls l (k+1)=vS ls l k+l.count k*ln ls k:=by
 unfold vS;induction l with
 | nil=>simp
 | cons x r ih=>
  simp only [List.filter_cons,List.count_cons];by_cases h1:x<k
  ·simp [h1,show x<k+1 by omega,show ¬x=k by omega,ih];omega
  ·by_cases h2:x=k
   ·subst h2;simp [ih,Nat.add_mul];omega
   ·simp [h1,show ¬x<k+1 by omega,h2,ih]
theorem zd6 (ls l:List Nat) (N:Nat) (h:∀ x∈l,x<N):vS ls l N=(l.map (ln ls)).sum:=by
 unfold vS;rw [List.filter_eq_self.2 (fun x hx=>by simpa using h x hx)]
theorem zk8 (ls l:List Nat):(wl ls l).2=(l.map (ln ls)).sum:=by
 have key:∀ (l:List Nat) (t:Nat × Nat),(l.foldl (zhd ls) t).2=t.2+(l.map (ln ls)).sum:=by
  intro l;induction l with
  | nil=>intro t;simp
  | cons s r ih=>
   intro t;rw [List.foldl_cons,ih];simp only [zhd,List.map_cons,List.sum_cons];omega
 simpa [wl] using key l (0,0)
def cz (N:Nat) (l:List Nat):List Int:=(List.range N).map fun s=>((l.count s:Nat):Int)
theorem zlR (N:Nat) (l:List Nat) (s:Nat) (h:s<N):(cz N l).getD s 0=(l.count s:Nat):=by simp [cz,List.getD,h]
theorem zke (ls l:List Nat) (hl:l.length≤1000) (k:Nat) (hk:k≤ls.length):cst ls (cz ls.length l) k=vS ls l k:=by
 induction k with
 | zero=>
  have:l.filter (fun x=>decide (x<0))=[]:=by simp
  rw [cst,vS,this];rfl
 | succ k ih=>
  rw [cst,zbM,ih (by omega),zlR _ _ _ (by omega)];have hc:l.count k≤l.length:=List.count_le_length;by_cases h0:l.count k=0
  ·simp [h0]
  ·rw [if_pos ⟨by omega,by omega⟩,Int.toNat_natCast]
theorem jE {ls l:List Nat}(hl:l.length≤1000) (h:∀ x∈l,ln ls x≠0):cst ls (cz ls.length l) ls.length=(wl ls l).2:=by
 rw [zke ls l hl ls.length (Nat.le_refl _),zd6 ls l _ (fun x hx=>jA (h x hx)),zk8]
section
variable {B pw gc m sc:Nat}{so:Option Addr}{C:Array Value}{l:List Nat}{N n:Nat}{w wr w':World}
end
def qj (bs:List Nat) (k:Nat):List Nat:=(List.range k).map fun i=>num bs/2^i%2
theorem qQ (bs:List Nat) (k:Nat):(qj bs k).length=k:=by simp [qj]
theorem Js (bs:List Nat) (k i:Nat) (h:i<k):(qj bs k).getD i 0=num bs/2^i%2:=by simp [qj,List.getD,h]
theorem zbr (bs:List Nat) (k:Nat):qj bs (k+1)=qj bs k++[num bs/2^k%2]:=by simp [qj,List.range_succ]
theorem J7 (a b i j:Nat) (h:a.testBit i=b.testBit j):a/2^i%2=b/2^j%2:=by
 rw [Nat.testBit_eq_decide_div_mod_eq,Nat.testBit_eq_decide_div_mod_eq] at h;have h1:a/2^i%2=0∨a/2^i%2=1:=by omega
 have h2:b/2^j%2=0∨b/2^j%2=1:=by omega
 rcases h1 with h1 | h1 <;> rcases h2 with h2 | h2 <;> simp [h1,h2] at h ⊢
theorem ze8 {bs:List Nat}(hb:Bs bs) (i:Nat):bs.getD (i/8) 0/2^(i%8)%2=num bs/2^i%2:=by
 rw [jr hb,xr];have e:num bs/2^(8*(i/8))%256/2^(i%8)%2=num bs/2^(8*(i/8))/2^(i%8)%2:=by
  refine J7 _ _ _ _ ?_;rw [show (256:Nat)=2^8 from rfl,Nat.testBit_mod_two_pow];simp [show i%8<8 by omega]
 rw [e,Nat.div_div_eq_div_mul,←Nat.pow_add,show 8*(i/8)+i%8=i by omega]
theorem zfX (a b M:Nat):(∀ j,j<M→a/2^j%2=b/2^j%2)↔a%2^M=b%2^M:=by
 constructor
 ·intro h
  apply Nat.eq_of_testBit_eq;intro i;rw [Nat.testBit_mod_two_pow,Nat.testBit_mod_two_pow];by_cases hi:i<M
  ·rw [Nat.testBit_eq_decide_div_mod_eq,Nat.testBit_eq_decide_div_mod_eq,h i hi]
  ·simp [hi]
 ·intro h j hj
  refine J7 a b j j ?_;have:=congrArg (fun x=>x.testBit j) h;simpa [Nat.testBit_mod_two_pow,hj] using this
theorem zha (ls:List Nat) (s j:Nat) (h:j<ln ls s):(cb ls s).getD j 0=rv (ln ls s) (cd ls s)/2^j%2:=by
 rw [zlU ls s j h];refine J7 _ _ _ _ ?_;rw [uM];simp [h]
theorem zao {ls bs:List Nat}{L at_ s:Nat}(hL:8*bs.length=L) (hat:at_≤L) :
  Ft ls (qj bs L) at_ s=true↔rv (ln ls s) (cd ls s)%2^min (ln ls s) (L-at_)=num bs/2^at_%2^min (ln ls s) (L-at_):=by
 unfold Ft eqs;rw [qQ,decide_eq_true_iff,←zfX];constructor
 ·intro h j hj
  have:=h j hj;rw [zha ls s j (by omega),Js _ _ _ (by omega)] at this;rw [this,Nat.div_div_eq_div_mul,←Nat.pow_add]
 ·intro h j hj
  have:=h j hj;rw [zha ls s j (by omega),Js _ _ _ (by omega),this,Nat.div_div_eq_div_mul,←Nat.pow_add]
theorem zcw (M k y:Nat) (h:y<2^M):rv (M+k) y=rv M y*2^k:=by
 induction k with
 | zero=>simp
 | succ k ih=>
  rw [←Nat.add_assoc,rv,ih,Nat.div_eq_of_lt (Nat.lt_of_lt_of_le h (Nat.pow_le_pow_right (by omega) (by omega))),Nat.pow_succ,Nat.mul_assoc,Nat.zero_mod,Nat.add_zero]
theorem zlb (M V:Nat) (hM:M≤15):rv 15 (V%2^M)≤rv 15 V:=by
 have h1:=zcw M (15-M) (V%2^M) (Nat.mod_lt _ (Nat.two_pow_pos M));rw [show M+(15-M)=15 by omega,za0] at h1;have h2:=Jy M (15-M) V;rw [show M+(15-M)=15 by omega] at h2;rw [h1,←h2];exact Nat.div_mul_le_self _ _
theorem zhv {bs:List Nat}(hb:Bs bs){L at_:Nat}(hL:8*bs.length=L) (hat:at_≤L):num bs/2^at_<2^(L-at_):=by
 have h:=uD hb;rw [xr,hL,show L=at_+(L-at_) by omega,Nat.pow_add] at h;exact Nat.div_lt_of_lt_mul h
theorem zfl {ls bs:List Nat}(H:Ok ls){L at_ s:Nat}(hL:8*bs.length=L) (hat:at_≤L) (hs:ln ls s≠0) (hf:Ft ls (qj bs L) at_ s=true) (hle:at_+ln ls s≤L):Beg ls (ahead bs at_) s:=by
 rw [zao hL hat,Nat.min_eq_left (by omega),Nat.mod_eq_of_lt (ve _ _)] at hf;exact zf0 H hs hf.symm
theorem UK {ls bs:List Nat}(H:Ok ls){L at_ s:Nat}(hL:8*bs.length=L) (hat:at_≤L) (hb:Beg ls (ahead bs at_) s):Ft ls (qj bs L) at_ s=true:=by
 rw [zao hL hat];have hle:=z6 H s;have h1:num bs/2^at_%2^ln ls s=rv (ln ls s) (cd ls s):=by
  have h2:=hb.2;unfold ahead at h2;have h3:=Jy (ln ls s) (15-ln ls s) (pk bs at_ 15);rw [show ln ls s+(15-ln ls s)=15 by omega,h2] at h3;rw [h3,zgJ];unfold pk;rw [Nat.mod_mod_of_dvd _ (Nat.pow_dvd_pow 2 hle)]
 rw [←h1,Nat.mod_mod_of_dvd _ (Nat.pow_dvd_pow 2 (Nat.min_le_left _ _))]
theorem zdI {ls bs:List Nat}(H:Ok ls) (hb:Bs bs){L at_ s:Nat}(hL:8*bs.length=L) (hat:at_≤L) (hs:ln ls s≠0) (hf:Ft ls (qj bs L) at_ s=true) (hlong:L<at_+ln ls s):ahead bs at_<room ls:=by
 rw [zao hL hat,Nat.min_eq_right (by omega),Nat.mod_eq_of_lt (zhv hb hL hat)] at hf;have hle:=z6 H s;have hA:ahead bs at_≤rv 15 (rv (ln ls s) (cd ls s)):=by
  unfold ahead pk;rw [za0,←hf];exact zlb _ _ (by omega)
 have hlo:rv 15 (rv (ln ls s) (cd ls s))=lo ls s:=by
  have h1:=zcw (ln ls s) (15-ln ls s) (rv (ln ls s) (cd ls s)) (ve _ _);rw [show ln ls s+(15-ln ls s)=15 by omega,zjQ H hs] at h1;exact h1
 have h2:=zl1 ls s;have h3:=QK H hs;omega
theorem KJ (ls rb:List Nat) (at_ k:Nat):qP ls rb at_ k=true↔∃ t,t<k∧ln ls t≠0∧Ft ls rb at_ t=true:=by
 simp [qP]
end
variable {bs:List Nat}{lim:Nat}
theorem xn {n:Nat}{s t:Sta}{v:Nat}(h:rdN bs n s=.ok v t):s.at_+n≤8*bs.length∧v=pk bs s.at_ n∧t={ s with at_:=s.at_+n }:=by
 unfold rdN at h;split at h
 ·cases h;exact ⟨by assumption,rfl,rfl⟩
 ·cases h
theorem qd (n:Nat):Pr (8*bs.length) lim (rdN bs n):=by
 intro s a t hs h;obtain ⟨h1,_,rfl⟩:=xn h;exact Le.to (Nat.le_add_right _ _) h1
theorem jR {ls:List Nat}{A y:Nat}(h:yH ls A=some y):Beg ls A y:=by
 have:=List.find?_some h;rw [decide_eq_true_iff] at this;exact this
theorem zam {ls:List Nat}{A:Nat}(h:yH ls A=none) (y:Nat):¬Beg ls A y:=by
 intro hb;have hlt:=jA hb.1;have:=List.find?_eq_none.1 h y (List.mem_range.2 hlt);exact this (by rw [decide_eq_true_iff];exact hb)
theorem kq {ls:List Nat}(H:Ok ls){A y:Nat}(h:Beg ls A y):yH ls A=some y:=by
 cases hf:yH ls A with
 | none=>exact absurd h (zam hf y)
 | some z=>rw [Qo H h (jR hf)]
theorem xU {ls:List Nat}{s t:Sta}{y:Nat}(h:rdS bs ls s=.ok y t) :
  Beg ls (ahead bs s.at_) y∧1≤ln ls y∧s.at_+ln ls y≤8*bs.length∧t={ s with at_:=s.at_+ln ls y }:=by
 unfold rdS at h;split at h
 ·cases h
 ·split at h
  ·cases h
  ·rename_i y' hf
   have hb:=jR hf;split at h
   ·cases h
    exact ⟨hb,Nat.one_le_iff_ne_zero.2 hb.1,by assumption,rfl⟩
   ·cases h
theorem J9 (ls:List Nat):Pr (8*bs.length) lim (rdS bs ls):=by
 intro s a t hs h;obtain ⟨_,h1,h2,rfl⟩:=xU h;exact Le.to (Nat.le_add_right _ _) h2
theorem yU (o:Option (Nat × Nat)):Pr (8*bs.length) lim (grown bs o):=by
 intro s a t hs h;cases o with
 | none=>cases h
 | some x=>
  obtain ⟨v,s',h1,h2⟩:=Res.bind_is h;cases h2;exact qd _ _ _ _ hs h1
theorem xw (far n:Nat):∀ l,(back far n l).length=l.length+n:=by
 induction n with
 | zero=>intro l;rfl
 | succ n ih=>intro l;rw [back,ih];simp;omega
theorem yR {l:List Nat}(h:Bs l) (i:Nat):l.getD i 0<256:=by
 rw [List.getD_eq_getElem?_getD];rcases Nat.lt_or_ge i l.length with hi | hi
 ·rw [List.getElem?_eq_getElem hi];exact h _ (List.getElem_mem hi)
 ·rw [List.getElem?_eq_none hi];exact Nat.zero_lt_succ _
theorem yZ {l:List Nat}(h:Bs l){x:Nat}(hx:x<256):Bs (l++[x]):=by
 intro y hy;rcases List.mem_append.1 hy with hy | hy
 ·exact h y hy
 ·rw [List.mem_singleton.1 hy];exact hx
theorem ziY (far n:Nat):∀ l,Bs l→Bs (back far n l):=by
 induction n with
 | zero=>intro l h;exact h
 | succ n ih=>intro l h;rw [back];exact ih _ (yZ h (yR h _))
theorem JO (ol:List Nat) (y:Nat):Pr (8*bs.length) lim (again bs lim ol y):=by
 intro s a t hs h;obtain ⟨n,s1,h1,h⟩:=Res.bind_is h;obtain ⟨d,s2,h2,h⟩:=Res.bind_is h;obtain ⟨far,s3,h3,h⟩:=Res.bind_is h;have k1:=yU (lim:=lim) _ _ _ _ hs h1;have k2:=J9 (lim:=lim) _ _ _ _ k1.end_ h2;have k3:=yU (lim:=lim) _ _ _ _ k2.end_ h3;refine (k1.trans (k2.trans k3)).trans ?_;split at h
 ·cases h
 ·split at h
  ·cases h
  ·cases h
   refine ⟨Nat.le_refl _,k3.end_,?_,fun _=>?_,Nat.le_refl _,Nat.le_refl _,ziY _ _ _⟩
   ·show _≤(back _ _ _).length;rw [xw];omega
   ·show (back _ _ _).length≤_;rw [xw];omega
theorem Qw (fl ol:List Nat){u:Unit}{s t:Sta}{x:Bool × Unit}(_hs:s.at_≤8*bs.length) (h:zan bs lim fl ol u s=.ok x t):s.at_<t.at_∧Le (8*bs.length) lim s t:=by
 obtain ⟨y,s1,h1,h⟩:=Res.bind_is h;obtain ⟨_,k1,k2,rfl⟩:=xU h1;have kt:Le (8*bs.length) lim s { s with at_:=s.at_+ln fl y,steps:=s.steps+1 }:=
  ⟨Nat.le_add_right _ _,k2,Nat.le_refl _,id,by show s.steps+1+s.at_≤s.steps+(s.at_+ln fl y);omega,by show s.blocks+s.at_≤s.blocks+(s.at_+ln fl y);omega,id⟩
 split at h
 ·split at h
  ·cases h
  ·cases h
   refine ⟨by show s.at_<s.at_+ln fl y;omega,kt.trans ⟨Nat.le_refl _,k2,?_,fun _=>?_,Nat.le_refl _,Nat.le_refl _,fun hb=>yZ hb (by assumption)⟩⟩
   ·show _≤(_++_:List Nat).length;simp
   ·show (_++_:List Nat).length≤_;simp at *;omega
 ·split at h
  ·cases h
   exact ⟨by show s.at_<s.at_+ln fl y;omega,kt⟩
  ·obtain ⟨_,s2,h2,h⟩:=Res.bind_is h
   cases h;have k3:=JO ol y _ _ _ k2 h2;have:=k3.at_;exact ⟨by simp at this;omega,kt.trans k3⟩
theorem yt (fl ol:List Nat):vg (8*bs.length) (zan bs lim fl ol):=fun _ _ _ _ hs h=>⟨(Qw fl ol hs h).1,(Qw fl ol hs h).2.end_⟩
theorem zh4 (fl ol:List Nat) (u:Unit):Pr (8*bs.length) lim (zan bs lim fl ol u):=fun _ _ _ hs h=>(Qw fl ol hs h).2
theorem vv (fl ol:List Nat):Pr (8*bs.length) lim (xF bs lim fl ol):=Pr.run (yt fl ol) (zh4 fl ol) ()
theorem zaH (n:Nat):n≤up8 n:=by unfold up8;omega
theorem vB {n L:Nat}(h:n≤8*L):up8 n≤8*L:=by unfold up8;omega
theorem zgD {l:List Nat}(h:Bs l) (a b:Nat):Bs ((l.drop a).take b):=fun x hx=>h x (List.mem_of_mem_drop (List.mem_of_mem_take hx))
theorem KA (hb:Bs bs):Pr (8*bs.length) lim (stored bs lim):=by
 intro s a t hs h;obtain ⟨n,s1,h1,h⟩:=Res.bind_is h;obtain ⟨m,s2,h2,h⟩:=Res.bind_is h;have k0:Le (8*bs.length) lim s { s with at_:=up8 s.at_ }:=Le.to (zaH _) (vB hs);have k1:=qd (lim:=lim) _ _ _ _ k0.end_ h1;have k2:=qd (lim:=lim) _ _ _ _ k1.end_ h2;refine (k0.trans (k1.trans k2)).trans ?_;split at h
 ·cases h
 ·split at h
  ·cases h
  ·split at h
   ·cases h
   ·cases h
    have hlen:((bs.drop (s2.at_/8)).take n).length≤n:=List.length_take_le _ _;refine ⟨by show _≤s2.at_+8*n;omega,by show s2.at_+8*n≤_;omega,?_,fun _=>?_,by show s2.steps+n+s2.at_≤s2.steps+(s2.at_+8*n);omega,by show s2.blocks+s2.at_≤s2.blocks+(s2.at_+8*n);omega,fun hq=>?_⟩
    ·show _≤(_++_:List Nat).length;simp
    ·show (_++_:List Nat).length≤_;rw [List.length_append];omega
    ·intro x hx
     rcases List.mem_append.1 hx with hx | hx
     ·exact hq x hx
     ·exact zgD hb _ _ x hx
theorem zaB (own:List Nat){s t:Sta}{x:Nat × Nat}(hs:s.at_≤8*bs.length) (h:itm bs own s=.ok x t):s.at_<t.at_∧Le (8*bs.length) lim s t:=by
 obtain ⟨y,s1,h1,h⟩:=Res.bind_is h;have k1:=J9 (lim:=lim) _ _ _ _ hs h1;obtain ⟨_,k2,_,rfl⟩:=xU h1;split at h
 ·obtain ⟨v,s2,h2,h⟩:=Res.bind_is h
  cases h;have k3:=qd (lim:=lim) _ _ _ _ k1.end_ h2;have:=k3.at_;exact ⟨by simp at this;omega,k1.trans k3⟩
 ·cases h
  exact ⟨by show s.at_<s.at_+ln own y;omega,k1⟩
theorem Xd (own:List Nat) (n:Nat){row:List Nat}{s t:Sta}{x:Bool × List Nat}(hs:s.at_≤8*bs.length) (h:yx bs own n row s=.ok x t):s.at_<t.at_∧Le (8*bs.length) lim s t:=by
 obtain ⟨y,s1,h1,h⟩:=Res.bind_is h;have k:=zaB (lim:=lim) own hs h1;split at h
 ·cases h
 ·split at h
  ·cases h
  ·cases h
   exact k
theorem xS (own:List Nat) (n:Nat):vg (8*bs.length) (yx bs own n):=fun _ _ _ _ hs h=>⟨(Xd (lim:=0) own n hs h).1,(Xd (lim:=0) own n hs h).2.end_⟩
theorem zcs (own:List Nat) (n:Nat):Pr (8*bs.length) lim (lens bs own n):=Pr.run (xS own n) (fun _ _ _ _ hs h=>(Xd own n hs h).2) []
theorem zgl (k:Nat):∀ l,Pr (8*bs.length) lim (rdO bs k l):=by
 induction k with
 | zero=>intro l s a t hs h;cases h;exact Le.refl _ hs
 | succ k ih=>
  intro l s a t hs h;obtain ⟨v,s1,h1,h⟩:=Res.bind_is h;have k1:=qd (lim:=lim) _ _ _ _ hs h1;exact k1.trans (ih _ _ _ _ k1.end_ h)
theorem yT:Pr (8*bs.length) lim (kn bs):=by
 intro s a t hs h;obtain ⟨l,s1,h1,h⟩:=Res.bind_is h;obtain ⟨d,s2,h2,h⟩:=Res.bind_is h;obtain ⟨c,s3,h3,h⟩:=Res.bind_is h;have k1:=qd (lim:=lim) _ _ _ _ hs h1;have k2:=qd (lim:=lim) _ _ _ _ k1.end_ h2;have k3:=qd (lim:=lim) _ _ _ _ k2.end_ h3;split at h
 ·cases h
 ·obtain ⟨o,s4,h4,h⟩:=Res.bind_is h
  have k4:=zgl (lim:=lim) _ _ _ _ _ k3.end_ h4;split at h
  ·cases h
  ·obtain ⟨row,s5,h5,h⟩:=Res.bind_is h
   have k5:=zcs (lim:=lim) _ _ _ _ _ k4.end_ h5;split at h
   ·cases h
   ·split at h
    ·cases h
     exact k1.trans (k2.trans (k3.trans (k4.trans k5)))
    ·cases h
theorem zgP (hb:Bs bs):Pr (8*bs.length) lim (blk bs lim):=by
 intro s a t hs h;obtain ⟨k,s1,h1,h⟩:=Res.bind_is h;have k1:=qd (lim:=lim) _ _ _ _ hs h1;refine k1.trans ?_;split at h
 ·exact KA hb _ _ _ k1.end_ h
 ·split at h
  ·exact vv _ _ _ _ _ k1.end_ h
  ·split at h
   ·obtain ⟨c,s2,h2,h⟩:=Res.bind_is h
    have k2:=yT (lim:=lim) _ _ _ k1.end_ h2;exact k2.trans (vv _ _ _ _ _ k2.end_ h)
   ·cases h
theorem zcF (hb:Bs bs){u:Unit}{s t:Sta}{x:Bool × Unit}(hs:s.at_≤8*bs.length) (h:xJ bs lim u s=.ok x t):s.at_<t.at_∧Le (8*bs.length) lim s t∧1≤t.blocks:=by
 obtain ⟨l,s1,h1,h⟩:=Res.bind_is h;obtain ⟨u2,s2,h2,h⟩:=Res.bind_is h;have k1:=qd (lim:=lim) _ _ _ _ hs h1;obtain ⟨h3,_,h4⟩:=xn h1;have k2:=zgP hb _ _ _ k1.end_ h2;have e1:s1.at_=s.at_+1:=by rw [h4]
 have e2:s1.blocks=s.blocks:=by rw [h4]
 cases h;have:=k2.at_;have:=k2.blocks;have k:=k1.trans k2;refine ⟨by show s.at_<s2.at_;omega,⟨k.at_,k.end_,k.out,k.lim_,k.steps,?_,k.bytes⟩,by show 1≤s2.blocks+1;omega⟩;show s2.blocks+1+s.at_≤s.blocks+s2.at_;omega
theorem xp (hb:Bs bs):vg (8*bs.length) (xJ bs lim):=fun _ _ _ _ hs h=>⟨(zcF hb hs h).1,(zcF hb hs h).2.1.end_⟩
section
variable {lo_:Nat}(hl:lo_≤lim)
include hl
end
section
open Go.Lib renaming hid → J
open Go.RowKit
abbrev pan (er:Nat):Ending:=.panicked [{ v:=.iface 68 (.int .i64 (er:Nat)),recovered:=false }]
theorem zE (er:Int) (w:World):Calls prog 60 #[.bool true,.int .i64 er] w fun e w'=>e=.returned (.tuple #[])∧w=w':=by
 go_enter func60,ntmps60;go_wp2;go_end0;exact ⟨rfl,rfl⟩
theorem qa (er:Nat) (w:World):Calls prog 60 #[.bool false,.int .i64 (er:Nat)] w fun e w'=>e=pan er∧w=w':=by
 go_enter func60,ntmps60;go_wp2;exact ⟨rfl,rfl,rfl⟩
theorem Xs (n:Nat) (w:World) (h:n≤10000000000):Calls prog 22 #[.int .i64 n] w fun e w'=>e=.returned (.int .i64 ((n+7)/8:Nat))∧w=w':=by
 go_enter func22,ntmps22;go_wp2;go_ret;exact ⟨by simp,rfl⟩
theorem Kt (s g:Nat) (w:World) (h:s<g):Calls prog 118 #[.int .i64 s,.int .i64 g] w fun e w'=>e=.returned (.tuple #[.int .i64 s,.int .i64 0])∧w=w':=by
 go_enter func118,ntmps118;go_wp2;go_ret2
 exact ⟨rfl,rfl⟩
theorem Ks (s g e v:Nat) (w:World) (h:g≤s) (hg:1≤g) (hs:s≤100) (he:s/g=e+1) (he':e≤20) (hv:(g+s%g)*2^e=v) (hv':v≤1000000):Calls prog 118 #[.int .i64 s,.int .i64 g] w fun e' w'=>e' = .returned (.tuple #[.int .i64 v,.int .i64 e])∧w=w':=by
 have h1:¬((g:Int)=0):=by omega
 have h2:(s:Int)/g=(e:Int)+1:=by rw [←Int.natCast_ediv];omega
 obtain ⟨m,hm⟩:=exq (s%g);have h3:(s:Int)%g=(m:Int):=by rw [hm];simp
 have h4:((g:Int)+m)*2^e=v:=by rw [←hv,hm];simp
 have hmg:m<g:=by rw [hm];exact Nat.mod_lt _ hg
 have H4:=J h4;have h5:s<100000:=by omega
 clear hv hm;go_enter func118,ntmps118;go_wp2;go_ret2
 exact ⟨rfl,rfl⟩
def tells:Option (Nat × Nat)→Value
 | none => .tuple #[.int .i64 0,.int .i64 0,.bool false]
 | some x => .tuple #[.int .i64 (x.1:Nat),.int .i64 (x.2:Nat),.bool true]
theorem ug (k g e:Nat) (hg:g≤4) (hg0:1≤g) (he:e≤14):(g+k%g)*2^e≤1000000:=by
 have h1:k%g<g:=Nat.mod_lt _ hg0;have h2:2^e≤2^14:=Nat.pow_le_pow_right (by omega) he;exact Nat.le_trans (Nat.mul_le_mul (show g+k%g≤8 by omega) h2) (by decide)
theorem zdj (y:Int) (w:World) (h:y<257∨285<y):Calls prog 76 #[.int .i64 y] w fun e w'=>e=.returned (tells none)∧w=w':=by
 by_cases h1:y<257
 ·clear h
  go_enter func76,ntmps76;go_wp2;go_ret3
  exact ⟨rfl,rfl⟩
 ·have h2:285<y:=by omega
  clear h;go_enter func76,ntmps76;go_wp2;go_ret3
  exact ⟨rfl,rfl⟩
theorem yu (y:Nat) (w:World):Calls prog 76 #[.int .i64 y] w fun e w'=>e=.returned (tells (lenOf y))∧w=w':=by
 by_cases h:y<257∨285<y
 ·unfold lenOf
  rw [if_pos h];exact zdj y w (by omega)
 ·have ha:¬(y:Int)<257:=by omega
  have hb:¬(285:Int)<y:=by omega
  have hc:(257:Int)≤y:=by omega
  have hd:(y:Int)≤285:=by omega
  by_cases h1:y=285
  ·subst h1
   go_enter func76,ntmps76;go_wp2;go_ret3
   exact ⟨rfl,rfl⟩
  ·have e1:((y:Int) == 285)=false:=by simp;omega
   obtain ⟨k,hk⟩:∃ k,y=k+257:=⟨y-257,by omega⟩;have e2:(y:Int)-257=(k:Nat):=by omega
   by_cases h2:y<261
   ·have hr:lenOf y=some (3+k,0):=by unfold lenOf;rw [if_neg h,if_neg h1,if_pos h2,show y-254=3+k by omega]
    have HR:=J hr;have hk4:k<4:=by omega
    rw [hr];clear hr h hk;go_enter func76,ntmps76;go_wp2_with (go_at_call 118;(refine (Kt k 4 _ hk4).mono ?_);rintro e w2 ⟨rfl,rfl⟩);go_ret3
    exact ⟨rfl,rfl⟩
   ·obtain ⟨e,he⟩:=exq (k/4-1)
    obtain ⟨v,hv⟩:∃ v,(4+k%4)*2^e=v:=⟨_,rfl⟩;have hvb:=ug k 4 e (by omega) (by omega) (by omega);rw [hv] at hvb;have hr:lenOf y=some (3+v,e):=by
     unfold lenOf;rw [if_neg h,if_neg h1,if_neg h2,show y-257=k by omega,←he,hv]
    rw [hr];have HV:=J hv;have hk4:4≤k:=by omega
    have hk5:k≤100:=by omega
    have hke:k/4=e+1:=by omega
    have he5:e≤20:=by omega
    have HKE:=J hke;clear hr h hk hv he hke;go_enter func76,ntmps76;go_wp2_with (go_at_call 118;(refine (Ks k 4 e v _ hk4 (by omega) hk5 HKE.out he5 HV.out hvb).mono ?_);rintro e w2 ⟨rfl,rfl⟩);go_ret3
    exact ⟨rfl,rfl⟩
theorem X7 (y:Int) (w:World) (h:y<0∨29<y):Calls prog 77 #[.int .i64 y] w fun e w'=>e=.returned (tells none)∧w=w':=by
 by_cases h1:y<0
 ·clear h
  go_enter func77,ntmps77;go_wp2;go_ret3
  exact ⟨rfl,rfl⟩
 ·have h2:29<y:=by omega
  clear h;go_enter func77,ntmps77;go_wp2;go_ret3
  exact ⟨rfl,rfl⟩
theorem jP (y:Nat) (w:World):Calls prog 77 #[.int .i64 y] w fun e w'=>e=.returned (tells (xu y))∧w=w':=by
 by_cases h:29<y
 ·unfold xu
  rw [if_pos h];exact X7 y w (by omega)
 ·have ha:¬(y:Int)<0:=by omega
  have hb:¬(29:Int)<y:=by omega
  have hc:(0:Int)≤y:=by omega
  have hd:(y:Int)≤29:=by omega
  by_cases h2:y<2
  ·have hr:xu y=some (1+y,0):=by unfold xu;rw [if_neg h,if_pos h2]
   rw [hr];clear hr h;go_enter func77,ntmps77;go_wp2_with (go_at_call 118;(refine (Kt y 2 _ h2).mono ?_);rintro e w2 ⟨rfl,rfl⟩);go_ret3
   exact ⟨rfl,rfl⟩
  ·obtain ⟨e,he⟩:=exq (y/2-1)
   obtain ⟨v,hv⟩:∃ v,(2+y%2)*2^e=v:=⟨_,rfl⟩;have hvb:=ug y 2 e (by omega) (by omega) (by omega);rw [hv] at hvb;have hr:xu y=some (1+v,e):=by
    unfold xu;rw [if_neg h,if_neg h2,←he,hv]
   rw [hr];have HV:=J hv;have hk4:2≤y:=by omega
   have hk5:y≤100:=by omega
   have hke:y/2=e+1:=by omega
   have he5:e≤20:=by omega
   have HKE:=J hke;clear hr h hv he hke;go_enter func77,ntmps77;go_wp2_with (go_at_call 118;(refine (Ks y 2 e v _ hk4 (by omega) hk5 HKE.out he5 HV.out hvb).mono ?_);rintro e w2 ⟨rfl,rfl⟩);go_ret3
   exact ⟨rfl,rfl⟩
end
end Go.Proofs.YtacpfpghokcdlaaGreatDoor
