/- Part 8. -/
import Derived.Laws.Closers25b
import Derived.Lib.OthersKept
import Derived.ScopeJumps
import Derived.Test.YtbogfailbgbdoaaGreatDoorXB7
set_option linter.unusedVariables false
set_option linter.unusedSimpArgs false
namespace Go.Proofs.YtbogfailbgbdoaaGreatDoor.K
set_option maxRecDepth 100000
section
open Go.RowKit Go.Proofs.YtbogfailbgbdoaaGreatDoor U Go.Maps
def NewNx (p:Nat) (w:World) (e:Ending) (w':World):Prop:=
 e = .returned (.func (.func 138) #[] #[.pointer (some ⟨w.heap.size,0,none⟩),.pointer (some ⟨w.heap.size+2,0,none⟩)])∧Nx w' p w.heap.size (w.heap.size+2) (w.heap.size+1) 0 [] (.map [])∧Below w.heap.size w w'
theorem newNx_any (p:Nat) (w:World) (hp:p<w.heap.size) (h7:7≤w.heap.size):Calls Tryz.prog 121 #[.pointer (some ⟨p,0,none⟩)] w (NewNx p w):=by
 have hmm := @run_makeMap Tryz.prog
 have hmf:∀ (fn:Fn) (first cap:Array Value) (w:World),(Instr.makeFunc fn first cap).run Tryz.prog w = .ok (.func fn first cap) w:=fun _ _ _ _=>rfl
 go_enter Tryz.func121,Tryz.ntmps121
 go_wp2
 go_ret
 have e1:(w.alloc (.cells #[.pointer (some ⟨p,0,none⟩)] 49)).heap.size=w.heap.size+1:=alloc_size _ _
 have e2:((w.alloc (.cells #[.pointer (some ⟨p,0,none⟩)] 49)).alloc (.map #[] 0)).heap.size=w.heap.size+2:=by rw [alloc_size,e1]
 have b1:=lit_below w (.cells #[.pointer (some ⟨p,0,none⟩)] 49)
 have b2:=lit_below (w.alloc (.cells #[.pointer (some ⟨p,0,none⟩)] 49)) (.map #[] 0)
 have b3:=lit_below ((w.alloc (.cells #[.pointer (some ⟨p,0,none⟩)] 49)).alloc (.map #[] 0)) (.cells #[.map (some (w.heap.size+1))] 151)
 refine ⟨rfl,⟨((Blk.made _ _ _).below b2).below b3,?_,?_,Seen.start,by omega,by omega,by omega,by omega,by omega,by omega,by omega⟩,b1.trans ((b2.trans (b3.mono b2.size)).mono b1.size)⟩
 ·have:=Blk.made ((w.alloc (.cells #[.pointer (some ⟨p,0,none⟩)] 49)).alloc (.map #[] 0)) 151 #[.map (some (w.heap.size+1))]
  rwa [e2] at this
 ·have:=World.ownsMap_made (H:=Unit) (w.alloc (.cells #[.pointer (some ⟨p,0,none⟩)] 49)) Tryz.prog 9 (unitElem (H:=Unit))
  rw [e1] at this
  exact owns_touch (S:=fun _=>False) this (Touch.of_below b3) (fun h=>h)
def atc (l:List At):List Value:=l.flatMap atV
theorem atc_app (a b:List At):atc (a++b)=atc a++atc b:=by simp [atc]
theorem atc_one (a:At):atc [a]=atV a:=by simp [atc]
theorem atc_len (l:List At):(atc l).length=l.length*2:=by
 induction l with
 | nil=>rfl
 | cons x r ih=>simp only [atc,List.flatMap_cons,List.length_append,atV,List.length_cons,List.length_nil] at ih ⊢;rw [ih];omega
theorem atV_one (a:At):∀ u∈atV a,u.oneCell'=true:=by
 intro u hu
 simp [atV] at hu
 rcases hu with rfl | rfl <;> rfl
theorem at42:AT 42 46 (.agg #[.string ⟨#[]⟩,.string ⟨#[]⟩]) 2 32:=⟨by kernel_rfl,by kernel_rfl,rfl,by omega⟩
theorem cells_two (w:World) (e:TypeId) (u v:Value):CellsAt (w.alloc (.cells #[u,v] e)) (.slice (some ⟨w.heap.size,0,none⟩) 1 1) 1 [u,v]:=by
 refine .inr ⟨_,_,rfl,fun j x hx=>?_⟩
 have hj:j=0∨j=1:=by
  have:=(List.getElem?_eq_some_iff.1 hx).1
  simp at this;omega
 rw [Addr.add_lit,World.cell?_alloc_at _ _ _ _ rfl]
 rcases hj with rfl | rfl <;> simpa using hx
def AtSt (RES:Except Nat (List At × Nat)) (xs:List Nat) (k:Nat) (acc:List At) (k1:Nat):Option At→Prop
 | none=>RES = .ok (acc,k1-k)
 | some a=>RES=(if 256<acc.length+1 then .error 14 else match atA (acc++[a]) (xs.drop k1) with
  | .error e => .error e
  | .ok (l,m) => .ok (l,(k1-k)+m))
def AtsTo (p:Nat) (ao:Option Addr) (c:Nat) (xs:List Nat) (bg k:Nat) (r:Except Nat (List At × Nat)) (w:World) (e:Ending) (w':World):Prop:=
 Touch (fun i=>i=p) w w'∧match r with
  | .error er=>e=kpan er∧∃ k',Scn w' p ao c xs bg k'
  | .ok (l,m)=>∃ a cc,e = .returned (.slice a l.length cc)∧w'.ownsRow w.heap.size 46 2 (.slice a l.length cc) l.length (atc l)∧Scn w' p ao c xs bg (k+m)∧(∀ y∈l,Bs y.1∧Bs y.2)∧l.length≤256
def isS:Option At→Bool
 | none=>false
 | some _=>true
def pnd:Option At→List At
 | none=>[]
 | some a=>[a]
structure ASt (RES:Except Nat (List At × Nat)) (w wr:World) (p:Nat) (ao:Option Addr) (c:Nat) (xs:List Nat) (bg k q1 q2 mb:Nat) (acc:List At) (k1:Nat) (po:Option At) (sv:Value) (b5:Nat) (x0 x1:Value):Prop where
 own:wr.ownsRow w.heap.size 46 2 sv acc.length (atc acc)
 scn:Scn wr p ao c xs bg k1
 nxt:isS po=true→∃ D,Nx wr p q1 q2 mb (acc.length+(pnd po).length) ((acc++pnd po).map Prod.fst) D
 tch:Touch (fun i=>i=p) w wr
 ge:k≤k1
 st:AtSt RES xs k acc k1 po
 bss:∀ y∈acc++pnd po,Bs y.1∧Bs y.2
 len:acc.length≤256
 blk:Blk wr b5 46 #[x0,x1]
 val:∀ a,po=some a→x0 = .string (txt a.1)∧x1 = .string (txt a.2)
 b5ge:w.heap.size≤b5
 mbge:w.heap.size≤mb
 b5mb:b5≠mb
 b5own:sv.ownBlock≠some b5
theorem Touch.of_low {B:Nat} {a b:World} (h:Below B a b):Touch (fun i=>B≤i) a b:=⟨h.os,h.tape,h.output,h.size,fun k _ hs=>h.block k (by omega)⟩
theorem Scn.lowb {w W W':World} {p:Nat} {ao:Option Addr} {c:Nat} {xs:List Nat} {bg k k1:Nat} (h0:Scn w p ao c xs bg k) (h:Scn W p ao c xs bg k1) (hb:Below w.heap.size W W'):Scn W' p ao c xs bg k1:=
 h.touch (Touch.of_low hb) (by have:=h0.lt;omega) (fun i hi=>by have:=h0.tt.size;omega) (fun ad e hne hS=>by
  obtain ⟨v,hv⟩:=h0.src_lt ad e hne
  have:=World.block_lt_of_cell? w _ hv
  simp only at this
  omega)
theorem own_cells {w:World} {base e n:Nat} {v:Value} {xs:List Value} {sz:Nat} (h:w.ownsRow base e sz v n xs) {g:Nat} (hg:v.ownBlock=some g):∃ cur,w.heap[g]? = some (.cells cur e (0,0)):=by
 rcases h.2 with ⟨rfl,_⟩ | ⟨g',cap,cur,rfl,hb,hh,_⟩
 ·simp [Value.ownBlock] at hg
 ·simp [Value.ownBlock] at hg
  subst hg
  exact ⟨cur,hh⟩
theorem Nx.apd {w w':World} {p q1 q2 mb n base:Nat} {keys:List (List Nat)} {D:DataW Unit} {sv:Value} {m:Nat} {ys:List Value} (h:Nx w p q1 q2 mb n keys D) (ho:w.ownsRow base 46 2 sv m ys) (ht:Touch (fun k=>sv.ownBlock=some k) w w'):Nx w' p q1 q2 mb n keys D:=by
 refine ⟨h.b1.touch ht fun e=>?_,h.b2.touch ht fun e=>?_,owns_touch h.own ht fun e=>?_,h.seen,h.n1,h.n2,h.n3,h.n4,h.n5,h.le,h.low⟩
 ·obtain ⟨cur,hc⟩:=own_cells ho e
  have:=h.b1
  rw [Blk,hc] at this
  simp at this
 ·obtain ⟨cur,hc⟩:=own_cells ho e
  have:=h.b2
  rw [Blk,hc] at this
  simp at this
 ·obtain ⟨cur,hc⟩:=own_cells ho e
  obtain ⟨es,clock,hk,_⟩:=h.own
  rw [hc] at hk
  cases hk
theorem own_mb {w:World} {base:Nat} {sv:Value} {m:Nat} {ys:List Value} {mb n:Nat} {D:DataW Unit} (ho:w.ownsRow base 46 2 sv m ys) (h:w.ownsMap Tryz.prog 9 unitElem mb n D):sv.ownBlock≠some mb:=fun e=>by
 obtain ⟨cur,hc⟩:=own_cells ho e
 obtain ⟨es,clock,hk,_⟩:=h
 rw [hc] at hk
 cases hk
theorem nxtP_pos {keys:List (List Nat)} {L:List Nat} (hb:Bs L) {a:At} {m:Nat} (h:nxtP keys L = .ok (some a,m)):0<m∧m≤L.length:=by
 unfold nxtP at h
 split at h
 ·injection h with h;injection h with h _;cases h
 split at h
 ·rcases h1:onP (L.drop (sk blaP L)) with e | ⟨a',n⟩
  ·rw [h1] at h;cases h
  ·rw [h1] at h
   simp only at h
   split at h
   ·cases h
   ·injection h with h;injection h with _ h
    have h2:=onP_ok (hb.drop _) h1
    rw [List.length_drop] at h2
    omega
 ·injection h with h;injection h with h _;cases h
theorem nx_behind {RES:Except Nat (List At × Nat)} {W w':World} {p:Nat} {ao:Option Addr} {c:Nat} {xs:List Nat} {bg k k1 q1 q2 mb n:Nat} {acc:List At} {po:Option At} {m:Nat} {en:Ending}
  (hb:Bs xs) (hk:k≤k1) (hR:RES=match atA acc (xs.drop k1) with
   | .error e => .error e
   | .ok (l,m) => .ok (l,(k1-k)+m)) (hr:nxtP (acc.map Prod.fst) (xs.drop k1) = .ok (po,m))
  (h:NxTo p ao c xs bg k1 q1 q2 mb n (acc.map Prod.fst) (.ok (po,m)) W en w') :
  AtSt RES xs k acc (k1+m) po∧Scn w' p ao c xs bg (k1+m)∧Touch (fun i=>i=p∨i=mb) W w'∧(isS po=true→∃ D',Nx w' p q1 q2 mb (n+(pnd po).length) ((acc++pnd po).map Prod.fst) D')∧(∀ y∈pnd po,Bs y.1∧Bs y.2)∧
   ∃ x0 x1:ByteArray,en = .returned (.tuple #[.agg #[.string x0,.string x1],.bool (isS po)])∧∀ a,po=some a→x0=txt a.1∧x1=txt a.2:=by
 rw [atA_nxt acc (hb.drop k1),hr] at hR
 obtain ⟨ht,h⟩:=h
 cases po with
 | none=>
  simp only at hR h
  obtain ⟨he,hs⟩:=h
  exact ⟨by rw [hR];show _=_;congr 2;omega,hs,ht,(fun h=>by cases h),(fun y hy=>by cases hy),_,_,he,fun a h=>by cases h⟩
 | some a=>
  simp only at hR h
  obtain ⟨he,hs,hb1,hb2,D',hD⟩:=h
  refine ⟨?_,hs,ht,fun _=>⟨D',?_⟩,?_,_,_,he,fun a' h=>by injection h with h;subst h;exact ⟨rfl,rfl⟩⟩
  ·show RES=_
   rw [hR,List.drop_drop]
   by_cases h256:256<acc.length+1
   ·rw [if_pos h256,if_pos h256]
   ·rw [if_neg h256,if_neg h256]
    rcases atA (acc++[a]) (xs.drop (k1+m)) with e | ⟨l,m2⟩
    ·rfl
    ·simp only
     congr 2
     omega
  ·rw [List.map_append];exact hD
  ·intro y hy
   simp [pnd] at hy
   subst hy
   exact ⟨hb1,hb2⟩
section
variable {RES:Except Nat (List At × Nat)} {w wr w4 w6:World} {p:Nat} {ao:Option Addr} {c:Nat} {xs:List Nat} {bg k q1 q2 mb k1 b5:Nat} {acc:List At} {x:At} {sv sv' x0 x1:Value}
theorem ASt.mid (h:ASt RES w wr p ao c xs bg k q1 q2 mb acc k1 (some x) sv b5 x0 x1) (H:Scn w p ao c xs bg k)
  (hA:Apd (wr.alloc (.cells #[x0,x1] 46)) w.heap.size 46 2 sv (acc.length+1) (atc acc++[x0,x1]) sv' w4) :
  Blk w4 b5 46 #[x0,x1]∧Below w.heap.size wr w4∧Scn w4 p ao c xs bg k1∧∃ D,Nx w4 p q1 q2 mb (acc.length+1) ((acc++[x]).map Prod.fst) D:=by
 have hz:=h.tch.size
 have ho:=ownsRow_below h.own (lit_below wr (.cells #[x0,x1] 46))
 have hA2:=hA.alloc
 have hB:Below w.heap.size wr w4:=hA2.below h.own hz
 obtain ⟨D,hD⟩:=h.nxt rfl
 exact ⟨(h.blk.below (lit_below wr _)).touch hA.touch h.b5own,hB,H.lowb h.scn hB,D,(hD.below (lit_below wr _)).apd ho hA.touch⟩
theorem ASt.next {po':Option At} {m:Nat} {y0 y1:ByteArray} (h:ASt RES w wr p ao c xs bg k q1 q2 mb acc k1 (some x) sv b5 x0 x1) (H:Scn w p ao c xs bg k)
  (hA:Apd (wr.alloc (.cells #[x0,x1] 46)) w.heap.size 46 2 sv (acc.length+1) (atc acc++[x0,x1]) sv' w4) (hl:acc.length+1≤256)
  (hst:AtSt RES xs k (acc++[x]) (k1+m) po') (hs:Scn w6 p ao c xs bg (k1+m)) (ht:Touch (fun i=>i=p∨i=mb) (w4.alloc (.cells #[x0,x1] 46)) w6)
  (hn:isS po'=true→∃ D',Nx w6 p q1 q2 mb (acc.length+1+(pnd po').length) ((acc++[x]++pnd po').map Prod.fst) D') (hb:∀ y∈pnd po',Bs y.1∧Bs y.2) (hy:∀ a,po'=some a→y0=txt a.1∧y1=txt a.2) :
  ASt RES w ((w6.setCell ⟨w4.heap.size,0,none⟩ (.string y0)).setCell ⟨w4.heap.size,1,none⟩ (.string y1)) p ao c xs bg k q1 q2 mb (acc++[x]) (k1+m) po' sv' w4.heap.size (.string y0) (.string y1):=by
 obtain ⟨h1,h2,h3,D,h4⟩:=h.mid H hA
 have hz:=h.tch.size
 have hz4:=h2.size
 have hpw:=H.lt
 have hmb4:mb<w4.heap.size:=owns_lt h4.own
 have hq1:q1<w4.heap.size:=h4.b1.lt
 have hq2:q2<w4.heap.size:=h4.b2.lt
 obtain ⟨W,hW⟩:∃ W,W=(w6.setCell ⟨w4.heap.size,0,none⟩ (.string y0)).setCell ⟨w4.heap.size,1,none⟩ (.string y1):=⟨_,rfl⟩
 have hset:Touch (fun i=>i=w4.heap.size) w6 W:=by rw [hW];exact (touch_set w4.heap.size 0 w6 _).trans (touch_set w4.heap.size 1 _ _)
 have hz5:(w4.alloc (.cells #[x0,x1] 46)).heap.size=w4.heap.size+1:=alloc_size _ _
 have hz6:=ht.size
 have hset2:Below w.heap.size w6 W:=hset.below (by omega) (fun i hi=>by omega)
 have hown4:=hA.own
 have hown5:=ownsRow_below hown4 (lit_below w4 (.cells #[x0,x1] 46))
 have hmapne:=own_mb hown4 h4.own
 have hown6:=ownsRow_touch hown5 ht (fun i hi hS=>by
  have:=(hown4.lt i hi).1
  rcases hS with hS | hS
  ·omega
  ·rw [hS] at hi;exact hmapne hi)
 have hown7:=ownsRow_touch hown6 hset (fun i hi hS=>by have:=(hown4.lt i hi).2;omega)
 have hval:=h.val x rfl
 have hcells:atc acc++[x0,x1]=atc (acc++[x]):=by rw [atc_app,atc_one,hval.1,hval.2];rfl
 have t1:Touch (fun i=>i=p) w w4:=h.tch.trans' (Touch.of_low h2) fun i hi hlt=>by omega
 have t2:Touch (fun i=>i=p) w (w4.alloc (.cells #[x0,x1] 46)):=t1.alloc _
 have htch:Touch (fun i=>i=p) w w6:=t2.trans' ht fun i hi hlt=>by
  rcases hi with hi | hi
  ·exact hi
  ·have:=h.mbge;omega
 rw [←hW]
 refine ⟨?_,H.lowb hs hset2,fun hi=>?_,htch.trans' hset (fun i hi hlt=>by omega),by have:=h.ge;omega,hst,?_,by simp;omega,?_,fun a ha=>?_,by omega,h.mbge,by omega,?_⟩
 ·rw [List.length_append,List.length_singleton,←hcells];exact hown7
 ·obtain ⟨D',hD'⟩:=hn hi
  rw [List.length_append,List.length_singleton]
  exact ⟨D',hD'.b1.touch hset (by omega),hD'.b2.touch hset (by omega),owns_touch hD'.own hset (by omega),hD'.seen,hD'.n1,hD'.n2,hD'.n3,hD'.n4,hD'.n5,hD'.le,hD'.low⟩
 ·intro y hy2
  rcases List.mem_append.1 hy2 with hy2 | hy2
  ·exact h.bss y hy2
  ·exact hb y hy2
 ·have hb6:Blk w6 w4.heap.size 46 #[x0,x1]:=(Blk.made w4 46 #[x0,x1]).touch ht (fun hS=>by rcases hS with hS | hS <;> omega)
  rw [hW]
  exact (hb6.setCell 0 _).setCell 1 _
 ·exact ⟨by rw [(hy a ha).1],by rw [(hy a ha).2]⟩
 ·intro e
  have:=(hown4.lt _ e).2
  omega
end
set_option maxHeartbeats 6400000 in
theorem ats_any (w:World) (p:Nat) (ao:Option Addr) (c:Nat) (xs:List Nat) (bg k:Nat) (h:Scn w p ao c xs bg k) :
  Calls Tryz.prog 96 #[.pointer (some ⟨p,0,none⟩)] w (AtsTo p ao c xs bg k (atP (xs.drop k)) w):=by
 have H:=Lib.hid h
 have hlen:=h.len
 have hkl:=h.le
 have HBS:=Lib.hid h.bs
 have KN:=Lib.hid (newNx_any p w h.lt (by have:=h.tt.size;omega))
 obtain ⟨q1,hq1⟩:∃ q1,q1=w.heap.size:=⟨_,rfl⟩
 obtain ⟨q2,hq2⟩:∃ q2,q2=w.heap.size+2:=⟨_,rfl⟩
 obtain ⟨mb,hmb⟩:∃ mb,mb=w.heap.size+1:=⟨_,rfl⟩
 have KN:Hid (Calls Tryz.prog 121 #[.pointer (some ⟨p,0,none⟩)] w fun e w'=>e = .returned (.func (.func 138) #[] #[.pointer (some ⟨q1,0,none⟩),.pointer (some ⟨q2,0,none⟩)])∧Nx w' p q1 q2 mb 0 [] (.map [])∧Below w.heap.size w w'):=Lib.hid (by rw [hq1,hq2,hmb];exact KN.out)
 have hmbge:w.heap.size≤mb:=by omega
 obtain ⟨RES,hRES⟩:∃ RES,RES=atP (xs.drop k):=⟨_,rfl⟩
 rw [←hRES]
 have hR0:RES=match atA [] (xs.drop k) with
   | .error e => .error e
   | .ok (l,m) => .ok (l,(k-k)+m):=by
  rw [hRES]
  show atA [] (xs.drop k)=_
  rcases atA [] (xs.drop k) with e | ⟨l,m⟩
  ·rfl
  ·simp
 have HR0:=Lib.hid hR0
 have KC:=Lib.hid fun (W:World) (k1 n:Nat) (keys:List (List Nat)) (D:DataW Unit) (hS:Scn W p ao c xs bg k1) (hN:Nx W p q1 q2 mb n keys D) (hkb:∀ x∈keys,Bs x) (hn:n≤900)=>nxt_any W p ao c xs bg k1 q1 q2 mb n keys D hS hN hkb hn
 have hpw:=h.lt
 clear h hq1 hq2 hmb hRES hR0
 rcases hr0:nxtP [] (xs.drop k) with er | ⟨po,m⟩
 ·have hat:atA [] (xs.drop k) = .error er:=by
   rw [atA_nxt [] (HBS.out.drop k)]
   simp only [List.map_nil,hr0]
  have HRR:Hid (RES = .error er):=Lib.hid (by rw [HR0.out,hat])
  have KC1:Hid (∀ W,Scn W p ao c xs bg k→Nx W p q1 q2 mb 0 [] (.map [])→Calls Tryz.prog 138 #[.pointer (some ⟨q1,0,none⟩),.pointer (some ⟨q2,0,none⟩)] W fun e w'=>Touch (fun i=>i=p∨i=mb) W w'∧e=kpan er∧∃ k',Scn w' p ao c xs bg k'):=Lib.hid fun W hS hN=>by
   have:=KC.out W k 0 [] _ hS hN (fun x h=>by cases h) (by omega)
   rw [hr0] at this
   exact this
  clear hr0 hat
  go_enter Tryz.func96,Tryz.ntmps96
  go_wp2_with (first
   | (go_at_call 121;(with_reducible refine KN.out.mono ?_);rintro e w1 ⟨rfl,hN1,hb1⟩;have HS1:=Lib.hid (H.out.below hb1);have HN1:=Lib.hid hN1;have HB1:=Lib.hid hb1;clear hN1 hb1)
   | (go_at_call 138;(with_reducible refine (KC1.out w1 HS1.out HN1.out).mono ?_);rintro e w2 ⟨ht2,rfl,hs2⟩))
  refine ⟨rfl,?_⟩
  rw [HRR.out]
  exact ⟨(Touch.of_below HB1.out).trans' ht2 (fun i hi hlt=>by omega),rfl,hs2⟩
 ·have KC1:Hid (∀ W,Scn W p ao c xs bg k→Nx W p q1 q2 mb 0 [] (.map [])→Calls Tryz.prog 138 #[.pointer (some ⟨q1,0,none⟩),.pointer (some ⟨q2,0,none⟩)] W fun e w'=>
    AtSt RES xs k [] (k+m) po∧Scn w' p ao c xs bg (k+m)∧Touch (fun i=>i=p∨i=mb) W w'∧(isS po=true→∃ D',Nx w' p q1 q2 mb (0+(pnd po).length) (([]++pnd po).map Prod.fst) D')∧(∀ y∈pnd po,Bs y.1∧Bs y.2)∧
    ∃ x0 x1:ByteArray,e = .returned (.tuple #[.agg #[.string x0,.string x1],.bool (isS po)])∧∀ a,po=some a→x0=txt a.1∧x1=txt a.2):=Lib.hid fun W hS hN=>by
   have:=KC.out W k 0 [] _ hS hN (fun x h=>by cases h) (by omega)
   rw [hr0] at this
   exact this.mono fun e w' h=>nx_behind (acc:=[]) HBS.out (Nat.le_refl k) HR0.out hr0 h
  have hmx:k+m≤xs.length∨po=none:=by
   cases po with
   | none=>exact .inr rfl
   | some a=>
    have:=nxtP_pos (HBS.out.drop k) hr0
    rw [List.length_drop] at this
    exact .inl (by omega)
  clear hr0
  go_enter Tryz.func96,Tryz.ntmps96
  go_wp2_with (first
   | (go_at_call 121;(with_reducible refine KN.out.mono ?_);rintro e w1 ⟨rfl,hN1,hb1⟩;have HS1:=Lib.hid (H.out.below hb1);have HN1:=Lib.hid hN1;have HB1:=Lib.hid hb1;clear hN1 hb1)
   | (go_at_call 138;(with_reducible refine (KC1.out w1 HS1.out HN1.out).mono ?_);rintro e w2 ⟨hst2,hs2,ht2,hnx2,hbs2,y0,y1,rfl,hy2⟩;have HST2:=Lib.hid hst2;have HS2:=Lib.hid hs2;have HT2:=Lib.hid ht2;have HNX2:=Lib.hid hnx2;have HBS2:=Lib.hid hbs2;have HY2:=Lib.hid hy2;have hz1:=HB1.out.size;have hz2:=ht2.size;clear hst2 hs2 ht2 hnx2 hbs2 hy2))
  obtain ⟨w3,hw3⟩:∃ w3,w3=w2.alloc (.cells #[.string y0,.string y1] 46):=⟨_,rfl⟩
  have hb23:Below w2.heap.size w2 w3:=by rw [hw3];exact lit_below _ _
  have hblk:Blk w3 w2.heap.size 46 #[.string y0,.string y1]:=by rw [hw3];exact Blk.made _ _ _
  rw [←hw3]
  have hmb1:mb<w1.heap.size:=owns_lt HN1.out.own
  have HST:Hid (ASt RES w w3 p ao c xs bg k q1 q2 mb [] (k+m) po (.slice none 0 0) w2.heap.size (.string y0) (.string y1)):=Lib.hid
   ⟨World.ownsRow_nil _ _ _ _,HS2.out.below hb23,(fun h=>by obtain ⟨D',hD⟩:=HNX2.out h;exact ⟨D',by simpa using hD.below hb23⟩),((Touch.of_below HB1.out).trans' HT2.out (fun i hi hlt=>by omega)).trans (Touch.of_below hb23),by omega,HST2.out,(by simpa using HBS2.out),by simp,hblk,(fun a h=>⟨by rw [(HY2.out a h).1],by rw [(HY2.out a h).2]⟩),by omega,hmbge,by omega,by simp [Value.ownBlock]⟩
  obtain ⟨b5,hb5⟩:∃ b5,b5=w2.heap.size:=⟨_,rfl⟩
  rw [←hb5] at HST ⊢
  clear hw3 hb23 hblk hb5 HST2 HS2 HT2 HNX2 HBS2 HY2 HN1 HS1 HB1 KC1 hmb1 hz1 hz2
  obtain ⟨x0,hx0⟩:∃ x,x=Value.string y0:=⟨_,rfl⟩
  obtain ⟨x1,hx1⟩:∃ x,x=Value.string y1:=⟨_,rfl⟩
  go_loopg [3,5,6] (xs.length+2) (fun gh v3 v5 v6 wr=>∃ (acc:List At) (a:Option Addr) (cc b5 k1:Nat) (po:Option At) (y0 y1:ByteArray),v3 = .slice a acc.length cc∧v5 = .pointer (some ⟨b5,0,none⟩)∧v6 = .bool (isS po)∧Hid (ASt RES w wr p ao c xs bg k q1 q2 mb acc k1 po (.slice a acc.length cc) b5 (.string y0) (.string y1))∧(if isS po then xs.length-k1+1 else 0)≤gh∧(k1≤xs.length∨po=none))
  case atStart=>exact ⟨[],none,0,b5,k+m,po,y0,y1,rfl,rfl,rfl,HST,by split <;> omega,hmx⟩
  case round=>
   clear HST hmx
   obtain ⟨acc,a,cc,b6,k1,po2,z0,z1,rfl,rfl,rfl,hst,hgh,hk1⟩:=hrel
   have HST:=Lib.hid hst.out
   cases po2 with
   | none=>
    have HRR:Hid (RES = .ok (acc,k1-k)):=Lib.hid hst.out.st
    have hge:=hst.out.ge
    clear hst hgh hk1
    rw [show isS (none:Option At)=false from rfl]
    go_wp2
    go_ret
    rw [HRR.out]
    exact ⟨HST.out.tch,a,cc,rfl,HST.out.own,by rw [show k+(k1-k)=k1 by omega];exact HST.out.scn,fun y hy=>HST.out.bss y (by simp [pnd,hy]),HST.out.len⟩
   | some x=>
    have hk1l:k1≤xs.length:=by
                     rcases hk1 with h | h;· exact h
                     cases h
    have hgh2:=hgh
    rw [show isS (some x)=true from rfl,if_pos rfl] at hgh2
    have hown:=hst.out.own
    have hlen6:=hst.out.len
    have c60:=(hst.out.blk.cell 0).trans (show _=some (.string z0) from rfl)
    have c61:=(hst.out.blk.cell 1).trans (show _=some (.string z1) from rfl)
    have hz:=hst.out.tch.size
    have HOA:=Lib.hid (ownsRow_below hown (lit_below wr (.cells #[.string z0,.string z1] 46)))
    have hal:IntKind.i64.wrap ((acc.length:Int)+1)=((acc.length+1:Nat):Int):=by rw [IntKind.wrap_i64];omega
    obtain ⟨N,hN⟩:∃ N,N=acc.length:=⟨_,rfl⟩
    have HNl:=Lib.hid hN
    have hst1:RES=(if 256<acc.length+1 then .error 14 else match atA (acc++[x]) (xs.drop k1) with
     | .error e => .error e
     | .ok (l,m) => .ok (l,(k1-k)+m)):=hst.out.st
    rw [show isS (some x)=true from rfl]
    have hmid:=Lib.hid fun (sv':Value) (w4:World) (hA:Apd (wr.alloc (.cells #[.string z0,.string z1] 46)) w.heap.size 46 2 (.slice a acc.length cc) (acc.length+1) (atc acc++[.string z0,.string z1]) sv' w4)=>HST.out.mid H.out hA
    have hnext:=Lib.hid fun (sv':Value) (w4 w6:World) (po':Option At) (m:Nat) (y0 y1:ByteArray) (hA:Apd (wr.alloc (.cells #[.string z0,.string z1] 46)) w.heap.size 46 2 (.slice a acc.length cc) (acc.length+1) (atc acc++[.string z0,.string z1]) sv' w4) (hl:acc.length+1≤256)=>HST.out.next (w6:=w6) (po':=po') (m:=m) (y0:=y0) (y1:=y1) H.out hA hl
    rw [←hN] at HOA hmid hnext hlen6 hst1 ⊢
    rw [←hN] at hal
    clear hst hgh hk1 hown hN
    by_cases h256:256<N+1
    ·have HRR:Hid (RES = .error 14):=Lib.hid (by rw [hst1,if_pos h256])
     have hN256:N=256:=by omega
     subst hN256
     clear h256 hst1 hal
     go_wp2_with (first
      | (at_builtin;refine wpList_append_x at42 rfl (.tmp 20) (.tmp 22) rfl w.heap.size (.slice a 256 cc) (.slice (some ⟨wr.heap.size,0,none⟩) 1 1) 256 1 (atc acc) [.string z0,.string z1] rfl rfl HOA.out (cells_two _ _ _ _) rfl (by intro u hu;simp at hu;rcases hu with rfl | rfl <;> rfl) (by rw [alloc_size];omega) (by omega) (by omega) ?_;intro a2 c2 w4 hA;have HA:=Lib.hid hA;clear hA)
      | (go_at_call 97;refine (must_no 14 _).mono ?_;rintro e w9 ⟨rfl,rfl⟩))
     obtain ⟨g1,g2,g3,_⟩:=hmid.out _ _ HA.out
     refine ⟨rfl,?_⟩
     rw [HRR.out]
     exact ⟨HST.out.tch.trans' (Touch.of_low g2) (fun i hi hlt=>by omega),rfl,_,g3⟩
    ·have hR1:RES=match atA (acc++[x]) (xs.drop k1) with
       | .error e => .error e
       | .ok (l,m) => .ok (l,(k1-k)+m):=by rw [hst1,if_neg h256]
     have HR1:=Lib.hid hR1
     have HGE:=Lib.hid HST.out.ge
     have hle256:((N+1:Nat):Int)≤256:=by omega
     have hle256':(N:Int)+1≤256:=by omega
     have hkb:Hid (∀ y∈(acc++[x]).map Prod.fst,Bs y):=Lib.hid fun y hy=>by
      obtain ⟨z,hz,rfl⟩:=List.mem_map.1 hy
      exact (HST.out.bss z hz).1
     have HN1:Hid (N+1≤256):=Lib.hid (by omega)
     clear h256 hst1 hR1
     rcases hr:nxtP ((acc++[x]).map Prod.fst) (xs.drop k1) with er | ⟨po3,m3⟩
     ·have hat:atA (acc++[x]) (xs.drop k1) = .error er:=by
       rw [atA_nxt _ (HBS.out.drop k1),hr]
      have HRR:Hid (RES = .error er):=Lib.hid (by rw [HR1.out,hat])
      have KC1:Hid (∀ W D,Scn W p ao c xs bg k1→Nx W p q1 q2 mb (N+1) ((acc++[x]).map Prod.fst) D→Calls Tryz.prog 138 #[.pointer (some ⟨q1,0,none⟩),.pointer (some ⟨q2,0,none⟩)] W fun e w'=>Touch (fun i=>i=p∨i=mb) W w'∧e=kpan er∧∃ k',Scn w' p ao c xs bg k'):=Lib.hid fun W D hS hN=>by
       have:=KC.out W k1 (N+1) _ D hS hN hkb.out (by have:=HN1.out;omega)
       rw [hr] at this
       exact this
      clear hr hat
      go_wp2_with (first
       | (at_builtin;refine wpList_append_x at42 rfl (.tmp 20) (.tmp 22) rfl w.heap.size (.slice a N cc) (.slice (some ⟨wr.heap.size,0,none⟩) 1 1) N 1 (atc acc) [.string z0,.string z1] rfl rfl HOA.out (cells_two _ _ _ _) rfl (by intro u hu;simp at hu;rcases hu with rfl | rfl <;> rfl) (by rw [alloc_size];omega) (by omega) (by omega) ?_;intro a2 c2 w4 hA;obtain ⟨g1,g2,g3,D,g4⟩:=hmid.out _ _ hA;have HA:=Lib.hid hA;have c40:=(g1.cell 0).trans (show _=some (.string z0) from rfl);have c41:=(g1.cell 1).trans (show _=some (.string z1) from rfl);have HG2:=Lib.hid g2;have HG3:=Lib.hid (g3.below (lit_below w4 (.cells #[.string z0,.string z1] 46)));have HG4:=Lib.hid (g4.below (lit_below w4 (.cells #[.string z0,.string z1] 46)));clear hA g1 g2 g3 g4)
       | (go_at_call 97;refine (must_yes 14 _).mono ?_;rintro e w9 ⟨rfl,rfl⟩)
       | (go_at_call 138;(with_reducible refine (KC1.out _ D HG3.out HG4.out).mono ?_);rintro e w6 ⟨ht6,rfl,hs6⟩))
      refine ⟨rfl,?_⟩
      rw [HRR.out]
      have t1:Touch (fun i=>i=p) w w4:=HST.out.tch.trans' (Touch.of_low HG2.out) (fun i hi hlt=>by omega)
      exact ⟨(t1.alloc (.cells #[.string z0,.string z1] 46)).trans' ht6 (fun i hi hlt=>by
       rcases hi with hi | hi
       ·exact hi
       ·have:=HST.out.mbge;omega),rfl,hs6⟩
     ·have KC1:Hid (∀ W D,Scn W p ao c xs bg k1→Nx W p q1 q2 mb (N+1) ((acc++[x]).map Prod.fst) D→Calls Tryz.prog 138 #[.pointer (some ⟨q1,0,none⟩),.pointer (some ⟨q2,0,none⟩)] W fun e w'=>
        AtSt RES xs k (acc++[x]) (k1+m3) po3∧Scn w' p ao c xs bg (k1+m3)∧Touch (fun i=>i=p∨i=mb) W w'∧(isS po3=true→∃ D',Nx w' p q1 q2 mb (N+1+(pnd po3).length) ((acc++[x]++pnd po3).map Prod.fst) D')∧(∀ y∈pnd po3,Bs y.1∧Bs y.2)∧
        ∃ x0 x1:ByteArray,e = .returned (.tuple #[.agg #[.string x0,.string x1],.bool (isS po3)])∧∀ a,po3=some a→x0=txt a.1∧x1=txt a.2):=Lib.hid fun W D hS hN=>by
       have:=KC.out W k1 (N+1) _ D hS hN hkb.out (by have:=HN1.out;omega)
       rw [hr] at this
       exact this.mono fun e w' h=>nx_behind HBS.out HGE.out HR1.out hr h
      have hmx3:Hid ((k1+m3≤xs.length∧0<m3)∨po3=none):=Lib.hid (by
       cases po3 with
       | none=>exact .inr rfl
       | some a=>
        have:=nxtP_pos (HBS.out.drop k1) hr
        rw [List.length_drop] at this
        exact .inl ⟨by omega,by omega⟩)
      clear hr
      go_wp2_with (first
       | (at_builtin;refine wpList_append_x at42 rfl (.tmp 20) (.tmp 22) rfl w.heap.size (.slice a N cc) (.slice (some ⟨wr.heap.size,0,none⟩) 1 1) N 1 (atc acc) [.string z0,.string z1] rfl rfl HOA.out (cells_two _ _ _ _) rfl (by intro u hu;simp at hu;rcases hu with rfl | rfl <;> rfl) (by rw [alloc_size];omega) (by omega) (by omega) ?_;intro a2 c2 w4 hA;obtain ⟨g1,g2,g3,D,g4⟩:=hmid.out _ _ hA;have HA:=Lib.hid hA;have c40:=(g1.cell 0).trans (show _=some (.string z0) from rfl);have c41:=(g1.cell 1).trans (show _=some (.string z1) from rfl);have HG2:=Lib.hid g2;have HG3:=Lib.hid (g3.below (lit_below w4 (.cells #[.string z0,.string z1] 46)));have HML:=Lib.hid (owns_lt g4.own);have HG4:=Lib.hid (g4.below (lit_below w4 (.cells #[.string z0,.string z1] 46)));clear hA g1 g2 g3 g4)
       | (go_at_call 97;refine (must_yes 14 _).mono ?_;rintro e w9 ⟨rfl,rfl⟩)
       | (go_at_call 138;(with_reducible refine (KC1.out _ D HG3.out HG4.out).mono ?_);rintro e w6 ⟨hst6,hs6,ht6,hn6,hb6,u0,u1,rfl,hu6⟩;have HAST:=Lib.hid (hnext.out _ w4 w6 po3 m3 u0 u1 HA.out HN1.out hst6 hs6 ht6 hn6 hb6 hu6);have hbk:=(Blk.made w4 46 #[.string z0,.string z1]).touch ht6 (by intro hS;have:=HML.out;have:=HG2.out.size;rcases hS with hS | hS <;> omega);have e60:=(hbk.cell 0).trans (show _=some (.string z0) from rfl);have e61:=(hbk.cell 1).trans (show _=some (.string z1) from rfl);have f60:=hbk.free 0;have f61:=hbk.free 1;clear hst6 hs6 ht6 hn6 hb6 hu6 hbk))
      have hNN:(acc++[x]).length=N+1:=by rw [List.length_append,List.length_singleton,HNl.out]
      have hm3:=hmx3.out
      go_roundg (if isS po3=true then xs.length-(k1+m3)+1 else 0)
      case measure=>
       rcases hm3 with ⟨h1,h2⟩ | h1
       ·split <;> omega
       ·subst h1
        rw [show isS (none:Option At)=false from rfl,if_neg (by simp)]
        omega
      case rel=>
       refine ⟨acc++[x],a2,c2,w4.heap.size,k1+m3,po3,u0,u1,by rw [hNN],rfl,rfl,by rw [hNN];exact HAST,Nat.le_refl _,?_⟩
       rcases hm3 with ⟨h1,_⟩ | h1
       ·exact .inl h1
       ·exact .inr h1
end
section
open Go.RowKit Go.Proofs.YtbogfailbgbdoaaGreatDoor U
theorem fold1_lt {c:Nat} (h:c<128):fold1 c<128:=by
 unfold fold1;split
 ·omega
 ·split <;> omega
theorem fold_any (w:World) (c:Nat) (hc:c<128) (h:w.cell? ⟨3,c,none⟩=some (.int .u16 (fold1 c:Nat))) :
  Calls Tryz.prog 126 #[.int .i32 (c:Nat)] w fun e w'=>e = .returned (.int .i32 (fold1 c:Nat))∧w'=w:=by
 have hf:=fold1_lt hc
 generalize fold1 c=f at *
 go_enter Tryz.func126,Tryz.ntmps126
 go_wp2
 go_ret
 exact ⟨rfl,rfl⟩
theorem drs_any (w:World) (t:ByteArray) (c:Nat) (hc:c<128) (h0:0<t.size) (h1:(t[0]'h0).toNat=c) :
  Calls Tryz.prog 125 #[.string t] w fun e w'=>e = .returned (.tuple #[.int .i32 (c:Nat),.int .i64 1])∧w'=w:=by
 obtain ⟨x,l,hne⟩:∃ x l,t.toList=x::l:=by
  rcases h:t.toList with _ | ⟨x,l⟩
  ·have:=(toList_nil_iff_emptyBytes t).1 h
   subst this;exact absurd h0 (by decide)
  ·exact ⟨x,l,rfl⟩
 have hlt:(0:Int)<t.size:=by omega
 go_enter Tryz.func125,Tryz.ntmps125
 go_wp2
 go_ret2
 exact ⟨rfl,rfl⟩
def okc (c:Nat):Prop:=(c<107∨(c<123∧108≤c∧c≠115))∧c≠75∧c≠83
theorem okc.fold {c:Nat} (h:okc c):okc (fold1 c)∧fold1 (fold1 c)=c∧c<128:=by
 obtain ⟨h1,h2,h3⟩:=h
 unfold okc fold1
 refine ⟨?_,?_,by omega⟩ <;> (repeat' split) <;> omega
theorem get!_eq (s:ByteArray) (i:Nat) (h:i<s.size):s.get! i=s[i]'h:=by
 have:=get_at s i h
 simpa using this
theorem bts_len (s:ByteArray):(bts s).length=s.size:=by
 unfold bts
 rw [List.length_map]
 exact (Lib.size_eq s).symm
theorem bts_at (s:ByteArray) (i:Nat) (h:i<s.size):(bts s)[i]? = some (s[i]'h).toNat:=by
 unfold bts
 rw [List.getElem?_map,Lib.data_getElem? s i h]
 rfl
theorem eqf_next {s t:ByteArray} {i:Nat} (hi:i<s.size) (hj:i<t.size) (h:((bts s).take i).map low=((bts t).take i).map low) (e:low (s[i]'hi).toNat=low (t[i]'hj).toNat):((bts s).take (i+1)).map low=((bts t).take (i+1)).map low:=by
 rw [List.take_add_one,List.take_add_one,bts_at s i hi,bts_at t i hj,List.map_append,List.map_append,h]
 simp [e]
theorem eqf_stop {s t:ByteArray} {i:Nat} (hi:i<s.size) (hj:i<t.size) (e:low (s[i]'hi).toNat≠low (t[i]'hj).toNat):decide ((bts s).map low=(bts t).map low)=false:=by
 refine decide_eq_false fun h=>e ?_
 have:=congrArg (fun l:List Nat=>l[i]?) h
 simp only [List.getElem?_map,bts_at s i hi,bts_at t i hj,Option.map_some] at this
 exact Option.some.inj this
theorem eqf_last {s t:ByteArray} {M:Nat} (hM:M=s.size∨M=t.size) (h:((bts s).take M).map low=((bts t).take M).map low):decide ((bts s).map low=(bts t).map low)=((s.size:Int) == (t.size:Int)):=by
 by_cases e:s.size=t.size
 ·rw [beq_iff_eq.2 (by omega)]
  have e1:M=s.size:=by omega
  rw [List.take_of_length_le (by rw [bts_len];omega),List.take_of_length_le (by rw [bts_len];omega)] at h
  exact decide_eq_true h
 ·rw [beq_eq_false_iff_ne.2 (by omega)]
  refine decide_eq_false fun h=>e ?_
  have:=congrArg List.length h
  simpa [bts_len] using this
def EqJ (s t:ByteArray) (w:World) (a:Act) (w':World):Prop:=
 w'=w∧∃ (i:Nat) (u:Nat→Value),i<s.size∧i<t.size∧128≤(s.get! i).toNat∧a=⟨#[.string s,.string t,u 2,u 3,u 4,.int .i64 i,u 6,u 7,u 8,u 9,u 10,u 11,u 12,u 13,u 14,u 15,u 16,u 17,u 18,u 19,u 20,u 21,u 22,u 23,u 24,u 25,u 26,u 27,u 28,u 29,u 30,u 31,u 32,u 33,u 34,u 35,u 36,u 37,u 38,u 39,u 40,u 41,u 42,u 43,u 44,u 45,u 46,u 47,u 48,u 49,u 50,u 51,u 52,u 53,u 54,u 55,u 56,u 57,u 58,u 59,u 60,u 61,u 62,u 63,u 64,u 65,u 66,u 67,u 68,u 69,u 70,u 71,u 72,u 73,u 74,u 75,u 76,u 77,u 78,u 79,u 80,u 81,u 82,u 83,u 84,u 85,u 86,u 87,u 88,u 89,u 90,u 91,u 92,u 93,u 94,u 95,u 96,u 97,u 98,u 99,u 100,u 101,u 102,u 103,u 104,u 105,u 106,u 107,u 108,u 109,u 110,u 111,u 112,u 113,u 114,u 115,u 116,u 117,u 118,u 119,u 120,u 121,u 122],[]⟩
set_option maxHeartbeats 3200000 in
theorem equalFold_any (w:World) (s t:ByteArray) (hs:s.size≤10000000) (ht:t.size≤1000) (hok:∀ (j:Nat) (h:j<t.size),okc (t[j]).toNat) (hT:∀ c,c<107∨(c<123∧108≤c∧c≠115)→w.cell? ⟨3,c,none⟩=some (.int .u16 (fold1 c:Nat))) (h3:3<w.heap.size) :
  Calls Tryz.prog 100 #[.string s,.string t] w fun e w'=>e = .returned (.bool (decide ((bts s).map low=(bts t).map low)))∧Below w.heap.size w w':=by
 have HT:=Lib.hid hT
 have HOK:=Lib.hid hok
 obtain ⟨R,hR⟩:∃ R,R=decide ((bts s).map low=(bts t).map low):=⟨_,rfl⟩
 rw [←hR]
 have HR:=Lib.hid hR
 clear hR hT hok
 obtain ⟨M,hM⟩:∃ M:Nat,min (s.size:Int) (t.size:Int)=(M:Int):=⟨min s.size t.size,by omega⟩
 have hMs:M≤s.size:=by omega
 have hMt:M≤t.size:=by omega
 have hMe:M=s.size∨M=t.size:=by omega
 go_enter Tryz.func100,Tryz.ntmps100
 go_wp2
 refine wp_scope_jumps 0 (EqJ s t w) (fun _ _=>0) rfl ?_ ?_
 ·have hJ:∀ (i:Nat) (tm:Array Value) (ww:World),ww=w→i<s.size→i<t.size→128≤(s.get! i).toNat→(⟨tm,[]⟩:Act)=⟨#[.string s,.string t,tm.getD 2 undef,tm.getD 3 undef,tm.getD 4 undef,.int .i64 i,tm.getD 6 undef,tm.getD 7 undef,tm.getD 8 undef,tm.getD 9 undef,tm.getD 10 undef,tm.getD 11 undef,tm.getD 12 undef,tm.getD 13 undef,tm.getD 14 undef,tm.getD 15 undef,tm.getD 16 undef,tm.getD 17 undef,tm.getD 18 undef,tm.getD 19 undef,tm.getD 20 undef,tm.getD 21 undef,tm.getD 22 undef,tm.getD 23 undef,tm.getD 24 undef,tm.getD 25 undef,tm.getD 26 undef,tm.getD 27 undef,tm.getD 28 undef,tm.getD 29 undef,tm.getD 30 undef,tm.getD 31 undef,tm.getD 32 undef,tm.getD 33 undef,tm.getD 34 undef,tm.getD 35 undef,tm.getD 36 undef,tm.getD 37 undef,tm.getD 38 undef,tm.getD 39 undef,tm.getD 40 undef,tm.getD 41 undef,tm.getD 42 undef,tm.getD 43 undef,tm.getD 44 undef,tm.getD 45 undef,tm.getD 46 undef,tm.getD 47 undef,tm.getD 48 undef,tm.getD 49 undef,tm.getD 50 undef,tm.getD 51 undef,tm.getD 52 undef,tm.getD 53 undef,tm.getD 54 undef,tm.getD 55 undef,tm.getD 56 undef,tm.getD 57 undef,tm.getD 58 undef,tm.getD 59 undef,tm.getD 60 undef,tm.getD 61 undef,tm.getD 62 undef,tm.getD 63 undef,tm.getD 64 undef,tm.getD 65 undef,tm.getD 66 undef,tm.getD 67 undef,tm.getD 68 undef,tm.getD 69 undef,tm.getD 70 undef,tm.getD 71 undef,tm.getD 72 undef,tm.getD 73 undef,tm.getD 74 undef,tm.getD 75 undef,tm.getD 76 undef,tm.getD 77 undef,tm.getD 78 undef,tm.getD 79 undef,tm.getD 80 undef,tm.getD 81 undef,tm.getD 82 undef,tm.getD 83 undef,tm.getD 84 undef,tm.getD 85 undef,tm.getD 86 undef,tm.getD 87 undef,tm.getD 88 undef,tm.getD 89 undef,tm.getD 90 undef,tm.getD 91 undef,tm.getD 92 undef,tm.getD 93 undef,tm.getD 94 undef,tm.getD 95 undef,tm.getD 96 undef,tm.getD 97 undef,tm.getD 98 undef,tm.getD 99 undef,tm.getD 100 undef,tm.getD 101 undef,tm.getD 102 undef,tm.getD 103 undef,tm.getD 104 undef,tm.getD 105 undef,tm.getD 106 undef,tm.getD 107 undef,tm.getD 108 undef,tm.getD 109 undef,tm.getD 110 undef,tm.getD 111 undef,tm.getD 112 undef,tm.getD 113 undef,tm.getD 114 undef,tm.getD 115 undef,tm.getD 116 undef,tm.getD 117 undef,tm.getD 118 undef,tm.getD 119 undef,tm.getD 120 undef,tm.getD 121 undef,tm.getD 122 undef],[]⟩→EqJ s t w ⟨tm,[]⟩ ww:=fun i tm ww h1 h2 h3 h4 h5=>⟨h1,i,fun k=>tm.getD k undef,h2,h3,h4,h5⟩
  have HJ:=Lib.hid hJ
  clear hJ
  go_wp2
  go_loopg [5] M (fun g s5 wx=>wx=w∧∃ i:Nat,i+g=M∧s5 = .int .i64 i∧Hid (((bts s).take i).map low=((bts t).take i).map low))
  case atStart=>exact ⟨rfl,0,by omega,rfl,Lib.hid rfl⟩
  case round=>
   obtain ⟨rfl,i,hig,rfl,hinv⟩:=hrel
   clear hM
   cases gk with
   | zero=>
    have hiM:¬((i:Int)<(M:Int)):=by omega
    obtain rfl:i=M:=by omega
    have hlast:∀ b:Bool,((s.size:Int) == (t.size:Int))=b→R=b:=fun b e=>by rw [HR.out,←e];exact eqf_last hMe hinv.out
    have HL:=Lib.hid hlast
    clear hlast
    by_cases hst:s.size=t.size
    ·have hb:((s.size:Int) == (t.size:Int))=true:=beq_iff_eq.2 (by omega)
     go_wp2
     simp only [Exit.jump]
     go_ret
     exact ⟨by rw [HL.out _ hb];rfl,Below.refl _ _⟩
    ·have hb:((s.size:Int) == (t.size:Int))=false:=beq_eq_false_iff_ne.2 (by omega)
     go_wp2
     simp only [Exit.jump]
     go_ret
     exact ⟨by rw [HL.out _ hb];rfl,Below.refl _ _⟩
   | succ g=>
    have hiM:(i:Int)<(M:Int):=by omega
    have hisz:(i:Int)<(s.size:Int):=by omega
    have hitz:(i:Int)<(t.size:Int):=by omega
    obtain ⟨x,hx⟩:∃ x:UInt8,s[i]'(by omega)=x:=⟨_,rfl⟩
    obtain ⟨y,hy⟩:∃ y:UInt8,t[i]'(by omega)=y:=⟨_,rfl⟩
    have hy128:y.toNat<128:=by rw [←hy];exact (HOK.out i (by omega)).fold.2.2
    have hx256:x.toNat<256:=x.toNat_lt
    have hor:bits .or .u8 (x.toNat:Int) (y.toNat:Int)=((x.toNat ||| y.toNat:Nat):Int):=u8_or_nat _ _ (by omega) (by omega)
    have Hxy:Hid (s[i]'(by omega)=x∧t[i]'(by omega)=y):=Lib.hid ⟨hx,hy⟩
    have hnext:low x.toNat=low y.toNat→Hid (((bts s).take (i+1)).map low=((bts t).take (i+1)).map low):=fun e=>Lib.hid (eqf_next (by omega) (by omega) hinv.out (by rw [hx,hy];exact e))
    have hstop:low x.toNat≠low y.toNat→R=false:=fun e=>by rw [HR.out];exact eqf_stop (i:=i) (by omega) (by omega) (by rw [hx,hy];exact e)
    have HN:=Lib.hid hnext
    have HS:=Lib.hid hstop
    clear hnext hstop
    by_cases hx128:x.toNat<128
    ·have hor128:¬((128:Int)≤((x.toNat ||| y.toNat:Nat):Int)):=by have:=Nat.or_lt_two_pow (n:=7) hx128 hy128;omega
     go_wp2
     all_goals (try simp only [beq_iff_eq,beq_eq_false_iff_ne,ne_eq] at *)
     all_goals first
      | (
        go_roundg g
        case measure=>omega
        case rel=>exact ⟨rfl,i+1,by omega,by first | rfl | simp,HN.out (by unfold low;split <;> split <;> omega)⟩)
      | (
        simp only [Exit.jump]
        go_ret
        exact ⟨by rw [HS.out (by unfold low;split <;> split <;> omega)];rfl,Below.refl _ _⟩)
    ·have hor128:((128:Int)≤((x.toNat ||| y.toNat:Nat):Int)):=by have := @Nat.left_le_or x.toNat y.toNat;omega
     go_wp2
     go_step3
     refine ⟨rfl,?_⟩
     refine HJ.out i _ _ rfl (by omega) (by omega) ?_ rfl
     rw [get!_eq s i (by omega),Hxy.out.1]
     omega
 ·rintro a' w' ⟨rfl,i,u,hi,hit,h128,rfl⟩
  have hRf:R=false:=by
   rw [HR.out]
   refine eqf_stop hi hit ?_
   have:=(HOK.out i hit).fold.2.2
   rw [get!_eq s i hi] at h128
   unfold low
   split <;> split <;> omega
  obtain ⟨c,hc⟩:∃ c,c=(t[i]'hit).toNat:=⟨_,rfl⟩
  have hck:=HOK.out i hit
  rw [←hc] at hck
  obtain ⟨S,hS⟩:∃ S,S=s.extract i s.size:=⟨_,rfl⟩
  obtain ⟨T,hTT⟩:∃ T,T=t.extract i t.size:=⟨_,rfl⟩
  have hS0:0<S.size:=by rw [hS,ByteArray.size_extract];omega
  have hT0:0<T.size:=by rw [hTT,ByteArray.size_extract];omega
  have hTle:T.size≤1000:=by rw [hTT,ByteArray.size_extract];omega
  have hS1:128≤(S[0]'hS0).toNat:=by
   subst hS
   rw [get!_eq s i hi] at h128
   rw [ByteArray.getElem_extract]
   simpa using h128
  have hT1:(T[0]'hT0).toNat=c:=by
   subst hTT
   rw [ByteArray.getElem_extract,hc]
   simp
  obtain ⟨v,hv⟩:∃ v,v=(Utf8.decode S 0).1:=⟨_,rfl⟩
  have hv128:=(decode_high S 0 hS0 hS1).1
  rw [←hv] at hv128
  have hvle:=decode_le S 0
  rw [←hv] at hvle
  have hnx:∀ k W ty,W.heap[k]? = some (.stringIter S 0)→(Instr.next (.pointer (some ⟨k,0,none⟩)) true ty).run Tryz.prog W = .ok (.tuple #[.bool true,.int .i64 0,.int .i32 v]) (W.iterAt k S (0+(Utf8.decode S 0).2)):=fun k W ty hk=>by rw [hv];exact Lib.run_next_any_at W k S 0 ty hk hS0
  have hsl1:s.extract i s.size=S:=hS.symm
  have hsl2:t.extract i t.size=T:=hTT.symm
  clear hc hS hTT hS1 hv
  go_wp2
  obtain ⟨W2,hW2⟩:∃ W2,W2=(w'.iter S 0).iterAt w'.heap.size S (0+(Utf8.decode S 0).2):=⟨_,rfl⟩
  have hn1:∀ ty,(Instr.next (.pointer (some ⟨w'.heap.size,0,none⟩)) true ty).run Tryz.prog (w'.iter S 0) = .ok (.tuple #[.bool true,.int .i64 0,.int .i32 v]) W2:=fun ty=>by rw [hW2];exact hnx _ _ ty (World.iter_heap w' S 0)
  have hbW:Below w'.heap.size w' W2:=by
   rw [hW2]
   exact Lib.below_iterAt ((Below.refl _ w').alloc (Nat.le_refl _) _) (Nat.le_refl _) S _
  have HBW:=Lib.hid hbW
  have hdrs:=Lib.hid (drs_any W2 T c hck.fold.2.2 hT0 hT1)
  have hcf:Hid (W2.cell? ⟨3,c,none⟩=some (.int .u16 (fold1 c:Nat))):=Lib.hid ((hbW.cell (p:=⟨3,c,none⟩) h3).trans (HT.out c hck.1))
  have hcf2:Hid (W2.cell? ⟨3,fold1 c,none⟩=some (.int .u16 (c:Nat))):=Lib.hid ((hbW.cell (p:=⟨3,fold1 c,none⟩) h3).trans ((HT.out _ hck.fold.1.1).trans (by rw [hck.fold.2.1])))
  have hSF1:Hid (Calls Tryz.prog 126 #[.int .i32 (c:Nat)] W2 fun e w'=>e = .returned (.int .i32 (fold1 c:Nat))∧w'=W2):=Lib.hid (fold_any W2 c hck.fold.2.2 hcf.out)
  have hSF2:Hid (Calls Tryz.prog 126 #[.int .i32 (fold1 c:Nat)] W2 fun e w'=>e = .returned (.int .i32 (c:Nat))∧w'=W2):=Lib.hid (by have:=fold_any W2 (fold1 c) hck.fold.1.fold.2.2 (by rw [hcf2.out,hck.fold.2.1]);rwa [hck.fold.2.1] at this)
  have hc128:c<128:=hck.fold.2.2
  have hf128:fold1 c<128:=hck.fold.1.fold.2.2
  obtain ⟨f,hf⟩:∃ f,f=fold1 c:=⟨_,rfl⟩
  rw [←hf] at hSF1 hSF2 hf128
  clear hcf hcf2 hck hnx hsl1 hsl2 hW2 hbW hf
  have hTn:((T.size:Int) == 0)=false:=beq_eq_false_iff_ne.2 (by omega)
  have hT1s:(1:Int)≤T.size:=by omega
  go_loopg [1] 0 (fun g s1 wx=>wx=w'.iter S 0∧s1 = .string T)
  case atStart=>exact ⟨rfl,rfl⟩
  case round=>
   obtain ⟨rfl,rfl⟩:=hrel
   go_wp2_with (first
    | (go_at_call 125;(with_reducible refine hdrs.out.mono ?_);rintro e w1 ⟨rfl,rfl⟩)
    | (go_at_call 126;(with_reducible refine hSF1.out.mono ?_);rintro e w1 ⟨rfl,rfl⟩))
   go_loopg [13] (if f=c then 0 else 1) (fun g s13 wx=>wx=w1∧∃ r:Nat,s13 = .int .i32 r∧((r=f∧(if f=c then 0 else 1)≤g)∨r=c))
   case atStart=>exact ⟨rfl,f,rfl,.inl ⟨rfl,Nat.le_refl _⟩⟩
   case round=>
    obtain ⟨rfl,r,rfl,hr⟩:=hrel
    by_cases hrc:r=c
    ·subst hrc
     have hne:((r:Int) == (v:Int))=false:=beq_eq_false_iff_ne.2 (by omega)
     go_wp2
     simp only [Exit.jump]
     go_ret
     exact ⟨by rw [hRf];rfl,HBW.out⟩
    ·obtain ⟨rfl,hg⟩:r=f∧(if f=c then 0 else 1)≤gk:=by
      rcases hr with h | h
      ·exact h
      ·exact absurd h hrc
     rw [if_neg hrc] at hg
     have hlt:(r:Int)<v:=by omega
     have hnec:((r:Int) != (c:Int))=true:=bne_iff_ne.2 (by omega)
     go_wp2_with (go_at_call 126;(with_reducible refine hSF2.out.mono ?_);rintro e w1 ⟨rfl,rfl⟩)
     go_roundg 0
     case measure=>omega
     case rel=>exact ⟨rfl,c,rfl,.inr rfl⟩
theorem must_b (b:Bool) (er:Nat) (w:World):Calls Tryz.prog 97 #[.bool b,.int .i64 (er:Nat)] w fun e w'=>w=w'∧((b=true∧e = .returned (.tuple #[]))∨(b=false∧e=kpan er)):=by
 cases b
 ·exact (must_no er w).mono fun e w' h=>⟨h.2,.inr ⟨rfl,h.1⟩⟩
 ·exact (must_yes er w).mono fun e w' h=>⟨h.2,.inl ⟨rfl,h.1⟩⟩
def MdTo (RES:Option Nat) (w:World) (e:Ending) (w':World):Prop:=
 Below w.heap.size w w'∧((RES=none∧e = .returned (.tuple #[]))∨∃ er,RES=some er∧e=kpan er)
theorem MdTo.ok {RES:Option Nat} {w w':World} (hb:Below w.heap.size w w') (h:RES=none):MdTo RES w (.returned (.tuple #[])) w':=⟨hb,.inl ⟨h,rfl⟩⟩
theorem MdTo.no {RES:Option Nat} {w w':World} {er:Nat} (hb:Below w.heap.size w w') (h:RES=some er):MdTo RES w (kpan er) w':=⟨hb,.inr ⟨er,h,rfl⟩⟩
set_option maxHeartbeats 3200000 in
theorem md_1 (w:World) (g cc:Nat) (n1 v1:ByteArray)   (hg:g<w.heap.size) (RES:Option Nat)
  (c0:w.cell? ⟨g,0,none⟩=some (.string n1)) (c1:w.cell? ⟨g,1,none⟩=some (.string v1)) (hcc:1≤cc) (hcm:cc≤maxLen)
  (hR:RES=(if (n1.toList=[118,101,114,115,105,111,110]∧v1.toList=[49,46,48]) then none else some 22)) :
  Calls Tryz.prog 98 #[.slice (some ⟨g,0,none⟩) 1 cc] w (MdTo RES w):=by
 have HR:=Lib.hid hR
 have HB0:=Lib.hid (Below.refl w.heap.size w)
 clear hR hg
 go_enter Tryz.func98,Tryz.ntmps98
 go_wp2_with (first
  | (go_at_call 97;refine (must_b _ _ _).mono ?_;rintro e w1 ⟨rfl,⟨hb,rfl⟩ | ⟨hb,rfl⟩⟩))
 all_goals try (exfalso;omega)
 all_goals try (exfalso;revert hb;simp [*];done)
 all_goals try go_end0
 all_goals try (refine ⟨rfl,?_⟩)
 all_goals (first | refine MdTo.ok (by first | exact HB0.out | exact HB1.out) ?_ | refine MdTo.no (by first | exact HB0.out | exact HB1.out) ?_)
 all_goals (rw [HR.out];(try simp_all);try omega)
set_option maxHeartbeats 3200000 in
theorem md_2 (w:World) (g cc:Nat) (n1 v1 n2 v2:ByteArray)  (U:Bool) (hU:Calls Tryz.prog 100 #[.string v2,.string ⟨#[85,84,70,45,56]⟩] w fun e w1=>e = .returned (.bool U)∧Below w.heap.size w w1) (hg:g<w.heap.size) (RES:Option Nat)
  (c0:w.cell? ⟨g,0,none⟩=some (.string n1)) (c1:w.cell? ⟨g,1,none⟩=some (.string v1)) (c2:w.cell? ⟨g,2,none⟩=some (.string n2)) (c3:w.cell? ⟨g,3,none⟩=some (.string v2)) (hcc:2≤cc) (hcm:cc≤maxLen)
  (hR:RES=(if (n1.toList=[118,101,114,115,105,111,110]∧v1.toList=[49,46,48]) then (if n2.toList=[101,110,99,111,100,105,110,103] then (if U=true then none else some 17) else if n2.toList=[115,116,97,110,100,97,108,111,110,101] then (if v2.toList=[121,101,115]∨v2.toList=[110,111] then none else some 22) else some 22) else some 22)) :
  Calls Tryz.prog 98 #[.slice (some ⟨g,0,none⟩) 2 cc] w (MdTo RES w):=by
 have HR:=Lib.hid hR
 have HB0:=Lib.hid (Below.refl w.heap.size w)
 have HU:=Lib.hid hU
 have HK:Hid (∀ W,Below w.heap.size w W→W.cell? ⟨g,0,none⟩=some (.string n1)∧W.cell? ⟨g,1,none⟩=some (.string v1)∧W.cell? ⟨g,2,none⟩=some (.string n2)∧W.cell? ⟨g,3,none⟩=some (.string v2) ):=Lib.hid fun W hb=>⟨(hb.cell (p:=⟨g,0,none⟩) hg).trans c0,(hb.cell (p:=⟨g,1,none⟩) hg).trans c1,(hb.cell (p:=⟨g,2,none⟩) hg).trans c2,(hb.cell (p:=⟨g,3,none⟩) hg).trans c3⟩
 clear hU
 clear hR hg
 go_enter Tryz.func98,Tryz.ntmps98
 go_wp2_with (first
  | (go_at_call 100;(with_reducible refine HU.out.mono ?_);rintro e w1 ⟨rfl,hb1⟩;obtain ⟨d0,d1,d2,d3⟩:=HK.out w1 hb1;have HB1:=Lib.hid hb1;clear hb1)
  | (go_at_call 97;refine (must_b _ _ _).mono ?_;rintro e w1 ⟨rfl,⟨hb,rfl⟩ | ⟨hb,rfl⟩⟩))
 all_goals try (exfalso;omega)
 all_goals try (exfalso;revert hb;simp [*];done)
 all_goals try go_end0
 all_goals try (refine ⟨rfl,?_⟩)
 all_goals (first | refine MdTo.ok (by first | exact HB0.out | exact HB1.out) ?_ | refine MdTo.no (by first | exact HB0.out | exact HB1.out) ?_)
 all_goals (rw [HR.out];(try simp_all);try omega)
set_option maxHeartbeats 3200000 in
theorem md_3 (w:World) (g cc:Nat) (n1 v1 n2 v2 n3 v3:ByteArray)  (U:Bool) (hU:Calls Tryz.prog 100 #[.string v2,.string ⟨#[85,84,70,45,56]⟩] w fun e w1=>e = .returned (.bool U)∧Below w.heap.size w w1) (hg:g<w.heap.size) (RES:Option Nat)
  (c0:w.cell? ⟨g,0,none⟩=some (.string n1)) (c1:w.cell? ⟨g,1,none⟩=some (.string v1)) (c2:w.cell? ⟨g,2,none⟩=some (.string n2)) (c3:w.cell? ⟨g,3,none⟩=some (.string v2)) (c4:w.cell? ⟨g,4,none⟩=some (.string n3)) (c5:w.cell? ⟨g,5,none⟩=some (.string v3)) (hcc:3≤cc) (hcm:cc≤maxLen)
  (hR:RES=(if (n1.toList=[118,101,114,115,105,111,110]∧v1.toList=[49,46,48]) then (if n2.toList=[101,110,99,111,100,105,110,103] then (if U=true then (if n3.toList=[115,116,97,110,100,97,108,111,110,101] then (if v3.toList=[121,101,115]∨v3.toList=[110,111] then none else some 22) else some 22) else some 17) else some 22) else some 22)) :
  Calls Tryz.prog 98 #[.slice (some ⟨g,0,none⟩) 3 cc] w (MdTo RES w):=by
 have HR:=Lib.hid hR
 have HB0:=Lib.hid (Below.refl w.heap.size w)
 have HU:=Lib.hid hU
 have HK:Hid (∀ W,Below w.heap.size w W→W.cell? ⟨g,0,none⟩=some (.string n1)∧W.cell? ⟨g,1,none⟩=some (.string v1)∧W.cell? ⟨g,2,none⟩=some (.string n2)∧W.cell? ⟨g,3,none⟩=some (.string v2)∧W.cell? ⟨g,4,none⟩=some (.string n3)∧W.cell? ⟨g,5,none⟩=some (.string v3) ):=Lib.hid fun W hb=>⟨(hb.cell (p:=⟨g,0,none⟩) hg).trans c0,(hb.cell (p:=⟨g,1,none⟩) hg).trans c1,(hb.cell (p:=⟨g,2,none⟩) hg).trans c2,(hb.cell (p:=⟨g,3,none⟩) hg).trans c3,(hb.cell (p:=⟨g,4,none⟩) hg).trans c4,(hb.cell (p:=⟨g,5,none⟩) hg).trans c5⟩
 clear hU
 clear hR hg
 go_enter Tryz.func98,Tryz.ntmps98
 go_wp2_with (first
  | (go_at_call 100;(with_reducible refine HU.out.mono ?_);rintro e w1 ⟨rfl,hb1⟩;obtain ⟨d0,d1,d2,d3,d4,d5⟩:=HK.out w1 hb1;have HB1:=Lib.hid hb1;clear hb1)
  | (go_at_call 97;refine (must_b _ _ _).mono ?_;rintro e w1 ⟨rfl,⟨hb,rfl⟩ | ⟨hb,rfl⟩⟩))
 all_goals try (exfalso;omega)
 all_goals try (exfalso;revert hb;simp [*];done)
 all_goals try go_end0
 all_goals try (refine ⟨rfl,?_⟩)
 all_goals (first | refine MdTo.ok (by first | exact HB0.out | exact HB1.out) ?_ | refine MdTo.no (by first | exact HB0.out | exact HB1.out) ?_)
 all_goals (rw [HR.out];(try simp_all);try omega)
set_option maxHeartbeats 3200000 in
theorem md_4 (w:World) (g cc:Nat) (n1 v1 n2 v2 n3 v3:ByteArray) (m:Nat) (hm:m≤256) (U:Bool) (hU:Calls Tryz.prog 100 #[.string v2,.string ⟨#[85,84,70,45,56]⟩] w fun e w1=>e = .returned (.bool U)∧Below w.heap.size w w1) (hg:g<w.heap.size) (RES:Option Nat)
  (c0:w.cell? ⟨g,0,none⟩=some (.string n1)) (c1:w.cell? ⟨g,1,none⟩=some (.string v1)) (c2:w.cell? ⟨g,2,none⟩=some (.string n2)) (c3:w.cell? ⟨g,3,none⟩=some (.string v2)) (c4:w.cell? ⟨g,4,none⟩=some (.string n3)) (c5:w.cell? ⟨g,5,none⟩=some (.string v3)) (hcc:m+4≤cc) (hcm:cc≤maxLen)
  (hR:RES=(if (n1.toList=[118,101,114,115,105,111,110]∧v1.toList=[49,46,48]) then (if n2.toList=[101,110,99,111,100,105,110,103] then (if U=true then some 22 else some 17) else some 22) else some 22)) :
  Calls Tryz.prog 98 #[.slice (some ⟨g,0,none⟩) (m+4) cc] w (MdTo RES w):=by
 have HR:=Lib.hid hR
 have HB0:=Lib.hid (Below.refl w.heap.size w)
 have HU:=Lib.hid hU
 have HK:Hid (∀ W,Below w.heap.size w W→W.cell? ⟨g,0,none⟩=some (.string n1)∧W.cell? ⟨g,1,none⟩=some (.string v1)∧W.cell? ⟨g,2,none⟩=some (.string n2)∧W.cell? ⟨g,3,none⟩=some (.string v2)∧W.cell? ⟨g,4,none⟩=some (.string n3)∧W.cell? ⟨g,5,none⟩=some (.string v3) ):=Lib.hid fun W hb=>⟨(hb.cell (p:=⟨g,0,none⟩) hg).trans c0,(hb.cell (p:=⟨g,1,none⟩) hg).trans c1,(hb.cell (p:=⟨g,2,none⟩) hg).trans c2,(hb.cell (p:=⟨g,3,none⟩) hg).trans c3,(hb.cell (p:=⟨g,4,none⟩) hg).trans c4,(hb.cell (p:=⟨g,5,none⟩) hg).trans c5⟩
 clear hU
 clear hR hg
 go_enter Tryz.func98,Tryz.ntmps98
 go_wp2_with (first
  | (go_at_call 100;(with_reducible refine HU.out.mono ?_);rintro e w1 ⟨rfl,hb1⟩;obtain ⟨d0,d1,d2,d3,d4,d5⟩:=HK.out w1 hb1;have HB1:=Lib.hid hb1;clear hb1)
  | (go_at_call 97;refine (must_b _ _ _).mono ?_;rintro e w1 ⟨rfl,⟨hb,rfl⟩ | ⟨hb,rfl⟩⟩))
 all_goals try (exfalso;omega)
 all_goals try (exfalso;revert hb;simp [*];done)
 all_goals try go_end0
 all_goals try (refine ⟨rfl,?_⟩)
 all_goals (first | refine MdTo.ok (by first | exact HB0.out | exact HB1.out) ?_ | refine MdTo.no (by first | exact HB0.out | exact HB1.out) ?_)
 all_goals (rw [HR.out];(try simp_all);try omega)
theorem txt_toList (a:List Nat):(txt a).toList=u8L a:=by rw [ByteArray.toList_eq,txt_list]
theorem txt_is {a:List Nat} (ha:Bs a) (b:List Nat) (hb:Bs b):((txt a).toList=u8L b)=(a=b):=by
 rw [txt_toList]
 exact propext ⟨fun e=>u8L_inj ha hb e,fun e=>by rw [e]⟩
theorem atc_at {l:List At} {i:Nat} {n v:List Nat} (h:l[i]? = some (n,v)):(atc l)[2*i]? = some (.string (txt n))∧(atc l)[2*i+1]? = some (.string (txt v)):=by
 induction l generalizing i with
 | nil=>simp at h
 | cons y r ih=>
  show (atV y++atc r)[2*i]? = _∧(atV y++atc r)[2*i+1]? = _
  cases i with
  | zero=>
   simp at h;subst h
   exact ⟨rfl,rfl⟩
  | succ j=>
   have:=ih (i:=j) (by simpa using h)
   rw [List.getElem?_append_right (by simp [atV];omega),List.getElem?_append_right (by simp [atV];omega)]
   simpa [atV,Nat.mul_add] using this
theorem bsl (l:List Nat) (h:(l.all fun x=>decide (x<256))=true):Bs l:=fun x hx=>by
 have:=List.all_eq_true.1 h x hx
 simpa using this
theorem equalUtf (w:World) (v:List Nat) (hv:Bs v) (hl:v.length≤10000000) (hT:TT w) :
  Calls Tryz.prog 100 #[.string (txt v),.string ⟨#[85,84,70,45,56]⟩] w fun e w'=>e = .returned (.bool (decide (v.map low=[117,116,102,45,56])))∧Below w.heap.size w w':=by
 have:=equalFold_any w (txt v) ⟨#[85,84,70,45,56]⟩ (by rw [txt_size];exact hl) (by decide) (by
  intro j h
  have hj:j<5:=h
  rcases j with _ | _ | _ | _ | _ | j
  ·exact (show okc 85 by unfold okc;decide)
  ·exact (show okc 84 by unfold okc;decide)
  ·exact (show okc 70 by unfold okc;decide)
  ·exact (show okc 45 by unfold okc;decide)
  ·exact (show okc 56 by unfold okc;decide)
  ·omega) hT.fold (by have:=hT.size;omega)
 rw [bts_txt hv] at this
 exact this
theorem equalXml (w:World) (v:List Nat) (hv:Bs v) (hl:v.length≤10000000) (hT:TT w) :
  Calls Tryz.prog 100 #[.string (txt v),.string ⟨#[120,109,108]⟩] w fun e w'=>e = .returned (.bool (decide (v.map low=[120,109,108])))∧Below w.heap.size w w':=by
 have:=equalFold_any w (txt v) ⟨#[120,109,108]⟩ (by rw [txt_size];exact hl) (by decide) (by
  intro j h
  have hj:j<3:=h
  rcases j with _ | _ | _ | j
  ·exact (show okc 120 by unfold okc;decide)
  ·exact (show okc 109 by unfold okc;decide)
  ·exact (show okc 108 by unfold okc;decide)
  ·omega) hT.fold (by have:=hT.size;omega)
 rw [bts_txt hv] at this
 exact this
set_option maxHeartbeats 1600000 in
theorem md_0 (w:World) (a:Option Addr) (cc:Nat) :
  Calls Tryz.prog 98 #[.slice a 0 cc] w (MdTo (some 22) w):=by
 go_enter Tryz.func98,Tryz.ntmps98
 go_wp2_with (go_at_call 97;refine (must_b _ _ _).mono ?_;rintro e w1 ⟨rfl,⟨hb,rfl⟩ | ⟨hb,rfl⟩⟩)
 all_goals try (exfalso;revert hb;simp;done)
 exact ⟨rfl,MdTo.no (Below.refl _ _) rfl⟩
theorem mustDeclare_any (w:World) (B:Nat) (a:Option Addr) (cc:Nat) (l:List At) (h:w.ownsRow B 46 2 (.slice a l.length cc) l.length (atc l)) (hb:∀ y∈l,Bs y.1∧Bs y.2) (hv:∀ y∈l,y.2.length≤10000000) (hl:l.length≤256) (hT:TT w) :
  Calls Tryz.prog 98 #[.slice a l.length cc] w (MdTo (mdP l) w):=by
 have hcc:l.length≤cc∧cc≤maxLen∧(l≠[]→∃ g,a=some ⟨g,0,none⟩∧g<w.heap.size∧∀ (j:Nat) u,(atc l)[j]? = some u→w.cell? ⟨g,j,none⟩=some u):=by
  rcases h.2 with ⟨e1,e2⟩ | ⟨g,cap,cur,e1,e2,e3,e4,e5,_⟩
  ·injection e1 with e1 e3 e4
   subst e1 e4
   have:l=[]:=List.eq_nil_of_length_eq_zero e2
   exact ⟨by omega,by unfold maxLen;omega,fun h=>absurd this h⟩
  ·injection e1 with e1 _ e6
   subst e1 e6
   refine ⟨e4,e5,fun _=>⟨g,rfl,(Array.getElem?_eq_some_iff.1 e3).1,fun j u hu=>?_⟩⟩
   have:=h.cells (g:=g) rfl j u hu
   rwa [Addr.add_lit,Nat.zero_add] at this
 clear h
 obtain ⟨h1,h2,h3⟩:=hcc
 cases l with
 | nil=>exact md_0 w a cc
 | cons x1 l1=>
  obtain ⟨g,rfl,hg,hc⟩:=h3 (by simp)
  obtain ⟨n1,v1⟩:=x1
  have p1:=atc_at (l:=(n1,v1)::l1) (i:=0) rfl
  have b1:Bs n1∧Bs v1:=hb (n1,v1) (by simp)
  cases l1 with
  | nil=>
   refine md_1 w g cc _ _ hg _ (hc _ _ p1.1) (hc _ _ p1.2) h1 h2 ?_
   have q1:((txt n1).toList=[118,101,114,115,105,111,110])=(n1=[118,101,114,115,105,111,110]):=txt_is b1.1 [118,101,114,115,105,111,110] (bsl _ rfl)
   have q2:((txt v1).toList=[49,46,48])=(v1=[49,46,48]):=txt_is b1.2 [49,46,48] (bsl _ rfl)
   simp only [q1,q2,decide_eq_true_eq]
   unfold mdP md1
   rfl
  | cons x2 l2=>
   obtain ⟨n2,v2⟩:=x2
   have p2:=atc_at (l:=(n1,v1)::(n2,v2)::l2) (i:=1) rfl
   have b2:Bs n2∧Bs v2:=hb (n2,v2) (by simp)
   have hU:=equalUtf w v2 b2.2 (hv (n2,v2) (by simp)) hT
   have q1:((txt n1).toList=[118,101,114,115,105,111,110])=(n1=[118,101,114,115,105,111,110]):=txt_is b1.1 [118,101,114,115,105,111,110] (bsl _ rfl)
   have q2:((txt v1).toList=[49,46,48])=(v1=[49,46,48]):=txt_is b1.2 [49,46,48] (bsl _ rfl)
   have q3:((txt n2).toList=[101,110,99,111,100,105,110,103])=(n2=[101,110,99,111,100,105,110,103]):=txt_is b2.1 [101,110,99,111,100,105,110,103] (bsl _ rfl)
   have q4:((txt n2).toList=[115,116,97,110,100,97,108,111,110,101])=(n2=[115,116,97,110,100,97,108,111,110,101]):=txt_is b2.1 [115,116,97,110,100,97,108,111,110,101] (bsl _ rfl)
   have q5:((txt v2).toList=[121,101,115])=(v2=[121,101,115]):=txt_is b2.2 [121,101,115] (bsl _ rfl)
   have q6:((txt v2).toList=[110,111])=(v2=[110,111]):=txt_is b2.2 [110,111] (bsl _ rfl)
   cases l2 with
   | nil=>
    refine md_2 w g cc _ _ _ _ _ hU hg _ (hc _ _ p1.1) (hc _ _ p1.2) (hc _ _ p2.1) (hc _ _ p2.2) h1 h2 ?_
    simp only [q1,q2,q3,q4,q5,q6,decide_eq_true_eq]
    unfold mdP md1 md2 md3
    rfl
   | cons x3 l3=>
    obtain ⟨n3,v3⟩:=x3
    have p3:=atc_at (l:=(n1,v1)::(n2,v2)::(n3,v3)::l3) (i:=2) rfl
    have b3:Bs n3∧Bs v3:=hb (n3,v3) (by simp)
    have q7:((txt n3).toList=[115,116,97,110,100,97,108,111,110,101])=(n3=[115,116,97,110,100,97,108,111,110,101]):=txt_is b3.1 [115,116,97,110,100,97,108,111,110,101] (bsl _ rfl)
    have q8:((txt v3).toList=[121,101,115])=(v3=[121,101,115]):=txt_is b3.2 [121,101,115] (bsl _ rfl)
    have q9:((txt v3).toList=[110,111])=(v3=[110,111]):=txt_is b3.2 [110,111] (bsl _ rfl)
    cases l3 with
    | nil=>
     refine md_3 w g cc _ _ _ _ _ _ _ hU hg _ (hc _ _ p1.1) (hc _ _ p1.2) (hc _ _ p2.1) (hc _ _ p2.2) (hc _ _ p3.1) (hc _ _ p3.2) h1 h2 ?_
     simp only [q1,q2,q3,q7,q8,q9,decide_eq_true_eq]
     unfold mdP md1 md2 md3
     simp only [decide_eq_true_eq,ite_self]
    | cons x4 l4=>
     refine md_4 w g cc _ _ _ _ _ _ l4.length (by simp at hl;omega) _ hU hg _ (hc _ _ p1.1) (hc _ _ p1.2) (hc _ _ p2.1) (hc _ _ p2.2) (hc _ _ p3.1) (hc _ _ p3.2) h1 h2 ?_
     simp only [q1,q2,q3,decide_eq_true_eq]
     unfold mdP md1 md2 md3
     simp only [decide_eq_true_eq,ite_self]
end
end Go.Proofs.YtbogfailbgbdoaaGreatDoor.K
