/- Part 16. -/
import Derived.ChangeOld
import Derived.ChangeSame
import Derived.Defers
import Derived.LaidMore
import Derived.Lay
import Derived.Lib.LaidTab
import Derived.Lib.SlBytesConst
import Derived.ProofKit
import Derived.Recover
import Derived.SevenTiedAt
import Derived.ShutString
import Derived.SizedLaws
import Derived.Stop.Joined
import Derived.Stop.LaidErr
import Derived.Test.YtacpfpghokcdlaaGreatDoorCards
import Derived.Test.YtacpfpghokcdlaaGreatDoorTie
import Derived.Test.YtacpfpghokcdlaaGreatDoorXB15
open Go.Proofs.Tryz
namespace Go.Proofs.YtacpfpghokcdlaaGreatDoor
set_option maxRecDepth 100000
section
open Go.Lib renaming hid → J
open Go.RowKit
section
variable {B K p pb:Nat}{g:Option Nat}{bs:List Nat}{lim:Nat}{w:World}{ov:Value}{s:Sta}
def BT (B p pb:Nat) (g:Option Nat) (bs:List Nat) (lim:Nat) (w:World) (ov:Value) (r:Res Unit) (e:Ending) (w':World):Prop:=
 match r with
 | .bad er=>X5 p pb w ov er e w'
 | .ok _ s=>e=.returned (.tuple #[])∧∃ K' ov',K'≤w'.heap.size∧RS B K' p pb g bs lim w' ov' s∧Mv p pb w ov w' ov'
theorem BT.bad {R:Res Unit}{er:Nat}{w':World}(e:R=.bad er) (ht:Touch (FT p pb ov) w w'):BT B p pb g bs lim w ov R (pan er) w':=by
 subst e;exact ⟨rfl,ht⟩
theorem BT.of {R:Res Unit}{w1 w':World}{ov1:Value}{e:Ending}(hK:K≤w1.heap.size) (m:Mv p pb w ov w1 ov1) (h:RTo B K p pb g bs lim w1 ov1 uv R e w'):(∃ er,e=pan er∧BT B p pb g bs lim w ov R (pan er) w')∨(e=.returned (.tuple #[])∧BT B p pb g bs lim w ov R (.returned (.tuple #[])) w'):=by
 cases R with
 | bad er=>
  obtain ⟨rfl,ht⟩:=h;exact .inl ⟨er,rfl,rfl,m.bad ht⟩
 | ok u s1=>
  obtain ⟨rfl,ov2,h2,m2⟩:=h;exact .inr ⟨rfl,rfl,K,ov2,Nat.le_trans hK m2.touch.size,h2,m.trans m2⟩
set_option maxHeartbeats 3200000 in
theorem zd8 (hK:K≤w.heap.size) (hB:2<B) (hT:Tab w) (h:RS B K p pb g bs lim w ov s) :
  Calls prog 39 #[.pointer (some ⟨p,0,none⟩)] w (BT B p pb g bs lim w ov (blk bs lim s)):=by
 obtain ⟨R,hR⟩:=exq (blk bs lim s);rw [←hR];unfold blk at hR;have HR:=J hR;have H:=J h;have HT:=J hT;have HB:=J hB;have HK:=J hK;clear hR h hT hB hK;go_enter func39,ntmps39;go_wp2_with fail
 refine (zY H.out 2 (by omega)).mono ?_;rintro e w1 h1;have hR:=HR.out;cases hr1:rdN bs 2 s with
 | bad er=>
  rw [hr1] at h1 hR;obtain ⟨rfl,ht⟩:=h1;have HR1:=J hR;clear hr1 hR;go_wp2;exact ⟨rfl,BT.bad HR1.out ht⟩
 | ok k s1=>
 rw [hr1] at h1;rw [hr1,Res.bind_ok] at hR;obtain ⟨rfl,ov1,h1,m1⟩:=h1;have hk4:k<4:=qE hr1;have HR1:=J hR;have H1:=J h1;have M1:=J m1;have HK1:=J (Nat.le_trans HK.out m1.touch.size);have HT1:Hid (Tab w1):=J (HT.out.touch m1.touch fun h0=>by have:=H.out.base 2 h0;have:=HB.out;omega);clear hr1 hR h1 m1 HR;rcases (by omega:k=0∨k=1∨k=2∨k=3) with rfl | rfl | rfl | rfl
 ·have hR:=HR1.out
  rw [if_pos rfl] at hR;have HR2:=J hR;clear hR;go_wp2_with fail
  refine (zbx H1.out).mono ?_;rintro e w2 h2;rw [←HR2.out] at h2;rcases BT.of HK1.out M1.out h2 with ⟨er,rfl,h3⟩ | ⟨rfl,h3⟩
  ·have H3:=J h3
   clear h2 h3;go_wp2;exact ⟨rfl,H3.out⟩
  ·have H3:=J h3
   clear h2 h3;go_wp2;go_end0;exact H3.out
 ·have hR:=HR1.out
  rw [if_neg (by decide),if_pos rfl] at hR;have HR2:=J hR;clear hR;go_wp2_with fail
  refine (vR H1.out HK1.out).mono ?_;rintro e w2 ⟨p1,p2,rfl,hc1,hc2,⟨K2,hK2,h2⟩,m2⟩;have HC1:=J hc1;have HC2:=J hc2;have H2:=J h2;have M2:=J (M1.out.trans m2);have HK2:=J hK2;clear hc1 hc2 h2 m2 hK2;go_wp2_with fail
  refine (uX H2.out HC1.out HC2.out).mono ?_;rintro e w3 h3;rw [←HR2.out] at h3;rcases BT.of HK2.out M2.out h3 with ⟨er,rfl,h4⟩ | ⟨rfl,h4⟩
  ·have H3:=J h4
   clear h3 h4;go_wp2;exact ⟨rfl,H3.out⟩
  ·have H3:=J h4
   clear h3 h4;go_wp2;go_end0;exact H3.out
 ·have hR:=HR1.out
  rw [if_neg (by decide),if_neg (by decide),if_pos rfl] at hR;have HR2:=J hR;clear hR;go_wp2_with fail
  refine (Kg HK1.out HB.out HT1.out H1.out).mono ?_;rintro e w2 h2;have hR:=HR2.out;cases hr2:kn bs s1 with
  | bad er=>
   rw [hr2] at h2 hR;obtain ⟨rfl,ht⟩:=h2;have HR3:=J hR;clear hr2 hR;go_wp2;exact ⟨rfl,BT.bad HR3.out (M1.out.bad ht)⟩
  | ok c s2=>
  rw [hr2] at h2;rw [hr2,Res.bind_ok] at hR;obtain ⟨p1,p2,rfl,hc1,hc2,ov2,h2,m2⟩:=h2;have HR3:=J hR;have HC1:=J hc1;have HC2:=J hc2;have H2:=J h2;have M2:=J (M1.out.trans m2);have HK2:=J (Nat.le_trans HK1.out m2.touch.size);clear hr2 hR hc1 hc2 h2 m2;go_wp2_with fail
  refine (uX H2.out HC1.out HC2.out).mono ?_;rintro e w3 h3;rw [←HR3.out] at h3;rcases BT.of HK2.out M2.out h3 with ⟨er,rfl,h4⟩ | ⟨rfl,h4⟩
  ·have H3:=J h4
   clear h3 h4;go_wp2;exact ⟨rfl,H3.out⟩
  ·have H3:=J h4
   clear h3 h4;go_wp2;go_end0;exact H3.out
 ·have hR:=HR1.out
  rw [if_neg (by decide),if_neg (by decide),if_neg (by decide)] at hR;have HR2:=J hR;clear hR;go_wp2;exact ⟨rfl,BT.bad (er:=10) HR2.out M1.out.touch⟩
end
theorem vn (q:Nat) (er:Nat) (w:World) (x:Int) (hc:w.cell? ⟨q,0,none⟩=some (.int .i64 x)) (hz:w.frozen? ⟨q,0,none⟩=false) :
  CallsD prog 37 #[.pointer (some ⟨q,0,none⟩)] (.panicking [{ v:=.iface 68 (.int .i64 (er:Nat)),recovered:=false }]) w fun e u' w'=>
   e=.returned (.tuple #[])∧u' = .panicking [{ v:=.iface 68 (.int .i64 (er:Nat)),recovered:=true }]∧w'=w.setCell ⟨q,0,none⟩ (.int .i64 (er:Nat)):=by
 refine callsD_of_wpS func37 rfl fun c₀ cs hu=>?_
 apply wpS_seq;apply wpS_region;simp [wpOpsS,go_sem,recoverD,hu,ntmps37,Exit.thenS];refine wpS_of_wp ?_;have hta:∀ W:World,(Instr.typeAssert (.iface 68 (.int .i64 (er:Nat))) 20 68 true).run prog W=.ok (.tuple #[.int .i64 (er:Nat),.bool true]) W:=fun _=>by
  kernel_rfl
 simp only [Array.replicate,List.replicate,List.setIfInBounds_toArray,List.append_toArray];go_wp2;simp [bodyPostS,results,results37]
theorem zaF (q:Nat) (w:World) :
  CallsD prog 37 #[.pointer (some ⟨q,0,none⟩)] .returning w fun e u' w'=>
   e=.returned (.tuple #[])∧u' = .returning∧w'=w:=by
 refine callsD_of_wpS func37 rfl fun c₀ cs hu=>?_
 apply wpS_seq;apply wpS_region;simp [wpOpsS,go_sem,recoverD,hu,ntmps37,Exit.thenS];refine wpS_of_wp ?_;have hta:∀ W:World,(Instr.typeAssert .nilIface 20 68 true).run prog W=.ok (.tuple #[.int .i64 0,.bool false]) W:=fun _=>by
  kernel_rfl
 simp only [Array.replicate,List.replicate,List.setIfInBounds_toArray,List.append_toArray];go_wp2;simp [bodyPostS,results,results37];obtain ⟨f,t,td,df,md,kd,rd⟩:=c₀;simp at hu;simp [hu]
section
variable {bs:List Nat}{lim:Nat}{α β : Type}
def NZ (L:Nat) (f:Sta→Res α):Prop:=∀ s er,s.at_≤L→f s=.bad er→er≠0
theorem NZ.bind {L:Nat}{f:Sta→Res α}{k : α → Sta→Res β}(h:NZ L f) (hp:Pr L 0 f) (hk:∀ a,NZ L (k a)):NZ L fun s=>(f s).bind k:=by
 intro s er hs hb;cases hr:f s with
 | bad e=>
  simp only [hr,Res.bind_bad,Res.bad.injEq] at hb;subst hb;exact h s e hs hr
 | ok a s1=>
  simp only [hr,Res.bind_ok] at hb;exact hk a s1 er (hp s a s1 hs hr).end_ hb
theorem NZ.run {L:Nat}{f : α → Sta→Res (Bool × α)}(hf:vg L f) (h:∀ a,NZ L (f a)) (a : α):NZ L (YtacpfpghokcdlaaGreatDoor.run L f a):=by
 have key:∀ n s a er,L-s.at_≤n→s.at_≤L→YtacpfpghokcdlaaGreatDoor.run L f a s=.bad er→er≠0:=by
  intro n;induction n with
  | zero=>
   intro s a er hn hs hr;rw [xl hf a hs] at hr;cases hx:f a s with
   | bad e=>
    simp only [hx,Res.bind_bad,Res.bad.injEq] at hr;subst hr;exact h a s e hs hx
   | ok x s'=>have:=hf a s x s' hs hx;omega
  | succ n ih=>
   intro s a er hn hs hr;rw [xl hf a hs] at hr;cases hx:f a s with
   | bad e=>
    simp only [hx,Res.bind_bad,Res.bad.injEq] at hr;subst hr;exact h a s e hs hx
   | ok x s'=>
    have h3:=hf a s x s' hs hx;simp only [hx,Res.bind_ok] at hr;split at hr
    ·cases hr
    ·exact ih s' x.2 er (by omega) h3.2 hr
 intro s er hs hr;exact key _ s a er (Nat.le_refl _) hs hr
theorem je {L:Nat}(n:Nat):NZ L (rdN bs n):=by
 intro s er _ h;unfold rdN at h;split at h <;> cases h
 decide
theorem zaP {L:Nat}(ls:List Nat):NZ L (rdS bs ls):=by
 intro s er _ h;unfold rdS at h;split at h
 ·cases h;decide
 ·split at h
  ·cases h;decide
  ·split at h <;> cases h
   decide
theorem Uk (o:Option (Nat × Nat)):NZ (8*bs.length) (grown bs o):=by
 cases o with
 | none=>intro s er _ h;cases h;decide
 | some x=>exact (je x.2).bind (qd _) fun v s er _ h=>by cases h
theorem UM (ol:List Nat) (y:Nat):NZ (8*bs.length) (again bs lim ol y):=by
 refine (Uk _).bind (yU _) fun n=>?_
 refine (zaP _).bind (J9 _) fun d=>?_
 refine (Uk _).bind (yU _) fun far s er _ h=>?_
 split at h
 ·cases h;decide
 ·split at h <;> cases h
  decide
theorem zhQ (fl ol:List Nat) (u:Unit):NZ (8*bs.length) (zan bs lim fl ol u):=by
 refine (zaP _).bind (J9 _) fun y s er hs h=>?_
 split at h
 ·split at h <;> cases h
  decide
 ·split at h
  ·cases h
  ·cases hr:again bs lim ol y { s with steps:=s.steps+1 } with
   | bad e=>
    simp only [hr,Res.bind_bad,Res.bad.injEq] at h;subst h;exact UM ol y { s with steps:=s.steps+1 } e hs hr
   | ok u s2=>simp only [hr,Res.bind_ok] at h;cases h
theorem vG (fl ol:List Nat):NZ (8*bs.length) (xF bs lim fl ol):=NZ.run (yt fl ol) (zhQ fl ol) ()
theorem KY:NZ (8*bs.length) (stored bs lim):=by
 intro s er hs h;have hk:=((je (bs:=bs) (L:=8*bs.length) 16).bind (qd (lim:=0) 16) (k:=fun n s1=>(rdN bs 16 s1).bind fun m s2=>
  if m≠65535-n then .bad 10 else if 8*bs.length<s2.at_+8*n then .bad 15 else if lim<s2.out.length+n then .bad 14
  else .ok () { s2 with at_:=s2.at_+8*n,out:=s2.out++(bs.drop (s2.at_/8)).take n,steps:=s2.steps+n }) fun n=>by
   refine (je 16).bind (qd 16) fun m s2 er _ h=>?_
   split at h
   ·cases h;decide
   ·split at h
    ·cases h;decide
    ·split at h <;> cases h
     decide)
 exact hk { s with at_:=up8 s.at_ } er (vB hs) h
theorem zly (own:List Nat):NZ (8*bs.length) (itm bs own):=by
 refine (zaP _).bind (J9 _) fun y=>?_
 intro s er hs h;split at h
 ·exact ((je (xb y)).bind (qd _) (k:=fun v s2 => .ok (y,v) s2) fun v s er _ h=>by cases h) s er hs h
 ·cases h
theorem zhA (own:List Nat) (n:Nat) (row:List Nat):NZ (8*bs.length) (yx bs own n row):=by
 refine (zly own).bind (fun s a t hs h=>(zaB own hs h).2) fun x s er hs h=>?_
 split at h
 ·cases h;decide
 ·split at h <;> cases h
  decide
theorem zhP (own:List Nat) (n:Nat):NZ (8*bs.length) (lens bs own n):=NZ.run (xS own n) (zhA own n) []
theorem zlx (k:Nat):∀ l,NZ (8*bs.length) (rdO bs k l):=by
 induction k with
 | zero=>intro l s er _ h;cases h
 | succ k ih=>intro l;exact (je 3).bind (qd 3) fun v=>ih _
theorem UO:NZ (8*bs.length) (kn bs):=by
 refine (je 5).bind (qd 5) fun l=>?_
 refine (je 5).bind (qd 5) fun d=>?_
 refine (je 4).bind (qd 4) fun c s er hs h=>?_
 split at h
 ·cases h;decide
 ·refine ((zlx (4+c) []).bind (zgl (4+c) []) fun o s er hs h=>?_) s er hs h
  split at h
  ·cases h;decide
  ·refine ((zhP (zp o) (258+l+d)).bind (zcs (zp o) (258+l+d)) fun row s er hs h=>?_) s er hs h
   split at h
   ·cases h;decide
   ·split at h <;> cases h
    decide
theorem zkt:NZ (8*bs.length) (blk bs lim):=by
 refine (je 2).bind (qd 2) fun k s er hs h=>?_
 split at h
 ·exact KY s er hs h
 ·split at h
  ·exact vG _ _ s er hs h
  ·split at h
   ·exact (UO.bind yT fun c=>vG c.1 c.2) s er hs h
   ·cases h;decide
theorem zjk (_hb:Bs bs) (u:Unit):NZ (8*bs.length) (xJ bs lim u):=by
 refine (je 1).bind (qd 1) fun l=>?_
 intro s er hs h;cases hr:blk bs lim s with
 | bad e=>
  simp only [hr,Res.bind_bad,Res.bad.injEq] at h;subst h;exact zkt s e hs hr
 | ok u s2=>simp only [hr,Res.bind_ok] at h;cases h
theorem ziJ (hb:Bs bs){er:Nat}(h:infl bs lim=.bad er):er≠0:=NZ.run (xp hb) (zjk hb) () _ er (Nat.zero_le _) h
end
section
variable {B K p pb:Nat}{g:Option Nat}{bs:List Nat}{lim:Nat}{w:World}{ov:Value}{s:Sta}
def rest (bs:List Nat) (lim:Nat) (last:Bool) (s:Sta):Res Unit:=if last then .ok () s else run (8*bs.length) (xJ bs lim) () s
theorem zje (hb:Bs bs) (hs:s.at_≤8*bs.length):rest bs lim false s=(rdN bs 1 s).bind fun l s1=>(blk bs lim s1).bind fun _ s2=>rest bs lim (decide (l=1)) { s2 with blocks:=s2.blocks+1 }:=by
 unfold rest;rw [if_neg (by decide),xl (xp hb) () hs];unfold xJ;cases hr:rdN bs 1 s with
 | bad e=>rfl
 | ok l s1=>
  simp only [Res.bind_ok];cases hr2:blk bs lim s1 with
  | bad e=>rfl
  | ok u s2=>rfl
structure Bx (B p pb:Nat) (g:Option Nat) (bs:List Nat) (lim:Nat) (w:World) (ov:Value) (q:Nat) (wr:World) (ov':Value) (s':Sta):Prop where
 rs:∃ K,K≤wr.heap.size∧RS B K p pb g bs lim wr ov' s'
 mv:Mv p pb w ov wr ov'
 tab:Tab wr
 err:Blk wr q 28 #[.int .i64 0]
theorem Bx.on {q:Nat}{wr w':World}{ov' ov2:Value}{s' s2:Sta}{K':Nat}(hB:2<B) (h:Bx B p pb g bs lim w ov q wr ov' s') (hK:K'≤w'.heap.size) (k:RS B K' p pb g bs lim w' ov2 s2) (m:Mv p pb wr ov' w' ov2) :
  Bx B p pb g bs lim w ov q w' ov2 s2:=by
 obtain ⟨K0,_,h0⟩:=h.rs;exact ⟨⟨K',hK,k⟩,h.mv.trans m,h.tab.touch m.touch fun h1=>by have:=h0.base 2 h1;omega,h.err.safe m.touch h0.safe (by decide)⟩
theorem RS.err {q:Nat}{cs:Array Value}(h:RS B K p pb g bs lim w ov s) (hq:Blk w q 28 cs) (x:Value):RS B K p pb g bs lim (w.setCell ⟨q,0,none⟩ x) ov s:=by
 have ht:Touch (fun k=>k=q) w (w.setCell ⟨q,0,none⟩ x):=(Touch.refl _ w).setCell _ _ (.inl rfl);have hne:∀ k t cs',Blk w k t cs'→t≠28→k≠q:=by
  rintro k t cs' hk h1 rfl;rw [Blk,hq] at hk;simp at hk;exact h1 hk.2.symm
 obtain ⟨fx,hb,hf⟩:=h.blk;obtain ⟨sv,ho,hg,hs⟩:=h.ob.blk;refine ⟨⟨fx,hb.touch ht (hne _ _ _ hb (by decide)),?_⟩,h.ob.touch ht fun k hk=>?_,zd h.own ht fun i hi=>?_,h.hp,h.row,h.len,h.lim_,h.in_,h.out,h.steps,h.blocks,h.bytes⟩
 ·rcases hf with hf | ⟨q',p1,p2,hv,h1,h2,h3,h4⟩
  ·exact .inl hf
  ·exact .inr ⟨q',p1,p2,hv,h1.touch ht (hne _ _ _ h1 (by decide)),h2.aside hq ht ⟨by decide,by decide,fun h=>by cases h⟩,h3.aside hq ht ⟨by decide,by decide,fun h=>by cases h⟩,h4⟩
 ·rcases hk with rfl | hk
  ·exact hne _ _ _ ho (by decide)
  ·rw [←hg] at hk
   obtain ⟨cs',hc⟩:=zZ hs hk;exact hne _ _ _ hc (by decide)
 ·obtain ⟨cs',hc⟩:=zZ h.own hi
  exact hne _ _ _ hc (by decide)
def RA (B p pb:Nat) (g:Option Nat) (bs:List Nat) (lim:Nat) (w:World) (ov:Value) (r:Res Unit) (e:Ending) (w':World):Prop:=
 match r with
 | .bad er=>e=.returned (.int .i64 (er:Nat))∧Touch (FT p pb ov) w w'
 | .ok _ s=>e=.returned (.int .i64 0)∧∃ K' ov',K'≤w'.heap.size∧RS B K' p pb g bs lim w' ov' s∧Mv p pb w ov w' ov'
theorem RA.fail {q:Nat}{w':World}{R:Res Unit}{er:Nat}{tm:Array Value}(hq:w.heap.size≤q) (he:Blk w' q 28 #[.int .i64 0]) (ht:Touch (FT p pb ov) w w') (hR:Res.bad er=R) (h2:tm[2]? = some (.pointer (some ⟨q,0,none⟩))) :
  Leaves prog Tryz.f21 tm (RA B p pb g bs lim w ov R) [{ target:=.fn (.func 37) #[.pointer (some ⟨q,0,none⟩)],args := #[] }] (.panicking [{ v:=.iface 68 (.int .i64 (er:Nat)),recovered:=false }]) w':=by
 have e0:=(he.cell 0).trans (show _=some (.int .i64 0) from rfl);have f0:=he.free 0;refine leaves_cons (f:=37) (args := #[.pointer (some ⟨q,0,none⟩)]) (by simp) (by simp [go_sem]) ?_;refine (vn q er _ 0 e0 f0).mono ?_;rintro e u' w'' ⟨rfl,rfl,rfl⟩;have hc:(w'.setCell ⟨q,0,none⟩ (.int .i64 (er:Nat))).cell? ⟨q,0,none⟩=some (.int .i64 (er:Nat)):=World.cell?_setCell_same _ _ _ e0;subst hR;simp [Leaves,settle,results,results21,go_sem,hc,h2];exact ⟨rfl,ht.setCell _ _ (.inr hq)⟩
set_option maxHeartbeats 3200000 in
theorem Uc (hK:K≤w.heap.size) (hB:2<B) (hT:Tab w) (hb:Bs bs) (h:RS B K p pb g bs lim w ov s) :
  Calls prog 21 #[.pointer (some ⟨p,0,none⟩)] w (RA B p pb g bs lim w ov (run (8*bs.length) (xJ bs lim) () s)):=by
 obtain ⟨R,hR⟩:∃ R,rest bs lim false s=R:=⟨_,rfl⟩;rw [show run (8*bs.length) (xJ bs lim) () s=R from hR];have hmf:∀ (fn:Fn) (first cap:Array Value) (w:World),(Instr.makeFunc fn first cap).run prog w=.ok (.func fn first cap) w:=fun _ _ _ _=>rfl
 obtain ⟨q,hq⟩:=exq (w.heap.size);have hin:=h.in_;obtain ⟨h0,m0⟩:=h.grow ((Below.refl _ w).alloc (Nat.le_refl _) (.cells #[.int .i64 0] 28));have hB0:Blk (w.alloc (.cells #[.int .i64 0] 28)) q 28 #[.int .i64 0]:=by rw [hq];exact heap_alloc_new w _
 have X0:=J (show Bx B p pb g bs lim w ov q (w.alloc (.cells #[.int .i64 0] 28)) ov s from ⟨⟨K,Nat.le_trans hK m0.touch.size,h0⟩,m0,hT.touch m0.touch fun h1=>by have:=h.base 2 h1;omega,hB0⟩)
 have HR:=J hR;have HB:=J hB;have HBs:=J hb;clear h0 m0 hB0 hR hT hb h hK hB;go_enter_defers func21,ntmps21
 go_wp2;rw [←hq] at ⊢;have hq2:w.heap.size≤q:=by omega
 clear hq;go_loopg [3] (8*bs.length+1) (fun gm v wr=>∃ (last:Bool) (ov':Value) (s':Sta),8*bs.length+1-s'.at_≤gm∧v=.bool last∧Hid (rest bs lim last s'=R)∧Bx B p pb g bs lim w ov q wr ov' s')
 case atStart=>exact ⟨false,ov,s,by omega,rfl,HR,X0.out⟩
 case round=>
  clear X0 HR;obtain ⟨last,ov1,s1,hgm,rfl,HR,hx⟩:=hrel;have HX:=J hx;have e0:=(hx.err.cell 0).trans (show _=some (.int .i64 0) from rfl);have f0:=hx.err.free 0;cases last with
  | true=>
   have hR:=HR.out;have HR1:=J (show Res.ok () s1=R from hR);clear hR HR hx;go_wp2;obtain ⟨K1,hk1,hx1⟩:=HX.out.rs;refine leaves_cons (f:=37) (args := #[.pointer (some ⟨q,0,none⟩)]) (by simp) (by simp [go_sem]) ?_;refine (zaF q _).mono ?_;rintro e u' w'' ⟨rfl,rfl,rfl⟩;have hc:(wr.setCell ⟨q,0,none⟩ (.int .i64 0)).cell? ⟨q,0,none⟩=some (.int .i64 0):=World.cell?_setCell_same _ _ _ e0;simp only [Leaves,settle,results,results21,go_sem];rw [←HR1.out];simp [hc];exact ⟨rfl,K1,ov1,by simpa using hk1,hx1.err HX.out.err _,HX.out.mv.touch.setCell _ _ (.inr hq2),HX.out.mv.row⟩
  | false=>
   obtain ⟨K1,hk1,hx1⟩:=hx.rs;have H1:=J hx1;have hin1:=hx1.in_;have hR:=HR.out;rw [zje HBs.out hin1] at hR;have HR1:=J hR;clear hx hx1 hR HR;go_wp2_with fail
   refine (zY H1.out 1 (by omega)).mono ?_;rintro e w2 h2;have hR:=HR1.out;cases hr1:rdN bs 1 s1 with
   | bad er=>
    rw [hr1] at h2 hR;obtain ⟨rfl,ht⟩:=h2;have HR2:=J (show Res.bad er=R from hR);have HT:=J (HX.out.mv.bad ht);have HE:=J (HX.out.err.safe ht H1.out.safe (by decide));clear hr1 hR ht e0 f0;go_wp2;exact RA.fail hq2 HE.out HT.out HR2.out rfl
   | ok k s2=>
    rw [hr1] at h2;rw [hr1,Res.bind_ok] at hR;obtain ⟨rfl,ov2,h2,m2⟩:=h2;have hk2:k<2:=qE hr1;have hin2:=xn hr1;have hs2:=hin2.2.2;have hat2:s2.at_=s1.at_+1:=by rw [hs2]
    have hbk2:s2.blocks=s1.blocks:=by rw [hs2]
    have hbk1:=H1.out.blocks;have HR2:=J hR;have HK2:=J (Nat.le_trans hk1 m2.touch.size);have X2:=J (HX.out.on HB.out HK2.out h2 m2);have H2:=J h2;clear hr1 hR e0 f0 HX H1 hk1 hin2 hs2 h2 m2;go_wp2_with fail
    refine (zd8 HK2.out HB.out X2.out.tab H2.out).mono ?_;rintro e w3 h3;have hR:=HR2.out;cases hr2:blk bs lim s2 with
    | bad er=>
     rw [hr2] at h3 hR;obtain ⟨rfl,ht⟩:=h3;have HR3:=J (show Res.bad er=R from hR);have HT:=J (X2.out.mv.bad ht);have HE:=J (X2.out.err.safe ht H2.out.safe (by decide));clear hr2 hR ht;go_wp2;exact RA.fail hq2 HE.out HT.out HR3.out rfl
    | ok u s3=>
     rw [hr2] at h3 hR;obtain ⟨rfl,K3,ov3,hk3,h3,m3⟩:=h3;have hp3:=zgP HBs.out _ _ _ H2.out.in_ hr2;have X3:=J (X2.out.on HB.out hk3 h3 m3);have c4:=h3.cells.c4;have f4:=h3.cells.f4;have hbk:s3.blocks+1≤s3.at_:=by have:=hp3.blocks;omega
     have hln:=h3.len;have hi3:=h3.in_;obtain ⟨h4,m4⟩:=h3.setBlocks (s3.blocks+1) hbk (x:=(s3.blocks:Int)+1) (by simp);have X4:=J (X3.out.on HB.out (Nat.le_trans hk3 m4.touch.size) h4 m4);have HR3:=J hR;have hat3:=hp3.at_;clear hr2 hR h3 m3 h4 m4 X2 X3 HR2 H2 hp3 hk3;go_wp2;go_roundg (8*bs.length+1-s3.at_)
     case measure=>omega
     case rel=>
      refine ⟨decide (k=1),ov3,{ s3 with blocks:=s3.blocks+1 },Nat.le_refl _,?_,HR3,X4.out⟩;rcases (by omega:k=0∨k=1) with rfl | rfl <;> rfl
end
theorem UJ {t:Array Value}{W:World}{q:Nat}{x0 x1 x2 x3 er:Value}(h4:t[4]? = some (.pointer (some ⟨q,0,none⟩))) (h5:t[5]? = some er) (h:Blk W q 27 #[x0,x1,x2,x3]) :
  (results Tryz.f12 t).run prog W=.ok (.tuple #[.agg #[x0,x1,x2,x3],er]) W:=by
 have e0:=(h.cell 0).trans (show _=some x0 from rfl);have e1:=(h.cell 1).trans (show _=some x1 from rfl);have e2:=(h.cell 2).trans (show _=some x2 from rfl);have e3:=(h.cell 3).trans (show _=some x3 from rfl);simp [results,results12,h4,h5,go_sem,e0,e1,e2,e3]
theorem zeO {S:Nat→Prop}{w w3 w4:World}{b:Nat}(h1:Touch S w w3) (h2:Touch (fun k=>b≤k) w3 w4) (hb:b=w.heap.size) (h0:∀ k,¬S k) (x0 x1 x2 x3:Value) :
  Below b w ((((w4.setCell ⟨b,0,none⟩ x0).setCell ⟨b,1,none⟩ x1).setCell ⟨b,2,none⟩ x2).setCell ⟨b,3,none⟩ x3):=by
 subst hb;have h3:Touch (fun k=>w.heap.size≤k) w w4:=(h1.mono (fun k hk=>absurd hk (h0 k))).trans h2;exact ((((h3.setCell _ _ (.inr (Nat.le_refl _))).setCell _ _ (.inr (Nat.le_refl _))).setCell _ _ (.inr (Nat.le_refl _))).setCell _ _ (.inr (Nat.le_refl _))).below (Nat.le_refl _) fun k h=>h
theorem zf1 {S:Nat→Prop}{w w3 w4:World}{b:Nat}(h1:Touch S w w3) (h2:Touch (fun k=>b≤k) w3 w4) (hb:b=w.heap.size) (h0:∀ k,¬S k) (x0 x1 x2 x3:Value) :
  Below b w ((((w4.setCell ⟨b,0,none⟩ x0).setCell ⟨b,1,none⟩ x1).setCell ⟨b,2,none⟩ x2).setCell ⟨b,3,none⟩ x3).drew:=
 zQ (zeO h1 h2 hb h0 x0 x1 x2 x3)
theorem zh7 {w4:World}{b n:Nat}{ov:Value}{xs:List Value}(h:w4.ownsRow (b+1) 5 1 ov n xs) (x0 x1 x2 x3:Value) :
  ((((w4.setCell ⟨b,0,none⟩ x0).setCell ⟨b,1,none⟩ x1).setCell ⟨b,2,none⟩ x2).setCell ⟨b,3,none⟩ x3).drew.ownsRow b 5 1 ov n xs:=by
 have h0:Touch (fun k=>k=b) w4 w4:=Touch.refl _ _;have h1:=h0.setCell ⟨b,0,none⟩ x0 (.inl rfl);have h2:=h1.setCell ⟨b,1,none⟩ x1 (.inl rfl);have h3:=h2.setCell ⟨b,2,none⟩ x2 (.inl rfl);have ht:=h3.setCell ⟨b,3,none⟩ x3 (.inl rfl);refine zz (zd h ht.drew ?_) (Nat.le_succ _);intro i hi e;have:=(h.lt i hi).1;omega
theorem zhy {w4:World}{b:Nat}{y0 y1 y2 y3:Value}(h:Blk w4 b 27 #[y0,y1,y2,y3]) (x0 x1 x2 x3:Value) :
  Blk ((((w4.setCell ⟨b,0,none⟩ x0).setCell ⟨b,1,none⟩ x1).setCell ⟨b,2,none⟩ x2).setCell ⟨b,3,none⟩ x3).drew b 27 #[x0,x1,x2,x3]:=
 ((((h.setCell 0 x0).setCell 1 x1).setCell 2 x2).setCell 3 x3).drewN 1
def zl7 (w:World) (r:Res Unit) (e:Ending) (w':World):Prop:=
 Below w.heap.size w w'∧match r with
 | .bad er=>e=.returned (.tuple #[.agg #[.slice none 0 0,.int .i64 0,.int .i64 0,.int .i64 0],.int .i64 (er:Nat)])
 | .ok _ s=>∃ ov,e=.returned (.tuple #[.agg #[ov,.int .i64 ((s.at_+7)/8:Nat),.int .i64 (s.steps:Nat),.int .i64 (s.blocks:Nat)],.int .i64 0])∧w'.ownsRow w.heap.size 5 1 ov s.out.length (u8s s.out)
set_option maxHeartbeats 3200000 in
theorem Ux {w:World}{v:Value}{bs:List Nat}(h:zi w v bs) (hb:Bs bs) (hl:bs.length≤100000) (limit:Int) (lim:Nat) (hlim:lim=limit.toNat) (hl2:lim≤2000000) (hT:Tab w) (hB:2<w.heap.size) :
  Calls prog 12 #[v,.int .i64 limit] w (zl7 w (infl bs lim)):=by
 have hmx:max limit 0=(lim:Int):=by omega
 have HM:=J hmx;have HS:=J h;have HB:=J hb;have HT:=J hT;have HI:=J (show infl bs lim=run (8*bs.length) (xJ bs lim) () st0 from rfl);obtain ⟨R,hR⟩:∃ R,infl bs lim=R:=⟨_,rfl⟩;rw [hR];have HR:=J hR;clear h hb hT hmx hlim hR;go_enter func12,ntmps12;go_wp2_with fail
 refine (Kl (HS.out.touch ((Touch.refl (fun _=>False) w).alloc _) (fun _ _ h=>h)) HB.out (by omega)).mono ?_;rintro e w2 ⟨pb,g,rfl,ho,ht⟩;have hw1:(w.alloc (.cells #[.slice none 0 0,.int .i64 0,.int .i64 0,.int .i64 0] 27)).heap.size=w.heap.size+1:=Array.size_push _;rw [hw1] at ho;have hq2:Blk w2 w.heap.size 27 #[.slice none 0 0,.int .i64 0,.int .i64 0,.int .i64 0]:=(Blk.made w 27 _).touch ht (fun h=>h);have ht2:Touch (fun _=>False) w w2:=((Touch.refl (fun _=>False) w).alloc _).trans ht;have hsz:w.heap.size+1≤w2.heap.size:=by rw [←hw1];exact ht.size
 have hr3:RS (w.heap.size+1) 0 w2.heap.size pb g bs lim (w2.alloc (.cells (rc pb (.slice none 0 0) lim st0 (.pointer none)) 49)) (.slice none 0 0) st0:=
  ⟨⟨_,Blk.made _ _ _,.inl rfl⟩,ho.touch ((Touch.refl (fun _=>False) w2).alloc _) (fun _ _ h=>h),World.ownsRow_nil _ _ _ _,hsz,fun k hk=>absurd hk (by simp [Value.ownBlock]),hl,hl2,Nat.zero_le _,Nat.zero_le _,Nat.zero_le _,Nat.zero_le _,Bs.nil⟩
 have hq3:Blk (w2.alloc (.cells (rc pb (.slice none 0 0) lim st0 (.pointer none)) 49)) w.heap.size 27 #[.slice none 0 0,.int .i64 0,.int .i64 0,.int .i64 0]:=hq2.touch ((Touch.refl (fun _=>False) w2).alloc _) (fun h=>h);have ht3:Touch (fun _=>False) w (w2.alloc (.cells (rc pb (.slice none 0 0) lim st0 (.pointer none)) 49)):=ht2.alloc _;have H3:=J hr3;have HQ3:=J hq3;have HT3:=J ht3;have HTab:=J (HT.out.touch ht3 (fun h=>h));clear ho ht hw1 hq2 ht2 hr3 hq3 ht3;go_wp2_with fail
 rw [HM.out];refine (Uc (Nat.zero_le _) (by omega) HTab.out HB.out H3.out).mono ?_;rintro e w4 h4;rw [←HI.out,HR.out] at h4;cases R with
 | bad er=>
  obtain ⟨rfl,ht⟩:=h4;have her:=ziJ HB.out HR.out;have HQ4:=J (HQ3.out.safe ht H3.out.safe (by decide));have HT4:=J ht;have d1:((er:Int) != 0)=true:=by simp;omega
  have e0:=(HQ4.out.cell 0).trans (show _=some (.slice none 0 0) from rfl);have e1:=(HQ4.out.cell 1).trans (show _=some (.int .i64 0) from rfl);have e2:=(HQ4.out.cell 2).trans (show _=some (.int .i64 0) from rfl);have e3:=(HQ4.out.cell 3).trans (show _=some (.int .i64 0) from rfl);have f0:=HQ4.out.free 0;have f1:=HQ4.out.free 1;have f2:=HQ4.out.free 2;have f3:=HQ4.out.free 3;clear ht her;go_wp2;refine bodyPost_ret (UJ rfl rfl ((((HQ4.out.setCell 0 _).setCell 1 _).setCell 2 _).setCell 3 _)) rfl ⟨?_,rfl⟩;exact zeO HT3.out (HT4.out.mono fun k hk=>Nat.le_of_succ_le (H3.out.base k hk)) rfl (fun _ h=>h) _ _ _ _
 | ok u s=>
  obtain ⟨rfl,K',ov',hk,h4,m4⟩:=h4;obtain ⟨ao,c,rfl⟩:=h4.slice;have HQ4:=J (HQ3.out.safe m4.touch H3.out.safe (by decide));have H4:=J h4;have M4:=J m4;have hat:=h4.in_;have hln:=H4.out.len;have e0:=(HQ4.out.cell 0).trans (show _=some (.slice none 0 0) from rfl);have e1:=(HQ4.out.cell 1).trans (show _=some (.int .i64 0) from rfl);have e2:=(HQ4.out.cell 2).trans (show _=some (.int .i64 0) from rfl);have e3:=(HQ4.out.cell 3).trans (show _=some (.int .i64 0) from rfl);have f0:=HQ4.out.free 0;have f1:=HQ4.out.free 1;have f2:=HQ4.out.free 2;have f3:=HQ4.out.free 3;obtain ⟨c0,c1,c2,c3,c4,_,_,_,_⟩:=h4.cells;clear hk h4 m4;have hAt:=J (show Calls prog 23 #[.pointer (some ⟨pb,0,none⟩)] w4.drew fun e w'=>e=.returned (.int .i64 (s.at_:Nat))∧w'=w4.drew from ((H4.out.ob.drewN 1).at).mono fun _ _ h=>⟨h.1,h.2.symm⟩);go_wp2_with fail
  go_still_tail 19,(by kernel_rfl)
  still_call hAt.out
  still_call ((Xs s.at_ w4.drew (by omega)).mono fun _ _ h=>⟨h.1,h.2.symm⟩)
  repeat still_step
  refine wpStill_nil ?_;change wpList _ _ _ _ _ w4.drew;go_wp2;rw [show ((s.at_:Int)+7)/8=((s.at_+7)/8:Nat) by simp];exact bodyPost_ret (UJ rfl rfl (zhy HQ4.out _ _ _ _)) rfl ⟨zf1 HT3.out (M4.out.touch.mono fun k hk=>Nat.le_of_succ_le (H3.out.base k hk)) rfl (fun _ h=>h) _ _ _ _,_,rfl,zh7 H4.out.own _ _ _ _⟩
end
section
open Go.RowKit
theorem qL (w:World) (o:Obj):(w.alloc o).heap.size=w.heap.size+1:=Array.size_push _
theorem zaZ (w:World) (xs:List Nat) (cs:Array Value) (n q:Nat) (hq:q=w.heap.size) (hn:xs.length=n) (hc:cs=(u8s xs).toArray):zi (w.alloc (.cells cs 5)) (.slice (some ⟨q,0,none⟩) n n) xs:=by
 subst hn hc hq;refine .inr ⟨⟨w.heap.size,0,none⟩,xs.length,rfl,Nat.le_refl _,fun j u hu=>?_⟩;have:=(Blk.made w 5 (u8s xs).toArray).cell j;rw [show (⟨w.heap.size,0,none⟩:Addr).add j=⟨w.heap.size,j,none⟩ by simp [Addr.add];omega,this];simpa using hu
theorem zjb (w:World) (xs:List Nat) (cs:Array Value) (n q:Nat) (z:Nat × Nat) (hq:q=w.heap.size) (hn:xs.length=n) (hc:cs=(u8s xs).toArray):zi (w.alloc (.cells cs 5 z)) (.slice (some ⟨q,0,none⟩) n n) xs:=by
 subst hn hc hq;refine .inr ⟨⟨w.heap.size,0,none⟩,xs.length,rfl,Nat.le_refl _,fun j u hu=>?_⟩;have:(w.alloc (.cells (u8s xs).toArray 5 z)).cell? ⟨w.heap.size,j,none⟩=(u8s xs).toArray[j]? := cell_of_row _ _ j _ 5 z (heap_alloc_new w _);rw [show (⟨w.heap.size,0,none⟩:Addr).add j=⟨w.heap.size,j,none⟩ by simp [Addr.add];omega,this];simpa using hu
structure Ans (W:World) (b base:Nat) (ov:Value) (out:List Nat) (u st bl:Nat):Prop where
 blk:Blk W b 27 #[ov,.int .i64 (u:Nat),.int .i64 (st:Nat),.int .i64 (bl:Nat)]
 own:W.ownsRow base 5 1 ov out.length (u8s out)
section
variable {W W':World}{b base:Nat}{ov:Value}{out:List Nat}{u st bl:Nat}
theorem Ans.below (h:Ans W b base ov out u st bl) (hb:Below W.heap.size W W'):Ans W' b base ov out u st bl:=
 ⟨h.blk.below hb,zd h.own (Touch.of_below hb:Touch (fun _=>False) W W') fun _ _ h=>h⟩
theorem Ans.by (h:Ans W b base ov out u st bl):zi W ov out:=zi.own h.own
theorem Ans.c (h:Ans W b base ov out u st bl) :
  W.cell? ⟨b,0,none⟩=some ov∧W.cell? ⟨b,1,none⟩=some (.int .i64 (u:Nat))∧W.cell? ⟨b,2,none⟩=some (.int .i64 (st:Nat))∧W.cell? ⟨b,3,none⟩=some (.int .i64 (bl:Nat)):=
 ⟨(h.blk.cell 0).trans rfl,(h.blk.cell 1).trans rfl,(h.blk.cell 2).trans rfl,(h.blk.cell 3).trans rfl⟩
end
abbrev zmj (w1:World) (ov:Value) (u st bl:Nat):World:=w1.alloc (.cells #[ov,.int .i64 (u:Nat),.int .i64 (st:Nat),.int .i64 (bl:Nat)] 27)
theorem Ans.made {w1:World}{base:Nat}{ov:Value}{out:List Nat}{u st bl:Nat}(h:w1.ownsRow base 5 1 ov out.length (u8s out)) :
  Ans (zmj w1 ov u st bl) w1.heap.size base ov out u st bl:=⟨Blk.made _ _ _,h.alloc _⟩
theorem _root_.Go.RowKit.Below.more {B:Nat}{w w1:World}(h:Below B w w1) (hB:B≤w.heap.size) (o:Obj):Below B w (w1.alloc o):=h.alloc (Nat.le_trans hB h.size) o
theorem _root_.Go.RowKit.Below.on {w w1 w2:World}(h:Below w.heap.size w w1) (k:Below w1.heap.size w1 w2):Below w.heap.size w w2:=h.trans (k.mono h.size)
end
section
open Go.ChangeShapes Go.WideShapes Go.ChangeAt Go.RowKit
theorem own:ownKnob prog.godebug=none:=by kernel_rfl
theorem laidOut:laidOutB prog=true:=by kernel_rfl
abbrev uN:List (String × DataW Unit):=[("etui/match.efforts",Rows.laid_etui_match_efforts),("etui/inflate.ownOrder",Rows.laid_etui_inflate_ownOrder),("etui/deflate.ownOrder",Rows.laid_etui_deflate_ownOrder)]
theorem zjH:∀ j,j<19→([16,17,18,0,8,7,9,6,10,5,11,4,12,3,13,2,14,1,15]:List Int).getD j 0=((ord.getD j 0:Nat):Int):=by decide
theorem zlj {W:World}(h:laidMetH prog uN W):Tab W:=by
 rw [MakeChecks.laidMetH_plain _ _ _ (by kernel_rfl)] at h;have ht:=Lib.tabIs_of_head (P:=prog) (name := "etui/inflate.ownOrder") (k:=.i64) (zs:=[16,17,18,0,8,7,9,6,10,5,11,4,12,3,13,2,14,1,15]) (rest:=[("etui/deflate.ownOrder",Rows.laid_etui_deflate_ownOrder)]) (g:=2) (t:=186) (e:=3) (n:=19) (by kernel_rfl) (by kernel_rfl) underlying186 underlying3 (by kernel_rfl) (by kernel_rfl) h.tail;intro j hj;have:=ht.cell (g:=2) (by kernel_rfl) j hj;rw [zjH j hj] at this;exact this
def kD (W:World):Prop:=∀ j,j<19→W.cell? ⟨1,j,none⟩=some (.int .i64 (ord.getD j 0:Nat))
theorem zhC {W:World}(h:laidMetH prog uN W):kD W:=by
 rw [MakeChecks.laidMetH_plain _ _ _ (by kernel_rfl)] at h;have ht:=Lib.tabIs_of_head (P:=prog) (name := "etui/deflate.ownOrder") (k:=.i64) (zs:=[16,17,18,0,8,7,9,6,10,5,11,4,12,3,13,2,14,1,15]) (rest:=[]) (g:=1) (t:=186) (e:=3) (n:=19) (by kernel_rfl) (by kernel_rfl) underlying186 underlying3 (by kernel_rfl) (by kernel_rfl) h.tail.tail;intro j hj;have:=ht.cell (g:=1) (by kernel_rfl) j hj;rw [zjH j hj] at this;exact this
theorem zi8 {H:Type}{enc:TypeId × Value→H}{w:World}{base:Nat}{spare:Nat→Bool}{held:Bool}{fuel:Nat}{a:Option Addr}{len cap:Nat}{y:DataW H × List MemPlace}
  (h:DataW.trod enc prog w base spare held fuel 22 [.slice a len cap]=some y):∃ xs:List Nat,xs.length=len∧Bs xs∧zi w (.slice a len cap) xs∧len≤cap∧cap≤maxLen:=by
 rcases open_ints underlying22 underlying5 (by kernel_rfl) h with ⟨hcs,_⟩ | ⟨ad,l,c,zs,hcs,_,hl,hm,hz,_,hcell,hwf⟩
 ·simp at hcs
  obtain ⟨rfl,rfl,rfl⟩:=hcs;exact ⟨[],rfl,(fun x h=>by cases h),.inl ⟨rfl,rfl⟩,Nat.le_refl _,Nat.zero_le _⟩
 ·simp at hcs
  obtain ⟨rfl,rfl,rfl⟩:=hcs;have hzl:len≤zs.length:=by rw [hz];split <;> omega
  have hbd:∀ n∈zs,0≤n∧n<256:=fun n hn=>by have:=bounds_u8 (hwf n hn);omega
  have hlen:((zs.take len).map Int.toNat).length=len:=by rw [List.length_map,List.length_take];omega
  refine ⟨(zs.take len).map Int.toNat,hlen,?_,.inr ⟨ad,cap,by rw [hlen],by omega,fun j u hu=>?_⟩,hl,hm⟩
  ·intro x hx
   obtain ⟨z,hz1,rfl⟩:=List.mem_map.1 hx;have:=hbd z (List.mem_of_mem_take hz1);omega
  ·have hj:j<len:=by
    have:=(List.getElem?_eq_some_iff.1 hu).1;simp only [u8s,List.length_map] at this;rw [←hlen];simpa using this
   have hcj:=hcell j (by omega);rw [hcj];have hm':=hbd (zs[j]'(by omega)) (List.getElem_mem _);simp [u8s,hj,show j<zs.length by omega,Int.toNat_of_nonneg hm'.1] at hu ⊢;exact hu
theorem zi.grow {w w':World}{v:Value}{xs:List Nat}(h:zi w v xs) (hb:Below w.heap.size w w'):zi w' v xs:=
 h.touch (Touch.of_below hb:Touch (fun _=>False) w w') fun _ _ h=>h
theorem zi.take {w:World}{ad:Addr}{n c:Nat}{xs:List Nat}(h:zi w (.slice (some ad) n c) xs) (k:Nat) (hk:k≤xs.length):zi w (.slice (some ad) k c) (xs.take k):=by
 rcases h with ⟨h,_⟩ | ⟨ad',c',he,hc,h⟩
 ·cases h
 ·simp only [Value.slice.injEq,Option.some.injEq] at he
  obtain ⟨rfl,rfl,rfl⟩:=he;refine .inr ⟨ad,c,by rw [List.length_take,Nat.min_eq_left hk],by rw [List.length_take];omega,fun j u hu=>h j u ?_⟩
  simp only [u8s,List.map_take] at hu ⊢;have hj:=(List.getElem?_eq_some_iff.1 hu).1;rw [List.length_take] at hj;rw [List.getElem?_take_of_lt (by omega)] at hu;exact hu
end
section
open Go.RowKit
theorem yz {w:World}{v:Value}{bs out:List Nat}{limit:Int}{at_ u n st bl:Nat}(h:zi w v bs) (hb:Bs bs) (hl:bs.length≤100000) (hl2:limit≤2000000) (hT:Tab w) (hi:infl bs limit.toNat=.ok () ⟨at_,out,st,bl⟩) (hu:u=(at_+7)/8) (hn:n=out.length) :
  Calls prog 12 #[v,.int .i64 limit] w fun e w'=>∃ ao c,e=.returned (.tuple #[.agg #[.slice ao n c,.int .i64 (u:Nat),.int .i64 (st:Nat),.int .i64 (bl:Nat)],.int .i64 0])∧Below w.heap.size w w'∧Ans (zmj w' (.slice ao n c) u st bl) w'.heap.size w.heap.size (.slice ao n c) out u st bl:=by
 subst hu hn;refine (Ux h hb hl limit limit.toNat rfl (by omega) hT hT.pos).mono ?_;rintro e w' ⟨bel,h2⟩;rw [hi] at h2;obtain ⟨ov,rfl,own⟩:=h2;obtain ⟨ao,c,rfl⟩:=zr own;exact ⟨ao,c,rfl,bel,Ans.made own⟩
end
section
open Go.Lib renaming hid → J
open Go.RowKit
theorem JR (w:World):(w.alloc (.cells #[] 5)).ownsRow w.heap.size 5 1 (.slice (some ⟨w.heap.size,0,none⟩) 0 0) 0 (u8s []):=by
 refine ⟨by simp [u8s],.inr ⟨w.heap.size,0,#[],rfl,Nat.le_refl _,Blk.made w 5 #[],by simp,by simp [u8s]⟩⟩
def Kept (w:World) (xs:List Nat) (e:Ending) (w':World):Prop:=
 ∃ ao c,e=.returned (.slice ao xs.length c)∧w'.ownsRow w.heap.size 5 1 (.slice ao xs.length c) xs.length (u8s xs)∧Below w.heap.size w w'
theorem zgC {w:World}{v:Value}{xs:List Nat}(h:zi w v xs) (hl:xs.length≤100000):Calls prog 10 #[v] w (Kept w xs):=by
 obtain ⟨aos,cs,rfl⟩:=h.len;have HS:=J (h.grow ((Below.refl w.heap.size w).more (Nat.le_refl _) (.cells #[] 5)));have hsz:=qL w (.cells #[] 5);clear h;go_enter func10,ntmps10;go_wp2_with (refine zx rfl (.tmp 5) (.tmp 6) rfl w.heap.size (.slice (some ⟨w.heap.size,0,none⟩) 0 0) (.slice aos xs.length cs) [] xs rfl rfl (JR w) HS.out (by omega) (by simp;omega) ?_;intro ao2 cc2 w5 hA;rw [List.nil_append] at hA;have HA:=J hA;clear hA);go_ret;refine ⟨ao2,cc2,rfl,HA.out.own,?_⟩;refine Below.trans ((Below.refl w.heap.size w).more (Nat.le_refl _) (.cells #[] 5)) ((HA.out.touch).below (by omega) fun k hk=>?_)
 simp only [Value.ownBlock,Option.some.injEq] at hk;omega
theorem zi.drop {w:World}{b off n c:Nat}{xs:List Nat}(h:zi w (.slice (some ⟨b,off,none⟩) n c) xs) (k:Nat) (hk:k<xs.length):zi w (.slice (some ⟨b,off+k,none⟩) (xs.length-k) (c-k)) (xs.drop k):=by
 rcases h with ⟨h,_⟩ | ⟨ad',c',he,hc,h⟩
 ·cases h
 ·simp only [Value.slice.injEq,Option.some.injEq] at he
  obtain ⟨rfl,rfl,rfl⟩:=he;refine .inr ⟨⟨b,off+k,none⟩,c-k,by rw [List.length_drop],by rw [List.length_drop];omega,fun j u hu=>?_⟩
  simp only [u8s,List.map_drop,List.getElem?_drop] at hu;have:=h (k+j) u hu;rw [Addr.add_lit] at this ⊢;rw [←this];congr 2
  omega
theorem Apd.kept {w w1 w':World}{v v':Value}{xs ys:List Nat}(hown:w1.ownsRow w.heap.size 5 1 v xs.length (u8s xs)) (hb:Below w.heap.size w w1) (h:Apd w1 w.heap.size v ys v' w'):Below w.heap.size w w':=
 hb.trans (h.touch.below hb.size fun k hk=>(hown.lt k hk).1)
end
section
open Go.RowKit
def lv (z:Int):Nat:=(min (max z 0) 9).toNat
def bnd (n:Nat):Nat:=n+5*max ((n+65534)/65535) 1
def frp (L:Nat) (zs:List Int):Nat→Nat
 | 0=>0
 | i+1=>frp L zs i+if 0<zs.getD i 0∧zs.getD i 0<(L:Int)∧zs.getD i 0∉zs.take i then 1 else 0
def fr (L:Nat) (zs:List Int):Nat:=frp L zs zs.length
def uR (bs out:List Nat) (k:Nat):Prop:=Bs out∧out.length≤2*bs.length+1000∧∃ at_ st bl,infl out bs.length=.ok () ⟨at_,bs,st,bl⟩∧(at_+7)/8=out.length∧k≤bl
structure zkb (Tb:World→Prop) (D:List Nat→Nat→List Nat) (S:List Nat→List Nat):Prop where
 keep:∀ {W W':World},Tb W→Below W.heap.size W W'→Tb W'
 tab:∀ {W:World},Tb W→Tab W
 defl:∀ {w:World} {v:Value} {bs:List Nat} (level:Int),Tb w→zi w v bs→Bs bs→bs.length≤5000→Calls prog 11 #[v,.int .i64 level] w (Kept w (D bs (lv level)))
 blks:∀ {w:World} {v:Value} {bs:List Nat} (level:Int) {ao:Option Addr} {c:Nat} {zs:List Int},Tb w→zi w v bs→Bs bs→bs.length≤5000→IS w ao zs→zs.length≤100→
  Calls prog 19 #[v,.int .i64 level,.slice ao zs.length c] w fun e w'=>∃ out,Kept w out e w'∧uR bs out (fr bs.length zs+1)
 sto:∀ {w:World} {v:Value} {bs:List Nat},Tb w→zi w v bs→Bs bs→bs.length≤300000→Calls prog 17 #[v] w (Kept w (S bs))
 bound:∀ (w:World) (n:Nat),n≤1099511627776→Calls prog 14 #[.int .i64 (n:Nat)] w fun e w'=>e=.returned (.int .i64 (bnd n:Nat))∧Below w.heap.size w w'
 none:∀ (w:World) (n:Int),n<0∨1099511627776<n→Calls prog 14 #[.int .i64 n] w fun e w'=>e=.returned (.int .i64 0)∧Below w.heap.size w w'
 back:∀ {bs:List Nat} {k:Nat},Bs bs→bs.length≤5000→k≤9→uR bs (D bs k) 1∧(D bs k).length≤bnd bs.length
 zero:∀ {bs:List Nat},Bs bs→bs.length≤5000→D bs 0=S bs
 few:∀ {c n k:Nat},c<256→1000≤n→n≤5000→1≤k→k≤9→(D (List.replicate n c) k).length≤n/10
theorem zjV (z:Int):lv z≤9:=by unfold lv;omega
theorem zj8 {z:Int}(h:1≤z):1≤lv z:=by unfold lv;omega
theorem zcB {z:Int}(h:z≤0):lv z=0:=by unfold lv;omega
theorem Kept.by {w w':World}{xs:List Nat}{e:Ending}(h:Kept w xs e w'):∃ ao c,e=.returned (.slice ao xs.length c)∧zi w' (.slice ao xs.length c) xs∧Below w.heap.size w w':=by
 obtain ⟨ao,c,h1,h2,h3⟩:=h;exact ⟨ao,c,h1,zi.own h2,h3⟩
end
def c19 (its:List (Nat × Nat)):List Nat:=(List.range 19).map fun y=>its.countP fun x=>decide (x.1=y)
theorem jQ (its:List (Nat × Nat)):(c19 its).length=19:=by simp [c19]
theorem zfU (its:List (Nat × Nat)){y:Nat}(h:y<19):(c19 its).getD y 0=its.countP fun x=>decide (x.1=y):=by simp [c19,List.getD,h]
def qD (row:List Nat):List Nat:=zT (c19 (zC row)) 7
theorem Ja (row:List Nat):(qD row).length=19:=by unfold qD;rw [xH,jQ]
theorem Ka (its:List (Nat × Nat)):uses (c19 its)≤2^7:=by have:=vq (c19 its);rw [jQ] at this;omega
theorem za8 (row:List Nat):∀ x∈qD row,x<8:=fun x hx=>by
 have:=JT (ns:=c19 (zC row)) (lim:=7) (by omega) (Ka _) x hx;omega
theorem vH (row:List Nat):Ok (qD row):=zaL (by rw [jQ];omega) ⟨by omega,by omega⟩ (Ka _)
theorem Xa {its:List (Nat × Nat)}{x:Nat × Nat}(hx:x∈its) (h:x.1≤18):0<(c19 its).getD x.1 0:=by
 rw [zfU _ (by omega)];exact List.countP_pos_iff.2 ⟨x,hx,by simp⟩
section
variable {row:List Nat}
theorem U2 (h15:∀ x∈row,x≤15) (hl:row.length≤320){x:Nat × Nat}(hx:x∈zC row):ln (qD row) x.1≠0:=by
 have:=ue (ns:=c19 (zC row)) (lim:=7) (by omega) (Ka _) (s:=x.1) (Xa hx (ja h15 hl hx).1);unfold qD;omega
theorem zeX (h15:∀ x∈row,x≤15) (hl:row.length≤320){x:Nat × Nat}(hx:x∈zC row):UQ (qD row) x:=
 ⟨U2 h15 hl hx,(ja h15 hl hx).2.1,(ja h15 hl hx).2.2⟩
theorem zdp (h15:∀ x∈row,x≤15) (hl:258≤row.length∧row.length≤320) (h256:row.getD 256 0≠0):room (qD row)=32768:=by
 obtain ⟨x,hx,z,hz,hne⟩:=zjc h15 hl h256;have h2:=zfe (ns:=c19 (zC row)) hne (Xa hx (ja h15 hl.2 hx).1) (Xa hz (ja h15 hl.2 hz).1);unfold qD;rw [Kd ⟨by omega,by omega⟩ (Ka _),if_neg (by omega),if_neg (by omega)]
end
def jO (own:List Nat):Nat→Nat
 | 0=>0
 | n+1=>if 4<n+1∧own.getD (ord.getD n 0) 0=0 then jO own n else n+1
theorem JL (own:List Nat) (n:Nat) (h:4≤n):4≤jO own n∧jO own n≤n:=by
 induction n with
 | zero=>omega
 | succ n ih=>
  rw [jO];split
  ·have:=ih (by omega);omega
  ·omega
theorem zc8 (own:List Nat) (n:Nat):∀ i,jO own n≤i→i<n→own.getD (ord.getD i 0) 0=0:=by
 induction n with
 | zero=>intro i _ h;omega
 | succ n ih=>
  intro i h1 h2;rw [jO] at h1;split at h1
  ·rename_i h
   by_cases e:i=n
   ·subst e;exact h.2
   ·exact ih i h1 (by omega)
  ·omega
def yb (own:List Nat):List Nat:=(ord.take (jO own 19)).map fun j=>own.getD j 0
theorem yK (own:List Nat):(yb own).length=jO own 19:=by
 have:=JL own 19 (by omega);unfold yb;rw [List.length_map,List.length_take,show ord.length=19 from rfl];omega
theorem zi4 (own:List Nat){i:Nat}(h:i<jO own 19):(yb own).getD i 0=own.getD (ord.getD i 0) 0:=by
 have:=JL own 19 (by omega);have h19:i<ord.length:=by rw [show ord.length=19 from rfl];omega
 unfold yb;simp [List.getD,List.getElem?_take_of_lt h,List.getElem?_eq_getElem h19]
theorem zlh:∀ j,j<19→ord.idxOf j<19∧ord.getD (ord.idxOf j) 0=j:=by decide
theorem JN {own:List Nat}(h:own.length=19):zp (yb own)=own:=by
 apply List.ext_getElem
 ·simp [zp,h]
 ·intro j h1 h2
  simp only [zp,List.getElem_map,List.getElem_range];have hj:j<19:=by omega
  obtain ⟨i1,i2⟩:=zlh j hj;have e:own[j]=own.getD j 0:=by rw [List.getD_eq_getElem?_getD,List.getElem?_eq_getElem h2];rfl
  rw [e];by_cases hlt:ord.idxOf j<jO own 19
  ·rw [zi4 own hlt,i2]
  ·rw [List.getD_eq_getElem?_getD,List.getElem?_eq_none (by rw [yK];omega)]
   have:=zc8 own 19 _ (Nat.not_lt.1 hlt) i1;rw [i2] at this;exact this.symm
def vd (r:List Tok):List (Nat × Nat):=ye (flF r) (olF r) (yb (qD (qG r))) (zC (qG r))
def lb (last:Bool):Nat:=if last then 1 else 0
def Jf (last:Bool) (r:List Tok):List (Nat × Nat):=(lb last,1)::(1,2)::(zG zU ql r++[cp zU 256])
def Kh (last:Bool) (r:List Tok):List (Nat × Nat):=(lb last,1)::(2,2)::(vd r++(zG (flF r) (olF r) r++[cp (flF r) 256]))
def costs (fl ol:List Nat) (r:List Tok):Nat:=xx (cfL r) fl 286+xx (coL r) ol 30
def xtr (r:List Tok):Nat:=k9 (cfL r) 29+yd (coL r) 30
def jF (pos n:Nat):Nat:=((pos+3+7)/8-1+bnd n)*8
def Ju (pos:Nat) (r:List Tok):Nat:=pos+3+costs zU ql r+xtr r
def KO (pos:Nat) (r:List Tok):Nat:=pos+3+costs (flF r) (olF r) r+xtr r+wid (vd r)
theorem zbW (last:Bool){r:List Tok}(h:∀ t∈r,z7 t) (pos:Nat):pos+wid (Jf last r)=Ju pos r:=by
 have:=Ko zU ql h;unfold Jf Ju costs xtr;simp only [wid,zh,cp];omega
theorem zjj (last:Bool){r:List Tok}(h:∀ t∈r,z7 t) (pos:Nat):pos+wid (Kh last r)=KO pos r:=by
 have:=Ko (flF r) (olF r) h;unfold Kh KO costs xtr;simp only [wid,zh,cp];omega
theorem zjf (last:Bool) (b:List Nat) (hl:b.length≤65535) (pos:Nat):pos+wid (xe pos b last)=jF pos b.length:=by
 rw [xO];unfold jF bnd up8;have h1:max ((b.length+65534)/65535) 1=1:=by omega
 rw [h1];omega
def xq (pos:Nat) (r:List Tok) (b:List Nat) (last:Bool):List (Nat × Nat):=
 if min (min (jF pos b.length) (Ju pos r)) (KO pos r)=jF pos b.length then xe pos b last
 else if min (min (jF pos b.length) (Ju pos r)) (KO pos r)=Ju pos r then Jf last r else Kh last r
theorem Jn {pos:Nat}{r:List Tok}{b:List Nat}(last:Bool) (h:∀ t∈r,z7 t) (hl:b.length≤65535):pos+wid (xq pos r b last)=min (min (jF pos b.length) (Ju pos r)) (KO pos r):=by
 unfold xq;split
 ·rename_i e;rw [zjf last b hl,e]
 ·split
  ·rename_i e;rw [zbW last h,e]
  ·rw [zjj last h];omega
theorem zgx (last:Bool):lb last<2:=by unfold lb;split <;> omega
theorem ze4 (last:Bool):decide (lb last=1)=last:=by cases last <;> rfl
theorem zjp {lim pos:Nat}{o o':List Nat}{r:List Tok}(last:Bool) (h:∀ t∈r,z7 t) (he:V.M.ex r o=some o') (hm:o'.length≤lim):zdh lim pos o last (Jf last r) o':=by
 intro bs cs s hbs hat ho hs;subst hat ho;have hsym:∀ y,y<286→ln zU y≠0:=by decide +kernel
 have hdis:∀ y,y<30→ln ql y≠0:=by decide +kernel
 have hp:=UV (fl:=zU) (ol:=ql) h (fun t ht=>hsym _ (h t ht).fsy.1) (fun t ht h0=>hdis _ ((h t ht).dsy h0));have hs':Str bs s.at_ ((lb last,1)::(1,2)::(zG zU ql r++cp zU 256::cs)):=by
  have e:Jf last r++cs=(lb last,1)::(1,2)::(zG zU ql r++cp zU 256::cs):=by unfold Jf;simp
  rwa [e] at hs
 obtain ⟨h1,h2⟩:=zht (lim:=lim) (lb last) (zgx last) hp he hm hs';have e7:ln zU 256=7:=by decide +kernel
 have ew:wid (Jf last r)=3+wid (zG zU ql r)+7:=by
  unfold Jf;simp only [wid,zh,cp,e7];omega
 rw [ew,show s.at_+(3+wid (zG zU ql r)+7)=s.at_+3+wid (zG zU ql r)+7 by omega];rw [ze4] at h1;exact ⟨_,h1,h2⟩
theorem zjv {lim pos:Nat}{o o':List Nat}{r:List Tok}(last:Bool) (h:∀ t∈r,z7 t) (he:V.M.ex r o=some o') (hm:o'.length≤lim):zdh lim pos o last (Kh last r) o':=by
 intro bs cs s hbs hat ho hs;subst hat ho;have hp:=UV (fl:=flF r) (ol:=olF r) h (fun t ht=>zb7 (h t ht) ht) (fun t ht h0=>zcp (h t ht) ht h0);have hs':Str bs s.at_ ((lb last,1)::(2,2)::(ye (flF r) (olF r) (yb (qD (qG r))) (zC (qG r))++(zG (flF r) (olF r) r++cp (flF r) 256::cs))):=by
  have e:Kh last r++cs=(lb last,1)::(2,2)::(ye (flF r) (olF r) (yb (qD (qG r))) (zC (qG r))++(zG (flF r) (olF r) r++cp (flF r) 256::cs)):=by unfold Kh vd;simp
  rwa [e] at hs
 have hb:=yp r;have h15:=kL r;have hown:=JN (Ja (qG r));have hol:=JL (qD (qG r)) 19 (by omega);obtain ⟨h1,h2⟩:=zgY (lim:=lim) (lb last) (fl:=flF r) (ol:=olF r) (o:=yb (qD (qG r))) (its:=zC (qG r)) (uU r) (vV r) (by rw [yK];omega)
  (fun x hx=>by
   obtain ⟨j,hj,rfl⟩:=List.mem_map.1 hx;rcases Nat.lt_or_ge j (qD (qG r)).length with e | e
   ·rw [List.getD_eq_getElem?_getD,List.getElem?_eq_getElem e];exact za8 _ _ (List.getElem_mem e)
   ·rw [List.getD_eq_getElem?_getD,List.getElem?_eq_none e];decide)
  (by rw [hown];exact vH _) (by rw [hown];exact zdp h15 ⟨hb.1,by omega⟩ (UI r)) (fun x hx=>by rw [hown];exact zeX h15 (by omega) hx)
  (zbI h15 (by omega)) (Qx r) (UI r) (zdU r) (zbB r) (zaX r) (zgx last) hp he hm hs'
 have ew:wid (Kh last r)=3+wid (ye (flF r) (olF r) (yb (qD (qG r))) (zC (qG r)))+wid (zG (flF r) (olF r) r)+ln (flF r) 256:=by
  unfold Kh vd;simp only [wid,zh,cp];omega
 rw [ew,show s.at_+(3+wid (ye (flF r) (olF r) (yb (qD (qG r))) (zC (qG r)))+wid (zG (flF r) (olF r) r)+ln (flF r) 256)=s.at_+3+wid (ye (flF r) (olF r) (yb (qD (qG r))) (zC (qG r)))+wid (zG (flF r) (olF r) r)+ln (flF r) 256 by omega];rw [ze4] at h1;exact ⟨_,h1,h2⟩
theorem zh1 {lim pos:Nat}{o b:List Nat}{r:List Tok}(last:Bool) (h:∀ t∈r,z7 t) (hb:Bs b) (hl:b.length≤65535) (he:V.M.ex r o=some (o++b)) (hm:o.length+b.length≤lim):zdh lim pos o last (xq pos r b last) (o++b):=by
 unfold xq;split
 ·exact yr last hb hl hm
 ·split
  ·exact zjp last h he (by rw [List.length_append];exact hm)
  ·exact zjv last h he (by rw [List.length_append];exact hm)
theorem zgm {o:List Nat}(h:∀ x∈o,x<8):xI (o.map fun x=>(x,3)):=fun c hc=>by
 obtain ⟨x,hx,rfl⟩:=List.mem_map.1 hc;exact h x hx
theorem zc4 (r:List Tok):xI (vd r):=by
 have hb:=yp r;have h1:=uU r;have h2:=vV r;have hol:=JL (qD (qG r)) 19 (by omega);intro c hc;unfold vd ye at hc;simp only [List.mem_cons,List.mem_append] at hc;rcases hc with rfl | rfl | rfl | hc | hc
 ·show (flF r).length-257<2^5;omega
 ·show (olF r).length-1<2^5;omega
 ·show (yb (qD (qG r))).length-4<2^4
  rw [yK];omega
 ·refine zgm (fun x hx=>?_) c hc
  obtain ⟨j,hj,rfl⟩:=List.mem_map.1 hx;rcases Nat.lt_or_ge j (qD (qG r)).length with e | e
  ·rw [List.getD_eq_getElem?_getD,List.getElem?_eq_getElem e];exact za8 _ _ (List.getElem_mem e)
  ·rw [List.getD_eq_getElem?_getD,List.getElem?_eq_none e];decide
 ·obtain ⟨x,hx,hc⟩:=List.mem_flatMap.1 hc
  have hk:=ja (kL r) (by omega) hx;unfold qS at hc;split at hc
  ·rename_i hr
   simp only [List.mem_cons,List.not_mem_nil,or_false] at hc;rcases hc with rfl | rfl
   ·exact yv _ _
   ·exact hk.2.1 hr
  ·rw [List.mem_singleton] at hc
   rw [hc];exact yv _ _
theorem XJ {pos:Nat}{r:List Tok}{b:List Nat}(last:Bool) (h:∀ t∈r,z7 t) (hb:Bs b) (hl:b.length≤65535):xI (xq pos r b last):=by
 have hlb:=zgx last;unfold xq;split
 ·exact Je pos hb hl last
 ·split
  ·intro c hc
   unfold Jf at hc;simp only [List.mem_cons,List.mem_append,List.not_mem_nil,or_false] at hc;rcases hc with rfl | rfl | hc | rfl
   ·exact hlb
   ·decide
   ·exact KF _ _ h c hc
   ·exact yv _ _
  ·intro c hc
   unfold Kh at hc;simp only [List.mem_cons,List.mem_append,List.not_mem_nil,or_false] at hc;rcases hc with rfl | rfl | hc | hc | rfl
   ·exact hlb
   ·decide
   ·exact zc4 r c hc
   ·exact KF _ _ h c hc
   ·exact yv _ _
end Go.Proofs.YtacpfpghokcdlaaGreatDoor
