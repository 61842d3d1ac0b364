/- Part 6. -/
import Derived.Test.YtbogfailbgbdoaaGreatDoorXB5
set_option linter.unusedVariables false
set_option linter.unusedSimpArgs false
namespace Go.Proofs.YtbogfailbgbdoaaGreatDoor.K
set_option maxRecDepth 100000
section
open Go.RowKit Go.Proofs.YtbogfailbgbdoaaGreatDoor U
def PuTo (r:Option Nat) (w:World) (e:Ending) (w':World):Prop:=Below w.heap.size w w'∧match r with
 | some v=>e = .returned (.tuple #[.int .u64 (v:Nat),.nilIface])
 | none=>∃ t p,e = .returned (.tuple #[.int .u64 0,.iface t p])
theorem toError_any (S:ByteArray) (base:Int) (w:World) (hl:S.size≤1000000) (hT:TT w) :
  Calls Tryz.prog 134 #[.string ⟨#[80,97,114,115,101,85,105,110,116]⟩,.string S,.int .i64 base,.int .i64 32,.iface 164 (.int .i64 2)] w fun e w'=>(∃ p,e = .returned (.iface 166 p))∧Below w.heap.size w w':=by
 obtain ⟨ev,he,hev⟩:=hT.err
 have K:=Any.strconv_toError_syntax lerr ⟨#[80,97,114,115,101,85,105,110,116]⟩ S base 32 ev w (by omega) he hev
 exact K.mono fun e w' ⟨N,he,_,_,hb⟩=>⟨⟨_,he⟩,hb⟩
set_option maxHeartbeats 1600000 in
theorem pub_any (base:Nat) (ds:List Nat) (S:ByteArray) (hS:S=txt ds) (hl:ds.length≤7) (w:World) (hT:TT w)
  (K0:Calls Tryz.prog 133 #[.string S,.int .i64 base,.int .i64 32] w fun e w'=>e = .returned (puR (numB base ds))∧Below w.heap.size w w') :
  Calls Tryz.prog 113 #[.string S,.int .i64 base,.int .i64 32] w (PuTo (numB base ds) w):=by
 have K:=Lib.hid K0
 have hz:S.size≤1000000:=by rw [hS,txt_size];omega
 have KE:=Lib.hid fun (W:World) (hW:Below w.heap.size w W)=>toError_any S base W hz (hT.grow hW)
 clear K0 hS hT
 rcases hr:numB base ds with _ | v
 ·rw [hr] at K
  unfold puR at K
  unfold PuTo
  simp only at K ⊢
  have hq:∀ W,(binOp .neq 71 (.iface 164 (.int .i64 2)) .nilIface).run Tryz.prog W = .ok (.bool true) W:=fun W=>by kernel_rfl
  clear hr
  go_enter Tryz.func113,Tryz.ntmps113
  go_wp2_with (first
   | (go_at_call 133;(with_reducible refine K.out.mono ?_);rintro e w1 ⟨rfl,hb1⟩;have HB1:=Lib.hid hb1;clear hb1)
   | (go_at_call 134;(with_reducible refine (KE.out w1 HB1.out).mono ?_);rintro e w2 ⟨⟨p,rfl⟩,hb2⟩;have HB2:=Lib.hid (HB1.out.trans (hb2.mono HB1.out.size));clear hb2))
  go_ret2
  exact ⟨HB2.out,_,_,rfl⟩
 ·rw [hr] at K
  unfold puR at K
  unfold PuTo
  simp only at K ⊢
  have hq:∀ W,(binOp .neq 71 .nilIface .nilIface).run Tryz.prog W = .ok (.bool false) W:=fun W=>by kernel_rfl
  clear hr
  go_enter Tryz.func113,Tryz.ntmps113
  go_wp2_with (go_at_call 133;(with_reducible refine K.out.mono ?_);rintro e w1 ⟨rfl,hb1⟩;have HB1:=Lib.hid hb1;clear hb1)
  go_ret2
  exact ⟨HB1.out,rfl⟩
theorem p16_any (ds:List Nat) (S:ByteArray) (hS:S=txt ds) (hb:Bs ds) (hl:ds.length≤7) (w:World) (hT:TT w):Calls Tryz.prog 113 #[.string S,.int .i64 16,.int .i64 32] w (PuTo (numB 16 ds) w):=by
 refine pub_any 16 ds S hS hl w hT ?_
 by_cases h0:ds=[]
 ·subst h0;subst hS
  exact (pu_empty 16 w).mono fun e w' ⟨he,hw⟩=>⟨he,by rw [←hw];exact Below.refl _ _⟩
 ·unfold numB;rw [if_neg h0];exact pu_16 ds S hS hb h0 hl w
theorem p10_any (ds:List Nat) (S:ByteArray) (hS:S=txt ds) (hb:Bs ds) (hl:ds.length≤7) (w:World) (hT:TT w):Calls Tryz.prog 113 #[.string S,.int .i64 10,.int .i64 32] w (PuTo (numB 10 ds) w):=by
 refine pub_any 10 ds S hS hl w hT ?_
 by_cases h0:ds=[]
 ·subst h0;subst hS
  exact (pu_empty 10 w).mono fun e w' ⟨he,hw⟩=>⟨he,by rw [←hw];exact Below.refl _ _⟩
 ·unfold numB;rw [if_neg h0];exact pu_10 ds S hS hb h0 hl w
theorem num_bound:∀ (base:Nat),base≤16→∀ (ds:List Nat) (v r:Nat),num base ds v=some r→r<(v+1)*16^ds.length
 | base,hb,[],v,r,h=>by
  injection h with h;subst h;simp
 | base,hb,c::t,v,r,h=>by
  rw [num] at h
  split at h
  ·cases h
  ·have:=num_bound base hb t _ r h
   rw [List.length_cons,Nat.pow_succ,Nat.mul_comm (16^t.length) 16,←Nat.mul_assoc]
   refine Nat.lt_of_lt_of_le this (Nat.mul_le_mul_right _ ?_)
   have h1:v*base≤v*16:=Nat.mul_le_mul_left _ hb
   omega
def sgR:Option Nat→Value
 | some v => .tuple #[.int .i32 (v:Nat),.bool true]
 | none => .tuple #[.int .i32 0,.bool false]
theorem txt_list (L:List Nat):(txt L).data.toList=u8L L:=by simp [txt]
theorem trim0 (ds:List Nat) (hb:Bs ds) (w:World) :
  Calls Tryz.prog 112 #[.string (txt ds),.string ⟨#[48]⟩] w fun e w'=>e = .returned (.string (txt (ds.dropWhile (· == 48))))∧w'=w:=by
 have K:=Any.strings_TrimLeft_one strim (txt ds) 48 (by decide) w
 have e:(⟨(Lib.trimLeftB (txt ds).data.toList 48).toArray⟩:ByteArray)=txt (ds.dropWhile (· == 48)):=by
  rw [txt_list]
  unfold txt
  congr 2
  unfold Lib.trimLeftB
  clear K
  induction ds with
  | nil=>rfl
  | cons c t ih=>
   have ih:=ih (fun x hx=>hb x (by simp [hx]))
   have hc:=hb c (by simp)
   simp only [u8L,List.map_cons,List.dropWhile_cons]
   by_cases h:c=48
   ·subst h;simpa [u8L] using ih
   ·have h2:(UInt8.ofNat c == 48)=false:=by
     rw [beq_eq_false_iff_ne]
     exact fun e=>h (ofNat_inj hc (by decide) (e.trans rfl))
    have h3:(c == 48)=false:=by rw [beq_eq_false_iff_ne];exact h
    simp [h2,h3]
 rw [e] at K
 exact K
set_option maxHeartbeats 3200000 in
theorem numbered_any (base:Nat) (hbase:base≤16) (ds:List Nat) (S:ByteArray) (hS:S=txt ds) (hb:Bs ds) (w:World) (hl:ds.length≤1000000) (hT:TT w)
  (KP:∀ (es:List Nat) (W:World),Bs es→es.length≤7→TT W→Calls Tryz.prog 113 #[.string (txt es),.int .i64 base,.int .i64 32] W (PuTo (numB base es) W)) :
  Calls Tryz.prog 86 #[.string S,.int .i64 base] w fun e w'=>e = .returned (sgR (numbered ds base))∧Below w.heap.size w w':=by
 subst hS
 have K1:=trim0 ds hb w
 obtain ⟨es,hes⟩:∃ es,es=ds.dropWhile (· == 48):=⟨_,rfl⟩
 have hnum:numbered ds base=if 7<es.length∨es=[] then none else chr (num base es 0):=by unfold numbered;rw [←hes]
 have hbe:Bs es:=fun x hx=>hb x (by rw [hes] at hx;exact (List.dropWhile_sublist _).subset hx)
 have hle:es.length≤1000000:=by
  have:=(List.dropWhile_sublist (· == 48) (l:=ds)).length_le
  rw [←hes] at this;omega
 rw [←hes] at K1
 have K1:=Lib.hid K1
 have hz:=txt_size es
 rw [hnum]
 by_cases h7:7<es.length
 ·rw [if_pos (.inl h7)]
  have h7':(7:Int)<((txt es).size:Nat):=by rw [hz];omega
  generalize txt es=T at K1 h7' hz
  generalize txt ds=T0 at K1 ⊢
  clear hnum hes hbe hz h7 hb
  go_enter Tryz.func86,Tryz.ntmps86
  go_wp2_with (go_at_call 112;(with_reducible refine K1.out.mono ?_);rintro e w1 ⟨rfl,hw1⟩;have hw2:=hw1.symm;subst hw2)
  go_ret2
  exact ⟨rfl,Below.refl _ _⟩
 ·have h7':¬(7:Int)<((txt es).size:Nat):=by rw [hz];omega
  have K2:=KP es w hbe (by omega) hT
  have hrr:(if 7<es.length∨es=[] then none else chr (num base es 0))=chr (numB base es):=by
   unfold numB
   by_cases h0:es=[]
   ·rw [if_pos (.inr h0),if_pos h0];rfl
   ·rw [if_neg (fun h=>by
                rcases h with h | h;· exact h7 h
                exact h0 h),if_neg h0]
  rw [hrr]
  have hbd:∀ r,numB base es=some r→r<268435456:=fun r hr=>by
   unfold numB at hr
   split at hr
   ·cases hr
   ·have h1:=num_bound base hbase es 0 r hr
    have h2:16^es.length≤16^7:=Nat.pow_le_pow_right (by omega) (by omega)
    have h3:(16:Nat)^7=268435456:=by decide
    omega
  have HBD:=Lib.hid hbd
  rcases hr:numB base es with _ | v
  ·rw [hr] at K2
   unfold PuTo at K2
   simp only at K2
   have K2:Hid (∀ T,T=txt es→Calls Tryz.prog 113 #[.string T,.int .i64 base,.int .i64 32] w fun e w'=>Below w.heap.size w w'∧∃ t p,e = .returned (.tuple #[.int .u64 0,.iface t p])):=Lib.hid fun T h=>by subst h;exact K2
   have hq:∀ t p W,(binOp .neq 71 (.iface t p) .nilIface).run Tryz.prog W = .ok (.bool true) W:=fun t p W=>by kernel_rfl
   obtain ⟨T,hTx⟩:∃ T,T=txt es:=⟨_,rfl⟩
   have K2:=Lib.hid (K2.out T hTx)
   rw [←hTx] at K1 h7'
   generalize txt ds=T0 at K1 ⊢
   clear hnum hes hbe hz h7 hb hrr hr hbd hTx
   go_enter Tryz.func86,Tryz.ntmps86
   go_wp2_with (first
    | (go_at_call 112;(with_reducible refine K1.out.mono ?_);rintro e w1 ⟨rfl,hw1⟩;have hw2:=hw1.symm;subst hw2)
    | (go_at_call 113;(with_reducible refine K2.out.mono ?_);rintro e w1 ⟨hb1,t,p,rfl⟩;have HB1:=Lib.hid hb1;have hqq:=hq t p;clear hb1))
   go_ret2
   exact ⟨rfl,HB1.out⟩
  ·rw [hr] at K2
   unfold PuTo at K2
   simp only at K2
   have hv:=hbd v hr
   have hw32:IntKind.i32.wrap (v:Int)=(v:Int):=by rw [IntKind.wrap_i32];omega
   have hq:∀ W,(binOp .neq 71 .nilIface .nilIface).run Tryz.prog W = .ok (.bool false) W:=fun W=>by kernel_rfl
   have HG:=Lib.hid fun W=>Char_any (v:Int) W
   rw [show wth charL (v:Int)=charP v from rfl] at HG
   obtain ⟨T,hTx⟩:∃ T,T=txt es:=⟨_,rfl⟩
   rw [←hTx] at K1 K2 h7'
   have K2:=Lib.hid K2
   generalize txt ds=T0 at K1 ⊢
   obtain ⟨z,hzz⟩:∃ z,z=charP v:=⟨_,rfl⟩
   rw [←hzz] at HG
   have hcr:chr (some v)=if z=true then some v else none:=by unfold chr;rw [hzz]
   rw [hcr]
   clear hnum hes hbe hz h7 hb hrr hr hbd hTx hzz hcr
   cases z with
   | true=>
    rw [if_pos rfl]
    go_enter Tryz.func86,Tryz.ntmps86
    go_wp2_with (first
     | (go_at_call 112;(with_reducible refine K1.out.mono ?_);rintro e w1 ⟨rfl,hw1⟩;have hw2:=hw1.symm;subst hw2)
     | (go_at_call 113;(with_reducible refine K2.out.mono ?_);rintro e w1 ⟨hb1,rfl⟩;have HB1:=Lib.hid hb1;clear hb1)
     | (go_at_call 40;(with_reducible refine (HG.out w1).mono ?_);rintro e w2 ⟨rfl,hb2⟩;have HB2:=Lib.hid (HB1.out.trans (hb2.mono HB1.out.size));clear hb2))
    go_ret2
    exact ⟨rfl,HB2.out⟩
   | false=>
    rw [if_neg (by simp)]
    go_enter Tryz.func86,Tryz.ntmps86
    go_wp2_with (first
     | (go_at_call 112;(with_reducible refine K1.out.mono ?_);rintro e w1 ⟨rfl,hw1⟩;have hw2:=hw1.symm;subst hw2)
     | (go_at_call 113;(with_reducible refine K2.out.mono ?_);rintro e w1 ⟨hb1,rfl⟩;have HB1:=Lib.hid hb1;clear hb1)
     | (go_at_call 40;(with_reducible refine (HG.out w1).mono ?_);rintro e w2 ⟨rfl,hb2⟩;have HB2:=Lib.hid (HB1.out.trans (hb2.mono HB1.out.size));clear hb2))
    go_ret2
    exact ⟨rfl,HB2.out⟩
theorem num16_any (ds:List Nat) (S:ByteArray) (hS:S=txt ds) (hb:Bs ds) (w:World) (hl:ds.length≤1000000) (hT:TT w):Calls Tryz.prog 86 #[.string S,.int .i64 16] w fun e w'=>e = .returned (sgR (numbered ds 16))∧Below w.heap.size w w':=
 numbered_any 16 (by decide) ds S hS hb w hl hT fun es W h1 h2 h3=>p16_any es _ rfl h1 h2 W h3
theorem num10_any (ds:List Nat) (S:ByteArray) (hS:S=txt ds) (hb:Bs ds) (w:World) (hl:ds.length≤1000000) (hT:TT w):Calls Tryz.prog 86 #[.string S,.int .i64 10] w fun e w'=>e = .returned (sgR (numbered ds 10))∧Below w.heap.size w w':=
 numbered_any 10 (by decide) ds S hS hb w hl hT fun es W h1 h2 h3=>p10_any es _ rfl h1 h2 W h3
theorem u8L_inj {a b:List Nat} (ha:Bs a) (hb:Bs b) (h:u8L a=u8L b):a=b:=by
 induction a generalizing b with
 | nil=>cases b with
  | nil=>rfl
  | cons y t=>simp [u8L] at h
 | cons x s ih=>
  cases b with
  | nil=>simp [u8L] at h
  | cons y t=>
   simp only [u8L,List.map_cons,List.cons.injEq] at h
   rw [ofNat_inj (ha x (by simp)) (hb y (by simp)) h.1,ih (fun z hz=>ha z (by simp [hz])) (fun z hz=>hb z (by simp [hz])) h.2]
theorem txt_inj {a b:List Nat} (ha:Bs a) (hb:Bs b) (h:txt a=txt b):a=b:=by
 refine u8L_inj ha hb ?_
 have:=congrArg (fun z:ByteArray=>z.data.toList) h
 simpa [txt_list] using this
theorem txt_beq {a:List Nat} (ha:Bs a) (b:List Nat) (hb:Bs b):((txt a).toList == u8L b)=decide (a=b):=by
 rw [ByteArray.toList_eq,txt_list]
 by_cases h:a=b
 ·subst h;simp
 ·rw [decide_eq_false h,beq_eq_false_iff_ne]
  exact fun e=>h (u8L_inj ha hb e)
theorem cutPrefix_any (s p:List Nat) (P:ByteArray) (hP:P=txt p) (hs:Bs s) (hp:Bs p) (w:World) :
  Calls Tryz.prog 85 #[.string (txt s),.string P] w fun e w'=>e = .returned (.tuple #[.string (txt (if p <+: s then s.drop p.length else s)),.bool (decide (p <+: s))])∧w=w':=by
 subst hP
 have K:=Any.strings_CutPrefix scutp (txt s) (txt p) w
 rw [txt_list,txt_list] at K
 have hpre:Lib.hasPrefix (u8L s) (u8L p)=decide (p <+: s):=by unfold Lib.hasPrefix;exact u8L_pre hp hs
 have e:(⟨(Lib.trimPrefix (u8L s) (u8L p)).toArray⟩:ByteArray)=txt (if p <+: s then s.drop p.length else s):=by
  unfold txt
  congr 2
  unfold Lib.trimPrefix
  rw [hpre]
  by_cases h:p <+: s
  ·simp [h,u8L]
  ·simp [h]
 rw [e,hpre] at K
 exact K.mono fun e w' ⟨he,hw⟩=>⟨he,hw.symm⟩
set_option maxHeartbeats 6400000 in
theorem signOf_any (r:List Nat) (S:ByteArray) (hS:S=txt r) (hb:Bs r) (w:World) (hl:r.length≤1000000) (hT:TT w) :
  Calls Tryz.prog 58 #[.string S] w fun e w'=>e = .returned (sgR (signOf r))∧Below w.heap.size w w':=by
 have q1:(S.toList == [108,116])=decide (r=[108,116]):=by rw [hS];exact txt_beq hb [108,116] (fun x hx=>by simp at hx;omega)
 have q2:(S.toList == [103,116])=decide (r=[103,116]):=by rw [hS];exact txt_beq hb [103,116] (fun x hx=>by simp at hx;omega)
 have q3:(S.toList == [97,109,112])=decide (r=[97,109,112]):=by rw [hS];exact txt_beq hb [97,109,112] (fun x hx=>by simp at hx;omega)
 have q4:(S.toList == [113,117,111,116])=decide (r=[113,117,111,116]):=by rw [hS];exact txt_beq hb [113,117,111,116] (fun x hx=>by simp at hx;omega)
 have q5:(S.toList == [97,112,111,115])=decide (r=[97,112,111,115]):=by rw [hS];exact txt_beq hb [97,112,111,115] (fun x hx=>by simp at hx;omega)
 by_cases h1:r=[108,116]
 ·rw [decide_eq_true h1] at q1
  have hr:signOf r=some 60:=by rw [h1];decide +kernel
  rw [hr]
  clear hr h1 hS q2 q3 q4 q5
  go_enter Tryz.func58,Tryz.ntmps58
  go_wp2
  go_ret2
  exact ⟨rfl,Below.refl _ _⟩
 rw [decide_eq_false h1] at q1
 by_cases h2:r=[103,116]
 ·rw [decide_eq_true h2] at q2
  have hr:signOf r=some 62:=by rw [h2];decide +kernel
  rw [hr]
  clear hr h1 h2 hS q3 q4 q5
  go_enter Tryz.func58,Tryz.ntmps58
  go_wp2
  go_ret2
  exact ⟨rfl,Below.refl _ _⟩
 rw [decide_eq_false h2] at q2
 by_cases h3:r=[97,109,112]
 ·rw [decide_eq_true h3] at q3
  have hr:signOf r=some 38:=by rw [h3];decide +kernel
  rw [hr]
  clear hr h1 h2 h3 hS q4 q5
  go_enter Tryz.func58,Tryz.ntmps58
  go_wp2
  go_ret2
  exact ⟨rfl,Below.refl _ _⟩
 rw [decide_eq_false h3] at q3
 by_cases h4:r=[113,117,111,116]
 ·rw [decide_eq_true h4] at q4
  have hr:signOf r=some 34:=by rw [h4];decide +kernel
  rw [hr]
  clear hr h1 h2 h3 h4 hS q5
  go_enter Tryz.func58,Tryz.ntmps58
  go_wp2
  go_ret2
  exact ⟨rfl,Below.refl _ _⟩
 rw [decide_eq_false h4] at q4
 by_cases h5:r=[97,112,111,115]
 ·rw [decide_eq_true h5] at q5
  have hr:signOf r=some 39:=by rw [h5];decide +kernel
  rw [hr]
  clear hr h1 h2 h3 h4 h5 hS
  go_enter Tryz.func58,Tryz.ntmps58
  go_wp2
  go_ret2
  exact ⟨rfl,Below.refl _ _⟩
 rw [decide_eq_false h5] at q5
 have hr:signOf r=if [35,120] <+: r then numbered (r.drop 2) 16 else if [35] <+: r then numbered (r.drop 1) 10 else none:=by
  unfold signOf
  rw [if_neg h1,if_neg h2,if_neg h3,if_neg h4,if_neg h5]
 rw [hr]
 have KC:=cutPrefix_any r [35,120] ⟨#[35,120]⟩ rfl hb (fun x hx=>by simp at hx;omega) w
 rw [←hS] at KC
 clear h1 h2 h3 h4 h5 hr
 by_cases h6:[35,120] <+: r
 ·rw [if_pos h6]
  rw [if_pos h6,decide_eq_true h6] at KC
  have KN:=num16_any (r.drop 2) _ rfl (hb.drop 2) w (by rw [List.length_drop];omega) hT
  have KC:=Lib.hid (show Calls Tryz.prog 85 #[.string S,.string ⟨#[35,120]⟩] w fun e w'=>e = .returned (.tuple #[.string (txt (r.drop 2)),.bool true])∧w=w' from KC)
  generalize txt (r.drop 2)=D at KC KN
  have KN:=Lib.hid KN
  generalize numbered (r.drop 2) 16=NR at KN ⊢
  clear h6 hS hb
  cases NR with
  | none=>
   unfold sgR at KN
   simp only at KN
   go_enter Tryz.func58,Tryz.ntmps58
   go_wp2_with (first
    | (go_at_call 85;(with_reducible refine KC.out.mono ?_);rintro e w1 ⟨rfl,rfl⟩)
    | (go_at_call 86;(with_reducible refine KN.out.mono ?_);rintro e w1 ⟨rfl,hb1⟩;have HB1:=Lib.hid hb1;clear hb1))
   go_ret2
   exact ⟨rfl,HB1.out⟩
  | some v=>
   unfold sgR at KN
   simp only at KN
   go_enter Tryz.func58,Tryz.ntmps58
   go_wp2_with (first
    | (go_at_call 85;(with_reducible refine KC.out.mono ?_);rintro e w1 ⟨rfl,rfl⟩)
    | (go_at_call 86;(with_reducible refine KN.out.mono ?_);rintro e w1 ⟨rfl,hb1⟩;have HB1:=Lib.hid hb1;clear hb1))
   go_ret2
   exact ⟨rfl,HB1.out⟩
 rw [if_neg h6]
 rw [if_neg h6,decide_eq_false h6,←hS] at KC
 have KC:=Lib.hid KC
 have KD:=cutPrefix_any r [35] ⟨#[35]⟩ rfl hb (fun x hx=>by simp at hx;omega) w
 rw [←hS] at KD
 by_cases h7:[35] <+: r
 ·rw [if_pos h7]
  rw [if_pos h7,decide_eq_true h7] at KD
  have KN:=num10_any (r.drop 1) _ rfl (hb.drop 1) w (by rw [List.length_drop];omega) hT
  have KD:=Lib.hid (show Calls Tryz.prog 85 #[.string S,.string ⟨#[35]⟩] w fun e w'=>e = .returned (.tuple #[.string (txt (r.drop 1)),.bool true])∧w=w' from KD)
  generalize txt (r.drop 1)=D at KD KN
  have KN:=Lib.hid KN
  generalize numbered (r.drop 1) 10=NR at KN ⊢
  clear h6 h7 hS hb
  cases NR with
  | none=>
   unfold sgR at KN
   simp only at KN
   go_enter Tryz.func58,Tryz.ntmps58
   go_wp2_with (first
    | (go_at_call 85;(with_reducible refine KC.out.mono ?_);rintro e w1 ⟨rfl,rfl⟩)
    | (go_at_call 85;(with_reducible refine KD.out.mono ?_);rintro e w1 ⟨rfl,rfl⟩)
    | (go_at_call 86;(with_reducible refine KN.out.mono ?_);rintro e w1 ⟨rfl,hb1⟩;have HB1:=Lib.hid hb1;clear hb1))
   go_ret2
   exact ⟨rfl,HB1.out⟩
  | some v=>
   unfold sgR at KN
   simp only at KN
   go_enter Tryz.func58,Tryz.ntmps58
   go_wp2_with (first
    | (go_at_call 85;(with_reducible refine KC.out.mono ?_);rintro e w1 ⟨rfl,rfl⟩)
    | (go_at_call 85;(with_reducible refine KD.out.mono ?_);rintro e w1 ⟨rfl,rfl⟩)
    | (go_at_call 86;(with_reducible refine KN.out.mono ?_);rintro e w1 ⟨rfl,hb1⟩;have HB1:=Lib.hid hb1;clear hb1))
   go_ret2
   exact ⟨rfl,HB1.out⟩
 ·rw [if_neg h7]
  rw [if_neg h7,decide_eq_false h7,←hS] at KD
  have KD:=Lib.hid KD
  clear h6 h7 hS hb
  go_enter Tryz.func58,Tryz.ntmps58
  go_wp2_with (first
   | (go_at_call 85;(with_reducible refine KC.out.mono ?_);rintro e w1 ⟨rfl,rfl⟩)
   | (go_at_call 85;(with_reducible refine KD.out.mono ?_);rintro e w1 ⟨rfl,rfl⟩))
  go_ret2
  exact ⟨rfl,Below.refl _ _⟩
end
end Go.Proofs.YtbogfailbgbdoaaGreatDoor.K
namespace Go.Proofs.YtbogfailbgbdoaaGreatDoor
set_option maxRecDepth 100000
section
open Go.RowKit U
def sgn (zs:List Int):List Nat:=(zs.filter Lib.validRune).map Int.toNat
def byt (ss:List Nat):List Nat:=ss.flatMap enc
theorem byt_app (a b:List Nat):byt (a++b)=byt a++byt b:=List.flatMap_append
theorem byt_one (v:Nat):byt [v]=enc v:=by simp [byt]
theorem take_snoc (zs:List Int) (k:Nat) (h:k<zs.length):zs.take (k+1)=zs.take k++[zs.getD k 0]:=by
 rw [List.take_add_one]
 simp [List.getD,h]
theorem sgn_yes {zs:List Int} {k:Nat} (h:k<zs.length) (hv:Lib.validRune (zs.getD k 0)=true):sgn (zs.take (k+1))=sgn (zs.take k)++[(zs.getD k 0).toNat]:=by
 rw [take_snoc zs k h,sgn,sgn,List.filter_append,List.map_append]
 congr 1
 simp only [List.filter_cons,hv,if_true,List.filter_nil,List.map_cons,List.map_nil]
theorem sgn_no {zs:List Int} {k:Nat} (h:k<zs.length) (hv:Lib.validRune (zs.getD k 0)=false):sgn (zs.take (k+1))=sgn (zs.take k):=by
 have e:[zs.getD k 0].filter Lib.validRune=[]:=by rw [List.filter_cons,hv];rfl
 rw [take_snoc zs k h,sgn,sgn,List.filter_append,List.map_append,e,List.map_nil,List.append_nil]
theorem sgn_sign (zs:List Int):∀ v∈sgn zs,isSign v:=fun v hv=>by
 obtain ⟨z,hz,rfl⟩:=List.mem_map.1 hv
 obtain ⟨v,rfl,h⟩:=sign_of (List.mem_filter.1 hz).2
 exact h
theorem sgn_len (zs:List Int):(sgn zs).length≤zs.length:=by
 rw [sgn,List.length_map];exact List.length_filter_le _ _
theorem byt_bs {ss:List Nat} (h:∀ v∈ss,isSign v):Bs (byt ss):=fun x hx=>by
 obtain ⟨v,hv,hx⟩:=List.mem_flatMap.1 hx
 exact enc_byte (h v hv).1 x hx
theorem byt_len (ss:List Nat):(byt ss).length≤4*ss.length:=by
 induction ss with
 | nil=>simp [byt]
 | cons v t ih=>
  have:=enc_le v
  simp only [byt,List.flatMap_cons,List.length_append,List.length_cons] at ih ⊢
  omega
theorem putL_yes {ss:List Nat} {z:Int} (hv:Lib.validRune z=true):putL (byt ss) z=byt (ss++[z.toNat]):=by
 unfold putL;rw [if_pos hv,byt_app,byt_one]
theorem putL_no {xs:List Nat} {z:Int} (hv:Lib.validRune z=false):putL xs z=xs:=by
 unfold putL;rw [hv];rfl
theorem nx_at {ss:List Nat} (h:∀ v∈ss,isSign v) {k:Nat} (hk:k<ss.length):nx ((byt ss).drop (byt (ss.take k)).length)=(ss.getD k 0,(enc (ss.getD k 0)).length):=by
 have e:ss=ss.take k++(ss.getD k 0::ss.drop (k+1)):=by
  have e0:ss.getD k 0=ss[k]:=by simp [List.getD,hk]
  rw [e0,←List.drop_eq_getElem_cons hk,List.take_append_drop]
 have e2:byt ss=byt (ss.take k)++(enc (ss.getD k 0)++byt (ss.drop (k+1))):=by
  conv=>lhs;rw [e]
  rw [byt_app]
  congr 1
 rw [e2,List.drop_left]
 refine nx_enc (h _ ?_) _
 simp [List.getD,hk]
theorem byt_snoc {ss:List Nat} {k:Nat} (hk:k<ss.length):(byt (ss.take (k+1))).length=(byt (ss.take k)).length+(enc (ss.getD k 0)).length:=by
 rw [take_next ss k hk,byt_app,byt_one,List.length_append]
theorem al_signs (p:Nat→Bool):∀ (ss:List Nat) (k:Nat),(∀ v∈ss,isSign v)→(al p (byt ss) k).isNone=ss.all p
 | [],k,_=>rfl
 | v::t,k,h=>by
  have hv:=h v (by simp)
  have hne:byt (v::t)≠[]:=fun e=>by
   have:=congrArg List.length e
   have hp:=enc_pos v
   simp only [byt,List.flatMap_cons,List.length_append,List.length_nil] at this
   omega
  have e:byt (v::t)=enc v++byt t:=by simp [byt]
  have hp:=enc_pos v
  rw [al_step p hne,e,nx_enc hv]
  simp only
  by_cases c:p v=true
  ·have hn:¬((enc v).length=0∨p v=false):=fun h1=>by
    rcases h1 with h1 | h1
    ·omega
    ·rw [c] at h1;cases h1
   rw [if_neg hn,List.drop_left,al_signs p t _ fun x hx=>h x (by simp [hx])]
   simp [c]
  ·rw [if_pos (.inr (by simpa using c))]
   simp [c]
theorem alA_signs (p:Nat→Bool) {ss:List Nat} (h:∀ v∈ss,isSign v):(alA p (byt ss)).2=ss.all p:=by
 rw [←al_signs p ss 0 h]
 unfold alA
 cases al p (byt ss) 0 <;> rfl
theorem all_snoc (p:Nat→Bool) (ss:List Nat) (v:Nat):(ss++[v]).all p=(ss.all p && p v):=by simp
theorem char_valid {z:Int} (h:wth charL z=true):Lib.validRune z=true:=by
 unfold wth charL at h
 simp only [List.any_cons,List.any_nil,Bool.or_false,Bool.or_eq_true,Bool.and_eq_true,decide_eq_true_eq] at h
 unfold Lib.validRune
 exact decide_eq_true (by omega)
def chs (zs:List Int):List Nat:=(zs.filter (wth charL)).map Int.toNat
theorem chs_yes {zs:List Int} {k:Nat} (h:k<zs.length) (hv:wth charL (zs.getD k 0)=true):chs (zs.take (k+1))=chs (zs.take k)++[(zs.getD k 0).toNat]:=by
 have e:[zs.getD k 0].filter (wth charL)=[zs.getD k 0]:=by rw [List.filter_cons,hv];rfl
 rw [take_snoc zs k h,chs,chs,List.filter_append,List.map_append,e]
 rfl
theorem chs_no {zs:List Int} {k:Nat} (h:k<zs.length) (hv:wth charL (zs.getD k 0)=false):chs (zs.take (k+1))=chs (zs.take k):=by
 have e:[zs.getD k 0].filter (wth charL)=[]:=by rw [List.filter_cons,hv];rfl
 rw [take_snoc zs k h,chs,chs,List.filter_append,List.map_append,e,List.map_nil,List.append_nil]
theorem chs_mem (zs:List Int):∀ v∈chs zs,isSign v∧charP v=true:=fun v hv=>by
 obtain ⟨z,hz,rfl⟩:=List.mem_map.1 hv
 have h1:=(List.mem_filter.1 hz).2
 obtain ⟨v,rfl,h⟩:=sign_of (char_valid h1)
 exact ⟨h,h1⟩
theorem chs_len (zs:List Int):(chs zs).length≤zs.length:=by
 rw [chs,List.length_map];exact List.length_filter_le _ _
def st (ss:List Nat) (k:Nat):Nat:=(byt (ss.take k)).length
def sts (ss:List Nat):List Nat:=(List.range ss.length).map (st ss)
theorem sts_len (ss:List Nat):(sts ss).length=ss.length:=by simp [sts]
theorem sts_at {ss:List Nat} {k:Nat} (h:k<ss.length):(sts ss).getD k 0=st ss k:=by simp [sts,List.getD,h]
theorem sts_snoc (ss:List Nat) (v:Nat):sts (ss++[v])=sts ss++[(byt ss).length]:=by
 unfold sts
 rw [List.length_append,List.length_singleton,List.range_succ,List.map_append]
 congr 1
 ·refine List.map_congr_left fun k hk=>?_
  have:=List.mem_range.1 hk
  unfold st
  rw [List.take_append_of_le_length (by omega)]
 ·simp [st]
theorem st_zero (ss:List Nat):st ss 0=0:=rfl
theorem st_succ {ss:List Nat} {k:Nat} (h:k<ss.length):st ss (k+1)=st ss k+(enc (ss.getD k 0)).length:=byt_snoc h
theorem st_lt {ss:List Nat} {k:Nat} (h:k<ss.length):st ss k<st ss (k+1):=by
 have:=enc_pos (ss.getD k 0)
 rw [st_succ h];omega
theorem st_all (ss:List Nat):st ss ss.length=(byt ss).length:=by unfold st;rw [List.take_length]
theorem st_mono {ss:List Nat} {i:Nat}:∀ {j:Nat},i≤j→j≤ss.length→st ss i≤st ss j
 | 0,h,_=>by rw [Nat.le_zero.1 h];exact Nat.le_refl _
 | j+1,h,hj=>by
  rcases Nat.lt_or_ge i (j+1) with hlt | hge
  ·have:=st_mono (ss:=ss) (i:=i) (j:=j) (by omega) (by omega)
   have:=st_lt (ss:=ss) (k:=j) (by omega)
   omega
  ·rw [show i=j+1 by omega];exact Nat.le_refl _
def btw (ss:List Nat) (cut:Nat):Nat→Bool
 | 0=>decide (cut=(byt ss).length)
 | k+1=>btw ss cut k || decide (st ss k=cut)
def lst (ss:List Nat) (cut:Nat):Nat→Nat
 | 0=>0
 | k+1=>if st ss k<cut then st ss k else lst ss cut k
theorem btw_yes {ss:List Nat} {cut:Nat}:∀ {k:Nat},k≤ss.length→btw ss cut k=true→∃ j,j≤ss.length∧st ss j=cut
 | 0,_,h=>⟨ss.length,Nat.le_refl _,by rw [st_all];exact (of_decide_eq_true h).symm⟩
 | k+1,hk,h=>by
  unfold btw at h
  rcases Bool.or_eq_true _ _ ▸ h with h | h
  ·exact btw_yes (by omega) h
  ·exact ⟨k,by omega,of_decide_eq_true h⟩
theorem btw_no {ss:List Nat} {cut:Nat}:∀ {k:Nat},btw ss cut k=false→cut≠(byt ss).length∧∀ j,j<k→st ss j≠cut
 | 0,h=>⟨of_decide_eq_false h,fun j hj=>absurd hj (Nat.not_lt_zero _)⟩
 | k+1,h=>by
  unfold btw at h
  obtain ⟨h1,h2⟩:=Bool.or_eq_false_iff.1 h
  obtain ⟨h3,h4⟩:=btw_no h1
  refine ⟨h3,fun j hj=>?_⟩
  by_cases e:j=k
  ·subst e;exact of_decide_eq_false h2
  ·exact h4 j (by omega)
theorem within_sign {ss:List Nat} {cut:Nat} (hc:cut≤(byt ss).length) (h:btw ss cut ss.length=false):∃ k,k<ss.length∧st ss k<cut∧cut<st ss (k+1)∧lst ss cut ss.length=st ss k:=by
 obtain ⟨h1,h2⟩:=btw_no h
 have key:∀ k,k≤ss.length→(∀ j,k≤j→j<ss.length→cut<st ss j)∨(∃ j,j<ss.length∧st ss j<cut∧(cut<st ss (j+1))):=by
  intro k
  induction hk:ss.length-k generalizing k with
  | zero=>intro hle;exact .inl fun j hj hj2=>by omega
  | succ r ih=>
   intro hle
   rcases ih (k+1) (by omega) (by omega) with h3 | h3
   ·have hne:=h2 k (by omega)
    by_cases hlt:st ss k<cut
    ·refine .inr ⟨k,by omega,hlt,?_⟩
     by_cases e:k+1=ss.length
     ·rw [e,st_all];omega
     ·exact h3 (k+1) (Nat.le_refl _) (by omega)
    ·refine .inl fun j hj hj2=>?_
     by_cases e:j=k
     ·subst e;omega
     ·exact h3 j (by omega) hj2
   ·exact .inr h3
 have hex:∃ j,j<ss.length∧st ss j<cut∧cut<st ss (j+1):=by
  rcases key 0 (Nat.zero_le _) with h3 | h3
  ·exfalso
   by_cases e:ss.length=0
   ·have:(byt ss).length=0:=by rw [List.eq_nil_of_length_eq_zero e];rfl
    omega
   ·have:=h3 0 (Nat.le_refl _) (by omega)
    have h0:=h2 0 (by omega)
    rw [st_zero] at this
    omega
  ·exact h3
 obtain ⟨k,hk,hk1,hk2⟩:=hex
 refine ⟨k,hk,hk1,hk2,?_⟩
 have hl:∀ d,k+1+d≤ss.length→lst ss cut (k+1+d)=st ss k:=by
  intro d
  induction d with
  | zero=>intro _;show lst ss cut (k+1)=_;unfold lst;rw [if_pos hk1]
  | succ d ih=>
   intro hd
   have hm:=st_mono (ss:=ss) (i:=k+1) (j:=k+1+d) (by omega) (by omega)
   show lst ss cut (k+1+d+1)=_
   unfold lst
   rw [if_neg (by omega),ih (by omega)]
 have:=hl (ss.length-(k+1)) (by omega)
 rwa [show k+1+(ss.length-(k+1))=ss.length by omega] at this
theorem al_front (p:Nat→Bool):∀ (ss:List Nat) (t:List Nat) (k:Nat),(∀ v∈ss,isSign v∧p v=true)→al p (byt ss++t) k=al p t (k+(byt ss).length)
 | [],t,k,_=>by simp [byt]
 | v::r,t,k,h=>by
  obtain ⟨hv,hp⟩:=h v (by simp)
  have e:byt (v::r)++t=enc v++(byt r++t):=by simp [byt]
  have hpos:=enc_pos v
  have hne:enc v++(byt r++t)≠[]:=fun e=>by
   have:=congrArg List.length e
   simp only [List.length_append,List.length_nil] at this
   omega
  have hn:¬((enc v).length=0∨p v=false):=fun h1=>by
   rcases h1 with h1 | h1
   ·omega
   ·rw [hp] at h1;cases h1
  have el:(byt (v::r)).length=(enc v).length+(byt r).length:=by simp [byt]
  rw [e,al_step p hne,nx_enc hv]
  simp only
  rw [if_neg hn,List.drop_left,al_front p r t _ fun x hx=>h x (by simp [hx]),el]
  congr 1
  omega
theorem take_st (ss:List Nat) (k:Nat):(byt ss).take (st ss k)=byt (ss.take k):=by
 conv=>lhs;arg 2;rw [←List.take_append_drop k ss]
 rw [byt_app]
 exact List.take_left
theorem cut_yes {ss:List Nat} {cut:Nat} (h:∀ v∈ss,isSign v∧charP v=true) (hb:btw ss cut ss.length=true):alA charP ((byt ss).take cut)=(0,true):=by
 obtain ⟨k,hk,rfl⟩:=btw_yes (Nat.le_refl _) hb
 have:=al_front charP (ss.take k) [] 0 fun v hv=>h v (List.mem_of_mem_take hv)
 rw [List.append_nil] at this
 unfold alA
 rw [take_st,this]
 rfl
theorem cut_no {ss:List Nat} {cut:Nat} (h:∀ v∈ss,isSign v∧charP v=true) (hc:cut≤(byt ss).length) (hb:btw ss cut ss.length=false):alA charP ((byt ss).take cut)=(lst ss cut ss.length,false):=by
 obtain ⟨k,hk,h1,h2,h3⟩:=within_sign hc hb
 rw [st_succ hk] at h2
 have hv:=(h (ss.getD k 0) (by simp [List.getD,hk])).1
 have e:(byt ss).take cut=byt (ss.take k)++(enc (ss.getD k 0)).take (cut-st ss k):=by
  have e1:ss=ss.take k++(ss.getD k 0::ss.drop (k+1)):=by
   have e0:ss.getD k 0=ss[k]:=by simp [List.getD,hk]
   rw [e0,←List.drop_eq_getElem_cons hk,List.take_append_drop]
  have e2:byt ss=byt (ss.take k)++(enc (ss.getD k 0)++byt (ss.drop (k+1))):=by
   conv=>lhs;rw [e1]
   rw [byt_app]
   congr 1
  rw [e2,List.take_append,List.take_of_length_le (by unfold st at h1;omega)]
  congr 1
  show (enc (ss.getD k 0)++_).take (cut-st ss k)=_
  rw [List.take_append_of_le_length (by omega)]
 have hne:(enc (ss.getD k 0)).take (cut-st ss k)≠[]:=fun e=>by
  have:=congrArg List.length e
  rw [List.length_take,List.length_nil] at this
  omega
 have hn:=nx_cut hv (j:=cut-st ss k) (by omega)
 unfold alA
 rw [e,al_front charP (ss.take k) _ 0 (fun v hv=>h v (List.mem_of_mem_take hv)),al_step charP hne,hn]
 rw [if_pos (.inl rfl),h3,Nat.zero_add]
 rfl
end
end Go.Proofs.YtbogfailbgbdoaaGreatDoor
namespace Go.Proofs.YtbogfailbgbdoaaGreatDoor.K
set_option maxRecDepth 100000
section
open Go.RowKit Go.Proofs.YtbogfailbgbdoaaGreatDoor U
theorem charP_sign {v:Nat} (h:charP v=true):isSign v:=by
 have h1:wth charL (v:Int)=true:=h
 obtain ⟨u,hu,hs⟩:=sign_of (char_valid h1)
 have:u=v:=by omega
 subst this;exact hs
theorem chr_char {o:Option Nat} {v:Nat} (h:chr o=some v):charP v=true:=by
 unfold chr at h
 split at h
 ·cases h
 ·split at h
  ·injection h with h;subst h;assumption
  ·cases h
theorem signOf_char {r:List Nat} {v:Nat} (h:signOf r=some v):charP v=true:=by
 have hn:∀ ds b,numbered ds b=some v→charP v=true:=fun ds b hh=>by
  unfold numbered at hh
  split at hh
  ·cases hh
  ·exact chr_char hh
 unfold signOf at h
 split at h
 ·injection h with h;subst h;decide +kernel
 split at h
 ·injection h with h;subst h;decide +kernel
 split at h
 ·injection h with h;subst h;decide +kernel
 split at h
 ·injection h with h;subst h;decide +kernel
 split at h
 ·injection h with h;subst h;decide +kernel
 split at h
 ·exact hn _ _ h
 split at h
 ·exact hn _ _ h
 ·cases h
theorem scut_lib (x:Nat) (hx:x<256) (L:List Nat) (hb:Bs L) (hl:L.length≤1000000) (w:World) (hT:TU w) :
  Calls Tryz.prog 57 #[.string (txt L),.string (txt [x])] w fun e w'=>e = .returned (match ix [x] L with
   | none => .tuple #[.string (txt L),.string ⟨#[]⟩,.bool false]
   | some i => .tuple #[.string (txt (L.take i)),.string (txt (L.drop (i+1))),.bool true])∧Drew w w':=by
 obtain ⟨m,hm⟩:=hT.len
 have K:=Any.strings_Cut scut (txt L) (txt [x]) m w (by rw [txt_size];omega) hm
 rw [txt_list,txt_list] at K
 have hbx:Bs [x]:=fun y hy=>by rw [List.mem_singleton] at hy;omega
 have e1:=ix_lib hbx hb
 refine K.mono fun e w' ⟨he,hw⟩=>⟨?_,hw⟩
 rw [he]
 congr 1
 unfold Lib.cut
 rw [e1]
 rcases hi:ix [x] L with _ | i
 ·rw [show ixI none = -1 from rfl]
  simp [txt]
 ·rw [show ixI (some i)=(i:Int) from rfl]
  simp [txt,u8L]
theorem drew_below {w w':World} (h:Drew w w'):Below w.heap.size w w':=by
 obtain ⟨q,rfl⟩:=h
 exact below_drewN (Below.refl _ _) q
def strN:Value→Nat
 | .string b=>b.size
 | _=>0
def tdR:Option (List Nat)→Value
 | some v => .tuple #[.string (txt v),.bool true]
 | none => .tuple #[.string ⟨#[]⟩,.bool false]
theorem enc_bs {v:Nat} (h:isSign v):Bs (enc v):=fun x hx=>enc_byte h.1 x hx
set_option maxHeartbeats 6400000 in
theorem told_any (xs:List Nat) (S:ByteArray) (hS:S=txt xs) (hb:Bs xs) (w:World) (hl:xs.length≤1000000) (hT:TT w) :
  Calls Tryz.prog 28 #[.string S] w fun e w'=>e = .returned (tdR (told xs))∧Below w.heap.size w w':=by
 subst hS
 have HT:=Lib.hid hT
 have HBU:=Lib.hid (Bu.fresh w)
 have HB0:=Lib.hid (lit_below w (.cells #[.pointer none,.slice none 0 0] 68))
 have hbs:=Lib.hid hb
 obtain ⟨R,hR⟩:∃ R,R=told xs:=⟨_,rfl⟩
 rw [←hR]
 have HR:=Lib.hid hR
 obtain ⟨T0,hT0⟩:∃ T0,T0=txt xs:=⟨_,rfl⟩
 have HT0:=Lib.hid hT0
 have HZ0:Hid (T0.size=xs.length):=Lib.hid (by rw [hT0];exact txt_size xs)
 rw [←hT0]
 obtain ⟨N,hN⟩:∃ N,N=xs.length:=⟨_,rfl⟩
 have HN:=Lib.hid hN
 rw [←hN] at hl
 clear hT hb hR hT0 hN
 go_enter Tryz.func28,Tryz.ntmps28
 go_wp2
 go_loopw [0] (fun vs wr=>∃ (L acc:List Nat) (T:ByteArray),vs = .string T∧Hid (T=txt L)∧Hid (Bs L∧Bs acc)∧acc.length+4*L.length≤4*N∧Hid (Bu w.heap.size w.heap.size acc wr)∧Hid (Below w.heap.size w wr)∧Hid (R=(told L).map (acc ++ ·))) (fun vs _=>strN vs)
 case atStart=>exact ⟨xs,[],T0,rfl,HT0,Lib.hid ⟨hbs.out,Bs.nil⟩,by have:=HN.out;simp;omega,HBU,HB0,Lib.hid (by rw [HR.out];cases told xs <;> simp)⟩
 case round=>
  obtain ⟨L,acc,T,rfl,hTL,hLB,hac,hbu,hbw,hrel⟩:=hrel
  have hLl:L.length≤1000000:=by omega
  have K1:=scut_lib 38 (by decide) L hLB.out.1 hLl wr (HT.out.tu.grow hbw.out)
  rw [←hTL.out] at K1
  have hst:=hrel.out
  rw [told_cut] at hst
  have HSZ:=hbw.out.size
  rcases hi:ix [38] L with _ | i
  ·rw [hi] at K1 hst
   simp only at K1 hst
   have K1:Hid (Calls Tryz.prog 57 #[.string T,.string ⟨#[38]⟩] wr fun e w'=>e = .returned (.tuple #[.string T,.string ⟨#[]⟩,.bool false])∧Drew wr w'):=Lib.hid K1
   have HR2:Hid (R=some (acc++L)):=Lib.hid hst
   have KW:=Lib.hid fun (W:World) (hW:Bu w.heap.size w.heap.size acc W) (hs:w.heap.size≤W.heap.size)=>writeString_any w.heap.size w.heap.size acc L T hTL.out W hLB.out.1 hW (by omega) hs
   have KS:=Lib.hid fun (W:World) (hW:Bu w.heap.size w.heap.size (acc++L) W) (hs:w.heap.size≤W.heap.size)=>string_any w.heap.size w.heap.size (acc++L) W (hLB.out.2.app hLB.out.1) hW hs
   obtain ⟨TX,hTX⟩:∃ TX,TX=txt (acc++L):=⟨_,rfl⟩
   rw [←hTX] at KS
   have HTX:=Lib.hid hTX
   clear hst hi hrel hTX
   go_wp2_with (first
    | (go_at_call 57;(with_reducible refine K1.out.mono ?_);rintro e w1 ⟨rfl,hd⟩;have HU1:=Lib.hid (hbu.out.below (drew_below hd));have HB1:=Lib.hid (hbw.out.trans ((drew_below hd).mono HSZ));have hz1:=HB1.out.size;clear hd)
    | (go_at_call 34;(with_reducible refine (KW.out w1 HU1.out hz1).mono ?_);rintro e w2 ⟨⟨r,rfl⟩,h2,hb2⟩;have HU2:=Lib.hid h2.bu;have HB2:=Lib.hid (HB1.out.trans hb2);have hz2:=HB2.out.size;clear h2 hb2)
    | (go_at_call 36;(with_reducible refine (KS.out w2 HU2.out hz2).mono ?_);rintro e w3 ⟨rfl,hb3⟩;have HB3:=Lib.hid (HB2.out.trans hb3);clear hb3))
   go_ret2
   exact ⟨by rw [HR2.out,HTX.out];rfl,HB3.out⟩
  ·rw [hi] at K1 hst
   simp only at K1 hst
   have hil:=(ix1_some hi).1
   obtain ⟨T1,hT1⟩:∃ T1,T1=txt (L.take i):=⟨_,rfl⟩
   obtain ⟨M,hM⟩:∃ M,M=L.drop (i+1):=⟨_,rfl⟩
   obtain ⟨T2,hT2⟩:∃ T2,T2=txt M:=⟨_,rfl⟩
   rw [←hT1,←hM,←hT2] at K1
   rw [←hM] at hst
   have hMl:M.length=L.length-(i+1):=by rw [hM,List.length_drop]
   have hMb:Bs M:=by rw [hM];exact hLB.out.1.drop _
   have K1:Hid (Calls Tryz.prog 57 #[.string T,.string ⟨#[38]⟩] wr fun e w'=>e = .returned (.tuple #[.string T1,.string T2,.bool true])∧Drew wr w'):=Lib.hid K1
   have htl:(L.take i).length=i:=by rw [List.length_take];omega
   have KW:=Lib.hid fun (W:World) (hW:Bu w.heap.size w.heap.size acc W) (hs:w.heap.size≤W.heap.size)=>writeString_any w.heap.size w.heap.size acc (L.take i) T1 hT1 W (hLB.out.1.take i) hW (by rw [htl];omega) hs
   obtain ⟨A1,hA1⟩:∃ A1,A1=acc++L.take i:=⟨_,rfl⟩
   rw [←hA1] at KW
   have hA1l:A1.length=acc.length+i:=by rw [hA1,List.length_append,htl]
   have hA1b:Bs A1:=by rw [hA1];exact hLB.out.2.app (hLB.out.1.take i)
   have KC2:=Lib.hid fun (W:World) (hW:TU W)=>scut_lib 59 (by decide) M hMb (by omega) W hW
   rw [←hT2] at KC2
   have HTU:Hid (∀ W,Below w.heap.size w W→TU W):=Lib.hid fun W hW=>HT.out.tu.grow hW
   have HTT:Hid (∀ W,Below w.heap.size w W→TT W):=Lib.hid fun W hW=>HT.out.grow hW
   rcases hj:ix [59] M with _ | j
   ·rw [hj] at KC2 hst
    simp only at KC2 hst
    have KC2:Hid (∀ W,TU W→Calls Tryz.prog 57 #[.string T2,.string ⟨#[59]⟩] W fun e w'=>e = .returned (.tuple #[.string T2,.string ⟨#[]⟩,.bool false])∧Drew W w'):=KC2
    have HR2:Hid (R=none):=Lib.hid hst
    have KG:=Lib.hid fun (W:World) (hW:TT W)=>signOf_any M T2 hT2 hMb W (by omega) hW
    clear hst hi hj hrel hT1 hT2 hA1 hM htl hA1b hMb
    rcases hg:signOf M with _ | v
    ·rw [hg] at KG
     unfold sgR at KG
     simp only at KG
     clear hg
     go_wp2_with (first
      | (go_at_call 57;(with_reducible refine K1.out.mono ?_);rintro e w1 ⟨rfl,hd⟩;have HU1:=Lib.hid (hbu.out.below (drew_below hd));have HB1:=Lib.hid (hbw.out.trans ((drew_below hd).mono HSZ));have hz1:=HB1.out.size;clear hd)
      | (go_at_call 34;(with_reducible refine (KW.out w1 HU1.out hz1).mono ?_);rintro e w2 ⟨⟨r,rfl⟩,h2,hb2⟩;have HU2:=Lib.hid h2.bu;have HB2:=Lib.hid (HB1.out.trans hb2);have hz2:=HB2.out.size;clear h2 hb2)
      | (go_at_call 57;(with_reducible refine (KC2.out w2 (HTU.out w2 HB2.out)).mono ?_);rintro e w3 ⟨rfl,hd⟩;have HB3:=Lib.hid (HB2.out.trans ((drew_below hd).mono hz2));have hz3:=HB3.out.size;clear hd)
      | (go_at_call 58;(with_reducible refine (KG.out w3 (HTT.out w3 HB3.out)).mono ?_);rintro e w4 ⟨rfl,hb4⟩;have HB4:=Lib.hid (HB3.out.trans (hb4.mono hz3));clear hb4))
     go_ret2
     exact ⟨by rw [HR2.out];rfl,HB4.out⟩
    ·rw [hg] at KG
     unfold sgR at KG
     simp only at KG
     clear hg
     go_wp2_with (first
      | (go_at_call 57;(with_reducible refine K1.out.mono ?_);rintro e w1 ⟨rfl,hd⟩;have HU1:=Lib.hid (hbu.out.below (drew_below hd));have HB1:=Lib.hid (hbw.out.trans ((drew_below hd).mono HSZ));have hz1:=HB1.out.size;clear hd)
      | (go_at_call 34;(with_reducible refine (KW.out w1 HU1.out hz1).mono ?_);rintro e w2 ⟨⟨r,rfl⟩,h2,hb2⟩;have HU2:=Lib.hid h2.bu;have HB2:=Lib.hid (HB1.out.trans hb2);have hz2:=HB2.out.size;clear h2 hb2)
      | (go_at_call 57;(with_reducible refine (KC2.out w2 (HTU.out w2 HB2.out)).mono ?_);rintro e w3 ⟨rfl,hd⟩;have HB3:=Lib.hid (HB2.out.trans ((drew_below hd).mono hz2));have hz3:=HB3.out.size;clear hd)
      | (go_at_call 58;(with_reducible refine (KG.out w3 (HTT.out w3 HB3.out)).mono ?_);rintro e w4 ⟨rfl,hb4⟩;have HB4:=Lib.hid (HB3.out.trans (hb4.mono hz3));clear hb4))
     go_ret2
     exact ⟨by rw [HR2.out];rfl,HB4.out⟩
   ·rw [hj] at KC2 hst
    simp only at KC2 hst
    have hjl:=(ix1_some hj).1
    obtain ⟨T3,hT3⟩:∃ T3,T3=txt (M.take j):=⟨_,rfl⟩
    obtain ⟨M2,hM2⟩:∃ M2,M2=M.drop (j+1):=⟨_,rfl⟩
    obtain ⟨T4,hT4⟩:∃ T4,T4=txt M2:=⟨_,rfl⟩
    rw [←hT3,←hM2,←hT4] at KC2
    have hM2l:M2.length=M.length-(j+1):=by rw [hM2,List.length_drop]
    have hM2b:Bs M2:=by rw [hM2];exact hMb.drop _
    rw [show L.drop (i+1+j+1)=M2 by rw [hM2,hM,List.drop_drop];rfl] at hst
    have KC2:Hid (∀ W,TU W→Calls Tryz.prog 57 #[.string T2,.string ⟨#[59]⟩] W fun e w'=>e = .returned (.tuple #[.string T3,.string T4,.bool true])∧Drew W w'):=KC2
    have KG:=Lib.hid fun (W:World) (hW:TT W)=>signOf_any (M.take j) T3 hT3 (hMb.take j) W (by rw [List.length_take];omega) hW
    rcases hg:signOf (M.take j) with _ | v
    ·rw [hg] at KG hst
     unfold sgR at KG
     simp only at KG hst
     have HR2:Hid (R=none):=Lib.hid hst
     clear hst hi hj hrel hT1 hT2 hT3 hT4 hA1 hM hM2 htl hA1b hMb hM2b hg
     go_wp2_with (first
      | (go_at_call 57;(with_reducible refine K1.out.mono ?_);rintro e w1 ⟨rfl,hd⟩;have HU1:=Lib.hid (hbu.out.below (drew_below hd));have HB1:=Lib.hid (hbw.out.trans ((drew_below hd).mono HSZ));have hz1:=HB1.out.size;clear hd)
      | (go_at_call 34;(with_reducible refine (KW.out w1 HU1.out hz1).mono ?_);rintro e w2 ⟨⟨r,rfl⟩,h2,hb2⟩;have HU2:=Lib.hid h2.bu;have HB2:=Lib.hid (HB1.out.trans hb2);have hz2:=HB2.out.size;clear h2 hb2)
      | (go_at_call 57;(with_reducible refine (KC2.out w2 (HTU.out w2 HB2.out)).mono ?_);rintro e w3 ⟨rfl,hd⟩;have HB3:=Lib.hid (HB2.out.trans ((drew_below hd).mono hz2));have hz3:=HB3.out.size;clear hd)
      | (go_at_call 58;(with_reducible refine (KG.out w3 (HTT.out w3 HB3.out)).mono ?_);rintro e w4 ⟨rfl,hb4⟩;have HB4:=Lib.hid (HB3.out.trans (hb4.mono hz3));clear hb4))
     go_ret2
     exact ⟨by rw [HR2.out];rfl,HB4.out⟩
    ·rw [hg] at KG hst
     unfold sgR at KG
     simp only at KG hst
     have hvs:=charP_sign (signOf_char hg)
     have hve:=enc_le v
     have KR:=Lib.hid fun (W:World) (hW:Bu w.heap.size w.heap.size A1 W) (hs:w.heap.size≤W.heap.size)=>writeRune_any w.heap.size w.heap.size A1 v hvs W hW (by omega) hs
     have HR2:Hid (R=(told M2).map ((A1++enc v) ++ ·)):=Lib.hid (by
      rw [hst,hA1]
      cases told M2 <;> simp)
     have HLB2:Hid (Bs M2∧Bs (A1++enc v)):=Lib.hid ⟨hM2b,hA1b.app (enc_bs hvs)⟩
     have hbound:(A1++enc v).length+4*M2.length≤4*N:=by rw [List.length_append];omega
     have HTL4:=Lib.hid hT4
     have hzT:T.size=L.length:=by rw [hTL.out];exact txt_size L
     have hzT4:T4.size=M2.length:=by rw [hT4];exact txt_size M2
     have hless:T4.size<T.size:=by omega
     clear hst hi hj hrel hT1 hT2 hT3 hT4 hA1 hM hM2 htl hA1b hMb hM2b hg hve hzT hzT4 hM2l hMl hA1l
     go_wp2_with (first
      | (go_at_call 57;(with_reducible refine K1.out.mono ?_);rintro e w1 ⟨rfl,hd⟩;have HU1:=Lib.hid (hbu.out.below (drew_below hd));have HB1:=Lib.hid (hbw.out.trans ((drew_below hd).mono HSZ));have hz1:=HB1.out.size;clear hd)
      | (go_at_call 34;(with_reducible refine (KW.out w1 HU1.out hz1).mono ?_);rintro e w2 ⟨⟨r,rfl⟩,h2,hb2⟩;have HU2:=Lib.hid h2.bu;have HB2:=Lib.hid (HB1.out.trans hb2);have hz2:=HB2.out.size;clear h2 hb2)
      | (go_at_call 57;(with_reducible refine (KC2.out w2 (HTU.out w2 HB2.out)).mono ?_);rintro e w3 ⟨rfl,hd⟩;have HU3:=Lib.hid (HU2.out.below (drew_below hd));have HB3:=Lib.hid (HB2.out.trans ((drew_below hd).mono hz2));have hz3:=HB3.out.size;clear hd)
      | (go_at_call 58;(with_reducible refine (KG.out w3 (HTT.out w3 HB3.out)).mono ?_);rintro e w4 ⟨rfl,hb4⟩;have HU4:=Lib.hid (HU3.out.below hb4);have HB4:=Lib.hid (HB3.out.trans (hb4.mono hz3));have hz4:=HB4.out.size;clear hb4)
      | (go_at_call 59;(with_reducible refine (KR.out w4 HU4.out hz4).mono ?_);rintro e w5 ⟨⟨r5,rfl⟩,h5,hb5⟩;have HU5:=Lib.hid h5.bu;have HB5:=Lib.hid (HB4.out.trans hb5);clear h5 hb5))
     refine ⟨⟨M2,A1++enc v,T4,rfl,HTL4,HLB2,hbound,HU5,HB5,HR2⟩,?_⟩
     simp only [strN]
     exact hless
end
end Go.Proofs.YtbogfailbgbdoaaGreatDoor.K
