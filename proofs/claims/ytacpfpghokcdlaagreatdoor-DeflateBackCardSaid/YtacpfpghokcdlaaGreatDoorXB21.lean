/- Part 21. -/
import Derived.Test.YtacpfpghokcdlaaGreatDoorXB20
open Go.Proofs.Tryz
namespace Go.Proofs.YtacpfpghokcdlaaGreatDoor
set_option maxRecDepth 100000
section
open Go.Lib renaming hid → J
open Go.RowKit
theorem zkj (l:List Nat) (x n:Nat):fp (l++[x]) n=fp l n+if x≠0∧x<n then 1 else 0:=by
 induction n with
 | zero=>simp [fp]
 | succ n ih=>
  rw [fp,fp,ih,zfZ];by_cases h0:x=0
  ·rw [if_neg (fun e=>e.1 h0),if_neg (fun e=>e.2 (e.1.trans h0)),if_neg (fun e=>e.1 h0)];omega
  ·by_cases h1:n=x
   ·rw [if_neg (fun e=>by omega),if_pos ⟨h1,by omega⟩,if_pos ⟨h0,by omega⟩];omega
   ·by_cases h2:x<n
    ·rw [if_pos ⟨h0,h2⟩,if_neg (fun e=>h1 e.1),if_pos ⟨h0,by omega⟩];omega
    ·rw [if_neg (fun e=>h2 e.2),if_neg (fun e=>h1 e.1),if_neg (fun e=>by omega)];omega
theorem zkZ (n:Nat):fp [] n=0:=by
 induction n with
 | zero=>rfl
 | succ n ih=>rw [fp,ih];simp [cn]
theorem vP:many []=0:=zkZ 16
theorem ut {l:List Nat}(h:∀ x∈l,x≤15){k:Nat}(hk:k<l.length):many (l.take (k+1))=many (l.take k)+if 0<l.getD k 0 then 1 else 0:=by
 have e:l.getD k 0=l[k]:=by rw [List.getD_eq_getElem?_getD,List.getElem?_eq_getElem hk];rfl
 have:=h _ (List.getElem_mem hk);rw [List.take_succ_eq_append_getElem hk,e];unfold many;rw [zkj];by_cases h0:l[k]=0
 ·rw [if_neg (fun e=>e.1 h0),if_neg (by omega)]
 ·rw [if_pos ⟨h0,by omega⟩,if_pos (by omega)]
theorem zi1 {l:List Nat}(h:∀ x∈l,x≤15):∀ k,k≤l.length→many (l.take k)≤k:=by
 intro k;induction k with
 | zero=>intro _;rw [List.take_zero,vP];exact Nat.le_refl _
 | succ k ih=>intro hk;rw [ut h (by omega)];have:=ih (by omega);split <;> omega
theorem zgK {l:List Nat}(h:∀ x∈l,x≤15):∀ k,k≤l.length→
  (many (l.take k)=0→yB (l.take k)=0∧∀ x∈l.take k,x=0)∧(many (l.take k)=1→∃ x,x∈l.take k∧x≠0∧yB (l.take k)=qZ x∧∀ z∈l.take k,z=0∨z=x):=by
 intro k;induction k with
 | zero=>intro _;rw [List.take_zero];exact ⟨fun _=>⟨rfl,fun x hx=>by cases hx⟩,fun h1=>by rw [vP] at h1;cases h1⟩
 | succ k ih=>
  intro hk;obtain ⟨i0,i1⟩:=ih (by omega);have e:l.getD k 0=l[k]'(by omega):=by rw [List.getD_eq_getElem?_getD,List.getElem?_eq_getElem (show k<l.length by omega)];rfl
  have hm:=ut h (show k<l.length by omega);rw [e] at hm;rw [List.take_succ_eq_append_getElem (show k<l.length by omega)] at hm ⊢;obtain ⟨y,hy⟩:=exq (l[k]'(by omega));rw [←hy] at hm ⊢;by_cases h0:y=0
  ·subst h0
   rw [if_neg (Nat.lt_irrefl 0),Nat.add_zero] at hm;rw [hm,y9,show qZ 0=0 from rfl,Nat.add_zero];refine ⟨fun h1=>⟨(i0 h1).1,fun x hx=>?_⟩,fun h1=>?_⟩
   ·rcases List.mem_append.1 hx with hx | hx
    ·exact (i0 h1).2 x hx
    ·exact List.mem_singleton.1 hx
   ·obtain ⟨x,hx,hx0,hr,hz⟩:=i1 h1
    refine ⟨x,List.mem_append.2 (.inl hx),hx0,hr,fun z hzm=>?_⟩;rcases List.mem_append.1 hzm with hzm | hzm
    ·exact hz z hzm
    ·exact .inl (List.mem_singleton.1 hzm)
  ·rw [if_pos (by omega)] at hm
   rw [hm,y9];refine ⟨fun h1=>by omega,fun h1=>?_⟩
   obtain ⟨k1,k2⟩:=i0 (by omega);refine ⟨y,List.mem_append.2 (.inr (List.mem_singleton.2 rfl)),h0,by rw [k1,Nat.zero_add],fun z hzm=>?_⟩
   rcases List.mem_append.1 hzm with hzm | hzm
   ·exact .inl (k2 z hzm)
   ·exact .inr (List.mem_singleton.1 hzm)
theorem zeo {x:Nat}(h0:x≠0) (h:x≤15):qZ x=16384↔x=1:=by
 have key:∀ x,x<16→x≠0→(qZ x=16384↔x=1):=by decide
 exact key x (by omega) h0
theorem U9 {l:List Nat}(h:∀ x∈l,x≤15) (h1:many l=1):room l=16384↔1∈l:=by
 have k:=(zgK h l.length (Nat.le_refl _)).2;rw [List.take_length] at k;obtain ⟨x,hx,hx0,hr,hz⟩:=k h1;rw [ux l h,hr,zeo hx0 (h x hx)];constructor
 ·rintro rfl;exact hx
 ·intro hm
  rcases hz 1 hm with e | e
  ·cases e
  ·exact e.symm
def cok (ls:List Nat) (bw bn:Bool):Prop:=room ls≤32768∧(room ls=32768∨(bw=false∧many ls=1∧room ls=16384)∨(bn=true∧many ls=0))
theorem zcT {ls:List Nat}:cok ls true false↔room ls=32768:=by
 unfold cok;constructor
 ·rintro ⟨_,h | ⟨h,_⟩ | ⟨h,_⟩⟩
  ·exact h
  ·cases h
  ·cases h
 ·intro h;exact ⟨by omega,.inl h⟩
theorem KZ {ls:List Nat}(h:∀ x∈ls,x≤15):whole ls=true↔(room ls=32768∨(many ls=1∧room ls=16384)):=by
 unfold whole;rw [decide_eq_true_iff];constructor
 ·rintro (h1 | ⟨h1,h2⟩)
  ·exact .inl h1
  ·exact .inr ⟨h1,(U9 h h1).2 h2⟩
 ·rintro (h1 | ⟨h1,h2⟩)
  ·exact .inl h1
  ·exact .inr ⟨h1,(U9 h h1).1 h2⟩
theorem zgb {row:List Nat}{l:Nat}(h:∀ x∈row,x≤15):fits row l=true↔cok (row.take l) false false∧cok (row.drop l) false true:=by
 have ht:∀ x∈row.take l,x≤15:=fun x hx=>h x (List.mem_of_mem_take hx)
 have hd:∀ x∈row.drop l,x≤15:=fun x hx=>h x (List.mem_of_mem_drop hx)
 unfold fits cok;rw [Bool.and_eq_true,Bool.and_eq_true,Bool.or_eq_true,decide_eq_true_iff,decide_eq_true_iff,KZ ht,KZ hd];constructor
 ·rintro ⟨⟨⟨h1,h2⟩,h3⟩,h4⟩
  refine ⟨⟨h1,?_⟩,⟨h2,?_⟩⟩
  ·rcases h3 with h3 | h3
   ·exact .inl h3
   ·exact .inr (.inl ⟨rfl,h3⟩)
  ·rcases h4 with (h4 | h4) | h4
   ·exact .inl h4
   ·exact .inr (.inl ⟨rfl,h4⟩)
   ·exact .inr (.inr ⟨rfl,h4⟩)
 ·rintro ⟨⟨h1,h3⟩,⟨h2,h4⟩⟩
  refine ⟨⟨⟨h1,h2⟩,?_⟩,?_⟩
  ·rcases h3 with h3 | ⟨_,h3⟩ | ⟨h3,_⟩
   ·exact .inl h3
   ·exact .inr h3
   ·cases h3
  ·rcases h4 with h4 | ⟨_,h4⟩ | ⟨_,h4⟩
   ·exact .inl (.inl h4)
   ·exact .inl (.inr h4)
   ·exact .inr h4
section
variable {B p:Nat}{rv:Value}{bs:List Nat}{lim nb er:Nat}{w:World}{ov:Value}{s:Sta}
def sf (er x:Nat):Nat:=if er=0 then x else er
theorem zF (h:QS B p rv bs lim nb er w ov s) (x:Nat) (hx:x≤15) :
  Calls prog 31 #[.pointer (some ⟨p,0,none⟩),.int .i64 (x:Nat)] w fun e w'=>e=.returned (.tuple #[])∧QS B p rv bs lim nb (sf er x) w' ov s∧Qv p w ov w' ov:=by
 unfold sf;by_cases h0:er=0
 ·subst h0
  exact zK h x hx
 ·rw [if_neg h0]
  refine (Kr h h0 x).mono ?_;rintro e w' ⟨rfl,rfl⟩;exact ⟨rfl,h,Qv.refl _ _ _⟩
def Jo (B p:Nat) (rv:Value) (bs:List Nat) (lim nb er:Nat) (w:World) (ov:Value) (s:Sta) (ls:List Nat) (bw bn:Bool) (e:Ending) (w':World):Prop:=
 (cok ls bw bn∧∃ pc,e=.returned (.pointer (some ⟨pc,0,none⟩))∧Cod w' p ov pc ls∧QS B p rv bs lim nb er w' ov s∧Below w.heap.size w w') ∨
 (¬cok ls bw bn∧e=.returned (.pointer none)∧QS B p rv bs lim nb (sf er 10) w' ov s∧Qv p w ov w' ov)
set_option maxHeartbeats 3200000 in
theorem kU (h:QS B p rv bs lim nb er w ov s) (ao:Option Addr) (c:Nat) (ls:List Nat) (hi:IS w ao (zn ls)) (hl:ls.length≤320) (h15:∀ x∈ls,x≤15) (bw bn:Bool) :
  Calls prog 45 #[.pointer (some ⟨p,0,none⟩),.slice ao ls.length c,.bool bw,.bool bn] w (Jo B p rv bs lim nb er w ov s ls bw bn):=by
 have hzl:(zn ls).length=ls.length:=zH ls;have hv:Vd (zn ls):=zgs h15 hl;have X:=J h;by_cases hm:32768<room ls
 ·have HN:=J (zc7 ao c (zn ls) w hi hv (by rw [xi];exact hm))
  rw [hzl] at HN;have HC:Hid (¬cok ls bw bn):=J fun e=>by have:=e.1;omega
  clear h hi hv hm h15 hzl;go_enter func45,ntmps45;go_wp2_with fail
  refine HN.out.mono ?_;rintro e w1 ⟨rfl,rfl⟩;go_wp2_with fail
  refine (zF X.out 10 (by omega)).mono ?_;rintro e w1 ⟨rfl,h1,m1⟩;have H1:=J h1;have M1:=J m1;clear h1 m1;go_wp2;go_ret;exact .inr ⟨HC.out,rfl,H1.out,M1.out⟩
 ·have HN:=J (QW ao c (zn ls) ls w hi hv ⟨hl,h15,by omega⟩ (xi ls))
  rw [hzl] at HN;have HI:=J hi;have H15:=J h15;have hT:room ls≤32768:=by omega
  have HTP:=J h.top;clear h hi hv hm h15 hzl;go_enter func45,ntmps45;go_wp2_with fail
  refine HN.out.mono ?_;rintro e w1 ⟨pc,rfl,hst,hbel⟩;have HI1:=J (HI.out.below hbel);obtain ⟨h1,m1⟩:=X.out.grow hbel;have X1:=J h1;have M1:=J m1;have c1:=(hst w1 (Touch.refl _ _)).2;have HC1:Hid (Cod w1 p ov pc ls):=J fun w2 ht=>(hst w2 (ht.mono fun k hk=>HTP.out k hk)).1
  have HBL:=J hbel;clear hst hbel h1 m1 X HI HN HTP;go_wp2;go_loopw [11,12] (fun v11 v12 wr=>∃ i,i≤ls.length∧v11=.int .i64 (many (ls.take i):Nat)∧v12=.int .i64 (i:Nat)∧wr=w1) (fun _ v12 _=>ls.length-(intOf v12).toNat)
  case atStart=>exact ⟨0,Nat.zero_le _,by rw [List.take_zero,vP];rfl,rfl,rfl⟩
  case round=>
   obtain ⟨i,hi,rfl,rfl,rfl⟩:=hrel;have hml:=zi1 H15.out i hi;by_cases hlt:i<ls.length
   ·have hlt':(i:Int)<ls.length:=by omega
    have hmt:=ut H15.out hlt;rcases HI1.out with he | ⟨b,off,rfl,hcell⟩
    ·have:=zH ls
     rw [he] at this;simp at this;omega
    ·have g1:=hcell i (by rw [zH];exact hlt)
     rw [Jc] at g1;obtain ⟨x,hx⟩:=exq (ls.getD i 0);obtain ⟨m,hmm⟩:=exq (many (ls.take i));rw [←hx] at g1 hmt;rw [←hmm] at hmt hml ⊢;have HMT:=J hmt;clear hx hmm hcell hmt;by_cases h0:0<x
     ·have h0':(0:Int)<x:=by omega
      go_wp2;go_roundw;case rel=>exact ⟨i+1,by omega,by rw [HMT.out,if_pos h0];go_num,by go_num,by trivial⟩
      case measure=>simp [intOf];omega
     ·have h0':x=0:=by omega
      subst h0';go_wp2;go_roundw;case rel=>exact ⟨i+1,by omega,by rw [HMT.out,if_neg (by omega)];go_num,by go_num,by trivial⟩
      case measure=>simp [intOf];omega
   ·obtain rfl:i=ls.length:=by omega
    rw [List.take_length] at hml ⊢;obtain ⟨T,hTe⟩:=exq (room ls);obtain ⟨M,hMe⟩:=exq (many ls);have HCO:Hid (cok ls bw bn↔T≤32768∧(T=32768∨(bw=false∧M=1∧T=16384)∨(bn=true∧M=0))):=J (by rw [hTe,hMe];rfl);rw [←hTe] at c1 hT;rw [←hMe] at hml ⊢;clear hTe hMe hlt hi;have hMc:M=0∨M=1∨2≤M:=by omega
    have hTc:T=32768∨T=16384∨(T≠32768∧T≠16384):=by omega
    cases bw
    ·cases bn
     ·rcases hMc with rfl | rfl | hM2
      ·rcases hTc with rfl | rfl | ⟨hT1,hT2⟩
       ·have HCK:Hid (cok ls false false):=J (HCO.out.2 (by simp))
        clear HCO;go_wp2;go_ret;exact .inl ⟨HCK.out,pc,rfl,HC1.out,X1.out,HBL.out⟩
       ·have HCK:Hid (¬cok ls false false):=J (by rw [HCO.out];simp;try omega)
        clear HCO;go_wp2_with fail
        refine (zF X1.out 10 (by omega)).mono ?_;rintro e w3 ⟨rfl,h3,m3⟩;have H3:=J h3;have M3:=J m3;clear h3 m3;go_wp2;go_ret;exact .inr ⟨HCK.out,rfl,H3.out,M1.out.trans M3.out⟩
       ·have dC:((T:Int) == 16384)=false:=by simp;omega
        have dD:((T:Int) != 32768)=true:=by simp;omega
        have HCK:Hid (¬cok ls false false):=J (by rw [HCO.out];simp;try omega);clear HCO hT1 hT2;go_wp2_with fail
        refine (zF X1.out 10 (by omega)).mono ?_;rintro e w3 ⟨rfl,h3,m3⟩;have H3:=J h3;have M3:=J m3;clear h3 m3;go_wp2;go_ret;exact .inr ⟨HCK.out,rfl,H3.out,M1.out.trans M3.out⟩
      ·rcases hTc with rfl | rfl | ⟨hT1,hT2⟩
       ·have HCK:Hid (cok ls false false):=J (HCO.out.2 (by simp))
        clear HCO;go_wp2;go_ret;exact .inl ⟨HCK.out,pc,rfl,HC1.out,X1.out,HBL.out⟩
       ·have HCK:Hid (cok ls false false):=J (HCO.out.2 (by simp))
        clear HCO;go_wp2;go_ret;exact .inl ⟨HCK.out,pc,rfl,HC1.out,X1.out,HBL.out⟩
       ·have dC:((T:Int) == 16384)=false:=by simp;omega
        have dD:((T:Int) != 32768)=true:=by simp;omega
        have HCK:Hid (¬cok ls false false):=J (by rw [HCO.out];simp;try omega);clear HCO hT1 hT2;go_wp2_with fail
        refine (zF X1.out 10 (by omega)).mono ?_;rintro e w3 ⟨rfl,h3,m3⟩;have H3:=J h3;have M3:=J m3;clear h3 m3;go_wp2;go_ret;exact .inr ⟨HCK.out,rfl,H3.out,M1.out.trans M3.out⟩
      ·rcases hTc with rfl | rfl | ⟨hT1,hT2⟩
       ·have dA:((M:Int) == 0)=false:=by simp;omega
        have dB:((M:Int) == 1)=false:=by simp;omega
        have HCK:Hid (cok ls false false):=J (HCO.out.2 (by simp));clear HCO hM2;go_wp2;go_ret;exact .inl ⟨HCK.out,pc,rfl,HC1.out,X1.out,HBL.out⟩
       ·have dA:((M:Int) == 0)=false:=by simp;omega
        have dB:((M:Int) == 1)=false:=by simp;omega
        have HCK:Hid (¬cok ls false false):=J (by rw [HCO.out];simp;try omega);clear HCO hM2;go_wp2_with fail
        refine (zF X1.out 10 (by omega)).mono ?_;rintro e w3 ⟨rfl,h3,m3⟩;have H3:=J h3;have M3:=J m3;clear h3 m3;go_wp2;go_ret;exact .inr ⟨HCK.out,rfl,H3.out,M1.out.trans M3.out⟩
       ·have dA:((M:Int) == 0)=false:=by simp;omega
        have dB:((M:Int) == 1)=false:=by simp;omega
        have dC:((T:Int) == 16384)=false:=by simp;omega
        have dD:((T:Int) != 32768)=true:=by simp;omega
        have HCK:Hid (¬cok ls false false):=J (by rw [HCO.out];simp;try omega);clear HCO hM2 hT1 hT2;go_wp2_with fail
        refine (zF X1.out 10 (by omega)).mono ?_;rintro e w3 ⟨rfl,h3,m3⟩;have H3:=J h3;have M3:=J m3;clear h3 m3;go_wp2;go_ret;exact .inr ⟨HCK.out,rfl,H3.out,M1.out.trans M3.out⟩
     ·rcases hMc with rfl | rfl | hM2
      ·rcases hTc with rfl | rfl | ⟨hT1,hT2⟩
       ·have HCK:Hid (cok ls false true):=J (HCO.out.2 (by simp))
        clear HCO;go_wp2;go_ret;exact .inl ⟨HCK.out,pc,rfl,HC1.out,X1.out,HBL.out⟩
       ·have HCK:Hid (cok ls false true):=J (HCO.out.2 (by simp))
        clear HCO;go_wp2;go_ret;exact .inl ⟨HCK.out,pc,rfl,HC1.out,X1.out,HBL.out⟩
       ·have dC:((T:Int) == 16384)=false:=by simp;omega
        have dD:((T:Int) != 32768)=true:=by simp;omega
        have HCK:Hid (cok ls false true):=J (HCO.out.2 (by simp;omega));clear HCO hT1 hT2;go_wp2;go_ret;exact .inl ⟨HCK.out,pc,rfl,HC1.out,X1.out,HBL.out⟩
      ·rcases hTc with rfl | rfl | ⟨hT1,hT2⟩
       ·have HCK:Hid (cok ls false true):=J (HCO.out.2 (by simp))
        clear HCO;go_wp2;go_ret;exact .inl ⟨HCK.out,pc,rfl,HC1.out,X1.out,HBL.out⟩
       ·have HCK:Hid (cok ls false true):=J (HCO.out.2 (by simp))
        clear HCO;go_wp2;go_ret;exact .inl ⟨HCK.out,pc,rfl,HC1.out,X1.out,HBL.out⟩
       ·have dC:((T:Int) == 16384)=false:=by simp;omega
        have dD:((T:Int) != 32768)=true:=by simp;omega
        have HCK:Hid (¬cok ls false true):=J (by rw [HCO.out];simp;try omega);clear HCO hT1 hT2;go_wp2_with fail
        refine (zF X1.out 10 (by omega)).mono ?_;rintro e w3 ⟨rfl,h3,m3⟩;have H3:=J h3;have M3:=J m3;clear h3 m3;go_wp2;go_ret;exact .inr ⟨HCK.out,rfl,H3.out,M1.out.trans M3.out⟩
      ·rcases hTc with rfl | rfl | ⟨hT1,hT2⟩
       ·have dA:((M:Int) == 0)=false:=by simp;omega
        have dB:((M:Int) == 1)=false:=by simp;omega
        have HCK:Hid (cok ls false true):=J (HCO.out.2 (by simp));clear HCO hM2;go_wp2;go_ret;exact .inl ⟨HCK.out,pc,rfl,HC1.out,X1.out,HBL.out⟩
       ·have dA:((M:Int) == 0)=false:=by simp;omega
        have dB:((M:Int) == 1)=false:=by simp;omega
        have HCK:Hid (¬cok ls false true):=J (by rw [HCO.out];simp;try omega);clear HCO hM2;go_wp2_with fail
        refine (zF X1.out 10 (by omega)).mono ?_;rintro e w3 ⟨rfl,h3,m3⟩;have H3:=J h3;have M3:=J m3;clear h3 m3;go_wp2;go_ret;exact .inr ⟨HCK.out,rfl,H3.out,M1.out.trans M3.out⟩
       ·have dA:((M:Int) == 0)=false:=by simp;omega
        have dB:((M:Int) == 1)=false:=by simp;omega
        have dC:((T:Int) == 16384)=false:=by simp;omega
        have dD:((T:Int) != 32768)=true:=by simp;omega
        have HCK:Hid (¬cok ls false true):=J (by rw [HCO.out];simp;try omega);clear HCO hM2 hT1 hT2;go_wp2_with fail
        refine (zF X1.out 10 (by omega)).mono ?_;rintro e w3 ⟨rfl,h3,m3⟩;have H3:=J h3;have M3:=J m3;clear h3 m3;go_wp2;go_ret;exact .inr ⟨HCK.out,rfl,H3.out,M1.out.trans M3.out⟩
    ·cases bn
     ·rcases hMc with rfl | rfl | hM2
      ·rcases hTc with rfl | rfl | ⟨hT1,hT2⟩
       ·have HCK:Hid (cok ls true false):=J (HCO.out.2 (by simp))
        clear HCO;go_wp2;go_ret;exact .inl ⟨HCK.out,pc,rfl,HC1.out,X1.out,HBL.out⟩
       ·have HCK:Hid (¬cok ls true false):=J (by rw [HCO.out];simp;try omega)
        clear HCO;go_wp2_with fail
        refine (zF X1.out 10 (by omega)).mono ?_;rintro e w3 ⟨rfl,h3,m3⟩;have H3:=J h3;have M3:=J m3;clear h3 m3;go_wp2;go_ret;exact .inr ⟨HCK.out,rfl,H3.out,M1.out.trans M3.out⟩
       ·have dC:((T:Int) == 16384)=false:=by simp;omega
        have dD:((T:Int) != 32768)=true:=by simp;omega
        have HCK:Hid (¬cok ls true false):=J (by rw [HCO.out];simp;try omega);clear HCO hT1 hT2;go_wp2_with fail
        refine (zF X1.out 10 (by omega)).mono ?_;rintro e w3 ⟨rfl,h3,m3⟩;have H3:=J h3;have M3:=J m3;clear h3 m3;go_wp2;go_ret;exact .inr ⟨HCK.out,rfl,H3.out,M1.out.trans M3.out⟩
      ·rcases hTc with rfl | rfl | ⟨hT1,hT2⟩
       ·have HCK:Hid (cok ls true false):=J (HCO.out.2 (by simp))
        clear HCO;go_wp2;go_ret;exact .inl ⟨HCK.out,pc,rfl,HC1.out,X1.out,HBL.out⟩
       ·have HCK:Hid (¬cok ls true false):=J (by rw [HCO.out];simp;try omega)
        clear HCO;go_wp2_with fail
        refine (zF X1.out 10 (by omega)).mono ?_;rintro e w3 ⟨rfl,h3,m3⟩;have H3:=J h3;have M3:=J m3;clear h3 m3;go_wp2;go_ret;exact .inr ⟨HCK.out,rfl,H3.out,M1.out.trans M3.out⟩
       ·have dC:((T:Int) == 16384)=false:=by simp;omega
        have dD:((T:Int) != 32768)=true:=by simp;omega
        have HCK:Hid (¬cok ls true false):=J (by rw [HCO.out];simp;try omega);clear HCO hT1 hT2;go_wp2_with fail
        refine (zF X1.out 10 (by omega)).mono ?_;rintro e w3 ⟨rfl,h3,m3⟩;have H3:=J h3;have M3:=J m3;clear h3 m3;go_wp2;go_ret;exact .inr ⟨HCK.out,rfl,H3.out,M1.out.trans M3.out⟩
      ·rcases hTc with rfl | rfl | ⟨hT1,hT2⟩
       ·have dA:((M:Int) == 0)=false:=by simp;omega
        have dB:((M:Int) == 1)=false:=by simp;omega
        have HCK:Hid (cok ls true false):=J (HCO.out.2 (by simp));clear HCO hM2;go_wp2;go_ret;exact .inl ⟨HCK.out,pc,rfl,HC1.out,X1.out,HBL.out⟩
       ·have dA:((M:Int) == 0)=false:=by simp;omega
        have dB:((M:Int) == 1)=false:=by simp;omega
        have HCK:Hid (¬cok ls true false):=J (by rw [HCO.out];simp;try omega);clear HCO hM2;go_wp2_with fail
        refine (zF X1.out 10 (by omega)).mono ?_;rintro e w3 ⟨rfl,h3,m3⟩;have H3:=J h3;have M3:=J m3;clear h3 m3;go_wp2;go_ret;exact .inr ⟨HCK.out,rfl,H3.out,M1.out.trans M3.out⟩
       ·have dA:((M:Int) == 0)=false:=by simp;omega
        have dB:((M:Int) == 1)=false:=by simp;omega
        have dC:((T:Int) == 16384)=false:=by simp;omega
        have dD:((T:Int) != 32768)=true:=by simp;omega
        have HCK:Hid (¬cok ls true false):=J (by rw [HCO.out];simp;try omega);clear HCO hM2 hT1 hT2;go_wp2_with fail
        refine (zF X1.out 10 (by omega)).mono ?_;rintro e w3 ⟨rfl,h3,m3⟩;have H3:=J h3;have M3:=J m3;clear h3 m3;go_wp2;go_ret;exact .inr ⟨HCK.out,rfl,H3.out,M1.out.trans M3.out⟩
     ·rcases hMc with rfl | rfl | hM2
      ·rcases hTc with rfl | rfl | ⟨hT1,hT2⟩
       ·have HCK:Hid (cok ls true true):=J (HCO.out.2 (by simp))
        clear HCO;go_wp2;go_ret;exact .inl ⟨HCK.out,pc,rfl,HC1.out,X1.out,HBL.out⟩
       ·have HCK:Hid (cok ls true true):=J (HCO.out.2 (by simp))
        clear HCO;go_wp2;go_ret;exact .inl ⟨HCK.out,pc,rfl,HC1.out,X1.out,HBL.out⟩
       ·have dC:((T:Int) == 16384)=false:=by simp;omega
        have dD:((T:Int) != 32768)=true:=by simp;omega
        have HCK:Hid (cok ls true true):=J (HCO.out.2 (by simp;omega));clear HCO hT1 hT2;go_wp2;go_ret;exact .inl ⟨HCK.out,pc,rfl,HC1.out,X1.out,HBL.out⟩
      ·rcases hTc with rfl | rfl | ⟨hT1,hT2⟩
       ·have HCK:Hid (cok ls true true):=J (HCO.out.2 (by simp))
        clear HCO;go_wp2;go_ret;exact .inl ⟨HCK.out,pc,rfl,HC1.out,X1.out,HBL.out⟩
       ·have HCK:Hid (¬cok ls true true):=J (by rw [HCO.out];simp;try omega)
        clear HCO;go_wp2_with fail
        refine (zF X1.out 10 (by omega)).mono ?_;rintro e w3 ⟨rfl,h3,m3⟩;have H3:=J h3;have M3:=J m3;clear h3 m3;go_wp2;go_ret;exact .inr ⟨HCK.out,rfl,H3.out,M1.out.trans M3.out⟩
       ·have dC:((T:Int) == 16384)=false:=by simp;omega
        have dD:((T:Int) != 32768)=true:=by simp;omega
        have HCK:Hid (¬cok ls true true):=J (by rw [HCO.out];simp;try omega);clear HCO hT1 hT2;go_wp2_with fail
        refine (zF X1.out 10 (by omega)).mono ?_;rintro e w3 ⟨rfl,h3,m3⟩;have H3:=J h3;have M3:=J m3;clear h3 m3;go_wp2;go_ret;exact .inr ⟨HCK.out,rfl,H3.out,M1.out.trans M3.out⟩
      ·rcases hTc with rfl | rfl | ⟨hT1,hT2⟩
       ·have dA:((M:Int) == 0)=false:=by simp;omega
        have dB:((M:Int) == 1)=false:=by simp;omega
        have HCK:Hid (cok ls true true):=J (HCO.out.2 (by simp));clear HCO hM2;go_wp2;go_ret;exact .inl ⟨HCK.out,pc,rfl,HC1.out,X1.out,HBL.out⟩
       ·have dA:((M:Int) == 0)=false:=by simp;omega
        have dB:((M:Int) == 1)=false:=by simp;omega
        have HCK:Hid (¬cok ls true true):=J (by rw [HCO.out];simp;try omega);clear HCO hM2;go_wp2_with fail
        refine (zF X1.out 10 (by omega)).mono ?_;rintro e w3 ⟨rfl,h3,m3⟩;have H3:=J h3;have M3:=J m3;clear h3 m3;go_wp2;go_ret;exact .inr ⟨HCK.out,rfl,H3.out,M1.out.trans M3.out⟩
       ·have dA:((M:Int) == 0)=false:=by simp;omega
        have dB:((M:Int) == 1)=false:=by simp;omega
        have dC:((T:Int) == 16384)=false:=by simp;omega
        have dD:((T:Int) != 32768)=true:=by simp;omega
        have HCK:Hid (¬cok ls true true):=J (by rw [HCO.out];simp;try omega);clear HCO hM2 hT1 hT2;go_wp2_with fail
        refine (zF X1.out 10 (by omega)).mono ?_;rintro e w3 ⟨rfl,h3,m3⟩;have H3:=J h3;have M3:=J m3;clear h3 m3;go_wp2;go_ret;exact .inr ⟨HCK.out,rfl,H3.out,M1.out.trans M3.out⟩
end
end
end Go.Proofs.YtacpfpghokcdlaaGreatDoor
namespace Go.Proofs.YtacpfpghokcdlaaGreatDoor.Z
set_option maxRecDepth 100000
section
open Go.Lib renaming hid → J
open Go.RowKit
structure Rn (w:World) (P:List Int) (v:Value) (wr:World):Prop where
 own:wr.ownsRow w.heap.size 3 1 v P.length (iv P)
 below:Below w.heap.size w wr
theorem Rn.put {w wr w1:World}{P R:List Int}{v v':Value}{n:Nat}{o:Obj}(h:Rn w P v wr) (hA:Apg (wr.alloc o) w.heap.size 3 1 v n (iv P++iv R) v' w1) (hn:n=P.length+R.length):Rn w (P++R) v' w1:=by
 subst hn;refine ⟨?_,h.below.trans (hA.alloc.below h.own h.below.size)⟩;rw [List.length_append,←jM];exact hA.own
theorem Rn.alloc {w wr:World}{P:List Int}{v:Value}(h:Rn w P v wr) (o:Obj):Rn w P v (wr.alloc o):=
 ⟨World.ownsRow.alloc (w:=wr) h.own o,h.below.alloc h.below.size o⟩
def Unr (A:Option (List Int)) (w:World) (e:Ending) (w':World):Prop:=Below w.heap.size w w'∧
 (A=none→e=.returned (.tuple #[.slice none 0 0,.bool false]))∧∀ ts,A=some ts→∃ ao c,e=.returned (.tuple #[.slice ao ts.length c,.bool true])∧(∀ w2,Touch (fun k=>k<w.heap.size) w' w2→IS w2 ao ts)∧ts.length≤c
def Fo (s x:Int) (N:Nat):Prop:=(0≤s∧s≤15∧x=0)∨(s=16∧0≤x∧x≤3∧0<N)∨(s=17∧0≤x∧x≤7)∨(s=18∧0≤x∧x≤127)
theorem Ky (s:Int):(s=16→spl s=3∧spm s=6)∧(s=17→spl s=3∧spm s=10)∧(s=18→spl s=11∧spm s=138)∧(s≤15→spl s=1∧spm s=1):=by
 refine ⟨fun e=>?_,fun e=>?_,fun e=>?_,fun e=>kT e⟩ <;> subst e <;> exact ⟨rfl,rfl⟩
theorem yg {s x:Int}{N:Nat}(h:¬Fo s x N):Wi s x N:=by
 have h1:=Ky s;unfold Fo at h;unfold Wi Bad;by_cases a:s=16
 ·have:=h1.1 a;omega
 ·by_cases b:s=17
  ·have:=h1.2.1 b;omega
  ·by_cases c:s=18
   ·have:=h1.2.2.1 c;omega
   ·by_cases d:s≤15
    ·have:=h1.2.2.2 d;omega
    ·omega
theorem QQ {s x:Int}{N:Nat}(h:Fo s x N):(Wi s x N↔(320-N:Int)<spl s+x)∧0≤x∧(spl s:Int)+x≤138:=by
 have h1:=Ky s;have h2:=JG s;unfold Fo at h;unfold Wi Bad;by_cases a:s=16
 ·have:=h1.1 a;omega
 ·by_cases b:s=17
  ·have:=h1.2.1 b;omega
  ·by_cases c:s=18
   ·have:=h1.2.2.1 c;omega
   ·by_cases d:s≤15
    ·have:=h1.2.2.2 d;omega
    ·omega
set_option maxHeartbeats 16000000 in
set_option maxRecDepth 100000 in
theorem XN (ao:Option Addr) (c:Nat) (r:List (Int × Int)) (w:World) (h:TS w ao r) (hl:r.length≤1000) :
  Calls prog 46 #[.slice ao r.length c] w (Unr (un r []) w):=by
 have HI:Hid (∀ W,Below w.heap.size w W→TS W ao r):=J fun W hW=>h.on hW
 clear h;obtain ⟨A,hA⟩:=exq (un r []);rw [←hA];have HA0:=J hA;clear hA;have H0:Hid (Rn w [] (.slice (some ⟨w.heap.size,0,none⟩) 0 0) (w.alloc (.cells #[] 3))):=J ⟨yP w 3 1,(Below.refl _ _).alloc (Nat.le_refl _) _⟩;go_enter func46,ntmps46;go_wp2;generalize w.alloc (.cells #[] 3)=w1 at H0 ⊢;generalize (⟨w.heap.size,0,none⟩:Addr)=ad at H0 ⊢;go_loopw [4,5] (fun v4 iv' wr=>∃ (k:Nat) (ts:List Int) (bo:Option Addr) (cu:Nat),v4=.slice bo ts.length cu∧iv' = .int .i64 k∧k≤r.length∧ts.length≤320∧un (r.drop k) ts=A∧Rn w ts (.slice bo ts.length cu) wr) (fun _ iv' _=>r.length-(intOf iv').toNat)
 case atStart=>exact ⟨0,[],some ad,0,rfl,rfl,Nat.zero_le _,by simp,HA0.out.symm,H0.out⟩
 case round=>
  obtain ⟨k,ts,bo,cu,rfl,rfl,hk,htl,hun,hR⟩:=hrel;have HUN:=J hun;have HR:=J hR;clear hun hR H0;by_cases hlt:k<r.length
  ·have hkk:(k:Int)<r.length:=by omega
   obtain ⟨b1,o1,rfl,q1,q2⟩:=(HI.out _ HR.out.below).at hlt;obtain ⟨s,hs⟩:=exq ((itm r k).1);obtain ⟨x,hx⟩:=exq ((itm r k).2);have HSX:=J (And.intro hs hx);rw [←hs] at q1;rw [←hx] at q2;clear hs hx;by_cases c1:s<0
   ·have HF:Hid (¬Fo s x ts.length):=J (by unfold Fo;omega)
    have t1:decide ((0:Int)≤s)=false:=decide_eq_false (by omega);have e16:(s == 16)=false:=by simp;omega
    have e17:(s == 17)=false:=by simp;omega
    have e18:(s == 18)=false:=by simp;omega
    go_wp2;go_ret2
    refine ⟨HR.out.below.alloc HR.out.below.size _,fun _=>rfl,fun ts' h=>?_⟩;exfalso;have h1:=HUN.out;have h2:=HSX.out;rw [h,zJ hlt,←h2.1,←h2.2,if_pos (yg HF.out)] at h1;cases h1
   ·by_cases c2:s≤15
    ·by_cases c3:x=0
     ·have HF:Hid (Fo s x ts.length):=J (by unfold Fo;omega)
      have HFY:=J (QQ HF.out);obtain ⟨n,hn⟩:=exq (((spl s:Int)+x).toNat);have HN:=J hn;have hn1:n≤138:=by have:=HFY.out;omega
      have hsp:=Ky s;have HNV:Hid ((n:Int)=1):=J (by have:=hsp.2.2.2 (by omega);omega);have HTV:Hid (tv s ts=s):=J (by rw [tv,if_neg (by omega),if_neg (by omega),if_neg (by omega)]);clear hn hsp;have HRA:=J (HR.out.alloc (.cells #[.int .i64 s,.int .i64 x] 81));have t1:decide ((0:Int)≤s)=true:=decide_eq_true (by omega);have t2:decide (s≤15)=true:=decide_eq_true (by omega);have t3:(x == 0)=true:=by simp;omega
      have HCE:=J c3;clear c3;go_wp2;have H1:Hid (Rn w (ts++List.replicate 0 s) (.slice bo ts.length cu) (wr.alloc (.cells #[.int .i64 s,.int .i64 x] 81))):=J (by simpa using HRA.out);generalize (wr.alloc (.cells #[.int .i64 s,.int .i64 x] 81))=w3 at H1 ⊢;clear HR HRA q1 q2;go_loopw [4,9] (fun v4 jv wr2=>∃ (j:Nat) (bo2:Option Addr) (cu2:Nat),v4=.slice bo2 (ts.length+j:Nat) cu2∧jv=.int .i64 j∧j≤n∧Rn w (ts++List.replicate j s) (.slice bo2 (ts.length+j:Nat) cu2) wr2) (fun _ jv _=>n-(intOf jv).toNat)
      case atStart=>exact ⟨0,bo,cu,rfl,rfl,Nat.zero_le _,H1.out⟩
      case round=>
       obtain ⟨j,bo2,cu2,rfl,rfl,hj,hR2⟩:=hrel;have HR2:=J hR2;clear hR2 H1;obtain ⟨ts2,ht2⟩:=exq (ts++List.replicate j s);have HT2:=J ht2;obtain ⟨N,hN⟩:=exq (ts.length+j);have HNN:=J hN;have HL2:Hid (ts2.length=N):=J (by rw [ht2,hN];simp);have hN2:N≤460:=by omega
       rw [←ht2,←hN] at HR2;rw [←hN];clear ht2 hN;by_cases hlj:j<n
       ·have hlj':(j:Int)<1:=by have:=HNV.out;omega
        go_wp2_with (refine ze kg rfl (.tmp 104) (.tmp 106) rfl w.heap.size (.slice bo2 N cu2) (.slice (some ⟨wr.heap.size,0,none⟩) 1 1) N 1 (iv ts2) [.int .i64 s] rfl rfl (World.ownsRow.alloc (w:=wr) (by have h:=HR2.out.own;rw [HL2.out] at h;exact h) _) (jK wr 3 _) rfl (by simp [Value.oneCell']) (by have:=HR2.out.below.size;simp;omega) (by omega) (by omega) ?_;intro ao2 cc2 w4 hA;have HA:=J hA;clear hA);go_roundw;case rel=>
         have h1:=HR2.out.put (R:=[s]) (n:=N+1) HA.out (by rw [HL2.out];rfl);rw [HT2.out,List.append_assoc,←List.replicate_succ'] at h1;refine ⟨j+1,ao2,cc2,by rw [HNN.out];rfl,by go_num,by omega,?_⟩;rw [show ts.length+(j+1)=N+1 by rw [HNN.out];rfl];exact h1
        case measure=>simp [intOf];omega
       ·have hj':j=n:=by omega
        have hjj:decide ((j:Int)<1)=false:=decide_eq_false (by have:=HNV.out;omega);have HJ:=J hj';clear hj';by_cases hov:320<N
        ·have hov':(320:Int)<N:=by omega
         have HOV:=J hov;go_wp2;go_ret2
         refine ⟨HR2.out.below,fun _=>rfl,fun ts' h=>?_⟩;exfalso;have h1:=HUN.out;have h2:=HSX.out;have h3:=HFY.out;have h4:=HNN.out;have h5:=HN.out;have h6:=HJ.out;rw [h,zJ hlt,←h2.1,←h2.2,if_pos (h3.1.2 (by omega))] at h1;cases h1
        ·have hov':decide ((320:Int)<N)=false:=decide_eq_false (by omega)
         have HOV:=J hov;go_wp2;go_roundw;case rel=>
          refine ⟨k+1,ts2,bo2,cu2,by rw [HL2.out],by go_num,by omega,by have:=HL2.out;omega,?_,by have h:=HR2.out;rw [HL2.out];exact h⟩;have h1:=HUN.out;have h2:=HSX.out;have h3:=HFY.out;have h4:=HNN.out;have h5:=HN.out;have h6:=HOV.out;have h7:=HJ.out;rw [zJ hlt,←h2.1,←h2.2,if_neg (fun h=>h6 (by have:=h3.1.1 h;omega)),HTV.out,←HN.out,←HJ.out,←HT2.out] at h1
          exact h1
         case measure=>simp [intOf];omega
     ·have HF:Hid (¬Fo s x ts.length):=J (by unfold Fo;omega)
      have t1:decide ((0:Int)≤s)=true:=decide_eq_true (by omega);have t2:decide (s≤15)=true:=decide_eq_true (by omega);have t3:(x == 0)=false:=by simp;omega
      have e16:(s == 16)=false:=by simp;omega
      have e17:(s == 17)=false:=by simp;omega
      have e18:(s == 18)=false:=by simp;omega
      go_wp2;go_ret2
      refine ⟨HR.out.below.alloc HR.out.below.size _,fun _=>rfl,fun ts' h=>?_⟩;exfalso;have h1:=HUN.out;have h2:=HSX.out;rw [h,zJ hlt,←h2.1,←h2.2,if_pos (yg HF.out)] at h1;cases h1
    ·by_cases c4:s=16
     ·by_cases c5:x<0
      ·have HF:Hid (¬Fo s x ts.length):=J (by unfold Fo;omega)
       have t1:decide ((0:Int)≤s)=true:=decide_eq_true (by omega);have t2:decide (s≤15)=false:=decide_eq_false (by omega);have e16:(s == 16)=true:=by simp;omega
       have e17:(s == 17)=false:=by simp;omega
       have e18:(s == 18)=false:=by simp;omega
       have t4:decide ((0:Int)≤x)=false:=decide_eq_false (by omega);go_wp2;go_ret2
       refine ⟨HR.out.below.alloc HR.out.below.size _,fun _=>rfl,fun ts' h=>?_⟩;exfalso;have h1:=HUN.out;have h2:=HSX.out;rw [h,zJ hlt,←h2.1,←h2.2,if_pos (yg HF.out)] at h1;cases h1
      ·by_cases c6:x≤3
       ·by_cases c7:0<ts.length
        ·have HF:Hid (Fo s x ts.length):=J (by unfold Fo;omega)
         have HFY:=J (QQ HF.out);obtain ⟨n,hn⟩:=exq (((spl s:Int)+x).toNat);have HN:=J hn;have hn1:n≤138:=by have:=HFY.out;omega
         have hsp:=Ky s;have HNV:Hid ((n:Int)=n):=J rfl;have e9:IntKind.i64.wrap ((3:Int)+x)=n:=by have:=hsp.1 (by omega);rw [IntKind.wrap_i64];omega
         obtain ⟨t,ht⟩:=exq (tv s ts);have HTV:=J ht.symm;obtain ⟨K,hK⟩:=exq (ts.length-1);have HY:Hid (t=ts.getD K 0):=J (by rw [ht,hK,tv,if_pos (by omega)]);clear ht;clear hn hsp;have HRA:=J (HR.out.alloc (.cells #[.int .i64 s,.int .i64 x] 81));have e16:(s == 16)=true:=by simp;omega
         have t1:decide ((0:Int)≤s)=true:=decide_eq_true (by omega);have t2:decide (s≤15)=false:=decide_eq_false (by omega);have t4:decide ((0:Int)≤x)=true:=decide_eq_true (by omega);have t5:decide (x≤3)=true:=decide_eq_true (by omega);have t6:decide ((0:Int)<ts.length)=true:=decide_eq_true (by omega);have HIS:=J (j9 HRA.out.own rfl);obtain ⟨b2,o2,rfl,q3⟩:=HIS.out.at (k:=K) (by omega);rw [←HY.out] at q3;have e7:IntKind.i64.wrap ((ts.length:Int)-1)=K:=by rw [IntKind.wrap_i64];omega
         have e6:(K:Int)<ts.length:=by omega
         clear hK;have HCE:=J c4;clear c4;go_wp2;have H1:Hid (Rn w (ts++List.replicate 0 t) (.slice (some ⟨b2,o2,none⟩) ts.length cu) (wr.alloc (.cells #[.int .i64 s,.int .i64 x] 81))):=J (by simpa using HRA.out);generalize (wr.alloc (.cells #[.int .i64 s,.int .i64 x] 81))=w3 at H1 ⊢;clear HR HRA q1 q2;go_loopw [4,9] (fun v4 jv wr2=>∃ (j:Nat) (bo2:Option Addr) (cu2:Nat),v4=.slice bo2 (ts.length+j:Nat) cu2∧jv=.int .i64 j∧j≤n∧Rn w (ts++List.replicate j t) (.slice bo2 (ts.length+j:Nat) cu2) wr2) (fun _ jv _=>n-(intOf jv).toNat)
         case atStart=>exact ⟨0,(some ⟨b2,o2,none⟩),cu,rfl,rfl,Nat.zero_le _,H1.out⟩
         case round=>
          obtain ⟨j,bo2,cu2,rfl,rfl,hj,hR2⟩:=hrel;have HR2:=J hR2;clear hR2 H1;obtain ⟨ts2,ht2⟩:=exq (ts++List.replicate j t);have HT2:=J ht2;obtain ⟨N,hN⟩:=exq (ts.length+j);have HNN:=J hN;have HL2:Hid (ts2.length=N):=J (by rw [ht2,hN];simp);have hN2:N≤460:=by omega
          rw [←ht2,←hN] at HR2;rw [←hN];clear ht2 hN;by_cases hlj:j<n
          ·have hlj':(j:Int)<n:=by have:=HNV.out;omega
           go_wp2_with (refine ze kg rfl (.tmp 104) (.tmp 106) rfl w.heap.size (.slice bo2 N cu2) (.slice (some ⟨wr.heap.size,0,none⟩) 1 1) N 1 (iv ts2) [.int .i64 t] rfl rfl (World.ownsRow.alloc (w:=wr) (by have h:=HR2.out.own;rw [HL2.out] at h;exact h) _) (jK wr 3 _) rfl (by simp [Value.oneCell']) (by have:=HR2.out.below.size;simp;omega) (by omega) (by omega) ?_;intro ao2 cc2 w4 hA;have HA:=J hA;clear hA);go_roundw;case rel=>
            have h1:=HR2.out.put (R:=[t]) (n:=N+1) HA.out (by rw [HL2.out];rfl);rw [HT2.out,List.append_assoc,←List.replicate_succ'] at h1;refine ⟨j+1,ao2,cc2,by rw [HNN.out];rfl,by go_num,by omega,?_⟩;rw [show ts.length+(j+1)=N+1 by rw [HNN.out];rfl];exact h1
           case measure=>simp [intOf];omega
          ·have hj':j=n:=by omega
           have hjj:decide ((j:Int)<n)=false:=decide_eq_false (by have:=HNV.out;omega);have HJ:=J hj';clear hj';by_cases hov:320<N
           ·have hov':(320:Int)<N:=by omega
            have HOV:=J hov;go_wp2;go_ret2
            refine ⟨HR2.out.below,fun _=>rfl,fun ts' h=>?_⟩;exfalso;have h1:=HUN.out;have h2:=HSX.out;have h3:=HFY.out;have h4:=HNN.out;have h5:=HN.out;have h6:=HJ.out;rw [h,zJ hlt,←h2.1,←h2.2,if_pos (h3.1.2 (by omega))] at h1;cases h1
           ·have hov':decide ((320:Int)<N)=false:=decide_eq_false (by omega)
            have HOV:=J hov;go_wp2;go_roundw;case rel=>
             refine ⟨k+1,ts2,bo2,cu2,by rw [HL2.out],by go_num,by omega,by have:=HL2.out;omega,?_,by have h:=HR2.out;rw [HL2.out];exact h⟩;have h1:=HUN.out;have h2:=HSX.out;have h3:=HFY.out;have h4:=HNN.out;have h5:=HN.out;have h6:=HOV.out;have h7:=HJ.out;rw [zJ hlt,←h2.1,←h2.2,if_neg (fun h=>h6 (by have:=h3.1.1 h;omega)),HTV.out,←HN.out,←HJ.out,←HT2.out] at h1
             exact h1
            case measure=>simp [intOf];omega
        ·have HF:Hid (¬Fo s x ts.length):=J (by unfold Fo;omega)
         have t1:decide ((0:Int)≤s)=true:=decide_eq_true (by omega);have t2:decide (s≤15)=false:=decide_eq_false (by omega);have e16:(s == 16)=true:=by simp;omega
         have e17:(s == 17)=false:=by simp;omega
         have e18:(s == 18)=false:=by simp;omega
         have t4:decide ((0:Int)≤x)=true:=decide_eq_true (by omega);have t5:decide (x≤3)=true:=decide_eq_true (by omega);have t6:decide ((0:Int)<ts.length)=false:=decide_eq_false (by omega);go_wp2;go_ret2
         refine ⟨HR.out.below.alloc HR.out.below.size _,fun _=>rfl,fun ts' h=>?_⟩;exfalso;have h1:=HUN.out;have h2:=HSX.out;rw [h,zJ hlt,←h2.1,←h2.2,if_pos (yg HF.out)] at h1;cases h1
       ·have HF:Hid (¬Fo s x ts.length):=J (by unfold Fo;omega)
        have t1:decide ((0:Int)≤s)=true:=decide_eq_true (by omega);have t2:decide (s≤15)=false:=decide_eq_false (by omega);have e16:(s == 16)=true:=by simp;omega
        have e17:(s == 17)=false:=by simp;omega
        have e18:(s == 18)=false:=by simp;omega
        have t4:decide ((0:Int)≤x)=true:=decide_eq_true (by omega);have t5:decide (x≤3)=false:=decide_eq_false (by omega);go_wp2;go_ret2
        refine ⟨HR.out.below.alloc HR.out.below.size _,fun _=>rfl,fun ts' h=>?_⟩;exfalso;have h1:=HUN.out;have h2:=HSX.out;rw [h,zJ hlt,←h2.1,←h2.2,if_pos (yg HF.out)] at h1;cases h1
     ·by_cases c8:s=17
      ·by_cases c9:x<0
       ·have HF:Hid (¬Fo s x ts.length):=J (by unfold Fo;omega)
        have t1:decide ((0:Int)≤s)=true:=decide_eq_true (by omega);have t2:decide (s≤15)=false:=decide_eq_false (by omega);have e16:(s == 16)=false:=by simp;omega
        have e17:(s == 17)=true:=by simp;omega
        have e18:(s == 18)=false:=by simp;omega
        have t4:decide ((0:Int)≤x)=false:=decide_eq_false (by omega);go_wp2;go_ret2
        refine ⟨HR.out.below.alloc HR.out.below.size _,fun _=>rfl,fun ts' h=>?_⟩;exfalso;have h1:=HUN.out;have h2:=HSX.out;rw [h,zJ hlt,←h2.1,←h2.2,if_pos (yg HF.out)] at h1;cases h1
       ·by_cases c10:x≤7
        ·have HF:Hid (Fo s x ts.length):=J (by unfold Fo;omega)
         have HFY:=J (QQ HF.out);obtain ⟨n,hn⟩:=exq (((spl s:Int)+x).toNat);have HN:=J hn;have hn1:n≤138:=by have:=HFY.out;omega
         have hsp:=Ky s;have HNV:Hid ((n:Int)=n):=J rfl;have e9:IntKind.i64.wrap ((3:Int)+x)=n:=by have:=hsp.2.1 (by omega);rw [IntKind.wrap_i64];omega
         have HTV:Hid (tv s ts=0):=J (by rw [tv,if_neg (by omega),if_pos (by omega)]);clear hn hsp;have HRA:=J (HR.out.alloc (.cells #[.int .i64 s,.int .i64 x] 81));have e16:(s == 16)=false:=by simp;omega
         have e17:(s == 17)=true:=by simp;omega
         have t1:decide ((0:Int)≤s)=true:=decide_eq_true (by omega);have t2:decide (s≤15)=false:=decide_eq_false (by omega);have t4:decide ((0:Int)≤x)=true:=decide_eq_true (by omega);have t5:decide (x≤7)=true:=decide_eq_true (by omega);have HCE:=J c8;clear c8;go_wp2;have H1:Hid (Rn w (ts++List.replicate 0 (0:Int)) (.slice bo ts.length cu) (wr.alloc (.cells #[.int .i64 s,.int .i64 x] 81))):=J (by simpa using HRA.out);generalize (wr.alloc (.cells #[.int .i64 s,.int .i64 x] 81))=w3 at H1 ⊢;clear HR HRA q1 q2;go_loopw [4,9] (fun v4 jv wr2=>∃ (j:Nat) (bo2:Option Addr) (cu2:Nat),v4=.slice bo2 (ts.length+j:Nat) cu2∧jv=.int .i64 j∧j≤n∧Rn w (ts++List.replicate j (0:Int)) (.slice bo2 (ts.length+j:Nat) cu2) wr2) (fun _ jv _=>n-(intOf jv).toNat)
         case atStart=>exact ⟨0,bo,cu,rfl,rfl,Nat.zero_le _,H1.out⟩
         case round=>
          obtain ⟨j,bo2,cu2,rfl,rfl,hj,hR2⟩:=hrel;have HR2:=J hR2;clear hR2 H1;obtain ⟨ts2,ht2⟩:=exq (ts++List.replicate j (0:Int));have HT2:=J ht2;obtain ⟨N,hN⟩:=exq (ts.length+j);have HNN:=J hN;have HL2:Hid (ts2.length=N):=J (by rw [ht2,hN];simp);have hN2:N≤460:=by omega
          rw [←ht2,←hN] at HR2;rw [←hN];clear ht2 hN;by_cases hlj:j<n
          ·have hlj':(j:Int)<n:=by have:=HNV.out;omega
           go_wp2_with (refine ze kg rfl (.tmp 104) (.tmp 106) rfl w.heap.size (.slice bo2 N cu2) (.slice (some ⟨wr.heap.size,0,none⟩) 1 1) N 1 (iv ts2) [.int .i64 (0:Int)] rfl rfl (World.ownsRow.alloc (w:=wr) (by have h:=HR2.out.own;rw [HL2.out] at h;exact h) _) (jK wr 3 _) rfl (by simp [Value.oneCell']) (by have:=HR2.out.below.size;simp;omega) (by omega) (by omega) ?_;intro ao2 cc2 w4 hA;have HA:=J hA;clear hA);go_roundw;case rel=>
            have h1:=HR2.out.put (R:=[(0:Int)]) (n:=N+1) HA.out (by rw [HL2.out];rfl);rw [HT2.out,List.append_assoc,←List.replicate_succ'] at h1;refine ⟨j+1,ao2,cc2,by rw [HNN.out];rfl,by go_num,by omega,?_⟩;rw [show ts.length+(j+1)=N+1 by rw [HNN.out];rfl];exact h1
           case measure=>simp [intOf];omega
          ·have hj':j=n:=by omega
           have hjj:decide ((j:Int)<n)=false:=decide_eq_false (by have:=HNV.out;omega);have HJ:=J hj';clear hj';by_cases hov:320<N
           ·have hov':(320:Int)<N:=by omega
            have HOV:=J hov;go_wp2;go_ret2
            refine ⟨HR2.out.below,fun _=>rfl,fun ts' h=>?_⟩;exfalso;have h1:=HUN.out;have h2:=HSX.out;have h3:=HFY.out;have h4:=HNN.out;have h5:=HN.out;have h6:=HJ.out;rw [h,zJ hlt,←h2.1,←h2.2,if_pos (h3.1.2 (by omega))] at h1;cases h1
           ·have hov':decide ((320:Int)<N)=false:=decide_eq_false (by omega)
            have HOV:=J hov;go_wp2;go_roundw;case rel=>
             refine ⟨k+1,ts2,bo2,cu2,by rw [HL2.out],by go_num,by omega,by have:=HL2.out;omega,?_,by have h:=HR2.out;rw [HL2.out];exact h⟩;have h1:=HUN.out;have h2:=HSX.out;have h3:=HFY.out;have h4:=HNN.out;have h5:=HN.out;have h6:=HOV.out;have h7:=HJ.out;rw [zJ hlt,←h2.1,←h2.2,if_neg (fun h=>h6 (by have:=h3.1.1 h;omega)),HTV.out,←HN.out,←HJ.out,←HT2.out] at h1
             exact h1
            case measure=>simp [intOf];omega
        ·have HF:Hid (¬Fo s x ts.length):=J (by unfold Fo;omega)
         have t1:decide ((0:Int)≤s)=true:=decide_eq_true (by omega);have t2:decide (s≤15)=false:=decide_eq_false (by omega);have e16:(s == 16)=false:=by simp;omega
         have e17:(s == 17)=true:=by simp;omega
         have e18:(s == 18)=false:=by simp;omega
         have t4:decide ((0:Int)≤x)=true:=decide_eq_true (by omega);have t5:decide (x≤7)=false:=decide_eq_false (by omega);go_wp2;go_ret2
         refine ⟨HR.out.below.alloc HR.out.below.size _,fun _=>rfl,fun ts' h=>?_⟩;exfalso;have h1:=HUN.out;have h2:=HSX.out;rw [h,zJ hlt,←h2.1,←h2.2,if_pos (yg HF.out)] at h1;cases h1
      ·by_cases c11:s=18
       ·by_cases c12:x<0
        ·have HF:Hid (¬Fo s x ts.length):=J (by unfold Fo;omega)
         have t1:decide ((0:Int)≤s)=true:=decide_eq_true (by omega);have t2:decide (s≤15)=false:=decide_eq_false (by omega);have e16:(s == 16)=false:=by simp;omega
         have e17:(s == 17)=false:=by simp;omega
         have e18:(s == 18)=true:=by simp;omega
         have t4:decide ((0:Int)≤x)=false:=decide_eq_false (by omega);go_wp2;go_ret2
         refine ⟨HR.out.below.alloc HR.out.below.size _,fun _=>rfl,fun ts' h=>?_⟩;exfalso;have h1:=HUN.out;have h2:=HSX.out;rw [h,zJ hlt,←h2.1,←h2.2,if_pos (yg HF.out)] at h1;cases h1
        ·by_cases c13:x≤127
         ·have HF:Hid (Fo s x ts.length):=J (by unfold Fo;omega)
          have HFY:=J (QQ HF.out);obtain ⟨n,hn⟩:=exq (((spl s:Int)+x).toNat);have HN:=J hn;have hn1:n≤138:=by have:=HFY.out;omega
          have hsp:=Ky s;have HNV:Hid ((n:Int)=n):=J rfl;have e9:IntKind.i64.wrap ((11:Int)+x)=n:=by have:=hsp.2.2.1 (by omega);rw [IntKind.wrap_i64];omega
          have HTV:Hid (tv s ts=0):=J (by rw [tv,if_neg (by omega),if_neg (by omega),if_pos (by omega)]);clear hn hsp;have HRA:=J (HR.out.alloc (.cells #[.int .i64 s,.int .i64 x] 81));have e16:(s == 16)=false:=by simp;omega
          have e17:(s == 17)=false:=by simp;omega
          have e18:(s == 18)=true:=by simp;omega
          have t1:decide ((0:Int)≤s)=true:=decide_eq_true (by omega);have t2:decide (s≤15)=false:=decide_eq_false (by omega);have t4:decide ((0:Int)≤x)=true:=decide_eq_true (by omega);have t5:decide (x≤127)=true:=decide_eq_true (by omega);have HCE:=J c11;clear c11;go_wp2;have H1:Hid (Rn w (ts++List.replicate 0 (0:Int)) (.slice bo ts.length cu) (wr.alloc (.cells #[.int .i64 s,.int .i64 x] 81))):=J (by simpa using HRA.out);generalize (wr.alloc (.cells #[.int .i64 s,.int .i64 x] 81))=w3 at H1 ⊢;clear HR HRA q1 q2;go_loopw [4,9] (fun v4 jv wr2=>∃ (j:Nat) (bo2:Option Addr) (cu2:Nat),v4=.slice bo2 (ts.length+j:Nat) cu2∧jv=.int .i64 j∧j≤n∧Rn w (ts++List.replicate j (0:Int)) (.slice bo2 (ts.length+j:Nat) cu2) wr2) (fun _ jv _=>n-(intOf jv).toNat)
          case atStart=>exact ⟨0,bo,cu,rfl,rfl,Nat.zero_le _,H1.out⟩
          case round=>
           obtain ⟨j,bo2,cu2,rfl,rfl,hj,hR2⟩:=hrel;have HR2:=J hR2;clear hR2 H1;obtain ⟨ts2,ht2⟩:=exq (ts++List.replicate j (0:Int));have HT2:=J ht2;obtain ⟨N,hN⟩:=exq (ts.length+j);have HNN:=J hN;have HL2:Hid (ts2.length=N):=J (by rw [ht2,hN];simp);have hN2:N≤460:=by omega
           rw [←ht2,←hN] at HR2;rw [←hN];clear ht2 hN;by_cases hlj:j<n
           ·have hlj':(j:Int)<n:=by have:=HNV.out;omega
            go_wp2_with (refine ze kg rfl (.tmp 104) (.tmp 106) rfl w.heap.size (.slice bo2 N cu2) (.slice (some ⟨wr.heap.size,0,none⟩) 1 1) N 1 (iv ts2) [.int .i64 (0:Int)] rfl rfl (World.ownsRow.alloc (w:=wr) (by have h:=HR2.out.own;rw [HL2.out] at h;exact h) _) (jK wr 3 _) rfl (by simp [Value.oneCell']) (by have:=HR2.out.below.size;simp;omega) (by omega) (by omega) ?_;intro ao2 cc2 w4 hA;have HA:=J hA;clear hA);go_roundw;case rel=>
             have h1:=HR2.out.put (R:=[(0:Int)]) (n:=N+1) HA.out (by rw [HL2.out];rfl);rw [HT2.out,List.append_assoc,←List.replicate_succ'] at h1;refine ⟨j+1,ao2,cc2,by rw [HNN.out];rfl,by go_num,by omega,?_⟩;rw [show ts.length+(j+1)=N+1 by rw [HNN.out];rfl];exact h1
            case measure=>simp [intOf];omega
           ·have hj':j=n:=by omega
            have hjj:decide ((j:Int)<n)=false:=decide_eq_false (by have:=HNV.out;omega);have HJ:=J hj';clear hj';by_cases hov:320<N
            ·have hov':(320:Int)<N:=by omega
             have HOV:=J hov;go_wp2;go_ret2
             refine ⟨HR2.out.below,fun _=>rfl,fun ts' h=>?_⟩;exfalso;have h1:=HUN.out;have h2:=HSX.out;have h3:=HFY.out;have h4:=HNN.out;have h5:=HN.out;have h6:=HJ.out;rw [h,zJ hlt,←h2.1,←h2.2,if_pos (h3.1.2 (by omega))] at h1;cases h1
            ·have hov':decide ((320:Int)<N)=false:=decide_eq_false (by omega)
             have HOV:=J hov;go_wp2;go_roundw;case rel=>
              refine ⟨k+1,ts2,bo2,cu2,by rw [HL2.out],by go_num,by omega,by have:=HL2.out;omega,?_,by have h:=HR2.out;rw [HL2.out];exact h⟩;have h1:=HUN.out;have h2:=HSX.out;have h3:=HFY.out;have h4:=HNN.out;have h5:=HN.out;have h6:=HOV.out;have h7:=HJ.out;rw [zJ hlt,←h2.1,←h2.2,if_neg (fun h=>h6 (by have:=h3.1.1 h;omega)),HTV.out,←HN.out,←HJ.out,←HT2.out] at h1
              exact h1
             case measure=>simp [intOf];omega
         ·have HF:Hid (¬Fo s x ts.length):=J (by unfold Fo;omega)
          have t1:decide ((0:Int)≤s)=true:=decide_eq_true (by omega);have t2:decide (s≤15)=false:=decide_eq_false (by omega);have e16:(s == 16)=false:=by simp;omega
          have e17:(s == 17)=false:=by simp;omega
          have e18:(s == 18)=true:=by simp;omega
          have t4:decide ((0:Int)≤x)=true:=decide_eq_true (by omega);have t5:decide (x≤127)=false:=decide_eq_false (by omega);go_wp2;go_ret2
          refine ⟨HR.out.below.alloc HR.out.below.size _,fun _=>rfl,fun ts' h=>?_⟩;exfalso;have h1:=HUN.out;have h2:=HSX.out;rw [h,zJ hlt,←h2.1,←h2.2,if_pos (yg HF.out)] at h1;cases h1
       ·have HF:Hid (¬Fo s x ts.length):=J (by unfold Fo;omega)
        have t1:decide ((0:Int)≤s)=true:=decide_eq_true (by omega);have t2:decide (s≤15)=false:=decide_eq_false (by omega);have e16:(s == 16)=false:=by simp;omega
        have e17:(s == 17)=false:=by simp;omega
        have e18:(s == 18)=false:=by simp;omega
        go_wp2;go_ret2
        refine ⟨HR.out.below.alloc HR.out.below.size _,fun _=>rfl,fun ts' h=>?_⟩;exfalso;have h1:=HUN.out;have h2:=HSX.out;rw [h,zJ hlt,←h2.1,←h2.2,if_pos (yg HF.out)] at h1;cases h1
  ·have hk':k=r.length:=by omega
   subst hk';go_wp2;go_ret2
   refine ⟨HR.out.below,fun h=>?_,fun ts' h=>?_⟩
   ·have h1:=HUN.out
    rw [h,Qz] at h1;cases h1
   ·have h1:=HUN.out
    rw [h,Qz] at h1;cases h1;exact ⟨bo,cu,rfl,fun w2 ht=>j9 (zd HR.out.own ht fun i hi e=>by have:=(HR.out.own.lt i hi).1;omega) rfl,jU HR.out.own⟩
end
end Go.Proofs.YtacpfpghokcdlaaGreatDoor.Z
namespace Go.Proofs.YtacpfpghokcdlaaGreatDoor
set_option maxRecDepth 100000
section
open Go.RowKit
theorem Res.bind_assoc {α β γ : Type}(r:Res α) (f : α → Sta→Res β) (g : β → Sta→Res γ):(r.bind f).bind g=r.bind fun a s=>(f a s).bind g:=by cases r <;> rfl
def J2 (bs:List Nat) (lim l:Nat) (row:List Nat) (s:Sta):Res Unit:=
 if row.getD 256 0=0 then .bad 10 else if fits row (257+l) then xF bs lim (row.take (257+l)) (row.drop (257+l)) s else .bad 10
def yh (bs:List Nat) (lim l d:Nat) (o:List Nat) (s:Sta):Res Unit:=
 if room (zp o)≠32768 then .bad 10 else (lens bs (zp o) (258+l+d) s).bind (J2 bs lim l)
def XB (bs:List Nat) (lim l d c:Nat) (s:Sta):Res Unit:=
 if 29<l∨29<d then .bad 10 else (rdO bs (4+c) [] s).bind (yh bs lim l d)
def uQ (bs:List Nat) (lim:Nat) (s:Sta):Res Unit:=
 (rdN bs 5 s).bind fun l s1=>(rdN bs 5 s1).bind fun d s2=>(rdN bs 4 s2).bind fun c s3=>XB bs lim l d c s3
theorem vU (bs:List Nat) (lim:Nat) (s:Sta):((kn bs s).bind fun c s2=>xF bs lim c.1 c.2 s2)=uQ bs lim s:=by
 unfold kn uQ;simp only [Res.bind_assoc];congr 1
 funext l s1
 congr 1
 funext d s2
 congr 1
 funext c s3
 unfold XB;split
 ·rfl
 ·simp only [Res.bind_assoc]
  congr 1
  funext o s4
  unfold yh;split
  ·rfl
  ·simp only [Res.bind_assoc]
   congr 1
   funext row s5
   unfold J2;split
   ·rfl
   ·split <;> rfl
def Gd {β : Type}(R:Res β) (er:Nat) (x:Res β):Prop:=(er=0→R=x)∧(er≠0→R=.bad er)
theorem Gd.fine {β : Type}{R x:Res β}(h:Gd R 0 x):R=x:=h.1 rfl
theorem Gd.of {β : Type}{R x:Res β}(h:R=x):Gd R 0 x:=⟨fun _=>h,fun h=>absurd rfl h⟩
theorem Gd.bad {β : Type}{R x:Res β}{er:Nat}(h:R=.bad er) (h0:er≠0):Gd R er x:=⟨fun e=>absurd e h0,fun _=>h⟩
section
variable {B p:Nat}{rv:Value}{bs:List Nat}{lim nb er:Nat}{w:World}{ov:Value}{s:Sta}
theorem Jk {β : Type}{R:Res β}{k:Nat→Sta→Res β}(h:QS B p rv bs lim nb er w ov s) (n:Nat) (hn:n≤16) (hg:Gd R er ((rdN bs n s).bind k)) :
  Calls prog 25 #[.pointer (some ⟨p,0,none⟩),.int .i64 n] w fun e w'=>∃ (v er':Nat) (s':Sta) (ov':Value),
   e=.returned (.int .i64 (v:Nat))∧v<2^n∧QS B p rv bs lim nb er' w' ov' s'∧Qv p w ov w' ov'∧Gd R er' (k v s')∧(er'=0→er=0):=by
 by_cases h0:er=0
 ·subst h0
  refine (x7 h n hn).mono ?_;intro e w' h1;have hR:=hg.fine;cases hr:rdN bs n s with
  | bad er=>
   rw [hr] at h1 hR;obtain rfl:=JM hr;obtain ⟨rfl,ov1,s1,h1,m1⟩:=h1;exact ⟨0,15,s1,ov1,rfl,Nat.two_pow_pos n,h1,m1,.bad hR (by omega),fun _=>rfl⟩
  | ok v s1=>
   rw [hr] at h1 hR;obtain ⟨rfl,ov1,h1,m1⟩:=h1;exact ⟨v,0,s1,ov1,rfl,qE hr,h1,m1,.of hR,fun _=>rfl⟩
 ·refine (jq h h0 n).mono ?_
  rintro e w' ⟨rfl,q,rfl⟩;exact ⟨0,er,s,ov,rfl,Nat.two_pow_pos n,(h.drewN q).1,(h.drewN q).2,.bad (hg.2 h0) h0,fun e=>e⟩
theorem zli {β : Type}{R:Res β}{k:Nat→Sta→Res β}{pc:Nat}{ls:List Nat}(h:QS B p rv bs lim nb 0 w ov s) (hc:Cod w p ov pc ls) (H:Ok ls) (hg:R=(rdS bs ls s).bind k) :
  Calls prog 43 #[.pointer (some ⟨p,0,none⟩),.pointer (some ⟨pc,0,none⟩)] w fun e w'=>∃ (y er':Nat) (s':Sta) (ov':Value),
   e=.returned (.int .i64 (y:Nat))∧(er'≠0→y=0)∧y≤ls.length-1∧QS B p rv bs lim nb er' w' ov' s'∧Qv p w ov w' ov'∧Gd R er' (k y s'):=by
 refine (JC h hc H).mono ?_;intro e w' h1;cases hr:rdS bs ls s with
 | bad er=>
  rw [hr] at h1 hg;have her:=Xb hr;obtain ⟨rfl,ov1,s1,h1,m1⟩:=h1;exact ⟨0,er,s1,ov1,rfl,fun _=>rfl,Nat.zero_le _,h1,m1,.bad hg (by omega)⟩
 | ok y s1=>
  rw [hr] at h1 hg;obtain ⟨rfl,ov1,h1,m1⟩:=h1;obtain ⟨_,k1,_,_⟩:=xU hr;have:=jA (ls:=ls) (s:=y) (by omega);exact ⟨y,0,s1,ov1,rfl,fun e=>absurd rfl e,by omega,h1,m1,.of hg⟩
theorem QS.aside {S:Nat→Prop}{w':World}(h:QS B p rv bs lim nb er w ov s) (ht:Touch S w w') (h1:¬S p) (h2:∀ k,ov.ownBlock=some k→¬S k) (h3:∀ k,rv.ownBlock=some k→¬S k):QS B p rv bs lim nb er w' ov s:=
 ⟨h.blk.touch ht h1,zd h.row ht h3,zd h.own ht h2,h.ne,h.hp,h.len,h.lim_,h.in_,h.out,h.steps,h.nb_,h.er_,h.bytes,h.bsb⟩
theorem Qv.aside {S:Nat→Prop}{w1 w':World}{ov1:Value}(m:Qv p w ov w1 ov1) (ht:Touch S w1 w') (h1:∀ k,S k→w.heap.size≤k):Qv p w ov w' ov1:=
 ⟨m.touch.trans' ht fun i hi hlt=>by have:=h1 i hi;omega,m.row⟩
theorem QS.other (h:QS B p rv bs lim nb er w ov s){k t:Nat}{cs:Array Value}(hk:w.heap[k]? = some (.cells cs t (0,0))) (h57:t≠37) (h5:t≠5):k≠p∧(∀ i,ov.ownBlock=some i→i≠k)∧(∀ i,rv.ownBlock=some i→i≠k):=by
 refine ⟨?_,fun i hi e=>?_,fun i hi e=>?_⟩
 ·rintro rfl
  have hb:=h.blk;rw [Blk,hk] at hb;simp at hb;exact h57 hb.2
 ·subst e
  obtain ⟨cs',hc⟩:=zZ h.own hi;rw [hk] at hc;simp at hc;exact h5 hc.2
 ·subst e
  obtain ⟨cs',hc⟩:=zZ h.row hi;rw [hk] at hc;simp at hc;exact h5 hc.2
theorem QS.rowItems {w':World}{base n:Nat}{v:Value}{xs:List Value}(h:QS B p rv bs lim nb er w ov s) (hv:w.ownsRow base 81 2 v n xs) (ht:Touch (fun k=>v.ownBlock=some k) w w'):QS B p rv bs lim nb er w' ov s:=by
 have key:∀ k,v.ownBlock=some k→k≠p∧(∀ i,ov.ownBlock=some i→i≠k)∧(∀ i,rv.ownBlock=some i→i≠k):=fun k hk=>by
  obtain ⟨cs,hc⟩:=zZ hv hk;exact h.other hc (by decide) (by decide)
 exact h.aside ht (fun e=>(key p e).1 rfl) (fun k hk e=>(key k e).2.1 k hk rfl) (fun k hk e=>(key k e).2.2 k hk rfl)
theorem QS.keepItems {w':World}{base n:Nat}{v:Value}{xs:List Value}(h:QS B p rv bs lim nb er w ov s) (hv:w.ownsRow base 81 2 v n xs) (ht:Touch (QT p ov) w w'):w'.ownsRow base 81 2 v n xs:=by
 refine zd hv ht fun k hk e=>?_
 obtain ⟨cs,hc⟩:=zZ hv hk;obtain ⟨k1,k2,_⟩:=h.other hc (by decide) (by decide);rcases e with e | e
 ·exact k1 e
 ·exact k2 k e rfl
end
theorem zkH (r:List (Int × Int)) (x:Int × Int):∀ ts,Z.un (r++[x]) ts=(Z.un r ts).bind fun u=>Z.un [x] u:=by
 induction r with
 | nil=>intro ts;rfl
 | cons y r ih=>
  intro ts;obtain ⟨a,b⟩:=y;rw [List.cons_append,Z.un,Z.un];split
  ·rfl
  ·exact ih _
theorem zie (row:List Nat) (_h:row≠[]):(zn row).getD ((zn row).length-1) 0=(row.getLastD 0:Nat):=by
 rw [zH,Jc,List.getLastD_eq_getLast?,List.getLast?_eq_getElem?,List.getD_eq_getElem?_getD]
theorem zi5 {y v:Nat}{row:List Nat}(hy:y≤18) (h0:y<16→v=0) (hv:v<2^xb y) (hrow:row.length≤320) :
  Z.un [((y:Int),(v:Int))] (zn row)=match told y v row with
   | none=>none
   | some t=>if 320<(row++t).length then none else some (zn (row++t)):=by
 rw [uq hy h0];have hl:=zH row;by_cases hn:y=16∧row=[]
 ·rw [if_pos hn]
  obtain ⟨rfl,rfl⟩:=hn;exact zcr v
 ·rw [if_neg hn]
  have hq:(∃ q,Z.spl y=q∧(if y=16 then 3 else if y=17 then 3 else if y=18 then 11 else 1)=q∧((y:Int)=16∧(zn row).length=0→False)∧¬Z.Bad 0 18 y∧¬Z.Bad 0 ((Z.spm y:Int)-Z.spl y) v)∧Z.tv y (zn row)=((if y=16 then row.getLastD 0 else if y=17 then 0 else if y=18 then 0 else y:Nat):Int):=by
   by_cases h1:y<16
   ·have e16:¬(y:Int)=16:=by omega
    have e17:¬(y:Int)=17:=by omega
    have e18:¬(y:Int)=18:=by omega
    have f16:¬y=16:=by omega
    have f17:¬y=17:=by omega
    have f18:¬y=18:=by omega
    have hv0:=h0 h1;unfold Z.Bad Z.spl Z.spm Z.tv;refine ⟨⟨1,by simp [e16,e17,e18],by simp [f16,f17,f18],fun e=>e16 e.1,by omega,by simp [e16,e17,e18];omega⟩,by simp [e16,e17,e18,f16,f17,f18]⟩
   ·have hb:y=16∨y=17∨y=18:=by omega
    rcases hb with rfl | rfl | rfl
    ·have hne:row≠[]:=fun e=>hn ⟨rfl,e⟩
     have hp:row.length≠0:=by simpa using hne
     have hv4:v<4:=hv;unfold Z.Bad Z.spl Z.spm Z.tv;refine ⟨⟨3,by simp,by simp,fun e=>by omega,by omega,by simp;omega⟩,?_⟩
     rw [if_pos rfl,if_pos (show ((16:Nat):Int)=16 from rfl)];exact zie row hne
    ·have hv4:v<8:=hv
     unfold Z.Bad Z.spl Z.spm Z.tv;refine ⟨⟨3,by simp,by simp,fun e=>by omega,by omega,by simp;omega⟩,by simp⟩
    ·have hv4:v<128:=hv
     unfold Z.Bad Z.spl Z.spm Z.tv;refine ⟨⟨11,by simp,by simp,fun e=>by omega,by omega,by simp;omega⟩,by simp⟩
  obtain ⟨⟨q,k1,k2,k3,k4,k5⟩,k6⟩:=hq;have hlen:(row++qO y v row).length=row.length+(q+v):=by
   unfold qO;rw [List.length_append,List.length_replicate,k2]
  simp only [hlen];unfold Z.un;by_cases hbig:320<row.length+(q+v)
  ·rw [if_pos hbig,if_pos (.inr (.inr (.inr (by rw [hl,k1];omega))))]
  ·rw [if_neg hbig,if_neg,k1,k6]
   ·unfold Z.un qO
    rw [k2,ze9];congr 1
    congr 1
    unfold zn;rw [List.map_replicate];congr 1
   ·rintro (e | e | e | e)
    ·exact k4 e
    ·exact k5 e
    ·exact k3 e
    ·rw [hl,k1] at e;omega
def lk (bs own:List Nat) (n:Nat) (k:List Nat→Sta→Res Unit) (row:List Nat) (s:Sta):Res Unit:=
 if row.length=n then k row s else (run (8*bs.length) (yx bs own n) row s).bind k
def uo (bs own:List Nat) (n:Nat) (k:List Nat→Sta→Res Unit) (row:List Nat) (y v:Nat) (s:Sta):Res Unit:=
 match told y v row with
 | none => .bad 10
 | some t=>if n<(row++t).length then .bad 10 else lk bs own n k (row++t) s
theorem zmh {bs own:List Nat}{n:Nat}{k:List Nat→Sta→Res Unit}{row:List Nat}{s:Sta}(h:row.length≠n) (hs:s.at_≤8*bs.length) :
  lk bs own n k row s=(rdS bs own s).bind fun y s1=>if 16≤y∧y≤18 then (rdN bs (xb y) s1).bind fun v s2=>uo bs own n k row y v s2 else uo bs own n k row y 0 s1:=by
 unfold lk;rw [if_neg h,zcd own n row hs];unfold nxt itm;simp only [Res.bind_assoc];congr 1
 funext y s1
 have key:∀ (v:Nat) (s2:Sta),((match told y v row with
   | none=>Res.bad 10
   | some t=>Res.ok t s2).bind fun t s1=>((if n<(row++t).length then Res.bad 10 else if (row++t).length=n then Res.ok (row++t) s1 else run (8*bs.length) (yx bs own n) (row++t) s1):Res (List Nat)).bind k)=uo bs own n k row y v s2:=by
  intro v s2;unfold uo;cases told y v row with
  | none=>rfl
  | some t=>
   simp only [Res.bind_ok];split
   ·rfl
   ·unfold lk
    split <;> rfl
 split
 ·simp only [Res.bind_assoc]
  congr 1
  funext v s2
  exact key v s2
 ·exact key 0 s1
end
end Go.Proofs.YtacpfpghokcdlaaGreatDoor
