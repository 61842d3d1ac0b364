/- Part 7. -/
import Derived.Maps.OwnOps
import Derived.Maps.OwnSet
import Derived.Maps.Views
import Derived.Test.YtbogfailbgbdoaaGreatDoorXB6
set_option linter.unusedVariables false
set_option linter.unusedSimpArgs false
namespace Go.Proofs.YtbogfailbgbdoaaGreatDoor.K
set_option maxRecDepth 100000
section
open Go.RowKit Go.Proofs.YtbogfailbgbdoaaGreatDoor U
structure Pl (w W:World) (g cp:Nat) (L:List Nat):Prop where
 below:Below w.heap.size w W
 ge:w.heap.size≤g
 sl:Sl W (some ⟨g,0,none⟩) cp L
 fr:∀ i,i<L.length→W.frozen? ⟨g,i,none⟩=false
theorem Pl.cell {w W:World} {g cp:Nat} {L:List Nat} (h:Pl w W g cp L) {i:Nat} (hi:i<L.length):W.cell? ⟨g,i,none⟩=some (.int .u8 (L.getD i 0:Nat)):=by
 have:=h.sl.cell i hi
 rwa [Nat.zero_add] at this
theorem Pl.set {w W:World} {g cp:Nat} {L:List Nat} (h:Pl w W g cp L) {i:Nat} (hi:i<L.length) (x:Nat) (hx:x<256):Pl w (W.setCell ⟨g,i,none⟩ (.int .u8 (x:Nat))) g cp (L.set i x):=by
 refine ⟨h.below.setCell (p:=⟨g,i,none⟩) h.ge _,h.ge,⟨?_,by rw [List.length_set];exact h.sl.le,h.sl.big,h.sl.nil,?_⟩,?_⟩
 ·refine .inr ⟨g,0,rfl,fun j hj=>?_⟩
  rw [List.length_set] at hj
  rw [Nat.zero_add]
  by_cases e:i=j
  ·subst e
   rw [World.cell?_setCell_same _ _ _ (h.cell hi)]
   simp [List.getD,hi]
  ·rw [World.cell?_setCell_other _ _ _ _ (by intro e';injection e' with _ e2;exact e e2)]
   rw [h.cell hj]
   simp [List.getD,e]
 ·intro y hy
  rcases List.mem_or_eq_of_mem_set hy with hy | hy
  ·exact h.sl.bs y hy
  ·omega
 ·intro j hj
  rw [List.length_set] at hj
  rw [World.frozen?_setCell]
  exact h.fr j hj
theorem text_run2 (s:ByteArray) (hl:s.size≤1000000):∃ (NEW:World→World) (CAP:World→Nat),(∀ W,(convert 9 22 (.string s)).run Tryz.prog W = .ok (.slice (some ⟨W.heap.size,0,none⟩) s.size (CAP W)) (NEW W))∧(∀ W,Pl W (NEW W) W.heap.size (CAP W) (bts s)):=by
 obtain ⟨NEW,CAP,h1,h2,h3⟩:=text_run s hl
 refine ⟨NEW,CAP,h1,fun W=>⟨h2 W,Nat.le_refl _,h3 W,fun i hi=>?_⟩⟩
 have hrun:=run_bytes_of_string (P:=Tryz.prog) W 9 22 5 s Tryz.underlying9 Tryz.underlying22 Tryz.underlying5
 rw [h1 W] at hrun
 injection hrun with _ hw
 rw [hw]
 rw [bts_len] at hi
 have hge:s.size≤grownCap W s.size 0 5:=grownCap_ge W s.size 0 5
 have hsz:i<(bytesRow s (grownCap W s.size 0 5)).size:=by
  have:s.size≤(bytesRow s (grownCap W s.size 0 5)).size:=by simp [bytesRow]
  omega
 have hh:=heap_alloc_new W.drew (.cells (bytesRow s (grownCap W s.size 0 5)) 5 ((bytesRow s (grownCap W s.size 0 5)).size,(bytesRow s (grownCap W s.size 0 5)).size+1))
 show World.frozen? _ ⟨W.drew.heap.size,i,none⟩=false
 unfold World.frozen?
 rw [hh]
 simp
 omega
theorem flat_step {T:List Nat} {j:Nat} (h:j<T.length):flat (T.take (j+1))++T.drop (j+1)=(flat (T.take j)++T.drop j).set j (if T.getD j 0=9∨T.getD j 0=10 then 32 else T.getD j 0):=by
 have e:T.getD j 0=T[j]:=by simp [List.getD,h]
 have hl:(flat (T.take j)).length=j:=by simp [flat];omega
 rw [take_next T j h]
 unfold flat at hl ⊢
 rw [List.map_append,List.set_append,if_neg (by omega),hl,Nat.sub_self]
 conv=>rhs;rw [List.drop_eq_getElem_cons h,List.set_cons_zero]
 simp
theorem flat_len (T:List Nat):(flat T).length=T.length:=by simp [flat]
theorem flat_bs {T:List Nat} (h:Bs T):Bs (flat T):=fun x hx=>by
 obtain ⟨y,hy,rfl⟩:=List.mem_map.1 hx
 have:=h y hy
 split <;> omega
theorem told_bs:∀ (n:Nat) (L v:List Nat),L.length≤n→Bs L→told L=some v→Bs v
 | n,[],v,_,_,h=>by
  rw [told_nil] at h;injection h with h;subst h;exact Bs.nil
 | 0,c::t,v,hn,_,_=>by simp at hn
 | n+1,c::t,v,hn,hb,h=>by
  have ht:t.length≤n:=by simpa using hn
  have hbt:Bs t:=fun x hx=>hb x (by simp [hx])
  by_cases hc:c=38
  ·subst hc
   rw [told_amp] at h
   rcases hj:ix [59] t with _ | j
   ·rw [hj] at h;cases h
   ·rw [hj] at h
    simp only at h
    rcases hg:signOf (t.take j) with _ | x
    ·rw [hg] at h;cases h
    ·rw [hg] at h
     simp only at h
     rcases ho:told (t.drop (j+1)) with _ | u
     ·rw [ho] at h;cases h
     ·rw [ho] at h
      simp at h
      subst h
      exact (enc_bs (charP_sign (signOf_char hg))).app (told_bs n _ u (by rw [List.length_drop];omega) (hbt.drop _) ho)
  ·rw [told_ne hc] at h
   rcases ho:told t with _ | u
   ·rw [ho] at h;cases h
   ·rw [ho] at h
    simp at h
    subst h
    intro x hx
    rcases List.mem_cons.1 hx with hx | hx
    ·subst hx;exact hb _ (by simp)
    ·exact told_bs n t u ht hbt ho x hx
theorem takesN (w:World) (p:Nat) (ao:Option Addr) (c:Nat) (xs:List Nat) (bg k:Nat) (S:ByteArray) (s:List Nat) (n:Nat) (hS:S=txt s) (hn:s.length=n) (hs:Bs s) (hl:s.length≤1000) (hp:s <+: xs.drop k) (h:Scn w p ao c xs bg k) :
  Calls Tryz.prog 70 #[.pointer (some ⟨p,0,none⟩),.string S] w fun e w'=>e = .returned (.bool true)∧Touch (fun i=>i=p) w w'∧Scn w' p ao c xs bg (k+n):=by
 subst hn;exact takes_yes w p ao c xs bg k S s hS hs hl hp h
theorem upToN (w:World) (p:Nat) (ao:Option Addr) (c:Nat) (xs:List Nat) (bg k:Nat) (S:ByteArray) (s:List Nat) (i n:Nat) (hS:S=txt s) (hn:k+i+s.length=n) (hs:Bs s) (hl:s.length≤1000) (hp:ix s (xs.drop k)=some i) (h:Scn w p ao c xs bg k) :
  Calls Tryz.prog 73 #[.pointer (some ⟨p,0,none⟩),.string S] w fun e w'=>e = .returned (.string (txt ((xs.drop k).take i)))∧Touch (fun j=>j=p) w w'∧Scn w' p ao c xs bg n:=by
 subst hn;exact upTo_yes w p ao c xs bg k S s i hS hs hl hp h
def VlTo (p:Nat) (ao:Option Addr) (c:Nat) (xs:List Nat) (bg k:Nat) (r:Except Nat (List Nat × Nat)) (w:World) (e:Ending) (w':World):Prop:=
 Touch (fun i=>i=p) w w'∧match r with
  | .error er=>e=kpan er∧∃ k',Scn w' p ao c xs bg k'
  | .ok (v,n)=>e = .returned (.string (txt v))∧Bs v∧Scn w' p ao c xs bg (k+n)
set_option maxHeartbeats 6400000 in
theorem value_39 (w:World) (p:Nat) (ao:Option Addr) (c:Nat) (xs:List Nat) (bg k b:Nat) (h:Scn w p ao c xs bg k)
  (hb1:[61] <+: xs.drop (k+sk blaP (xs.drop k))) (hbe:b=k+sk blaP (xs.drop k)+1+sk blaP (xs.drop (k+sk blaP (xs.drop k)+1))) (hq:[39] <+: xs.drop b) :
  Calls Tryz.prog 139 #[.pointer (some ⟨p,0,none⟩)] w (VlTo p ao c xs bg (b+1) (quP 39 (xs.drop (b+1))) w):=by
 have H:=Lib.hid h
 have hlen:=h.len
 have K1:=Lib.hid (blanks_any w p ao c xs bg k h)
 obtain ⟨a,ha⟩:∃ a,a=k+sk blaP (xs.drop k):=⟨_,rfl⟩
 rw [←ha] at hb1 hbe K1
 have K2:=Lib.hid fun (W:World) (hW:Scn W p ao c xs bg a)=>takesN W p ao c xs bg a ⟨#[61]⟩ [61] 1 rfl rfl (fun x hx=>by simp at hx;omega) (by simp) hb1 hW
 have K3:=Lib.hid fun (W:World) (hW:Scn W p ao c xs bg (a+1))=>blanks_any W p ao c xs bg (a+1) hW
 rw [←hbe] at K3
 have K4:=Lib.hid fun (W:World) (hW:Scn W p ao c xs bg b)=>takesN W p ao c xs bg b ⟨#[39]⟩ [39] 1 rfl rfl (fun x hx=>by simp at hx;omega) (by simp) hq hW
 have hql:=pre_le (by simp) hq
 simp only [List.length_cons,List.length_nil] at hql
 obtain ⟨RR,hRR⟩:∃ RR,RR=quP 39 (xs.drop (b+1)):=⟨_,rfl⟩
 rw [←hRR]
 unfold quP at hRR
 generalize decide (0<sk blaP (xs.drop k))=z1 at K1
 generalize decide (0<sk blaP (xs.drop (a+1)))=z2 at K3
 rcases hu:upP [39] (xs.drop (b+1)) with er | i
 ·have hix:ix [39] (xs.drop (b+1))=none∧er=22:=by
   unfold upP at hu
   rcases hi:ix [39] (xs.drop (b+1)) with _ | i
   ·rw [hi] at hu;injection hu with hu;exact ⟨rfl,hu.symm⟩
   ·rw [hi] at hu;cases hu
  obtain ⟨hix,rfl⟩:=hix
  rw [hu] at hRR
  have HRR:Hid (RR = .error 22):=Lib.hid hRR
  have K6:=Lib.hid fun (W:World) (hW:Scn W p ao c xs bg (b+1))=>upTo_no W p ao c xs bg (b+1) ⟨#[39]⟩ [39] rfl (fun x hx=>by simp at hx;omega) (by simp) hix hW
  clear h hb1 hbe ha hu hix hql hRR hq
  go_enter Tryz.func139,Tryz.ntmps139
  go_wp2_with (first
   | (go_at_call 101;(with_reducible refine K1.out.mono ?_);rintro e w1 ⟨rfl,ht1,hs1⟩;have HT1:=Lib.hid ht1;have HS1:=Lib.hid hs1;clear ht1 hs1)
   | (go_at_call 70;(with_reducible refine (K2.out w1 HS1.out).mono ?_);rintro e w2 ⟨rfl,ht2,hs2⟩;have HT2:=Lib.hid (HT1.out.trans ht2);have HS2:=Lib.hid hs2;clear ht2 hs2)
   | (go_at_call 97;refine (must_yes 22 _).mono ?_;rintro e w0 ⟨rfl,rfl⟩)
   | (go_at_call 101;(with_reducible refine (K3.out w2 HS2.out).mono ?_);rintro e w3 ⟨rfl,ht3,hs3⟩;have HT3:=Lib.hid (HT2.out.trans ht3);have HS3:=Lib.hid hs3;clear ht3 hs3)
   | (go_at_call 70;(with_reducible refine (K4.out w3 HS3.out).mono ?_);rintro e w4 ⟨rfl,ht4,hs4⟩;have HT4:=Lib.hid (HT3.out.trans ht4);have HS4:=Lib.hid hs4;clear ht4 hs4)
   | (go_at_call 73;(with_reducible refine (K6.out w4 HS4.out).mono ?_);rintro e w6 ⟨rfl,hb6⟩;have HT6:=Lib.hid (HT4.out.trans (Touch.of_below hb6));have HS6:=Lib.hid (HS4.out.below hb6);clear hb6))
  refine ⟨rfl,?_⟩
  rw [HRR.out]
  exact ⟨HT6.out,rfl,b+1,HS6.out⟩
 have hix:ix [39] (xs.drop (b+1))=some i:=by
  unfold upP at hu
  rcases hi:ix [39] (xs.drop (b+1)) with _ | i2
  ·rw [hi] at hu;cases hu
  ·rw [hi] at hu;injection hu with hu;rw [hu]
 have hil:=ix_le hix
 rw [List.length_drop] at hil
 simp only [List.length_cons,List.length_nil] at hil
 have K6:=Lib.hid fun (W:World) (hW:Scn W p ao c xs bg (b+1))=>upToN W p ao c xs bg (b+1) ⟨#[39]⟩ [39] i (b+1+i+1) rfl rfl (fun x hx=>by simp at hx;omega) (by simp) hix hW
 have hpb:Bs ((xs.drop (b+1)).take i):=(h.bs.drop _).take _
 have hpl:((xs.drop (b+1)).take i).length=i:=by rw [List.length_take,List.length_drop];omega
 rw [hu] at hRR
 simp only at hRR
 obtain ⟨P,hP⟩:∃ P,P=(xs.drop (b+1)).take i:=⟨_,rfl⟩
 obtain ⟨e6,he6⟩:∃ e6,e6=b+1+(i+1):=⟨_,rfl⟩
 have e6':b+1+i+1=e6:=by omega
 rw [e6'] at K6
 have HE6:=Lib.hid he6
 rw [←hP] at K6 hpb hpl hRR
 obtain ⟨TP,hTP⟩:∃ TP,TP=txt P:=⟨_,rfl⟩
 rw [←hTP] at K6
 have hzp:TP.size=i:=by rw [hTP,txt_size,hpl]
 have hbt:bts TP=P:=by rw [hTP];exact bts_txt hpb
 obtain ⟨NEW,CAP,hcvt,hnp⟩:=text_run2 TP (by omega)
 rw [hzp] at hcvt
 rw [hbt] at hnp
 have HNP:=Lib.hid hnp
 have HPB:=Lib.hid hpb
 have hi6:i≤1000000:=by omega
 obtain ⟨R,hR⟩:∃ R,R=plP P:=⟨_,rfl⟩
 have HR:=Lib.hid hR
 rw [←hR] at hRR
 have HRR:=Lib.hid hRR
 clear h hb1 hbe ha hu hix hil hql hnp hP hTP hzp hbt hR he6 e6' hRR hq
 go_enter Tryz.func139,Tryz.ntmps139
 go_upto_region 9 with (first
   | (go_at_call 101;(with_reducible refine K1.out.mono ?_);rintro e w1 ⟨rfl,ht1,hs1⟩;have HT1:=Lib.hid ht1;have HS1:=Lib.hid hs1;clear ht1 hs1)
   | (go_at_call 70;(with_reducible refine (K2.out w1 HS1.out).mono ?_);rintro e w2 ⟨rfl,ht2,hs2⟩;have HT2:=Lib.hid (HT1.out.trans ht2);have HS2:=Lib.hid hs2;clear ht2 hs2)
   | (go_at_call 97;refine (must_yes 22 _).mono ?_;rintro e w0 ⟨rfl,rfl⟩)
   | (go_at_call 101;(with_reducible refine (K3.out w2 HS2.out).mono ?_);rintro e w3 ⟨rfl,ht3,hs3⟩;have HT3:=Lib.hid (HT2.out.trans ht3);have HS3:=Lib.hid hs3;clear ht3 hs3)
   | (go_at_call 70;(with_reducible refine (K4.out w3 HS3.out).mono ?_);rintro e w4 ⟨rfl,ht4,hs4⟩;have HT4:=Lib.hid (HT3.out.trans ht4);have HS4:=Lib.hid hs4;clear ht4 hs4)
   | (go_at_call 73;(with_reducible refine (K6.out w4 HS4.out).mono ?_);rintro e w6 ⟨rfl,ht6,hs6⟩;have HT6:=Lib.hid (HT4.out.trans ht6);have HS6:=Lib.hid hs6;clear ht6 hs6))
 have hpl6:=HNP.out w6
 obtain ⟨g,hg⟩:∃ g,g=w6.heap.size:=⟨_,rfl⟩
 obtain ⟨cp,hcp⟩:∃ cp,cp=CAP w6:=⟨_,rfl⟩
 obtain ⟨w7,hw7⟩:∃ w7,w7=NEW w6:=⟨_,rfl⟩
 rw [←hg,←hcp,←hw7] at hpl6 ⊢
 have HPL6:=Lib.hid hpl6
 clear hpl6 hg hcp hw7 hcvt HNP
 go_wp2
 go_loopw [30] (fun vi wr=>∃ j:Nat,j≤i∧vi = .int .i64 (j:Nat)∧Hid (Pl w6 wr g cp (flat (P.take j)++P.drop j))∧Hid (60∉P.take j)) (fun vi _=>i-(intOf vi).toNat)
 case atStart=>exact ⟨0,Nat.zero_le _,rfl,Lib.hid (by simpa [flat] using HPL6.out),Lib.hid (by simp)⟩
 case round=>
  obtain ⟨j,hj,rfl,hpl7,hno⟩:=hrel
  by_cases hlt:j<i
  ·have hji:(j:Int)<i:=by omega
   have hjP:j<P.length:=by omega
   have hjF:j<(flat (P.take j)++P.drop j).length:=by rw [List.length_append,flat_len,List.length_take,List.length_drop];omega
   have hcell:=hpl7.out.cell hjF
   have hfr:=hpl7.out.fr j hjF
   have hat:(flat (P.take j)++P.drop j).getD j 0=P.getD j 0:=by
    rw [List.getD_eq_getElem?_getD,List.getElem?_append_right (by rw [flat_len,List.length_take];omega),flat_len,List.length_take,Nat.min_eq_left (by omega),Nat.sub_self,List.getElem?_drop,List.getD_eq_getElem?_getD];rfl
   rw [hat] at hcell
   have hfs:=flat_step hjP
   have htn:=take_next P j hjP
   have hx:=HPB.out.at j
   obtain ⟨x,hxx⟩:∃ x,x=P.getD j 0:=⟨_,rfl⟩
   rw [←hxx] at hcell hfs htn hx
   have HS:=Lib.hid (HS6.out.below hpl7.out.below)
   have HBL:=Lib.hid hpl7.out.below
   by_cases c60:x=60
   ·subst c60
    have HRN:Hid (R = .error 22):=Lib.hid (by
     rw [HR.out,plP,if_pos]
     rw [hxx]
     rw [List.getD_eq_getElem?_getD,List.getElem?_eq_getElem hjP]
     exact List.getElem_mem _)
    clear hfs htn hxx hat
    go_wp2_with (go_at_call 97;refine (must_no 22 _).mono ?_;rintro e w8 ⟨rfl,rfl⟩)
    refine ⟨rfl,?_⟩
    rw [HRR.out,HRN.out]
    exact ⟨HT6.out.trans (Touch.of_below HBL.out),rfl,_,HS.out⟩
   ·have c60':¬(x:Int)=60:=by omega
    have b60:((x:Int) != 60)=true:=by simpa using c60'
    have HNO:Hid (60∉P.take (j+1)):=Lib.hid (by
     rw [htn]
     intro hm
     rcases List.mem_append.1 hm with hm | hm
     ·exact hno.out hm
     ·rw [List.mem_singleton] at hm;exact c60 hm.symm)
    by_cases c9:x=9
    ·rw [if_pos (.inl c9)] at hfs
     have HPN:Hid (Pl w6 (wr.setCell ⟨g,j,none⟩ (.int .u8 32)) g cp (flat (P.take (j+1))++P.drop (j+1))):=Lib.hid (by rw [hfs];exact hpl7.out.set hjF 32 (by decide))
     subst c9
     clear hfs htn hxx hat c60
     go_wp2_with (go_at_call 97;refine (must_yes 22 _).mono ?_;rintro e w8 ⟨rfl,rfl⟩)
     refine ⟨⟨j+1,by omega,by go_num,HPN,HNO⟩,?_⟩
     simp [intOf];omega
    ·have c9':¬(x:Int)=9:=by omega
     by_cases c10:x=10
     ·rw [if_pos (.inr c10)] at hfs
      have HPN:Hid (Pl w6 (wr.setCell ⟨g,j,none⟩ (.int .u8 32)) g cp (flat (P.take (j+1))++P.drop (j+1))):=Lib.hid (by rw [hfs];exact hpl7.out.set hjF 32 (by decide))
      subst c10
      clear hfs htn hxx hat c60 c9
      go_wp2_with (go_at_call 97;refine (must_yes 22 _).mono ?_;rintro e w8 ⟨rfl,rfl⟩)
      refine ⟨⟨j+1,by omega,by go_num,HPN,HNO⟩,?_⟩
      simp [intOf];omega
     ·have c10':¬(x:Int)=10:=by omega
      have b9:((x:Int) == 9)=false:=by simpa using c9'
      have b10:((x:Int) == 10)=false:=by simpa using c10'
      rw [if_neg (fun hh=>by
                   rcases hh with hh | hh;· exact c9 hh
                   exact c10 hh)] at hfs
      have HPN:Hid (Pl w6 wr g cp (flat (P.take (j+1))++P.drop (j+1))):=Lib.hid (by
       rw [hfs,hxx,←hat,List.getD_eq_getElem?_getD,List.getElem?_eq_getElem hjF,Option.getD_some,List.set_getElem_self];exact hpl7.out)
      clear hfs htn hxx hat c60 c9 c10
      go_wp2_with (go_at_call 97;refine (must_yes 22 _).mono ?_;rintro e w8 ⟨rfl,rfl⟩)
      refine ⟨⟨j+1,by omega,by go_num,HPN,HNO⟩,?_⟩
      simp [intOf];omega
  ·obtain rfl:j=i:=by omega
   have htk:P.take j=P:=List.take_of_length_le (by omega)
   have hPL:=hpl7.out
   rw [htk,List.drop_eq_nil_of_le (by omega),List.append_nil] at hPL
   have h60:=hno.out
   rw [htk] at h60
   have hfl:(flat P).length=j:=by rw [flat_len,hpl]
   have hcv:=conv_txt hPL.sl
   rw [hfl] at hcv
   have HS:=Lib.hid (HS6.out.below hPL.below)
   have HBL:=Lib.hid hPL.below
   have KT:=told_any (flat P) _ rfl (flat_bs HPB.out) wr (by omega) HS.out.tt
   have HTB:=Lib.hid fun v (hv:told (flat P)=some v)=>told_bs _ _ v (Nat.le_refl _) (flat_bs HPB.out) hv
   have hrr:R=match told (flat P) with
     | none => .error 22
     | some v => .ok v:=by rw [HR.out,plP,if_neg h60];cases told (flat P) <;> rfl
   generalize txt (flat P)=TF at hcv KT
   have KT:=Lib.hid KT
   rcases ho:told (flat P) with _ | v
   ·rw [ho] at KT hrr
    simp only at hrr
    unfold tdR at KT
    simp only at KT
    have HRN:=Lib.hid hrr
    clear hrr ho HTB hPL h60 htk hfl
    go_wp2_with (first
     | (go_at_call 28;(with_reducible refine KT.out.mono ?_);rintro e w9 ⟨rfl,hb9⟩;have HB9:=Lib.hid (HBL.out.trans (hb9.mono HBL.out.size));have HS9:=Lib.hid (HS.out.below hb9);clear hb9)
     | (go_at_call 97;refine (must_no 22 _).mono ?_;rintro e w8 ⟨rfl,rfl⟩))
    refine ⟨rfl,?_⟩
    rw [HRR.out,HRN.out]
    exact ⟨HT6.out.trans (Touch.of_below HB9.out),rfl,_,HS9.out⟩
   ·have hvb:=Lib.hid (HTB.out v ho)
    rw [ho] at KT hrr
    simp only at hrr
    unfold tdR at KT
    simp only at KT
    have HRN:=Lib.hid hrr
    clear hrr ho HTB hPL h60 htk hfl
    go_wp2_with (first
     | (go_at_call 28;(with_reducible refine KT.out.mono ?_);rintro e w9 ⟨rfl,hb9⟩;have HB9:=Lib.hid (HBL.out.trans (hb9.mono HBL.out.size));have HS9:=Lib.hid (HS.out.below hb9);clear hb9)
     | (go_at_call 97;refine (must_yes 22 _).mono ?_;rintro e w8 ⟨rfl,rfl⟩))
    go_ret
    rw [HRR.out,HRN.out]
    exact ⟨HT6.out.trans (Touch.of_below HB9.out),rfl,hvb.out,by rw [←HE6.out];exact HS9.out⟩
set_option maxHeartbeats 6400000 in
theorem value_34 (w:World) (p:Nat) (ao:Option Addr) (c:Nat) (xs:List Nat) (bg k b:Nat) (h:Scn w p ao c xs bg k)
  (hb1:[61] <+: xs.drop (k+sk blaP (xs.drop k))) (hbe:b=k+sk blaP (xs.drop k)+1+sk blaP (xs.drop (k+sk blaP (xs.drop k)+1))) (hq:¬[39] <+: xs.drop b∧[34] <+: xs.drop b) :
  Calls Tryz.prog 139 #[.pointer (some ⟨p,0,none⟩)] w (VlTo p ao c xs bg (b+1) (quP 34 (xs.drop (b+1))) w):=by
 have H:=Lib.hid h
 have hlen:=h.len
 have K1:=Lib.hid (blanks_any w p ao c xs bg k h)
 obtain ⟨a,ha⟩:∃ a,a=k+sk blaP (xs.drop k):=⟨_,rfl⟩
 rw [←ha] at hb1 hbe K1
 have K2:=Lib.hid fun (W:World) (hW:Scn W p ao c xs bg a)=>takesN W p ao c xs bg a ⟨#[61]⟩ [61] 1 rfl rfl (fun x hx=>by simp at hx;omega) (by simp) hb1 hW
 have K3:=Lib.hid fun (W:World) (hW:Scn W p ao c xs bg (a+1))=>blanks_any W p ao c xs bg (a+1) hW
 rw [←hbe] at K3
 have K4:=Lib.hid fun (W:World) (hW:Scn W p ao c xs bg b)=>takes_no W p ao c xs bg b ⟨#[39]⟩ [39] rfl (fun x hx=>by simp at hx;omega) (by simp) hq.1 hW
 have K5:=Lib.hid fun (W:World) (hW:Scn W p ao c xs bg b)=>takesN W p ao c xs bg b ⟨#[34]⟩ [34] 1 rfl rfl (fun x hx=>by simp at hx;omega) (by simp) hq.2 hW
 have hql:=pre_le (by simp) hq.2
 simp only [List.length_cons,List.length_nil] at hql
 obtain ⟨RR,hRR⟩:∃ RR,RR=quP 34 (xs.drop (b+1)):=⟨_,rfl⟩
 rw [←hRR]
 unfold quP at hRR
 generalize decide (0<sk blaP (xs.drop k))=z1 at K1
 generalize decide (0<sk blaP (xs.drop (a+1)))=z2 at K3
 rcases hu:upP [34] (xs.drop (b+1)) with er | i
 ·have hix:ix [34] (xs.drop (b+1))=none∧er=22:=by
   unfold upP at hu
   rcases hi:ix [34] (xs.drop (b+1)) with _ | i
   ·rw [hi] at hu;injection hu with hu;exact ⟨rfl,hu.symm⟩
   ·rw [hi] at hu;cases hu
  obtain ⟨hix,rfl⟩:=hix
  rw [hu] at hRR
  have HRR:Hid (RR = .error 22):=Lib.hid hRR
  have K6:=Lib.hid fun (W:World) (hW:Scn W p ao c xs bg (b+1))=>upTo_no W p ao c xs bg (b+1) ⟨#[34]⟩ [34] rfl (fun x hx=>by simp at hx;omega) (by simp) hix hW
  clear h hb1 hbe ha hu hix hql hRR hq
  go_enter Tryz.func139,Tryz.ntmps139
  go_wp2_with (first
   | (go_at_call 101;(with_reducible refine K1.out.mono ?_);rintro e w1 ⟨rfl,ht1,hs1⟩;have HT1:=Lib.hid ht1;have HS1:=Lib.hid hs1;clear ht1 hs1)
   | (go_at_call 70;(with_reducible refine (K2.out w1 HS1.out).mono ?_);rintro e w2 ⟨rfl,ht2,hs2⟩;have HT2:=Lib.hid (HT1.out.trans ht2);have HS2:=Lib.hid hs2;clear ht2 hs2)
   | (go_at_call 97;refine (must_yes 22 _).mono ?_;rintro e w0 ⟨rfl,rfl⟩)
   | (go_at_call 101;(with_reducible refine (K3.out w2 HS2.out).mono ?_);rintro e w3 ⟨rfl,ht3,hs3⟩;have HT3:=Lib.hid (HT2.out.trans ht3);have HS3:=Lib.hid hs3;clear ht3 hs3)
   | (go_at_call 70;(with_reducible refine (K4.out w3 HS3.out).mono ?_);rintro e w4 ⟨rfl,hb4⟩;have HT4:=Lib.hid (HT3.out.trans (Touch.of_below hb4));have HS4:=Lib.hid (HS3.out.below hb4);clear hb4)
   | (go_at_call 70;(with_reducible refine (K5.out w4 HS4.out).mono ?_);rintro e w5 ⟨rfl,ht5,hs5⟩;have HT5:=Lib.hid (HT4.out.trans ht5);have HS5:=Lib.hid hs5;clear ht5 hs5)
   | (go_at_call 73;(with_reducible refine (K6.out w5 HS5.out).mono ?_);rintro e w6 ⟨rfl,hb6⟩;have HT6:=Lib.hid (HT5.out.trans (Touch.of_below hb6));have HS6:=Lib.hid (HS5.out.below hb6);clear hb6))
  refine ⟨rfl,?_⟩
  rw [HRR.out]
  exact ⟨HT6.out,rfl,b+1,HS6.out⟩
 have hix:ix [34] (xs.drop (b+1))=some i:=by
  unfold upP at hu
  rcases hi:ix [34] (xs.drop (b+1)) with _ | i2
  ·rw [hi] at hu;cases hu
  ·rw [hi] at hu;injection hu with hu;rw [hu]
 have hil:=ix_le hix
 rw [List.length_drop] at hil
 simp only [List.length_cons,List.length_nil] at hil
 have K6:=Lib.hid fun (W:World) (hW:Scn W p ao c xs bg (b+1))=>upToN W p ao c xs bg (b+1) ⟨#[34]⟩ [34] i (b+1+i+1) rfl rfl (fun x hx=>by simp at hx;omega) (by simp) hix hW
 have hpb:Bs ((xs.drop (b+1)).take i):=(h.bs.drop _).take _
 have hpl:((xs.drop (b+1)).take i).length=i:=by rw [List.length_take,List.length_drop];omega
 rw [hu] at hRR
 simp only at hRR
 obtain ⟨P,hP⟩:∃ P,P=(xs.drop (b+1)).take i:=⟨_,rfl⟩
 obtain ⟨e6,he6⟩:∃ e6,e6=b+1+(i+1):=⟨_,rfl⟩
 have e6':b+1+i+1=e6:=by omega
 rw [e6'] at K6
 have HE6:=Lib.hid he6
 rw [←hP] at K6 hpb hpl hRR
 obtain ⟨TP,hTP⟩:∃ TP,TP=txt P:=⟨_,rfl⟩
 rw [←hTP] at K6
 have hzp:TP.size=i:=by rw [hTP,txt_size,hpl]
 have hbt:bts TP=P:=by rw [hTP];exact bts_txt hpb
 obtain ⟨NEW,CAP,hcvt,hnp⟩:=text_run2 TP (by omega)
 rw [hzp] at hcvt
 rw [hbt] at hnp
 have HNP:=Lib.hid hnp
 have HPB:=Lib.hid hpb
 have hi6:i≤1000000:=by omega
 obtain ⟨R,hR⟩:∃ R,R=plP P:=⟨_,rfl⟩
 have HR:=Lib.hid hR
 rw [←hR] at hRR
 have HRR:=Lib.hid hRR
 clear h hb1 hbe ha hu hix hil hql hnp hP hTP hzp hbt hR he6 e6' hRR hq
 go_enter Tryz.func139,Tryz.ntmps139
 go_upto_region 9 with (first
   | (go_at_call 101;(with_reducible refine K1.out.mono ?_);rintro e w1 ⟨rfl,ht1,hs1⟩;have HT1:=Lib.hid ht1;have HS1:=Lib.hid hs1;clear ht1 hs1)
   | (go_at_call 70;(with_reducible refine (K2.out w1 HS1.out).mono ?_);rintro e w2 ⟨rfl,ht2,hs2⟩;have HT2:=Lib.hid (HT1.out.trans ht2);have HS2:=Lib.hid hs2;clear ht2 hs2)
   | (go_at_call 97;refine (must_yes 22 _).mono ?_;rintro e w0 ⟨rfl,rfl⟩)
   | (go_at_call 101;(with_reducible refine (K3.out w2 HS2.out).mono ?_);rintro e w3 ⟨rfl,ht3,hs3⟩;have HT3:=Lib.hid (HT2.out.trans ht3);have HS3:=Lib.hid hs3;clear ht3 hs3)
   | (go_at_call 70;(with_reducible refine (K4.out w3 HS3.out).mono ?_);rintro e w4 ⟨rfl,hb4⟩;have HT4:=Lib.hid (HT3.out.trans (Touch.of_below hb4));have HS4:=Lib.hid (HS3.out.below hb4);clear hb4)
   | (go_at_call 70;(with_reducible refine (K5.out w4 HS4.out).mono ?_);rintro e w5 ⟨rfl,ht5,hs5⟩;have HT5:=Lib.hid (HT4.out.trans ht5);have HS5:=Lib.hid hs5;clear ht5 hs5)
   | (go_at_call 73;(with_reducible refine (K6.out w5 HS5.out).mono ?_);rintro e w6 ⟨rfl,ht6,hs6⟩;have HT6:=Lib.hid (HT5.out.trans ht6);have HS6:=Lib.hid hs6;clear ht6 hs6))
 have hpl6:=HNP.out w6
 obtain ⟨g,hg⟩:∃ g,g=w6.heap.size:=⟨_,rfl⟩
 obtain ⟨cp,hcp⟩:∃ cp,cp=CAP w6:=⟨_,rfl⟩
 obtain ⟨w7,hw7⟩:∃ w7,w7=NEW w6:=⟨_,rfl⟩
 rw [←hg,←hcp,←hw7] at hpl6 ⊢
 have HPL6:=Lib.hid hpl6
 clear hpl6 hg hcp hw7 hcvt HNP
 go_wp2
 go_loopw [30] (fun vi wr=>∃ j:Nat,j≤i∧vi = .int .i64 (j:Nat)∧Hid (Pl w6 wr g cp (flat (P.take j)++P.drop j))∧Hid (60∉P.take j)) (fun vi _=>i-(intOf vi).toNat)
 case atStart=>exact ⟨0,Nat.zero_le _,rfl,Lib.hid (by simpa [flat] using HPL6.out),Lib.hid (by simp)⟩
 case round=>
  obtain ⟨j,hj,rfl,hpl7,hno⟩:=hrel
  by_cases hlt:j<i
  ·have hji:(j:Int)<i:=by omega
   have hjP:j<P.length:=by omega
   have hjF:j<(flat (P.take j)++P.drop j).length:=by rw [List.length_append,flat_len,List.length_take,List.length_drop];omega
   have hcell:=hpl7.out.cell hjF
   have hfr:=hpl7.out.fr j hjF
   have hat:(flat (P.take j)++P.drop j).getD j 0=P.getD j 0:=by
    rw [List.getD_eq_getElem?_getD,List.getElem?_append_right (by rw [flat_len,List.length_take];omega),flat_len,List.length_take,Nat.min_eq_left (by omega),Nat.sub_self,List.getElem?_drop,List.getD_eq_getElem?_getD];rfl
   rw [hat] at hcell
   have hfs:=flat_step hjP
   have htn:=take_next P j hjP
   have hx:=HPB.out.at j
   obtain ⟨x,hxx⟩:∃ x,x=P.getD j 0:=⟨_,rfl⟩
   rw [←hxx] at hcell hfs htn hx
   have HS:=Lib.hid (HS6.out.below hpl7.out.below)
   have HBL:=Lib.hid hpl7.out.below
   by_cases c60:x=60
   ·subst c60
    have HRN:Hid (R = .error 22):=Lib.hid (by
     rw [HR.out,plP,if_pos]
     rw [hxx]
     rw [List.getD_eq_getElem?_getD,List.getElem?_eq_getElem hjP]
     exact List.getElem_mem _)
    clear hfs htn hxx hat
    go_wp2_with (go_at_call 97;refine (must_no 22 _).mono ?_;rintro e w8 ⟨rfl,rfl⟩)
    refine ⟨rfl,?_⟩
    rw [HRR.out,HRN.out]
    exact ⟨HT6.out.trans (Touch.of_below HBL.out),rfl,_,HS.out⟩
   ·have c60':¬(x:Int)=60:=by omega
    have b60:((x:Int) != 60)=true:=by simpa using c60'
    have HNO:Hid (60∉P.take (j+1)):=Lib.hid (by
     rw [htn]
     intro hm
     rcases List.mem_append.1 hm with hm | hm
     ·exact hno.out hm
     ·rw [List.mem_singleton] at hm;exact c60 hm.symm)
    by_cases c9:x=9
    ·rw [if_pos (.inl c9)] at hfs
     have HPN:Hid (Pl w6 (wr.setCell ⟨g,j,none⟩ (.int .u8 32)) g cp (flat (P.take (j+1))++P.drop (j+1))):=Lib.hid (by rw [hfs];exact hpl7.out.set hjF 32 (by decide))
     subst c9
     clear hfs htn hxx hat c60
     go_wp2_with (go_at_call 97;refine (must_yes 22 _).mono ?_;rintro e w8 ⟨rfl,rfl⟩)
     refine ⟨⟨j+1,by omega,by go_num,HPN,HNO⟩,?_⟩
     simp [intOf];omega
    ·have c9':¬(x:Int)=9:=by omega
     by_cases c10:x=10
     ·rw [if_pos (.inr c10)] at hfs
      have HPN:Hid (Pl w6 (wr.setCell ⟨g,j,none⟩ (.int .u8 32)) g cp (flat (P.take (j+1))++P.drop (j+1))):=Lib.hid (by rw [hfs];exact hpl7.out.set hjF 32 (by decide))
      subst c10
      clear hfs htn hxx hat c60 c9
      go_wp2_with (go_at_call 97;refine (must_yes 22 _).mono ?_;rintro e w8 ⟨rfl,rfl⟩)
      refine ⟨⟨j+1,by omega,by go_num,HPN,HNO⟩,?_⟩
      simp [intOf];omega
     ·have c10':¬(x:Int)=10:=by omega
      have b9:((x:Int) == 9)=false:=by simpa using c9'
      have b10:((x:Int) == 10)=false:=by simpa using c10'
      rw [if_neg (fun hh=>by
                   rcases hh with hh | hh;· exact c9 hh
                   exact c10 hh)] at hfs
      have HPN:Hid (Pl w6 wr g cp (flat (P.take (j+1))++P.drop (j+1))):=Lib.hid (by
       rw [hfs,hxx,←hat,List.getD_eq_getElem?_getD,List.getElem?_eq_getElem hjF,Option.getD_some,List.set_getElem_self];exact hpl7.out)
      clear hfs htn hxx hat c60 c9 c10
      go_wp2_with (go_at_call 97;refine (must_yes 22 _).mono ?_;rintro e w8 ⟨rfl,rfl⟩)
      refine ⟨⟨j+1,by omega,by go_num,HPN,HNO⟩,?_⟩
      simp [intOf];omega
  ·obtain rfl:j=i:=by omega
   have htk:P.take j=P:=List.take_of_length_le (by omega)
   have hPL:=hpl7.out
   rw [htk,List.drop_eq_nil_of_le (by omega),List.append_nil] at hPL
   have h60:=hno.out
   rw [htk] at h60
   have hfl:(flat P).length=j:=by rw [flat_len,hpl]
   have hcv:=conv_txt hPL.sl
   rw [hfl] at hcv
   have HS:=Lib.hid (HS6.out.below hPL.below)
   have HBL:=Lib.hid hPL.below
   have KT:=told_any (flat P) _ rfl (flat_bs HPB.out) wr (by omega) HS.out.tt
   have HTB:=Lib.hid fun v (hv:told (flat P)=some v)=>told_bs _ _ v (Nat.le_refl _) (flat_bs HPB.out) hv
   have hrr:R=match told (flat P) with
     | none => .error 22
     | some v => .ok v:=by rw [HR.out,plP,if_neg h60];cases told (flat P) <;> rfl
   generalize txt (flat P)=TF at hcv KT
   have KT:=Lib.hid KT
   rcases ho:told (flat P) with _ | v
   ·rw [ho] at KT hrr
    simp only at hrr
    unfold tdR at KT
    simp only at KT
    have HRN:=Lib.hid hrr
    clear hrr ho HTB hPL h60 htk hfl
    go_wp2_with (first
     | (go_at_call 28;(with_reducible refine KT.out.mono ?_);rintro e w9 ⟨rfl,hb9⟩;have HB9:=Lib.hid (HBL.out.trans (hb9.mono HBL.out.size));have HS9:=Lib.hid (HS.out.below hb9);clear hb9)
     | (go_at_call 97;refine (must_no 22 _).mono ?_;rintro e w8 ⟨rfl,rfl⟩))
    refine ⟨rfl,?_⟩
    rw [HRR.out,HRN.out]
    exact ⟨HT6.out.trans (Touch.of_below HB9.out),rfl,_,HS9.out⟩
   ·have hvb:=Lib.hid (HTB.out v ho)
    rw [ho] at KT hrr
    simp only at hrr
    unfold tdR at KT
    simp only at KT
    have HRN:=Lib.hid hrr
    clear hrr ho HTB hPL h60 htk hfl
    go_wp2_with (first
     | (go_at_call 28;(with_reducible refine KT.out.mono ?_);rintro e w9 ⟨rfl,hb9⟩;have HB9:=Lib.hid (HBL.out.trans (hb9.mono HBL.out.size));have HS9:=Lib.hid (HS.out.below hb9);clear hb9)
     | (go_at_call 97;refine (must_yes 22 _).mono ?_;rintro e w8 ⟨rfl,rfl⟩))
    go_ret
    rw [HRR.out,HRN.out]
    exact ⟨HT6.out.trans (Touch.of_below HB9.out),rfl,hvb.out,by rw [←HE6.out];exact HS9.out⟩
section
variable (w:World) (p:Nat) (ao:Option Addr) (c:Nat) (xs:List Nat) (bg k:Nat)
set_option maxHeartbeats 3200000 in
theorem value_e1 (h:Scn w p ao c xs bg k) (hn:¬[61] <+: xs.drop (k+sk blaP (xs.drop k))) :
  Calls Tryz.prog 139 #[.pointer (some ⟨p,0,none⟩)] w (VlTo p ao c xs bg k (.error 22) w):=by
 have K1:=Lib.hid (blanks_any w p ao c xs bg k h)
 obtain ⟨a,ha⟩:∃ a,a=k+sk blaP (xs.drop k):=⟨_,rfl⟩
 rw [←ha] at hn K1
 have K2:=Lib.hid fun (W:World) (hW:Scn W p ao c xs bg a)=>takes_no W p ao c xs bg a ⟨#[61]⟩ [61] rfl (fun x hx=>by simp at hx;omega) (by simp) hn hW
 generalize decide (0<sk blaP (xs.drop k))=z1 at K1
 clear h hn ha
 go_enter Tryz.func139,Tryz.ntmps139
 go_wp2_with (first
  | (go_at_call 101;(with_reducible refine K1.out.mono ?_);rintro e w1 ⟨rfl,ht1,hs1⟩;have HT1:=Lib.hid ht1;have HS1:=Lib.hid hs1;clear ht1 hs1)
  | (go_at_call 70;(with_reducible refine (K2.out w1 HS1.out).mono ?_);rintro e w2 ⟨rfl,hb2⟩;have HT2:=Lib.hid (HT1.out.trans (Touch.of_below hb2));have HS2:=Lib.hid (HS1.out.below hb2);clear hb2)
  | (go_at_call 97;refine (must_no 22 _).mono ?_;rintro e w0 ⟨rfl,rfl⟩))
 exact ⟨rfl,HT2.out,rfl,a,HS2.out⟩
set_option maxHeartbeats 3200000 in
theorem value_e2 (h:Scn w p ao c xs bg k) (b:Nat) (hb1:[61] <+: xs.drop (k+sk blaP (xs.drop k))) (hbe:b=k+sk blaP (xs.drop k)+1+sk blaP (xs.drop (k+sk blaP (xs.drop k)+1))) (hq1:¬[39] <+: xs.drop b) (hq2:¬[34] <+: xs.drop b) :
  Calls Tryz.prog 139 #[.pointer (some ⟨p,0,none⟩)] w (VlTo p ao c xs bg k (.error 22) w):=by
 have K1:=Lib.hid (blanks_any w p ao c xs bg k h)
 obtain ⟨a,ha⟩:∃ a,a=k+sk blaP (xs.drop k):=⟨_,rfl⟩
 rw [←ha] at hb1 hbe K1
 have K2:=Lib.hid fun (W:World) (hW:Scn W p ao c xs bg a)=>takesN W p ao c xs bg a ⟨#[61]⟩ [61] 1 rfl rfl (fun x hx=>by simp at hx;omega) (by simp) hb1 hW
 have K3:=Lib.hid fun (W:World) (hW:Scn W p ao c xs bg (a+1))=>blanks_any W p ao c xs bg (a+1) hW
 rw [←hbe] at K3
 have K4:=Lib.hid fun (W:World) (hW:Scn W p ao c xs bg b)=>takes_no W p ao c xs bg b ⟨#[39]⟩ [39] rfl (fun x hx=>by simp at hx;omega) (by simp) hq1 hW
 have K5:=Lib.hid fun (W:World) (hW:Scn W p ao c xs bg b)=>takes_no W p ao c xs bg b ⟨#[34]⟩ [34] rfl (fun x hx=>by simp at hx;omega) (by simp) hq2 hW
 generalize decide (0<sk blaP (xs.drop k))=z1 at K1
 generalize decide (0<sk blaP (xs.drop (a+1)))=z2 at K3
 clear h hb1 hbe hq1 hq2 ha
 go_enter Tryz.func139,Tryz.ntmps139
 go_wp2_with (first
  | (go_at_call 101;(with_reducible refine K1.out.mono ?_);rintro e w1 ⟨rfl,ht1,hs1⟩;have HT1:=Lib.hid ht1;have HS1:=Lib.hid hs1;clear ht1 hs1)
  | (go_at_call 70;(with_reducible refine (K2.out w1 HS1.out).mono ?_);rintro e w2 ⟨rfl,ht2,hs2⟩;have HT2:=Lib.hid (HT1.out.trans ht2);have HS2:=Lib.hid hs2;clear ht2 hs2)
  | (go_at_call 97;refine (must_yes 22 _).mono ?_;rintro e w0 ⟨rfl,rfl⟩)
  | (go_at_call 101;(with_reducible refine (K3.out w2 HS2.out).mono ?_);rintro e w3 ⟨rfl,ht3,hs3⟩;have HT3:=Lib.hid (HT2.out.trans ht3);have HS3:=Lib.hid hs3;clear ht3 hs3)
  | (go_at_call 70;(with_reducible refine (K4.out w3 HS3.out).mono ?_);rintro e w4 ⟨rfl,hb4⟩;have HT4:=Lib.hid (HT3.out.trans (Touch.of_below hb4));have HS4:=Lib.hid (HS3.out.below hb4);clear hb4)
  | (go_at_call 70;(with_reducible refine (K5.out w4 HS4.out).mono ?_);rintro e w5 ⟨rfl,hb5⟩;have HT5:=Lib.hid (HT4.out.trans (Touch.of_below hb5));have HS5:=Lib.hid (HS4.out.below hb5);clear hb5)
  | (go_at_call 97;refine (must_no 22 _).mono ?_;rintro e w0 ⟨rfl,rfl⟩))
 exact ⟨rfl,HT5.out,rfl,b,HS5.out⟩
def plusV (n:Nat):Except Nat (List Nat × Nat)→Except Nat (List Nat × Nat)
 | .error e => .error e
 | .ok (v,m) => .ok (v,n+m)
theorem VlTo.shift {p:Nat} {ao:Option Addr} {c:Nat} {xs:List Nat} {bg k n:Nat} {r:Except Nat (List Nat × Nat)} {w w':World} {e:Ending} (h:VlTo p ao c xs bg (k+n) r w e w') :
  VlTo p ao c xs bg k (plusV n r) w e w':=by
 rcases r with er | ⟨v,m⟩
 ·exact h
 ·obtain ⟨h1,h2,h3,h4⟩:=h
  exact ⟨h1,h2,h3,by rw [←Nat.add_assoc];exact h4⟩
theorem value_any (h:Scn w p ao c xs bg k):Calls Tryz.prog 139 #[.pointer (some ⟨p,0,none⟩)] w (VlTo p ao c xs bg k (vlP (xs.drop k)) w):=by
 have d1:∀ n,(xs.drop k).drop n=xs.drop (k+n):=fun n=>by rw [List.drop_drop]
 unfold vlP
 simp only [d1]
 by_cases h1:[61] <+: xs.drop (k+sk blaP (xs.drop k))
 ·rw [if_pos h1]
  obtain ⟨b,hb⟩:∃ b,b=k+sk blaP (xs.drop k)+1+sk blaP (xs.drop (k+sk blaP (xs.drop k)+1)):=⟨_,rfl⟩
  have hb2:k+(sk blaP (xs.drop k)+1+sk blaP (xs.drop (k+(sk blaP (xs.drop k)+1))))=b:=by
   rw [hb,←Nat.add_assoc k (sk blaP (xs.drop k)) 1];omega
  obtain ⟨m,hm⟩:∃ m,m=sk blaP (xs.drop k)+1+sk blaP (xs.drop (k+(sk blaP (xs.drop k)+1))):=⟨_,rfl⟩
  rw [←hm] at hb2 ⊢
  rw [hb2,show k+(m+1)=b+1 by omega]
  by_cases h2:[39] <+: xs.drop b
  ·rw [if_pos h2]
   have K:=value_39 w p ao c xs bg k b h h1 hb h2
   rw [show b+1=k+(m+1) by omega] at K ⊢
   refine K.mono fun e w' h=>?_
   have h:=h.shift
   revert h
   rcases quP 39 (xs.drop (k+(m+1))) with er | ⟨v,n⟩ <;> exact id
  ·rw [if_neg h2]
   by_cases h3:[34] <+: xs.drop b
   ·rw [if_pos h3]
    have K:=value_34 w p ao c xs bg k b h h1 hb ⟨h2,h3⟩
    rw [show b+1=k+(m+1) by omega] at K ⊢
    refine K.mono fun e w' h=>?_
    have h:=h.shift
    revert h
    rcases quP 34 (xs.drop (k+(m+1))) with er | ⟨v,n⟩ <;> exact id
   ·rw [if_neg h3]
    exact value_e2 w p ao c xs bg k h b h1 hb h2 h3
 ·rw [if_neg h1]
  exact value_e1 w p ao c xs bg k h h1
end
end
section
open Go.RowKit Go.Proofs.YtbogfailbgbdoaaGreatDoor U Go.Maps
theorem keyed9:Keyed Tryz.prog 9:=string_keyed Tryz.underlying9
theorem zero152 (w:World):(zeroValue 152).run Tryz.prog w = .ok (.agg #[]) w:=by kernel_rfl
structure Seen (L:List (List UInt8)) (D:DataW Unit):Prop where
 map:IsMap D
 has:∀ k:List UInt8,Maps.has D (.string k)=decide (k∈L)
theorem Seen.start:Seen [] (.map []):=⟨isMap_empty,fun _=>rfl⟩
theorem Seen.put {L:List (List UInt8)} {D:DataW Unit} (h:Seen L D) (k:List UInt8):Seen (L++[k]) (D.put (.string k) (.agg [])):=by
 refine ⟨h.map.put _ _,fun x=>?_⟩
 by_cases e:k=x
 ·subst e
  rw [has_put_same h.map (show WideAt.IsKeyLit (.string _) from trivial)];simp
 ·rw [has_put_other (by intro h';cases h';exact e rfl),h.has]
  simp [Ne.symm e]
theorem key9 (s:ByteArray) (hs:s.size≤1000000):keyOf Tryz.prog 9 (.string s)=some (.string s.data.toList):=by
 rw [keyOf_string Tryz.underlying9]
 have:s.size≤maxLen:=by unfold maxLen;omega
 simp [mapKey,Tryz.underlying9,this]
theorem turned_touch {w w':World} {b:Nat} (h:w.mapTurned w' b):Touch (fun k=>k=b) w w':=by
 have hg:=h.grown
 exact ⟨hg.os,hg.tape,hg.output,hg.size,fun k hk hs=>hg.block k hk (fun e=>hs (Option.some.inj e))⟩
theorem owns_touch {S:Nat→Prop} {w w':World} {mb n:Nat} {D:DataW Unit} (h:w.ownsMap Tryz.prog 9 unitElem mb n D) (ht:Touch S w w') (hs:¬S mb):w'.ownsMap Tryz.prog 9 unitElem mb n D:=by
 obtain ⟨es,clock,hk,F,hs',hD⟩:=h
 exact ⟨es,clock,(ht.block mb (Array.getElem?_eq_some_iff.1 hk).1 hs).trans hk,F,hs',hD⟩
theorem owns_lt {w:World} {mb n:Nat} {D:DataW Unit} (h:w.ownsMap Tryz.prog 9 unitElem mb n D):mb<w.heap.size:=by
 obtain ⟨es,clock,hk,_⟩:=h
 exact (Array.getElem?_eq_some_iff.1 hk).1
structure Nx (w:World) (p q1 q2 mb n:Nat) (keys:List (List Nat)) (D:DataW Unit):Prop where
 b1:Blk w q1 49 #[.pointer (some ⟨p,0,none⟩)]
 b2:Blk w q2 151 #[.map (some mb)]
 own:w.ownsMap Tryz.prog 9 unitElem mb n D
 seen:Seen (keys.map u8L) D
 n1:q1≠p
 n2:q2≠p
 n3:mb≠p
 n4:q1≠mb
 n5:q2≠mb
 le:n≤1000
 low:7≤mb
section
variable {w w':World} {p q1 q2 mb n:Nat} {keys:List (List Nat)} {D:DataW Unit}
theorem Nx.mv (h:Nx w p q1 q2 mb n keys D) (ht:Touch (fun i=>i=p) w w'):Nx w' p q1 q2 mb n keys D:=
 ⟨h.b1.touch ht h.n1,h.b2.touch ht h.n2,owns_touch h.own ht h.n3,h.seen,h.n1,h.n2,h.n3,h.n4,h.n5,h.le,h.low⟩
theorem Nx.below (h:Nx w p q1 q2 mb n keys D) (hb:Below w.heap.size w w'):Nx w' p q1 q2 mb n keys D:=h.mv (Touch.of_below hb)
theorem Nx.c1 (h:Nx w p q1 q2 mb n keys D):w.cell? ⟨q1,0,none⟩=some (.pointer (some ⟨p,0,none⟩)):=(h.b1.cell 0).trans rfl
theorem Nx.c2 (h:Nx w p q1 q2 mb n keys D):w.cell? ⟨q2,0,none⟩=some (.map (some mb)):=(h.b2.cell 0).trans rfl
end
def nxtP (keys:List (List Nat)) (L:List Nat):Except Nat (Option At × Nat):=
 if sk blaP L=0 then .ok (none,0)
 else if begP (nx (L.drop (sk blaP L))).1=true then (match onP (L.drop (sk blaP L)) with
  | .error e => .error e
  | .ok (a,n)=>if a.1∈keys then .error 22 else .ok (some a,sk blaP L+n))
 else .ok (none,sk blaP L)
theorem atA_nxt (acc:List At) {L:List Nat} (hb:Bs L):atA acc L=match nxtP (acc.map Prod.fst) L with
  | .error e => .error e
  | .ok (none,n) => .ok (acc,n)
  | .ok (some a,n)=>if 256<acc.length+1 then .error 14 else match atA (acc++[a]) (L.drop n) with
   | .error e => .error e
   | .ok (l,m) => .ok (l,n+m):=by
 rw [atA_step acc hb]
 unfold nxtP
 by_cases h0:sk blaP L=0
 ·rw [if_pos h0,if_pos h0]
 rw [if_neg h0,if_neg h0]
 by_cases h1:begP (nx (L.drop (sk blaP L))).1=true
 ·rw [if_pos h1,if_pos h1]
  rcases onP (L.drop (sk blaP L)) with e | ⟨a,n⟩
  ·rfl
  ·simp only
   by_cases h2:a.1∈acc.map Prod.fst
   ·rw [if_pos h2,if_pos h2]
   ·rw [if_neg h2,if_neg h2]
    simp only
    split <;> rfl
 ·rw [if_neg h1,if_neg h1]
def atV (a:At):List Value:=[.string (txt a.1),.string (txt a.2)]
def NxTo (p:Nat) (ao:Option Addr) (c:Nat) (xs:List Nat) (bg k q1 q2 mb n:Nat) (keys:List (List Nat)) (r:Except Nat (Option At × Nat)) (w:World) (e:Ending) (w':World):Prop:=
 Touch (fun i=>i=p∨i=mb) w w'∧match r with
  | .error er=>e=kpan er∧∃ k',Scn w' p ao c xs bg k'
  | .ok (none,m)=>e = .returned (.tuple #[.agg #[.string ⟨#[]⟩,.string ⟨#[]⟩],.bool false])∧Scn w' p ao c xs bg (k+m)
  | .ok (some a,m)=>e = .returned (.tuple #[.agg #[.string (txt a.1),.string (txt a.2)],.bool true])∧Scn w' p ao c xs bg (k+m)∧Bs a.1∧Bs a.2∧∃ D',Nx w' p q1 q2 mb (n+1) (keys++[a.1]) D'
theorem res138 {t:Array Value} {W:World} {q:Nat} {x0 x1 z:Value} (h2:t[2]? = some (.pointer (some ⟨q,0,none⟩))) (h3:t[3]? = some z) (h:Blk W q 46 #[x0,x1]) :
  (results Tryz.f138 t).run Tryz.prog W = .ok (.tuple #[.agg #[x0,x1],z]) W:=by
 have e0:=(h.cell 0).trans (show _=some x0 from rfl)
 have e1:=(h.cell 1).trans (show _=some x1 from rfl)
 simp [results,Tryz.results138,h2,h3,go_sem,e0,e1]
theorem touch_p {p mb:Nat} {w w':World} (h:Touch (fun i=>i=p) w w'):Touch (fun i=>i=p∨i=mb) w w':=h.mono fun _ h => .inl h
theorem Scn.src_lt {w:World} {p:Nat} {ao:Option Addr} {c:Nat} {xs:List Nat} {bg k:Nat} (h:Scn w p ao c xs bg k):∀ ad,ao=some ad→xs≠[]→∃ v,w.cell? ⟨ad.block,ad.off,none⟩=some v:=fun ad e hne=>by
 rcases h.sl.src with h0 | ⟨b,off,e2,hc⟩
 ·exact absurd h0 hne
 ·rw [e2] at e
  have:=Option.some.inj e
  subst this
  have:=hc 0 (List.length_pos_iff.2 hne)
  exact ⟨_,this⟩
theorem Scn.touch {S:Nat→Prop} {w w':World} {p:Nat} {ao:Option Addr} {c:Nat} {xs:List Nat} {bg k:Nat} (h:Scn w p ao c xs bg k) (ht:Touch S w w') (h1:¬S p) (h2:∀ i,S i→7≤i) (h3:∀ ad,ao=some ad→xs≠[]→¬S ad.block):Scn w' p ao c xs bg k:=
 ⟨h.blk.touch ht h1,⟨h.sl.src.touch ht fun b off e hne=>h3 _ e hne,h.sl.le,h.sl.big,h.sl.nil,h.sl.bs⟩,h.le,h.low,h.far,h.tt.low (ht.below h.tt.size h2),h.len⟩
theorem nx_store {w W:World} {p:Nat} {ao:Option Addr} {c:Nat} {xs:List Nat} {bg k k':Nat} (h:Scn w p ao c xs bg k) (hs:Scn W p ao c xs bg k') (hz:w.heap.size<W.heap.size) (x0 x1:Value) :
  Scn ((W.setCell ⟨w.heap.size,0,none⟩ x0).setCell ⟨w.heap.size,1,none⟩ x1) p ao c xs bg k'∧Touch (fun i=>i=w.heap.size) W ((W.setCell ⟨w.heap.size,0,none⟩ x0).setCell ⟨w.heap.size,1,none⟩ x1):=by
 have ht2:Touch (fun i=>i=w.heap.size) W ((W.setCell ⟨w.heap.size,0,none⟩ x0).setCell ⟨w.heap.size,1,none⟩ x1):=(touch_set w.heap.size 0 W _).trans (touch_set w.heap.size 1 _ _)
 refine ⟨hs.touch ht2 (by have:=h.lt;omega) (fun i hi=>by have:=h.tt.size;omega) (fun ad e hne hS=>?_),ht2⟩
 obtain ⟨v,hv⟩:=h.src_lt ad e hne
 have:=World.block_lt_of_cell? w _ hv
 simp only at this
 omega
theorem map_apart {w:World} {mb n:Nat} {D:DataW Unit} (h:w.ownsMap Tryz.prog 9 unitElem mb n D) {i:Nat} {v:Value} (hc:w.cell? ⟨mb,i,none⟩=some v):False:=by
 obtain ⟨es,clock,hk,_⟩:=h
 simp [World.cell?,hk] at hc
set_option maxHeartbeats 6400000 in
theorem nxt_any (w:World) (p:Nat) (ao:Option Addr) (c:Nat) (xs:List Nat) (bg k q1 q2 mb n:Nat) (keys:List (List Nat)) (D:DataW Unit) (h:Scn w p ao c xs bg k) (hN:Nx w p q1 q2 mb n keys D) (hkb:∀ x∈keys,Bs x) (hn:n≤900) :
  Calls Tryz.prog 138 #[.pointer (some ⟨q1,0,none⟩),.pointer (some ⟨q2,0,none⟩)] w (NxTo p ao c xs bg k q1 q2 mb n keys (nxtP keys (xs.drop k)) w):=by
 have HN:=Lib.hid hN
 have H:=Lib.hid h
 have hbA:=lit_below w (.cells #[.string ⟨#[]⟩,.string ⟨#[]⟩] 46)
 obtain ⟨w0,hw0⟩:∃ w0,w0=w.alloc (.cells #[.string ⟨#[]⟩,.string ⟨#[]⟩] 46):=⟨_,rfl⟩
 have hR0:Blk w0 w.heap.size 46 #[.string ⟨#[]⟩,.string ⟨#[]⟩]:=by rw [hw0];exact Blk.made _ _ _
 have c1:(w.alloc (.cells #[.string ⟨#[]⟩,.string ⟨#[]⟩] 46)).cell? ⟨q1,0,none⟩=some (.pointer (some ⟨p,0,none⟩)):=(hN.below hbA).c1
 rw [←hw0] at hbA
 have K1:=blanks_any w0 p ao c xs bg k (h.below hbA)
 have HB0:=Lib.hid hbA
 have HR0:=Lib.hid hR0
 have HN0:=Lib.hid (hN.below hbA)
 have hpl:=h.lt
 have hne:w.heap.size≠p:=by omega
 have hml:mb<w.heap.size:=owns_lt hN.own
 have hne2:w.heap.size≠mb:=by omega
 have hlen:=h.len
 have hbs:=h.bs
 have hsk:=sk_len blaP_zero (hbs.drop k)
 rw [List.length_drop] at hsk
 have hkl:=h.le
 obtain ⟨RR,hRR⟩:∃ RR,RR=nxtP keys (xs.drop k):=⟨_,rfl⟩
 rw [←hRR]
 unfold nxtP at hRR
 have END:Hid (∀ (m:Nat) (W:World),RR = .ok (none,m)→Touch (fun i=>i=p) w0 W→Scn W p ao c xs bg (k+m)→Blk W w.heap.size 46 #[.string ⟨#[]⟩,.string ⟨#[]⟩]→
   NxTo p ao c xs bg k q1 q2 mb n keys RR w (.returned (.tuple #[.agg #[.string ⟨#[]⟩,.string ⟨#[]⟩],.bool false])) ((W.setCell ⟨w.heap.size,0,none⟩ (.string ⟨#[]⟩)).setCell ⟨w.heap.size,1,none⟩ (.string ⟨#[]⟩))):=Lib.hid fun m W hrr ht hs hr=>by
  subst hrr
  obtain ⟨h1,h2⟩:=nx_store H.out hs hr.lt (.string ⟨#[]⟩) (.string ⟨#[]⟩)
  have hw:Touch (fun i=>i=p) w W:=(Touch.of_below HB0.out:Touch (fun i=>i=p) w w0).trans ht
  exact ⟨touch_p (hw.trans' h2 fun i hi hlt=>by omega),rfl,h1⟩
 by_cases h0:sk blaP (xs.drop k)=0
 ·rw [if_pos h0] at hRR
  have HRR:=Lib.hid hRR
  rw [h0] at K1
  have K1:Hid (Calls Tryz.prog 101 #[.pointer (some ⟨p,0,none⟩)] w0 fun e w'=>e = .returned (.bool false)∧Touch (fun i=>i=p) w0 w'∧Scn w' p ao c xs bg (k+0)):=Lib.hid K1
  clear h hN hbA hR0 h0 hRR
  go_enter Tryz.func138,Tryz.ntmps138
  go_wp2_with (rw [←hw0];clear hw0;go_at_call 101;refine K1.out.mono ?_;rintro e w1 ⟨rfl,ht1,hs1⟩;have HT1:=Lib.hid ht1;have HS1:=Lib.hid hs1;have HR1:=Lib.hid (HR0.out.touch ht1 hne);have r0:=(HR1.out.cell 0).trans (show _=some (.string ⟨#[]⟩) from rfl);have r1:=(HR1.out.cell 1).trans (show _=some (.string ⟨#[]⟩) from rfl);have f0:=HR1.out.free 0;have f1:=HR1.out.free 1;clear ht1 hs1)
  exact bodyPost_ret (res138 rfl rfl ((HR1.out.setCell 0 _).setCell 1 _)) rfl (END.out 0 w1 HRR.out HT1.out HS1.out HR1.out)
 rw [if_neg h0] at hRR
 obtain ⟨m,hm⟩:∃ m,m=sk blaP (xs.drop k):=⟨_,rfl⟩
 rw [←hm] at hRR K1 hsk h0
 rw [List.drop_drop] at hRR
 rw [show decide (0<m)=true from decide_eq_true (by omega)] at K1
 have K1:=Lib.hid K1
 have K2:=Lib.hid fun (W:World) (hW:Scn W p ao c xs bg (k+m))=>begins_any W p ao c xs bg (k+m) hW
 by_cases hb:begP (nx (xs.drop (k+m))).1=true
 ·rw [if_pos hb] at hRR
  rw [hb] at K2
  have K3:=Lib.hid fun (W:World) (hW:Scn W p ao c xs bg (k+m))=>qualified_any W p ao c xs bg (k+m) hW
  unfold onP at hRR
  rcases hq:qnP (xs.drop (k+m)) with er | i
  ·rw [hq] at hRR K3
   simp only at hRR
   have HRR:=Lib.hid hRR
   have K3:Hid (∀ W,Scn W p ao c xs bg (k+m)→Calls Tryz.prog 103 #[.pointer (some ⟨p,0,none⟩)] W fun e w'=>Touch (fun i=>i=p) W w'∧e=kpan er∧∃ k',Scn w' p ao c xs bg k'):=K3
   clear h hN hbA hR0 h0 hRR hb hq END
   go_enter Tryz.func138,Tryz.ntmps138
   go_wp2_with (first
    | (rw [←hw0];clear hw0;go_at_call 101;refine K1.out.mono ?_;rintro e w1 ⟨rfl,ht1,hs1⟩;have HT1:=Lib.hid ht1;have HS1:=Lib.hid hs1;have HN1:=Lib.hid (HN0.out.mv ht1);have d1:=HN1.out.c1;clear ht1 hs1)
    | (go_at_call 122;(with_reducible refine (K2.out w1 HS1.out).mono ?_);rintro e w2 ⟨rfl,hb2⟩;have HT2:=Lib.hid (HT1.out.trans (Touch.of_below hb2));have HS2:=Lib.hid (HS1.out.below hb2);have HN2:=Lib.hid (HN1.out.below hb2);have d2:=HN2.out.c1;clear hb2)
    | (go_at_call 103;(with_reducible refine (K3.out w2 HS2.out).mono ?_);rintro e w3 ⟨ht3,rfl,hs3⟩;have HT3:=Lib.hid (HT2.out.trans ht3);clear ht3))
   refine ⟨rfl,?_⟩
   rw [HRR.out]
   exact ⟨touch_p ((Touch.of_below HB0.out).trans HT3.out),rfl,hs3⟩
  ·rw [hq] at hRR K3
   simp only at hRR
   have hql:=qnP_ok (hbs.drop _) hq
   rw [List.length_drop] at hql
   rw [List.drop_drop] at hRR
   have hnb:Bs ((xs.drop (k+m)).take i):=(hbs.drop _).take _
   have hnl:((xs.drop (k+m)).take i).length≤1000000:=by rw [List.length_take,List.length_drop];omega
   obtain ⟨nm,hnm⟩:∃ nm,nm=(xs.drop (k+m)).take i:=⟨_,rfl⟩
   rw [←hnm] at hRR hnb hnl
   obtain ⟨k2,hk2⟩:∃ k2,k2=k+m+i:=⟨_,rfl⟩
   rw [←hk2] at hRR
   have K3:Hid (∀ W,Scn W p ao c xs bg (k+m)→Calls Tryz.prog 103 #[.pointer (some ⟨p,0,none⟩)] W fun e w'=>Touch (fun i=>i=p) W w'∧e = .returned (.string (txt nm))∧Scn w' p ao c xs bg k2):=Lib.hid fun W hW=>by
    have:=K3.out W hW
    unfold StTo at this
    rw [hnm,hk2]
    exact this
   have K4:=Lib.hid fun (W:World) (hW:Scn W p ao c xs bg k2)=>value_any W p ao c xs bg k2 hW
   rcases hv:vlP (xs.drop k2) with er | ⟨v,j⟩
   ·rw [hv] at hRR K4
    simp only at hRR
    have HRR:=Lib.hid hRR
    have K4:Hid (∀ W,Scn W p ao c xs bg k2→Calls Tryz.prog 139 #[.pointer (some ⟨p,0,none⟩)] W fun e w'=>Touch (fun i=>i=p) W w'∧e=kpan er∧∃ k',Scn w' p ao c xs bg k'):=K4
    clear h hN hbA hR0 h0 hRR hb hq END hql hv hnm hk2
    go_enter Tryz.func138,Tryz.ntmps138
    go_wp2_with (first
     | (rw [←hw0];clear hw0;go_at_call 101;refine K1.out.mono ?_;rintro e w1 ⟨rfl,ht1,hs1⟩;have HT1:=Lib.hid ht1;have HS1:=Lib.hid hs1;have HN1:=Lib.hid (HN0.out.mv ht1);have d1:=HN1.out.c1;clear ht1 hs1)
     | (go_at_call 122;(with_reducible refine (K2.out w1 HS1.out).mono ?_);rintro e w2 ⟨rfl,hb2⟩;have HT2:=Lib.hid (HT1.out.trans (Touch.of_below hb2));have HS2:=Lib.hid (HS1.out.below hb2);have HN2:=Lib.hid (HN1.out.below hb2);have d2:=HN2.out.c1;clear hb2)
     | (go_at_call 103;(with_reducible refine (K3.out w2 HS2.out).mono ?_);rintro e w3 ⟨ht3,rfl,hs3⟩;have HT3:=Lib.hid (HT2.out.trans ht3);have HS3:=Lib.hid hs3;have HN3:=Lib.hid (HN2.out.mv ht3);have d3:=HN3.out.c1;clear ht3 hs3)
     | (go_at_call 139;(with_reducible refine (K4.out w3 HS3.out).mono ?_);rintro e w4 ⟨ht4,rfl,hs4⟩;have HT4:=Lib.hid (HT3.out.trans ht4);clear ht4))
    refine ⟨rfl,?_⟩
    rw [HRR.out]
    exact ⟨touch_p ((Touch.of_below HB0.out).trans HT4.out),rfl,hs4⟩
   ·rw [hv] at hRR K4
    simp only at hRR
    have K4:Hid (∀ W,Scn W p ao c xs bg k2→Calls Tryz.prog 139 #[.pointer (some ⟨p,0,none⟩)] W fun e w'=>Touch (fun i=>i=p) W w'∧e = .returned (.string (txt v))∧Bs v∧Scn w' p ao c xs bg (k2+j)):=K4
    have hkey:=key9 (txt nm) (by rw [txt_size];exact hnl)
    rw [txt_list] at hkey
    have hmem:(u8L nm∈keys.map u8L)↔nm∈keys:=by
     constructor
     ·intro hh
      obtain ⟨y,hy,he⟩:=List.mem_map.1 hh
      rwa [←u8L_inj (hkb y hy) hnb he]
     ·intro hh;exact List.mem_map.2 ⟨nm,hh,rfl⟩
    have HH:Hid (Maps.has D (.string (u8L nm))=decide (nm∈keys)):=Lib.hid (by rw [hN.seen.has];exact decide_eq_decide.2 hmem)
    have hnle:=hN.le
    obtain ⟨A,hA⟩:∃ A,A=txt nm:=⟨_,rfl⟩
    obtain ⟨V,hV⟩:∃ V,V=txt v:=⟨_,rfl⟩
    obtain ⟨k3,hk3⟩:∃ k3,k3=k2+j:=⟨_,rfl⟩
    have HK3:Hid (k+(m+(i+j))=k3):=Lib.hid (by omega)
    rw [←hA] at K3 hkey
    rw [←hV,←hk3] at K4
    obtain ⟨dd,hdd⟩:∃ dd,dd=decide (nm∈keys):=⟨_,rfl⟩
    rw [←hdd] at HH
    have HA:=Lib.hid hA
    have HV:=Lib.hid hV
    have HNB:=Lib.hid hnb
    by_cases hin:nm∈keys
    ·rw [if_pos hin] at hRR
     have HRR:=Lib.hid hRR
     rw [decide_eq_true hin] at hdd
     subst hdd
     clear h hN hbA hR0 h0 hRR hb hq END hql hv hnm hk2 hA hV hk3 hmem hin
     go_enter Tryz.func138,Tryz.ntmps138
     go_wp2_with (first
      | (rw [←hw0];clear hw0;go_at_call 101;refine K1.out.mono ?_;rintro e w1 ⟨rfl,ht1,hs1⟩;have HT1:=Lib.hid ht1;have HS1:=Lib.hid hs1;have HN1:=Lib.hid (HN0.out.mv ht1);have d1:=HN1.out.c1;clear ht1 hs1)
      | (go_at_call 122;(with_reducible refine (K2.out w1 HS1.out).mono ?_);rintro e w2 ⟨rfl,hb2⟩;have HT2:=Lib.hid (HT1.out.trans (Touch.of_below hb2));have HS2:=Lib.hid (HS1.out.below hb2);have HN2:=Lib.hid (HN1.out.below hb2);have d2:=HN2.out.c1;clear hb2)
      | (go_at_call 103;(with_reducible refine (K3.out w2 HS2.out).mono ?_);rintro e w3 ⟨ht3,rfl,hs3⟩;have HT3:=Lib.hid (HT2.out.trans ht3);have HS3:=Lib.hid hs3;have HN3:=Lib.hid (HN2.out.mv ht3);have d3:=HN3.out.c1;clear ht3 hs3)
      | (go_at_call 139;(with_reducible refine (K4.out w3 HS3.out).mono ?_);rintro e w4 ⟨ht4,rfl,hvb4,hs4⟩;have HT4:=Lib.hid (HT3.out.trans ht4);have HS4:=Lib.hid hs4;have HN4:=Lib.hid (HN3.out.mv ht4);have d4:=HN4.out.c2;clear ht4 hs4)
      | (at_lookup;refine wpList_lookup_own_unit _ rfl _ _ 151 rfl 9 152 keyed9 Tryz.underlying151 (zero152 _) mb n D rfl HN4.out.own _ _ rfl hkey ?_;rw [HH.out])
      | (go_at_call 97;refine (must_no 22 _).mono ?_;rintro e w0 ⟨rfl,rfl⟩))
     refine ⟨rfl,?_⟩
     rw [HRR.out]
     exact ⟨touch_p ((Touch.of_below HB0.out).trans (HT4.out.alloc _)),rfl,_,HS4.out.below (lit_below _ _)⟩
    ·rw [if_neg hin] at hRR
     have HRR:=Lib.hid hRR
     rw [decide_eq_false hin] at hdd
     subst hdd
     clear h hN hbA hR0 h0 hRR hb hq END hql hv hnm hk2 hA hV hk3 hmem hin
     go_enter Tryz.func138,Tryz.ntmps138
     go_wp2_with (first
      | (rw [←hw0];clear hw0;go_at_call 101;refine K1.out.mono ?_;rintro e w1 ⟨rfl,ht1,hs1⟩;have HT1:=Lib.hid ht1;have HS1:=Lib.hid hs1;have HN1:=Lib.hid (HN0.out.mv ht1);have d1:=HN1.out.c1;clear ht1 hs1)
      | (go_at_call 122;(with_reducible refine (K2.out w1 HS1.out).mono ?_);rintro e w2 ⟨rfl,hb2⟩;have HT2:=Lib.hid (HT1.out.trans (Touch.of_below hb2));have HS2:=Lib.hid (HS1.out.below hb2);have HN2:=Lib.hid (HN1.out.below hb2);have d2:=HN2.out.c1;clear hb2)
      | (go_at_call 103;(with_reducible refine (K3.out w2 HS2.out).mono ?_);rintro e w3 ⟨ht3,rfl,hs3⟩;have HT3:=Lib.hid (HT2.out.trans ht3);have HS3:=Lib.hid hs3;have HN3:=Lib.hid (HN2.out.mv ht3);have d3:=HN3.out.c1;clear ht3 hs3)
      | (go_at_call 139;(with_reducible refine (K4.out w3 HS3.out).mono ?_);rintro e w4 ⟨ht4,rfl,hvb4,hs4⟩;have HT4:=Lib.hid (HT3.out.trans ht4);have HS4:=Lib.hid hs4;have HVB4:=Lib.hid hvb4;have HN4:=Lib.hid (HN3.out.mv ht4);have d4:=HN4.out.c2;have HN5:=Lib.hid (HN4.out.below (lit_below w4 (.cells #[] 152)));have d5:=HN5.out.c2;have HR4:=Lib.hid (HR0.out.touch HT4.out hne);have HR5:=Lib.hid (HR4.out.below (lit_below w4 (.cells #[] 152)));clear ht4 hs4 hvb4)
      | (at_lookup;refine wpList_lookup_own_unit _ rfl _ _ 151 rfl 9 152 keyed9 Tryz.underlying151 (zero152 _) mb n D rfl HN4.out.own _ _ rfl hkey ?_;rw [HH.out])
      | (go_at_call 97;refine (must_yes 22 _).mono ?_;rintro e w5 ⟨rfl,rfl⟩)
      | (at_mapUpdate;refine wpList_mapUpdate_in _ rfl _ _ _ 151 rfl 9 152 keyed9 Tryz.underlying151 unitElem mb n D rfl HN5.out.own (by unfold maxLen;omega) _ _ _ rfl rfl hkey (.agg []) [] unitElem_mk ?_;intro w6 hown6 hturn6;have HO6:=Lib.hid hown6;have HU6:=Lib.hid (turned_touch hturn6);have HR6:=Lib.hid (HR5.out.touch HU6.out hne2);have r0:=(HR6.out.cell 0).trans (show _=some (.string ⟨#[]⟩) from rfl);have r1:=(HR6.out.cell 1).trans (show _=some (.string ⟨#[]⟩) from rfl);have f0:=HR6.out.free 0;have f1:=HR6.out.free 1;clear hown6 hturn6))
     refine bodyPost_ret (res138 rfl rfl ((HR6.out.setCell 0 _).setCell 1 _)) rfl ?_
     rw [HRR.out]
     have hs5:=HS4.out.below (lit_below w4 (.cells #[] 152))
     have hs6:=hs5.touch HU6.out (fun e=>HN.out.n3 e.symm) (fun i hi=>by rw [hi];exact HN.out.low) (fun ad e hx hS=>by
      obtain ⟨x,hx⟩:=H.out.src_lt ad e hx
      rw [hS] at hx
      exact map_apart HN.out.own hx)
     obtain ⟨h1,h2⟩:=nx_store H.out hs6 HR6.out.lt (.string A) (.string V)
     have t6:Touch (fun i=>i=p∨i=mb) w w6:=(touch_p (((Touch.of_below HB0.out).trans HT4.out).alloc _)).trans (HU6.out.mono fun i hi => .inr hi)
     have tf:=t6.trans' h2 (S:=fun i=>i=p∨i=mb) fun i hi hlt=>by omega
     have ne3:q1<w.heap.size:=HN.out.b1.lt
     have ne4:q2<w.heap.size:=HN.out.b2.lt
     rw [HA.out,HV.out]
     rw [HA.out,HV.out] at h1 h2 tf
     refine ⟨tf,rfl,by rw [HK3.out];exact h1,HNB.out,HVB4.out,_,⟨((HN5.out.b1.touch HU6.out (fun e=>HN.out.n4 e)).touch h2 (by omega)),((HN5.out.b2.touch HU6.out (fun e=>HN.out.n5 e)).touch h2 (by omega)),owns_touch HO6.out h2 (by omega),?_,HN.out.n1,HN.out.n2,HN.out.n3,HN.out.n4,HN.out.n5,by omega,HN.out.low⟩⟩
     rw [List.map_append]
     exact HN.out.seen.put _
 ·rw [if_neg hb] at hRR
  rw [show begP (nx (xs.drop (k+m))).1=false by simpa using hb] at K2
  have HRR:=Lib.hid hRR
  clear h hN hbA hR0 h0 hRR hb
  go_enter Tryz.func138,Tryz.ntmps138
  go_wp2_with (first
   | (rw [←hw0];clear hw0;go_at_call 101;refine K1.out.mono ?_;rintro e w1 ⟨rfl,ht1,hs1⟩;have HT1:=Lib.hid ht1;have HS1:=Lib.hid hs1;have HN1:=Lib.hid (HN0.out.mv ht1);have HR1:=Lib.hid (HR0.out.touch ht1 hne);have d1:=HN1.out.c1;clear ht1 hs1)
   | (go_at_call 122;(with_reducible refine (K2.out w1 HS1.out).mono ?_);rintro e w2 ⟨rfl,hb2⟩;have HT2:=Lib.hid (HT1.out.trans (Touch.of_below hb2));have HS2:=Lib.hid (HS1.out.below hb2);have HR2:=Lib.hid (HR1.out.below hb2);have r0:=(HR2.out.cell 0).trans (show _=some (.string ⟨#[]⟩) from rfl);have r1:=(HR2.out.cell 1).trans (show _=some (.string ⟨#[]⟩) from rfl);have f0:=HR2.out.free 0;have f1:=HR2.out.free 1;clear hb2))
  exact bodyPost_ret (res138 rfl rfl ((HR2.out.setCell 0 _).setCell 1 _)) rfl (END.out m w2 HRR.out HT2.out HS2.out HR2.out)
end
end Go.Proofs.YtbogfailbgbdoaaGreatDoor.K
