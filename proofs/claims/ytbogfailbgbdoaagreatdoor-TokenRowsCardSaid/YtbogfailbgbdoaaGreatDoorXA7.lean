/- Part 7. -/
import Derived.Test.YtbogfailbgbdoaaGreatDoorXA6
set_option linter.unusedVariables false
set_option linter.unusedSimpArgs false
namespace Go.Proofs.YtbogfailbgbdoaaGreatDoor.K
set_option maxRecDepth 100000
section
open Go.RowKit Go.Proofs.YtbogfailbgbdoaaGreatDoor U
structure Pl (w W:World) (g cp:Nat) (L:List Nat):Prop where
 below:Below w.heap.size w W
 ge:w.heap.size≤g
 sl:Sl W (some ⟨g,0,none⟩) cp L
 fr:∀ i,i<L.length→W.frozen? ⟨g,i,none⟩=false
theorem Pl.cell {w W:World} {g cp:Nat} {L:List Nat} (h:Pl w W g cp L) {i:Nat} (hi:i<L.length):W.cell? ⟨g,i,none⟩=some (.int .u8 (L.getD i 0:Nat)):=by
 have:=h.sl.cell i hi
 rwa [Nat.zero_add] at this
theorem Pl.set {w W:World} {g cp:Nat} {L:List Nat} (h:Pl w W g cp L) {i:Nat} (hi:i<L.length) (x:Nat) (hx:x<256):Pl w (W.setCell ⟨g,i,none⟩ (.int .u8 (x:Nat))) g cp (L.set i x):=by
 refine ⟨h.below.setCell (p:=⟨g,i,none⟩) h.ge _,h.ge,⟨?_,by rw [List.length_set];exact h.sl.le,h.sl.big,h.sl.nil,?_⟩,?_⟩
 ·refine .inr ⟨g,0,rfl,fun j hj=>?_⟩
  rw [List.length_set] at hj
  rw [Nat.zero_add]
  by_cases e:i=j
  ·subst e
   rw [World.cell?_setCell_same _ _ _ (h.cell hi)]
   simp [List.getD,hi]
  ·rw [World.cell?_setCell_other _ _ _ _ (by intro e';injection e' with _ e2;exact e e2)]
   rw [h.cell hj]
   simp [List.getD,e]
 ·intro y hy
  rcases List.mem_or_eq_of_mem_set hy with hy | hy
  ·exact h.sl.bs y hy
  ·omega
 ·intro j hj
  rw [List.length_set] at hj
  rw [World.frozen?_setCell]
  exact h.fr j hj
theorem text_run2 (s:ByteArray) (hl:s.size≤1000000):∃ (NEW:World→World) (CAP:World→Nat),(∀ W,(convert 9 22 (.string s)).run Tryz.prog W = .ok (.slice (some ⟨W.heap.size,0,none⟩) s.size (CAP W)) (NEW W))∧(∀ W,Pl W (NEW W) W.heap.size (CAP W) (bts s)):=by
 obtain ⟨NEW,CAP,h1,h2,h3⟩:=text_run s hl
 refine ⟨NEW,CAP,h1,fun W=>⟨h2 W,Nat.le_refl _,h3 W,fun i hi=>?_⟩⟩
 have hrun:=run_bytes_of_string (P:=Tryz.prog) W 9 22 5 s Tryz.underlying9 Tryz.underlying22 Tryz.underlying5
 rw [h1 W] at hrun
 injection hrun with _ hw
 rw [hw]
 rw [bts_len] at hi
 have hge:s.size≤grownCap W s.size 0 5:=grownCap_ge W s.size 0 5
 have hsz:i<(bytesRow s (grownCap W s.size 0 5)).size:=by
  have:s.size≤(bytesRow s (grownCap W s.size 0 5)).size:=by simp [bytesRow]
  omega
 have hh:=heap_alloc_new W.drew (.cells (bytesRow s (grownCap W s.size 0 5)) 5 ((bytesRow s (grownCap W s.size 0 5)).size,(bytesRow s (grownCap W s.size 0 5)).size+1))
 show World.frozen? _ ⟨W.drew.heap.size,i,none⟩=false
 unfold World.frozen?
 rw [hh]
 simp
 omega
theorem flat_step {T:List Nat} {j:Nat} (h:j<T.length):flat (T.take (j+1))++T.drop (j+1)=(flat (T.take j)++T.drop j).set j (if T.getD j 0=9∨T.getD j 0=10 then 32 else T.getD j 0):=by
 have e:T.getD j 0=T[j]:=by simp [List.getD,h]
 have hl:(flat (T.take j)).length=j:=by simp [flat];omega
 rw [take_next T j h]
 unfold flat at hl ⊢
 rw [List.map_append,List.set_append,if_neg (by omega),hl,Nat.sub_self]
 conv=>rhs;rw [List.drop_eq_getElem_cons h,List.set_cons_zero]
 simp
theorem flat_len (T:List Nat):(flat T).length=T.length:=by simp [flat]
theorem flat_bs {T:List Nat} (h:Bs T):Bs (flat T):=fun x hx=>by
 obtain ⟨y,hy,rfl⟩:=List.mem_map.1 hx
 have:=h y hy
 split <;> omega
theorem told_bs:∀ (n:Nat) (L v:List Nat),L.length≤n→Bs L→told L=some v→Bs v
 | n,[],v,_,_,h=>by
  rw [told_nil] at h;injection h with h;subst h;exact Bs.nil
 | 0,c::t,v,hn,_,_=>by simp at hn
 | n+1,c::t,v,hn,hb,h=>by
  have ht:t.length≤n:=by simpa using hn
  have hbt:Bs t:=fun x hx=>hb x (by simp [hx])
  by_cases hc:c=38
  ·subst hc
   rw [told_amp] at h
   rcases hj:ix [59] t with _ | j
   ·rw [hj] at h;cases h
   ·rw [hj] at h
    simp only at h
    rcases hg:signOf (t.take j) with _ | x
    ·rw [hg] at h;cases h
    ·rw [hg] at h
     simp only at h
     rcases ho:told (t.drop (j+1)) with _ | u
     ·rw [ho] at h;cases h
     ·rw [ho] at h
      simp at h
      subst h
      exact (enc_bs (charP_sign (signOf_char hg))).app (told_bs n _ u (by rw [List.length_drop];omega) (hbt.drop _) ho)
  ·rw [told_ne hc] at h
   rcases ho:told t with _ | u
   ·rw [ho] at h;cases h
   ·rw [ho] at h
    simp at h
    subst h
    intro x hx
    rcases List.mem_cons.1 hx with hx | hx
    ·subst hx;exact hb _ (by simp)
    ·exact told_bs n t u ht hbt ho x hx
theorem takesN (w:World) (p:Nat) (ao:Option Addr) (c:Nat) (xs:List Nat) (bg k:Nat) (S:ByteArray) (s:List Nat) (n:Nat) (hS:S=txt s) (hn:s.length=n) (hs:Bs s) (hl:s.length≤1000) (hp:s <+: xs.drop k) (h:Scn w p ao c xs bg k) :
  Calls Tryz.prog 70 #[.pointer (some ⟨p,0,none⟩),.string S] w fun e w'=>e = .returned (.bool true)∧Touch (fun i=>i=p) w w'∧Scn w' p ao c xs bg (k+n):=by
 subst hn;exact takes_yes w p ao c xs bg k S s hS hs hl hp h
theorem upToN (w:World) (p:Nat) (ao:Option Addr) (c:Nat) (xs:List Nat) (bg k:Nat) (S:ByteArray) (s:List Nat) (i n:Nat) (hS:S=txt s) (hn:k+i+s.length=n) (hs:Bs s) (hl:s.length≤1000) (hp:ix s (xs.drop k)=some i) (h:Scn w p ao c xs bg k) :
  Calls Tryz.prog 73 #[.pointer (some ⟨p,0,none⟩),.string S] w fun e w'=>e = .returned (.string (txt ((xs.drop k).take i)))∧Touch (fun j=>j=p) w w'∧Scn w' p ao c xs bg n:=by
 subst hn;exact upTo_yes w p ao c xs bg k S s i hS hs hl hp h
def VlTo (p:Nat) (ao:Option Addr) (c:Nat) (xs:List Nat) (bg k:Nat) (r:Except Nat (List Nat × Nat)) (w:World) (e:Ending) (w':World):Prop:=
 Touch (fun i=>i=p) w w'∧match r with
  | .error er=>e=kpan er∧∃ k',Scn w' p ao c xs bg k'
  | .ok (v,n)=>e = .returned (.string (txt v))∧Bs v∧Scn w' p ao c xs bg (k+n)
set_option maxHeartbeats 6400000 in
theorem value_39 (w:World) (p:Nat) (ao:Option Addr) (c:Nat) (xs:List Nat) (bg k b:Nat) (h:Scn w p ao c xs bg k)
  (hb1:[61] <+: xs.drop (k+sk blaP (xs.drop k))) (hbe:b=k+sk blaP (xs.drop k)+1+sk blaP (xs.drop (k+sk blaP (xs.drop k)+1))) (hq:[39] <+: xs.drop b) :
  Calls Tryz.prog 139 #[.pointer (some ⟨p,0,none⟩)] w (VlTo p ao c xs bg (b+1) (quP 39 (xs.drop (b+1))) w):=by
 have H:=Lib.hid h
 have hlen:=h.len
 have K1:=Lib.hid (blanks_any w p ao c xs bg k h)
 obtain ⟨a,ha⟩:∃ a,a=k+sk blaP (xs.drop k):=⟨_,rfl⟩
 rw [←ha] at hb1 hbe K1
 have K2:=Lib.hid fun (W:World) (hW:Scn W p ao c xs bg a)=>takesN W p ao c xs bg a ⟨#[61]⟩ [61] 1 rfl rfl (fun x hx=>by simp at hx;omega) (by simp) hb1 hW
 have K3:=Lib.hid fun (W:World) (hW:Scn W p ao c xs bg (a+1))=>blanks_any W p ao c xs bg (a+1) hW
 rw [←hbe] at K3
 have K4:=Lib.hid fun (W:World) (hW:Scn W p ao c xs bg b)=>takesN W p ao c xs bg b ⟨#[39]⟩ [39] 1 rfl rfl (fun x hx=>by simp at hx;omega) (by simp) hq hW
 have hql:=pre_le (by simp) hq
 simp only [List.length_cons,List.length_nil] at hql
 obtain ⟨RR,hRR⟩:∃ RR,RR=quP 39 (xs.drop (b+1)):=⟨_,rfl⟩
 rw [←hRR]
 unfold quP at hRR
 generalize decide (0<sk blaP (xs.drop k))=z1 at K1
 generalize decide (0<sk blaP (xs.drop (a+1)))=z2 at K3
 rcases hu:upP [39] (xs.drop (b+1)) with er | i
 ·have hix:ix [39] (xs.drop (b+1))=none∧er=22:=by
   unfold upP at hu
   rcases hi:ix [39] (xs.drop (b+1)) with _ | i
   ·rw [hi] at hu;injection hu with hu;exact ⟨rfl,hu.symm⟩
   ·rw [hi] at hu;cases hu
  obtain ⟨hix,rfl⟩:=hix
  rw [hu] at hRR
  have HRR:Hid (RR = .error 22):=Lib.hid hRR
  have K6:=Lib.hid fun (W:World) (hW:Scn W p ao c xs bg (b+1))=>upTo_no W p ao c xs bg (b+1) ⟨#[39]⟩ [39] rfl (fun x hx=>by simp at hx;omega) (by simp) hix hW
  clear h hb1 hbe ha hu hix hql hRR hq
  go_enter Tryz.func139,Tryz.ntmps139
  go_wp2_with (first
   | (go_at_call 101;(with_reducible refine K1.out.mono ?_);rintro e w1 ⟨rfl,ht1,hs1⟩;have HT1:=Lib.hid ht1;have HS1:=Lib.hid hs1;clear ht1 hs1)
   | (go_at_call 70;(with_reducible refine (K2.out w1 HS1.out).mono ?_);rintro e w2 ⟨rfl,ht2,hs2⟩;have HT2:=Lib.hid (HT1.out.trans ht2);have HS2:=Lib.hid hs2;clear ht2 hs2)
   | (go_at_call 97;refine (must_yes 22 _).mono ?_;rintro e w0 ⟨rfl,rfl⟩)
   | (go_at_call 101;(with_reducible refine (K3.out w2 HS2.out).mono ?_);rintro e w3 ⟨rfl,ht3,hs3⟩;have HT3:=Lib.hid (HT2.out.trans ht3);have HS3:=Lib.hid hs3;clear ht3 hs3)
   | (go_at_call 70;(with_reducible refine (K4.out w3 HS3.out).mono ?_);rintro e w4 ⟨rfl,ht4,hs4⟩;have HT4:=Lib.hid (HT3.out.trans ht4);have HS4:=Lib.hid hs4;clear ht4 hs4)
   | (go_at_call 73;(with_reducible refine (K6.out w4 HS4.out).mono ?_);rintro e w6 ⟨rfl,hb6⟩;have HT6:=Lib.hid (HT4.out.trans (Touch.of_below hb6));have HS6:=Lib.hid (HS4.out.below hb6);clear hb6))
  refine ⟨rfl,?_⟩
  rw [HRR.out]
  exact ⟨HT6.out,rfl,b+1,HS6.out⟩
 have hix:ix [39] (xs.drop (b+1))=some i:=by
  unfold upP at hu
  rcases hi:ix [39] (xs.drop (b+1)) with _ | i2
  ·rw [hi] at hu;cases hu
  ·rw [hi] at hu;injection hu with hu;rw [hu]
 have hil:=ix_le hix
 rw [List.length_drop] at hil
 simp only [List.length_cons,List.length_nil] at hil
 have K6:=Lib.hid fun (W:World) (hW:Scn W p ao c xs bg (b+1))=>upToN W p ao c xs bg (b+1) ⟨#[39]⟩ [39] i (b+1+i+1) rfl rfl (fun x hx=>by simp at hx;omega) (by simp) hix hW
 have hpb:Bs ((xs.drop (b+1)).take i):=(h.bs.drop _).take _
 have hpl:((xs.drop (b+1)).take i).length=i:=by rw [List.length_take,List.length_drop];omega
 rw [hu] at hRR
 simp only at hRR
 obtain ⟨P,hP⟩:∃ P,P=(xs.drop (b+1)).take i:=⟨_,rfl⟩
 obtain ⟨e6,he6⟩:∃ e6,e6=b+1+(i+1):=⟨_,rfl⟩
 have e6':b+1+i+1=e6:=by omega
 rw [e6'] at K6
 have HE6:=Lib.hid he6
 rw [←hP] at K6 hpb hpl hRR
 obtain ⟨TP,hTP⟩:∃ TP,TP=txt P:=⟨_,rfl⟩
 rw [←hTP] at K6
 have hzp:TP.size=i:=by rw [hTP,txt_size,hpl]
 have hbt:bts TP=P:=by rw [hTP];exact bts_txt hpb
 obtain ⟨NEW,CAP,hcvt,hnp⟩:=text_run2 TP (by omega)
 rw [hzp] at hcvt
 rw [hbt] at hnp
 have HNP:=Lib.hid hnp
 have HPB:=Lib.hid hpb
 have hi6:i≤1000000:=by omega
 obtain ⟨R,hR⟩:∃ R,R=plP P:=⟨_,rfl⟩
 have HR:=Lib.hid hR
 rw [←hR] at hRR
 have HRR:=Lib.hid hRR
 clear h hb1 hbe ha hu hix hil hql hnp hP hTP hzp hbt hR he6 e6' hRR hq
 go_enter Tryz.func139,Tryz.ntmps139
 go_upto_region 9 with (first
   | (go_at_call 101;(with_reducible refine K1.out.mono ?_);rintro e w1 ⟨rfl,ht1,hs1⟩;have HT1:=Lib.hid ht1;have HS1:=Lib.hid hs1;clear ht1 hs1)
   | (go_at_call 70;(with_reducible refine (K2.out w1 HS1.out).mono ?_);rintro e w2 ⟨rfl,ht2,hs2⟩;have HT2:=Lib.hid (HT1.out.trans ht2);have HS2:=Lib.hid hs2;clear ht2 hs2)
   | (go_at_call 97;refine (must_yes 22 _).mono ?_;rintro e w0 ⟨rfl,rfl⟩)
   | (go_at_call 101;(with_reducible refine (K3.out w2 HS2.out).mono ?_);rintro e w3 ⟨rfl,ht3,hs3⟩;have HT3:=Lib.hid (HT2.out.trans ht3);have HS3:=Lib.hid hs3;clear ht3 hs3)
   | (go_at_call 70;(with_reducible refine (K4.out w3 HS3.out).mono ?_);rintro e w4 ⟨rfl,ht4,hs4⟩;have HT4:=Lib.hid (HT3.out.trans ht4);have HS4:=Lib.hid hs4;clear ht4 hs4)
   | (go_at_call 73;(with_reducible refine (K6.out w4 HS4.out).mono ?_);rintro e w6 ⟨rfl,ht6,hs6⟩;have HT6:=Lib.hid (HT4.out.trans ht6);have HS6:=Lib.hid hs6;clear ht6 hs6))
 have hpl6:=HNP.out w6
 obtain ⟨g,hg⟩:∃ g,g=w6.heap.size:=⟨_,rfl⟩
 obtain ⟨cp,hcp⟩:∃ cp,cp=CAP w6:=⟨_,rfl⟩
 obtain ⟨w7,hw7⟩:∃ w7,w7=NEW w6:=⟨_,rfl⟩
 rw [←hg,←hcp,←hw7] at hpl6 ⊢
 have HPL6:=Lib.hid hpl6
 clear hpl6 hg hcp hw7 hcvt HNP
 go_wp2
 go_loopw [30] (fun vi wr=>∃ j:Nat,j≤i∧vi = .int .i64 (j:Nat)∧Hid (Pl w6 wr g cp (flat (P.take j)++P.drop j))∧Hid (60∉P.take j)) (fun vi _=>i-(intOf vi).toNat)
 case atStart=>exact ⟨0,Nat.zero_le _,rfl,Lib.hid (by simpa [flat] using HPL6.out),Lib.hid (by simp)⟩
 case round=>
  obtain ⟨j,hj,rfl,hpl7,hno⟩:=hrel
  by_cases hlt:j<i
  ·have hji:(j:Int)<i:=by omega
   have hjP:j<P.length:=by omega
   have hjF:j<(flat (P.take j)++P.drop j).length:=by rw [List.length_append,flat_len,List.length_take,List.length_drop];omega
   have hcell:=hpl7.out.cell hjF
   have hfr:=hpl7.out.fr j hjF
   have hat:(flat (P.take j)++P.drop j).getD j 0=P.getD j 0:=by
    rw [List.getD_eq_getElem?_getD,List.getElem?_append_right (by rw [flat_len,List.length_take];omega),flat_len,List.length_take,Nat.min_eq_left (by omega),Nat.sub_self,List.getElem?_drop,List.getD_eq_getElem?_getD];rfl
   rw [hat] at hcell
   have hfs:=flat_step hjP
   have htn:=take_next P j hjP
   have hx:=HPB.out.at j
   obtain ⟨x,hxx⟩:∃ x,x=P.getD j 0:=⟨_,rfl⟩
   rw [←hxx] at hcell hfs htn hx
   have HS:=Lib.hid (HS6.out.below hpl7.out.below)
   have HBL:=Lib.hid hpl7.out.below
   by_cases c60:x=60
   ·subst c60
    have HRN:Hid (R = .error 22):=Lib.hid (by
     rw [HR.out,plP,if_pos]
     rw [hxx]
     rw [List.getD_eq_getElem?_getD,List.getElem?_eq_getElem hjP]
     exact List.getElem_mem _)
    clear hfs htn hxx hat
    go_wp2_with (go_at_call 97;refine (must_no 22 _).mono ?_;rintro e w8 ⟨rfl,rfl⟩)
    refine ⟨rfl,?_⟩
    rw [HRR.out,HRN.out]
    exact ⟨HT6.out.trans (Touch.of_below HBL.out),rfl,_,HS.out⟩
   ·have c60':¬(x:Int)=60:=by omega
    have b60:((x:Int) != 60)=true:=by simpa using c60'
    have HNO:Hid (60∉P.take (j+1)):=Lib.hid (by
     rw [htn]
     intro hm
     rcases List.mem_append.1 hm with hm | hm
     ·exact hno.out hm
     ·rw [List.mem_singleton] at hm;exact c60 hm.symm)
    by_cases c9:x=9
    ·rw [if_pos (.inl c9)] at hfs
     have HPN:Hid (Pl w6 (wr.setCell ⟨g,j,none⟩ (.int .u8 32)) g cp (flat (P.take (j+1))++P.drop (j+1))):=Lib.hid (by rw [hfs];exact hpl7.out.set hjF 32 (by decide))
     subst c9
     clear hfs htn hxx hat c60
     go_wp2_with (go_at_call 97;refine (must_yes 22 _).mono ?_;rintro e w8 ⟨rfl,rfl⟩)
     refine ⟨⟨j+1,by omega,by go_num,HPN,HNO⟩,?_⟩
     simp [intOf];omega
    ·have c9':¬(x:Int)=9:=by omega
     by_cases c10:x=10
     ·rw [if_pos (.inr c10)] at hfs
      have HPN:Hid (Pl w6 (wr.setCell ⟨g,j,none⟩ (.int .u8 32)) g cp (flat (P.take (j+1))++P.drop (j+1))):=Lib.hid (by rw [hfs];exact hpl7.out.set hjF 32 (by decide))
      subst c10
      clear hfs htn hxx hat c60 c9
      go_wp2_with (go_at_call 97;refine (must_yes 22 _).mono ?_;rintro e w8 ⟨rfl,rfl⟩)
      refine ⟨⟨j+1,by omega,by go_num,HPN,HNO⟩,?_⟩
      simp [intOf];omega
     ·have c10':¬(x:Int)=10:=by omega
      have b9:((x:Int) == 9)=false:=by simpa using c9'
      have b10:((x:Int) == 10)=false:=by simpa using c10'
      rw [if_neg (fun hh=>by
                   rcases hh with hh | hh;· exact c9 hh
                   exact c10 hh)] at hfs
      have HPN:Hid (Pl w6 wr g cp (flat (P.take (j+1))++P.drop (j+1))):=Lib.hid (by
       rw [hfs,hxx,←hat,List.getD_eq_getElem?_getD,List.getElem?_eq_getElem hjF,Option.getD_some,List.set_getElem_self];exact hpl7.out)
      clear hfs htn hxx hat c60 c9 c10
      go_wp2_with (go_at_call 97;refine (must_yes 22 _).mono ?_;rintro e w8 ⟨rfl,rfl⟩)
      refine ⟨⟨j+1,by omega,by go_num,HPN,HNO⟩,?_⟩
      simp [intOf];omega
  ·obtain rfl:j=i:=by omega
   have htk:P.take j=P:=List.take_of_length_le (by omega)
   have hPL:=hpl7.out
   rw [htk,List.drop_eq_nil_of_le (by omega),List.append_nil] at hPL
   have h60:=hno.out
   rw [htk] at h60
   have hfl:(flat P).length=j:=by rw [flat_len,hpl]
   have hcv:=conv_txt hPL.sl
   rw [hfl] at hcv
   have HS:=Lib.hid (HS6.out.below hPL.below)
   have HBL:=Lib.hid hPL.below
   have KT:=told_any (flat P) _ rfl (flat_bs HPB.out) wr (by omega) HS.out.tt
   have HTB:=Lib.hid fun v (hv:told (flat P)=some v)=>told_bs _ _ v (Nat.le_refl _) (flat_bs HPB.out) hv
   have hrr:R=match told (flat P) with
     | none => .error 22
     | some v => .ok v:=by rw [HR.out,plP,if_neg h60];cases told (flat P) <;> rfl
   generalize txt (flat P)=TF at hcv KT
   have KT:=Lib.hid KT
   rcases ho:told (flat P) with _ | v
   ·rw [ho] at KT hrr
    simp only at hrr
    unfold tdR at KT
    simp only at KT
    have HRN:=Lib.hid hrr
    clear hrr ho HTB hPL h60 htk hfl
    go_wp2_with (first
     | (go_at_call 28;(with_reducible refine KT.out.mono ?_);rintro e w9 ⟨rfl,hb9⟩;have HB9:=Lib.hid (HBL.out.trans (hb9.mono HBL.out.size));have HS9:=Lib.hid (HS.out.below hb9);clear hb9)
     | (go_at_call 97;refine (must_no 22 _).mono ?_;rintro e w8 ⟨rfl,rfl⟩))
    refine ⟨rfl,?_⟩
    rw [HRR.out,HRN.out]
    exact ⟨HT6.out.trans (Touch.of_below HB9.out),rfl,_,HS9.out⟩
   ·have hvb:=Lib.hid (HTB.out v ho)
    rw [ho] at KT hrr
    simp only at hrr
    unfold tdR at KT
    simp only at KT
    have HRN:=Lib.hid hrr
    clear hrr ho HTB hPL h60 htk hfl
    go_wp2_with (first
     | (go_at_call 28;(with_reducible refine KT.out.mono ?_);rintro e w9 ⟨rfl,hb9⟩;have HB9:=Lib.hid (HBL.out.trans (hb9.mono HBL.out.size));have HS9:=Lib.hid (HS.out.below hb9);clear hb9)
     | (go_at_call 97;refine (must_yes 22 _).mono ?_;rintro e w8 ⟨rfl,rfl⟩))
    go_ret
    rw [HRR.out,HRN.out]
    exact ⟨HT6.out.trans (Touch.of_below HB9.out),rfl,hvb.out,by rw [←HE6.out];exact HS9.out⟩
end
end Go.Proofs.YtbogfailbgbdoaaGreatDoor.K
namespace Go.Proofs.YtbogfailbgbdoaaGreatDoor
set_option maxRecDepth 100000
section
open Go.RowKit U
def ends:Bool→List Nat→Nat
 | _,[]=>0
 | p,x::t=>(if x=13∨(x=10∧p=false) then 1 else 0)+ends (decide (x=13)) t
def tens (l:List Nat):Nat:=l.count 10
theorem tens_cons (x:Nat) (t:List Nat):tens (x::t)=(if x=10 then 1 else 0)+tens t:=by
 unfold tens
 rw [List.count_cons]
 by_cases h:x=10
 ·simp [h,Nat.add_comm]
 ·simp [h]
theorem lin_tens:∀ (b:List Nat) (p:Bool),tens (lin p b)=ends p b
 | [],p=>by cases p <;> rfl
 | x::t,p=>by
  unfold lin ends
  by_cases h:x=10∧p=true
  ·obtain ⟨rfl,rfl⟩:=h
   simp [lin_tens t]
  ·rw [if_neg h,tens_cons,lin_tens t]
   congr 1
   by_cases h1:x=13
   ·simp [h1]
   ·by_cases h2:x=10
    ·have h3:p=false:=by cases p with
      | true=>exact absurd ⟨h2,rfl⟩ h
      | false=>rfl
     simp [h2,h3]
    ·simp [h1,h2]
theorem lin_no13:∀ (b:List Nat) (p:Bool),∀ x∈lin p b,x≠13
 | [],p,x,h=>by cases p <;> simp [lin] at h
 | y::t,p,x,h=>by
  unfold lin at h
  split at h
  ·exact lin_no13 t _ x h
  ·rcases List.mem_cons.1 h with h | h
   ·subst h;split <;> omega
   ·exact lin_no13 t _ x h
theorem lin_same:∀ (l:List Nat),(∀ x∈l,x≠13)→lin false l=l
 | [],_=>rfl
 | x::t,h=>by
  have hx:x≠13:=h x (by simp)
  unfold lin
  rw [if_neg (by simp),if_neg hx,decide_eq_false hx,lin_same t fun y hy=>h y (by simp [hy])]
theorem lin_len (s:List Nat):(lin false s).length≤s.length:=by rw [←lin_r,r2_len];exact r1_len s
theorem lin_bs {s:List Nat} (h:Bs s):Bs (lin false s):=by rw [←lin_r];exact r2_bs (r1_bs h)
theorem ends_drop {b:List Nat} {k:Nat} (h:k<b.length) (p:Bool):ends p (b.drop k)=(if b.getD k 0=13∨(b.getD k 0=10∧p=false) then 1 else 0)+ends (decide (b.getD k 0=13)) (b.drop (k+1)):=by
 rw [List.drop_eq_getElem_cons h,ends]
 simp [List.getD,h]
theorem tens_drop {l:List Nat} {k:Nat} (h:k<l.length):tens (l.drop k)=(if l.getD k 0=10 then 1 else 0)+tens (l.drop (k+1)):=by
 rw [List.drop_eq_getElem_cons h,tens_cons]
 simp [List.getD,h]
def prv (b:List Nat) (k:Nat):Bool:=decide (0<k∧b.getD (k-1) 0=13)
theorem prv_succ (b:List Nat) (k:Nat):prv b (k+1)=decide (b.getD k 0=13):=by simp [prv]
theorem ends_le:∀ (b:List Nat) (p:Bool),ends p b≤b.length
 | [],p=>by cases p <;> simp [ends]
 | x::t,p=>by
  unfold ends
  have:=ends_le t (decide (x=13))
  simp only [List.length_cons]
  split <;> omega
end
end Go.Proofs.YtbogfailbgbdoaaGreatDoor
namespace Go.Proofs.YtbogfailbgbdoaaGreatDoor.K
set_option maxRecDepth 100000
section
open Go.RowKit Go.Proofs.YtbogfailbgbdoaaGreatDoor U
theorem nx_asc {c:Nat} (h:c<128) (t:List Nat):nx (c::t)=(c,1):=by
 have e:enc c=[c]:=by unfold enc;rw [if_pos h]
 have:=nx_enc (v:=c) ⟨by omega,by omega⟩ t
 rw [e] at this
 exact this
theorem enc_high {v:Nat} (h:isSign v) (h':128≤v):∀ x∈enc v,128≤x:=by
 have:=h.1
 intro x hx
 unfold enc at hx
 repeat' split at hx
 all_goals (simp at hx;omega)
theorem getD_app1 {A B:List Nat} {i:Nat} (h:i<A.length):(A++B).getD i 0=A.getD i 0:=by
 simp [List.getD,List.getElem?_append_left h]
theorem nx_dec {L:List Nat} (h:L≠[]):nx L=if (decL L).1=65533∧(decL L).2=1 then (0,0) else decL L:=by unfold nx;rw [if_neg h]
theorem nx_loc:∀ {A:List Nat} (Y Z:List Nat),(∃ x∈A,x<128)→nx (A++Y)=nx (A++Z)
 | [],_,_,h=>by obtain ⟨x,hx,_⟩:=h;cases hx
 | [a],Y,Z,h=>by
  obtain ⟨x,hx,h'⟩:=h
  simp at hx;subst hx
  show nx (x::Y)=nx (x::Z)
  rw [nx_asc h',nx_asc h']
 | [a,b],Y,Z,h=>by
  show nx (a::b::Y)=nx (a::b::Z)
  by_cases ha:a<128
  ·rw [nx_asc ha,nx_asc ha]
  have hb:b<128:=by
   obtain ⟨x,hx,h'⟩:=h
   simp at hx;rcases hx with rfl | rfl <;> omega
  have key:∀ Y,nx (a::b::Y)=(0,0):=fun Y=>by
   have:decL (a::b::Y)=(65533,1):=by
    unfold decL Go.Lib.decodeN
    simp only [List.getD_cons_zero,List.getD_cons_succ]
    rw [if_neg ha,if_neg (by omega),if_neg (by omega),if_neg (by omega)]
   unfold nx
   rw [if_neg (by simp),this,if_pos ⟨rfl,rfl⟩]
  rw [key,key]
 | [a,b,c],Y,Z,h=>by
  show nx (a::b::c::Y)=nx (a::b::c::Z)
  by_cases ha:a<128
  ·rw [nx_asc ha,nx_asc ha]
  have hb:b<128∨c<128:=by
   obtain ⟨x,hx,h'⟩:=h
   simp at hx;rcases hx with rfl | rfl | rfl <;> omega
  have key:∀ Y,decL (a::b::c::Y)=if a/32=6∧b/64=2 then (if a%32*64+b%64≥128 then (a%32*64+b%64,2) else (65533,1)) else (65533,1):=fun Y=>by
   unfold decL Go.Lib.decodeN
   simp only [List.getD_cons_zero,List.getD_cons_succ,List.length_cons]
   rw [if_neg ha]
   by_cases h6:a/32=6∧b/64=2
   ·rw [if_pos ⟨h6.1,by omega,h6.2⟩,if_pos h6]
   ·rw [if_neg (by omega),if_neg (by omega),if_neg (by omega),if_neg h6]
  rw [nx_dec (by simp),nx_dec (by simp),key,key]
 | a::b::c::d::t,Y,Z,h=>by
  show nx (a::b::c::d::(t++Y))=nx (a::b::c::d::(t++Z))
  have key:∀ n m,3<n→3<m→Go.Lib.decodeN n a b c d=Go.Lib.decodeN m a b c d:=fun n m hn hm=>by
   unfold Go.Lib.decodeN
   have e1:(1<n)=(1<m):=by simp;omega
   have e2:(2<n)=(2<m):=by simp;omega
   have e3:(3<n)=(3<m):=by simp;omega
   simp only [e1,e2,e3]
  have:∀ Y Z,decL (a::b::c::d::(t++Y))=decL (a::b::c::d::(t++Z)):=fun Y Z=>by
   unfold decL
   simp only [List.getD_cons_zero,List.getD_cons_succ,List.length_cons]
   exact key _ _ (by omega) (by omega)
  rw [nx_dec (by simp),nx_dec (by simp),this Y Z]
theorem nx_app {A:List Nat} (hb:Bs A) (h:(nx A).2≠0) (B:List Nat):nx (A++B)=nx A:=by
 obtain ⟨h1,h2,h3,h4⟩:=nx_some hb h
 have e:A=enc (nx A).1++A.drop (nx A).2:=by rw [←h3,List.take_append_drop]
 have e2:=nx_enc h1 (A.drop (nx A).2++B)
 rw [←List.append_assoc,←e] at e2
 rw [e2,←h2]
theorem al_k (p:Nat→Bool):∀ (n:Nat) (L:List Nat) (k k':Nat),L.length≤n→al p L k=none→al p L k'=none
 | 0,L,k,k',h,_=>by
  have:L=[]:=List.eq_nil_of_length_eq_zero (by omega)
  subst this;rfl
 | n+1,L,k,k',h,ha=>by
  by_cases h0:L=[]
  ·subst h0;rfl
  rw [al_step p h0] at ha ⊢
  split at ha
  ·cases ha
  ·rename_i hn
   rw [if_neg hn]
   exact al_k p n _ _ _ (by rw [List.length_drop];omega) ha
theorem al_app (p:Nat→Bool):∀ (n:Nat) (A B:List Nat) (k:Nat),A.length≤n→Bs A→al p A k=none→al p (A++B) k=al p B (k+A.length)
 | 0,A,B,k,h,_,_=>by
  have:A=[]:=List.eq_nil_of_length_eq_zero (by omega)
  subst this;rfl
 | n+1,A,B,k,h,hb,ha=>by
  by_cases h0:A=[]
  ·subst h0;rfl
  rw [al_step p h0] at ha
  split at ha
  ·cases ha
  ·rename_i hn
   have hz:(nx A).2≠0:=fun e=>hn (Or.inl e)
   obtain ⟨h1,h2,h3,h4⟩:=nx_some hb hz
   rw [al_step p (by simp [h0]),nx_app hb hz B,if_neg hn,List.drop_append_of_le_length h4,al_app p n _ B _ (by rw [List.length_drop];omega) (hb.drop _) ha,List.length_drop]
   congr 1;omega
theorem al_both (p:Nat→Bool) {A B:List Nat} (hb:Bs A) (ha:al p A 0=none) (hB:al p B 0=none):al p (A++B) 0=none:=by
 rw [al_app p A.length A B 0 (Nat.le_refl _) hb ha];exact al_k p B.length B _ _ (Nat.le_refl _) hB
theorem al_cut (p:Nat→Bool):∀ (n:Nat) (A B:List Nat) (k k':Nat),A.length≤n→Bs (A++B)→(B=[]∨(∃ c t,c<128∧B=c::t)∨(∃ W c,c<128∧A=W++[c])∨A=[])→al p (A++B) k=none→al p A k'=none
 | 0,A,B,k,k',h,_,_,_=>by
  have:A=[]:=List.eq_nil_of_length_eq_zero (by omega)
  subst this;rfl
 | n+1,A,B,k,k',h,hb,hc,ha=>by
  by_cases h0:A=[]
  ·subst h0;rfl
  have hb1:Bs A:=fun x hx=>hb x (by simp [hx])
  rw [al_step p (by simp [h0])] at ha
  split at ha
  ·cases ha
  ·rename_i hn
   have hz:(nx (A++B)).2≠0:=fun e=>hn (Or.inl e)
   obtain ⟨h1,h2,h3,h4⟩:=nx_some hb hz
   have hle:(nx (A++B)).2≤A.length:=by
    by_cases hl:(nx (A++B)).2≤A.length
    ·exact hl
    exfalso
    have hlow:(nx (A++B)).1<128:=by
     by_cases h8:(nx (A++B)).1<128
     ·exact h8
     exfalso
     have hh:=enc_high h1 (by omega)
     rw [←h3] at hh
     rcases hc with rfl | ⟨c,t,hc,rfl⟩ | ⟨W,c,hc,rfl⟩ | e
     ·rw [List.append_nil] at h4 hl;exact hl h4
     ·have:c∈(A++c::t).take (nx (A++c::t)).2:=by
       rw [List.take_append]
       refine List.mem_append_right _ ?_
       obtain ⟨m,hm⟩:∃ m,(nx (A++c::t)).2-A.length=m+1:=⟨(nx (A++c::t)).2-A.length-1,by omega⟩
       rw [hm];simp
      have:=hh c this
      omega
     ·have:c∈(W++[c]++B).take (nx (W++[c]++B)).2:=by
       rw [List.take_append]
       refine List.mem_append_left _ ?_
       rw [List.take_of_length_le (by omega)]
       simp
      have:=hh c this
      omega
     ·exact h0 e
    have:(enc (nx (A++B)).1).length=1:=by unfold enc;rw [if_pos hlow];rfl
    have:=List.length_pos_iff.2 h0
    omega
   have hA:nx (A++B)=nx A:=by
    have e:A=enc (nx (A++B)).1++A.drop (nx (A++B)).2:=by
     rw [←h3,List.take_append_of_le_length hle,List.take_append_drop]
    have e2:=nx_enc h1 (A.drop (nx (A++B)).2)
    rw [←e] at e2
    rw [e2,←h2]
   rw [hA] at hn ha hle hz
   rw [al_step p h0,if_neg hn]
   rw [List.drop_append_of_le_length hle] at ha
   refine al_cut p n (A.drop (nx A).2) B _ _ (by rw [List.length_drop];omega) ?_ ?_ ha
   ·intro x hx
    rcases List.mem_append.1 hx with h | h
    ·exact hb1 x (List.mem_of_mem_drop h)
    ·exact hb x (by simp [h])
   ·rcases hc with e | e | ⟨W,c,hc,rfl⟩ | e
    ·exact Or.inl e
    ·exact Or.inr (Or.inl e)
    ·by_cases hd:(nx (W++[c])).2≤W.length
     ·exact Or.inr (Or.inr (Or.inl ⟨W.drop (nx (W++[c])).2,c,hc,List.drop_append_of_le_length hd⟩))
     ·exact Or.inr (Or.inr (Or.inr (List.drop_eq_nil_of_le (by simp;omega))))
    ·exact absurd e h0
theorem al_asc {p:Nat→Bool}:∀ (A:List Nat) (k:Nat),(∀ x∈A,x<128∧p x=true)→al p A k=none
 | [],_,_=>rfl
 | c::t,k,h=>by
  have hc:=h c (by simp)
  rw [al_step p (by simp),nx_asc hc.1,if_neg (by simp [hc.2])]
  exact al_asc t _ fun x hx=>h x (by simp [hx])
theorem esc1_high {q:Bool} {c:Nat} (h:128≤c):esc1 q c=[c]:=by
 unfold esc1
 repeat (rw [if_neg (by omega)])
theorem esc_high {q:Bool}:∀ {A:List Nat},(∀ x∈A,128≤x)→esc q A=A
 | [],_=>rfl
 | c::t,h=>by rw [esc_cons,esc1_high (h c (by simp)),esc_high fun x hx=>h x (by simp [hx])];rfl
theorem esc1_char {q:Bool} {c:Nat} (h:c<128) (hp:charP c=true):∀ x∈esc1 q c,x<128∧charP x=true:=by
 intro x hx
 unfold esc1 at hx
 repeat' split at hx
 all_goals first
  | (simp at hx;subst hx;exact ⟨h,hp⟩)
  | (simp at hx;rcases hx with rfl | rfl | rfl | rfl | rfl | rfl <;> exact ⟨by decide,by decide +kernel⟩)
  | (simp at hx;rcases hx with rfl | rfl | rfl | rfl | rfl <;> exact ⟨by decide,by decide +kernel⟩)
  | (simp at hx;rcases hx with rfl | rfl | rfl | rfl <;> exact ⟨by decide,by decide +kernel⟩)
theorem esc_al (q:Bool):∀ (n:Nat) (A:List Nat),A.length≤n→Bs A→al charP A 0=none→al charP (esc q A) 0=none
 | 0,A,h,_,_=>by
  have:A=[]:=List.eq_nil_of_length_eq_zero (by omega)
  subst this;rfl
 | n+1,A,h,hb,ha=>by
  by_cases h0:A=[]
  ·subst h0;rfl
  rw [al_step charP h0] at ha
  split at ha
  ·cases ha
  ·rename_i hn
   have hz:(nx A).2≠0:=fun e=>hn (Or.inl e)
   have hp:charP (nx A).1=true:=by
    cases e:charP (nx A).1 with
    | true=>rfl
    | false=>exact absurd (Or.inr e) hn
   obtain ⟨h1,h2,h3,h4⟩:=nx_some hb hz
   have e:A=enc (nx A).1++A.drop (nx A).2:=by rw [←h3,List.take_append_drop]
   have hr:=esc_al q n (A.drop (nx A).2) (by rw [List.length_drop];omega) (hb.drop _) (al_k charP _ _ _ _ (Nat.le_refl _) ha)
   rw [e,esc_app]
   refine al_both charP (esc_bs fun x hx=>hb x ?_) ?_ hr
   ·rw [←h3] at hx;exact List.mem_of_mem_take hx
   ·by_cases h8:(nx A).1<128
    ·have:enc (nx A).1=[(nx A).1]:=by unfold enc;rw [if_pos h8]
     rw [this,esc_cons,esc_nil,List.append_nil]
     exact al_asc _ _ (esc1_char h8 hp)
    ·rw [esc_high (enc_high h1 (by omega))]
     have he:enc (nx A).1≠[]:=fun e=>by have:=enc_pos (nx A).1;rw [e] at this;simp at this
     have hne:=nx_enc h1 []
     rw [List.append_nil] at hne
     rw [al_step charP he,hne,if_neg (by simp [hp];exact he),List.drop_length]
     rfl
theorem lin_app:∀ (a b:List Nat),(∀ x∈a,x≠13)→lin false (a++b)=a++lin false b
 | [],_,_=>rfl
 | x::t,b,h=>by
  have hx:x≠13:=h x (by simp)
  rw [List.cons_append,lin,if_neg (by simp),if_neg hx,decide_eq_false hx,lin_app t b fun y hy=>h y (by simp [hy])]
  rfl
theorem pre_short {s A:List Nat} (h:s.length≤A.length) (Y:List Nat):s <+: A++Y↔s <+: A:=
 ⟨fun h1=>List.prefix_of_prefix_length_le h1 (List.prefix_append A Y) h,fun h1=>h1.trans (List.prefix_append A Y)⟩
theorem pre_loc {s:List Nat} (hs:62∉s.dropLast) (W Y Z:List Nat):s <+: W++62::Y↔s <+: W++62::Z:=by
 have key:∀ Y,s <+: W++62::Y↔s <+: W++[62]:=fun Y=>by
  rw [show W++62::Y=(W++[62])++Y by simp]
  by_cases hl:s.length≤(W++[62]).length
  ·exact pre_short hl Y
  ·constructor
   ·intro h
    exfalso
    have h2:(W++[62]) <+: s:=List.prefix_of_prefix_length_le (List.prefix_append _ Y) h (by omega)
    obtain ⟨t,rfl⟩:=h2
    have ht:t≠[]:=by intro e;subst e;simp at hl
    apply hs
    rw [List.dropLast_append_of_ne_nil ht]
    simp
   ·intro h;have:=h.length_le;omega
 rw [key Y,key Z]
theorem drop_w {W:List Nat} {k:Nat} (h:k≤W.length) (Y:List Nat):(W++62::Y).drop k=W.drop k++62::Y:=List.drop_append_of_le_length h
theorem nx_w (W Y Z:List Nat):nx (W++62::Y)=nx (W++62::Z):=by
 have:=nx_loc (A:=W++[62]) Y Z ⟨62,by simp,by decide⟩
 simpa using this
theorem bs_w {W Y:List Nat} (h:Bs (W++62::Y)) (k:Nat):Bs (W.drop k++62::Y):=fun x hx=>by
 rcases List.mem_append.1 hx with h1 | h1
 ·exact h x (by simp [List.mem_of_mem_drop h1])
 ·exact h x (by simp at h1 ⊢;exact Or.inr h1)
theorem sk_w {p:Nat→Bool} (h0:p 0=false) (h62:p 62=false):∀ (n:Nat) (W Y Z:List Nat),W.length≤n→Bs (W++62::Y)→sk p (W++62::Y)=sk p (W++62::Z)∧sk p (W++62::Y)≤W.length
 | n,W,Y,Z,hn,hb=>by
  by_cases hp:p (nx (W++62::Y)).1=true
  ·have hp':=hp
   rw [nx_w W Y Z] at hp'
   have hz:=(nx_zero h0 hp).1
   obtain ⟨h1,h2,h3,h4⟩:=nx_some hb (by omega)
   have hle:(nx (W++62::Y)).2≤W.length:=by
    by_cases hl:(nx (W++62::Y)).2≤W.length
    ·exact hl
    exfalso
    have hm:62∈(W++62::Y).take (nx (W++62::Y)).2:=by
     rw [List.take_append]
     refine List.mem_append_right _ ?_
     obtain ⟨m,hm⟩:∃ m,(nx (W++62::Y)).2-W.length=m+1:=⟨(nx (W++62::Y)).2-W.length-1,by omega⟩
     rw [hm];simp
    rw [h3] at hm
    by_cases h8:(nx (W++62::Y)).1<128
    ·unfold enc at hm
     rw [if_pos h8] at hm
     simp at hm
     rw [←hm,h62] at hp
     cases hp
    ·have:=enc_high h1 (by omega) _ hm
     omega
   rw [sk_yes h0 hp,sk_yes h0 hp',←nx_w W Y Z,drop_w hle,drop_w hle]
   cases n with
   | zero=>omega
   | succ n=>
    have ih:=sk_w h0 h62 n (W.drop (nx (W++62::Y)).2) Y Z (by rw [List.length_drop];omega) (bs_w hb _)
    rw [List.length_drop] at ih
    exact ⟨by rw [ih.1],by omega⟩
  ·have hp1:p (nx (W++62::Y)).1=false:=by simpa using hp
   have hp2:=hp1
   rw [nx_w W Y Z] at hp2
   rw [sk_no hp1,sk_no hp2]
   exact ⟨rfl,Nat.zero_le _⟩
theorem bla62:blaP 62=false:=by decide +kernel
theorem go62:goP 62=false:=by decide +kernel
theorem skb {W Y:List Nat} (Z:List Nat) (hb:Bs (W++62::Y)):sk blaP (W++62::Y)=sk blaP (W++62::Z):=(sk_w blaP_zero bla62 W.length W Y Z (Nat.le_refl _) hb).1
theorem skb_le {W Y:List Nat} (hb:Bs (W++62::Y)):sk blaP (W++62::Y)≤W.length:=(sk_w blaP_zero bla62 W.length W Y Y (Nat.le_refl _) hb).2
theorem nm_w {W Y:List Nat} (Z:List Nat) (hb:Bs (W++62::Y)):nmP (W++62::Y)=nmP (W++62::Z)∧∀ n,nmP (W++62::Y) = .ok n→n≤W.length:=by
 have h:=sk_w goP_zero go62 W.length W Y Z (Nat.le_refl _) hb
 unfold nmP
 rw [←nx_w W Y Z,h.1]
 refine ⟨rfl,fun n hn=>?_⟩
 split at hn
 ·injection hn with hn;rw [←hn,←h.1];exact h.2
 ·cases hn
theorem not_one {W Y:List Nat} {c k:Nat} (hk:k≤W.length) (hc:c≠62) (h:[c] <+: (W++62::Y).drop k):k+1≤W.length:=by
 rw [drop_w hk] at h
 by_cases e:k=W.length
 ·subst e
  rw [List.drop_length,List.nil_append] at h
  exact absurd (List.cons_prefix_cons.1 h).1 hc
 ·omega
theorem one_w {W:List Nat} {c k:Nat} (Y Z:List Nat) (hk:k≤W.length):[c] <+: (W++62::Y).drop k↔[c] <+: (W++62::Z).drop k:=by
 rw [drop_w hk,drop_w hk];exact pre_loc (by simp) _ _ _
theorem qn_w {W Y:List Nat} (Z:List Nat) (hb:Bs (W++62::Y)):qnP (W++62::Y)=qnP (W++62::Z)∧∀ n,qnP (W++62::Y) = .ok n→n≤W.length:=by
 obtain ⟨h1,h2⟩:=nm_w Z hb
 unfold qnP
 rw [←h1]
 rcases h:nmP (W++62::Y) with e | n
 ·exact ⟨rfl,fun n hn=>by cases hn⟩
 ·have hn:=h2 n h
  simp only
  by_cases hp:[58] <+: (W++62::Y).drop n
  ·have hn1:=not_one hn (by decide) hp
   rw [if_pos hp,if_pos ((one_w Y Z hn).1 hp),drop_w hn1,drop_w hn1]
   obtain ⟨h3,h4⟩:=nm_w (W:=W.drop (n+1)) Z (bs_w hb _)
   rw [←h3]
   rcases h5:nmP (W.drop (n+1)++62::Y) with e | m
   ·exact ⟨rfl,fun n hn=>by cases hn⟩
   ·have:=h4 m h5
    rw [List.length_drop] at this
    exact ⟨rfl,fun k hk=>by injection hk with hk;omega⟩
  ·rw [if_neg hp,if_neg (fun h=>hp ((one_w Y Z hn).2 h))]
   exact ⟨rfl,fun k hk=>by injection hk with hk;omega⟩
theorem ix_app {s A:List Nat} (hs:s≠[]) {Y:List Nat} {i:Nat} (h:ix s (A++Y)=some i) (hi:i+s.length≤A.length) (Z:List Nat):ix s (A++Z)=some i:=by
 have h1:=(ix_some h).2
 have h2:=ix_least h
 refine ix_is hs ?_ fun j hj=>?_
 ·rw [List.drop_append_of_le_length (by omega)] at h1 ⊢
  exact (pre_short (by rw [List.length_drop];omega) _).2 ((pre_short (by rw [List.length_drop];omega) _).1 h1)
 ·have h3:=h2 j hj
  rw [List.drop_append_of_le_length (by omega)] at h3 ⊢
  exact fun h4=>h3 ((pre_short (by rw [List.length_drop];omega) _).2 ((pre_short (by rw [List.length_drop];omega) _).1 h4))
theorem up_app {s A:List Nat} (hs:s≠[]) {Y:List Nat} {i:Nat} (h:upP s (A++Y) = .ok i) (hi:i+s.length≤A.length) (Z:List Nat):upP s (A++Z) = .ok i:=by
 unfold upP at h ⊢
 rcases h1:ix s (A++Y) with _ | j
 ·rw [h1] at h;cases h
 ·rw [h1] at h;injection h with h;subst h
  rw [ix_app hs h1 hi Z]
theorem qu_app {q:Nat} {A Y:List Nat} {v:List Nat} {n:Nat} (h:quP q (A++Y) = .ok (v,n)) (hn:n≤A.length) (Z:List Nat):quP q (A++Z) = .ok (v,n):=by
 unfold quP at h ⊢
 rcases h1:upP [q] (A++Y) with e | i
 ·rw [h1] at h;cases h
 ·rw [h1] at h
  simp only at h
  rcases h2:plP ((A++Y).take i) with e | x
  ·rw [h2] at h;cases h
  ·rw [h2] at h;injection h with h;injection h with h3 h4
   subst h3
   have hi:i+1≤A.length:=by omega
   rw [up_app (by simp) h1 hi Z]
   simp only
   rw [List.take_append_of_le_length (by omega)] at h2 ⊢
   rw [h2,←h4]
theorem vl_w {W Y:List Nat} (Z:List Nat) {v:List Nat} {n:Nat} (hb:Bs (W++62::Y)) (h:vlP (W++62::Y) = .ok (v,n)) (hn:n≤W.length):vlP (W++62::Z) = .ok (v,n):=by
 have e0:=skb Z hb
 have l0:=skb_le hb
 unfold vlP at h ⊢
 rw [←e0]
 generalize hk:sk blaP (W++62::Y)=k at *
 by_cases hp:[61] <+: (W++62::Y).drop k
 ·have k1:=not_one l0 (by decide) hp
  rw [if_pos hp] at h
  rw [if_pos ((one_w Y Z l0).1 hp)]
  rw [drop_w k1] at h ⊢
  have hb1:Bs (W.drop (k+1)++62::Y):=bs_w hb _
  have e1:=skb Z hb1
  have l1:=skb_le hb1
  rw [List.length_drop] at l1
  rw [←e1]
  generalize hB:k+1+sk blaP (W.drop (k+1)++62::Y)=B at *
  have lB:B≤W.length:=by omega
  by_cases h39:[39] <+: (W++62::Y).drop B
  ·have B1:=not_one lB (by decide) h39
   rw [if_pos h39] at h
   rw [if_pos ((one_w Y Z lB).1 h39)]
   rw [drop_w B1] at h ⊢
   rcases h2:quP 39 (W.drop (B+1)++62::Y) with e | ⟨x,m⟩
   ·rw [h2] at h;cases h
   ·rw [h2] at h;injection h with h;injection h with h3 h4
    rw [qu_app h2 (by rw [List.length_drop];omega) (62::Z)]
    simp only
    rw [h3,h4]
  ·rw [if_neg h39] at h
   rw [if_neg (fun e=>h39 ((one_w Y Z lB).2 e))]
   by_cases h34:[34] <+: (W++62::Y).drop B
   ·have B1:=not_one lB (by decide) h34
    rw [if_pos h34] at h
    rw [if_pos ((one_w Y Z lB).1 h34)]
    rw [drop_w B1] at h ⊢
    rcases h2:quP 34 (W.drop (B+1)++62::Y) with e | ⟨x,m⟩
    ·rw [h2] at h;cases h
    ·rw [h2] at h;injection h with h;injection h with h3 h4
     rw [qu_app h2 (by rw [List.length_drop];omega) (62::Z)]
     simp only
     rw [h3,h4]
   ·rw [if_neg h34] at h;cases h
 ·rw [if_neg hp] at h;cases h
theorem on_w {W Y:List Nat} (Z:List Nat) {a:At} {n:Nat} (hb:Bs (W++62::Y)) (h:onP (W++62::Y) = .ok (a,n)) (hn:n≤W.length):onP (W++62::Z) = .ok (a,n):=by
 obtain ⟨h1,h2⟩:=qn_w Z hb
 unfold onP at h ⊢
 rw [←h1]
 rcases hq:qnP (W++62::Y) with e | k
 ·rw [hq] at h;cases h
 ·have hk:=h2 k hq
  rw [hq] at h
  simp only at h ⊢
  rw [drop_w hk] at h ⊢
  rcases hv:vlP (W.drop k++62::Y) with e | ⟨x,m⟩
  ·rw [hv] at h;cases h
  ·rw [hv] at h;injection h with h;injection h with h3 h4
   rw [vl_w Z (bs_w hb _) hv (by rw [List.length_drop];omega)]
   simp only
   rw [List.take_append_of_le_length hk] at h3 ⊢
   rw [h3,h4]
theorem at_w:∀ (n:Nat) (acc:List At) (W Y Z:List Nat) (l:List At) (m:Nat),W.length≤n→Bs (W++62::Y)→Bs (W++62::Z)→atA acc (W++62::Y) = .ok (l,m)→m≤W.length→atA acc (W++62::Z) = .ok (l,m)
 | n,acc,W,Y,Z,l,m,hn,hb,hbz,h,hm=>by
  rw [atA_step acc hb] at h
  rw [atA_step acc hbz]
  have e0:=skb Z hb
  have l0:=skb_le hb
  rw [←e0]
  generalize hk:sk blaP (W++62::Y)=k at *
  by_cases k0:k=0
  ·rw [if_pos k0] at h ⊢;exact h
  rw [if_neg k0] at h ⊢
  rw [drop_w l0] at h ⊢
  rw [←nx_w (W.drop k) Y Z]
  by_cases hp:begP (nx (W.drop k++62::Y)).1=true
  ·rw [if_pos hp] at h ⊢
   rcases ho:onP (W.drop k++62::Y) with e | ⟨a,j⟩
   ·rw [ho] at h;cases h
   ·rw [ho] at h
    simp only at h
    split at h
    ·cases h
    rename_i hx1
    split at h
    ·cases h
    rename_i hx2
    rcases hr:atA (acc++[a]) ((W++62::Y).drop (k+j)) with e | ⟨l2,m2⟩
    ·rw [hr] at h;cases h
    ·rw [hr] at h;injection h with h;injection h with h3 h4
     have hj:k+j≤W.length:=by omega
     rw [on_w Z (bs_w hb _) ho (by rw [List.length_drop];omega)]
     simp only
     rw [if_neg hx1,if_neg hx2,drop_w hj]
     rw [drop_w hj] at hr
     have hjp:=onP_ok (bs_w hb _) ho
     cases n with
     | zero=>omega
     | succ n=>
      rw [at_w n (acc++[a]) (W.drop (k+j)) Y Z l2 m2 (by rw [List.length_drop];omega) (bs_w hb _) (bs_w hbz _) hr (by rw [List.length_drop];omega)]
      simp only
      rw [h3,h4]
  ·rw [if_neg hp] at h ⊢;exact h
theorem atP_w {W Y Z:List Nat} {l:List At} {m:Nat} (hb:Bs (W++62::Y)) (hbz:Bs (W++62::Z)) (h:atP (W++62::Y) = .ok (l,m)) (hm:m≤W.length):atP (W++62::Z) = .ok (l,m):=
 at_w W.length [] W Y Z l m (Nat.le_refl _) hb hbz h hm
theorem pre_end {s W Y:List Nat} {k:Nat} (hs:62∉s.dropLast) (hk:k≤W.length) (Z:List Nat) (h:s <+: (W++62::Y).drop k):s <+: (W++62::Z).drop k:=by
 rw [drop_w hk] at h ⊢;exact (pre_loc hs _ _ _).1 h
theorem take_w {W Y Z:List Nat} {k:Nat} (hk:k≤W.length):(W++62::Y).take k=(W++62::Z).take k:=by
 rw [List.take_append_of_le_length hk,List.take_append_of_le_length hk]
theorem dc_w {W Y Z:List Nat} {t:Tk} (hb:Bs (W++62::Y)) (hbz:Bs (W++62::Z)) (h:dcP (W++62::Y) = .ok (t,W.length+1)):dcP (W++62::Z) = .ok (t,W.length+1):=by
 unfold dcP at h ⊢
 rcases h1:atP (W++62::Y) with e | ⟨l,n⟩
 ·rw [h1] at h;cases h
 ·rw [h1] at h
  simp only at h
  split at h
  ·rename_i hp
   rcases h2:mdP l with _ | e
   ·rw [h2] at h;injection h with h;injection h with h3 h4
    rw [atP_w hb hbz h1 (by omega)]
    simp only
    rw [if_pos (pre_end (by decide) (by omega) Z hp),h2]
    simp only
    rw [h3,h4]
   ·rw [h2] at h;cases h
  ·cases h
theorem pi_w {W Y Z:List Nat} {t:Tk} (hb:Bs (W++62::Y)) (h:piP (W++62::Y) = .ok (t,W.length+1)):piP (W++62::Z) = .ok (t,W.length+1):=by
 obtain ⟨hn1,hn2⟩:=nm_w Z hb
 unfold piP at h ⊢
 rw [←hn1]
 rcases h1:nmP (W++62::Y) with e | n
 ·rw [h1] at h;cases h
 ·have hn:=hn2 n h1
  rw [h1] at h
  simp only at h ⊢
  rw [take_w (Y:=Y) (Z:=Z) hn] at h
  split at h
  ·cases h
  rename_i hx
  rw [if_neg hx]
  have e0:=skb Z (bs_w hb n)
  have l0:=skb_le (bs_w hb n)
  rw [List.length_drop] at l0
  rw [drop_w hn] at h ⊢
  rw [←e0]
  generalize hk:sk blaP (W.drop n++62::Y)=k at *
  have hnk:n+k≤W.length:=by omega
  split at h
  ·cases h
  rename_i hy
  rw [if_neg (fun e=>hy ⟨e.1,fun e1=>e.2 ((pre_loc (by decide) _ _ _).1 e1)⟩)]
  rw [drop_w hnk] at h ⊢
  rcases h2:upP [63,62] (W.drop (n+k)++62::Y) with e | i
  ·rw [h2] at h;cases h
  ·rw [h2] at h;injection h with h;injection h with h3 h4
   have hl:i+2≤(W.drop (n+k)++[62]).length:=by
    rw [List.length_append,List.length_drop];simp;omega
   have h5:=up_app (A:=W.drop (n+k)++[62]) (s:=[63,62]) (by simp) (Y:=Y) (i:=i) (by simpa using h2) hl Z
   rw [show W.drop (n+k)++[62]++Z=W.drop (n+k)++62::Z by simp] at h5
   rw [h5]
   simp only
   rw [take_w (W:=W.drop (n+k)) (Y:=Z) (Z:=Y) (by rw [List.length_drop];omega),h3,h4]
theorem rm_w {W Y Z:List Nat} {t:Tk} (h:rmP (W++62::Y) = .ok (t,W.length+1)):rmP (W++62::Z) = .ok (t,W.length+1):=by
 unfold rmP at h ⊢
 rcases h1:upP [45,45] (W++62::Y) with e | i
 ·rw [h1] at h;cases h
 ·rw [h1] at h
  simp only at h
  split at h
  ·rename_i hp
   injection h with h;injection h with h3 h4
   rw [up_app (by simp) h1 (by simp;omega) (62::Z)]
   simp only
   rw [if_pos (pre_end (by simp) (by omega) Z hp),take_w (Y:=Z) (Z:=Y) (by omega),h3,h4]
  ·cases h
theorem rw_w {W Y Z:List Nat} {t:Tk} (h:rwP (W++62::Y) = .ok (t,W.length+1)):rwP (W++62::Z) = .ok (t,W.length+1):=by
 unfold rwP at h ⊢
 rcases h1:upP [93,93,62] (W++62::Y) with e | i
 ·rw [h1] at h;cases h
 ·rw [h1] at h;injection h with h;injection h with h3 h4
  have h5:=up_app (A:=W++[62]) (s:=[93,93,62]) (by simp) (Y:=Y) (i:=i) (by simpa using h1) (by simp;omega) Z
  rw [show W++[62]++Z=W++62::Z by simp] at h5
  rw [h5]
  simp only
  rw [take_w (Y:=Z) (Z:=Y) (by omega),h3,h4]
theorem en_w {W Y Z:List Nat} {t:Tk} (hb:Bs (W++62::Y)) (h:enP (W++62::Y) = .ok (t,W.length+1)):enP (W++62::Z) = .ok (t,W.length+1):=by
 obtain ⟨hn1,hn2⟩:=qn_w Z hb
 unfold enP at h ⊢
 rw [←hn1]
 rcases h1:qnP (W++62::Y) with e | n
 ·rw [h1] at h;cases h
 ·have hn:=hn2 n h1
  rw [h1] at h
  simp only at h ⊢
  have e0:=skb Z (bs_w hb n)
  have l0:=skb_le (bs_w hb n)
  rw [List.length_drop] at l0
  rw [drop_w hn] at h ⊢
  rw [←e0]
  generalize hk:sk blaP (W.drop n++62::Y)=k at *
  split at h
  ·rename_i hp
   injection h with h;injection h with h3 h4
   rw [if_pos (pre_end (by simp) (by omega) Z hp),take_w (Y:=Z) (Z:=Y) hn,h3,h4]
  ·cases h
theorem bg_w {W Y Z:List Nat} {t:Tk} (hb:Bs (W++62::Y)) (hbz:Bs (W++62::Z)) (h:bgP (W++62::Y) = .ok (t,W.length+1)):bgP (W++62::Z) = .ok (t,W.length+1):=by
 obtain ⟨hn1,hn2⟩:=qn_w Z hb
 unfold bgP at h ⊢
 rw [←hn1]
 rcases h1:qnP (W++62::Y) with e | n
 ·rw [h1] at h;cases h
 ·have hn:=hn2 n h1
  rw [h1] at h
  simp only at h ⊢
  rw [drop_w hn] at h ⊢
  rcases h2:atP (W.drop n++62::Y) with e | ⟨l,m⟩
  ·rw [h2] at h;cases h
  ·rw [h2] at h
   simp only at h
   have hnm:n+m≤W.length:=by
    split at h
    ·split at h
     ·injection h with h;injection h with h3 h4;omega
     ·cases h
    ·split at h
     ·injection h with h;injection h with h3 h4;omega
     ·cases h
   rw [atP_w (bs_w hb _) (bs_w hbz _) h2 (by rw [List.length_drop];omega)]
   simp only
   split at h
   ·rename_i hp
    split at h
    ·rename_i hq
     injection h with h;injection h with h3 h4
     rw [if_pos (pre_end (by simp) hnm Z hp),if_pos (pre_end (by simp) (by omega) Z hq),take_w (Y:=Z) (Z:=Y) hn,h3,h4]
    ·cases h
   ·rename_i hp
    split at h
    ·rename_i hq
     injection h with h;injection h with h3 h4
     rw [if_neg (fun e=>hp (pre_end (by simp) hnm Y e)),if_pos (pre_end (by simp) hnm Z hq),take_w (Y:=Z) (Z:=Y) hn,h3,h4]
    ·cases h
theorem len_of {s W Y:List Nat} (hs:62∉s) (h:s <+: W++62::Y):s.length≤W.length:=by
 by_cases hl:s.length≤W.length
 ·exact hl
 exfalso
 have h2:(W++[62]) <+: s:=List.prefix_of_prefix_length_le (by rw [show W++62::Y=(W++[62])++Y by simp];exact List.prefix_append _ Y) h (by simp;omega)
 obtain ⟨t,rfl⟩:=h2
 exact hs (by simp)
theorem plus_w {k:Nat} {r r':Except Nat (Tk × Nat)} {t:Tk} {n:Nat} (hk:k≤n) (h:plus k r = .ok (t,n+1)) (hr:r = .ok (t,n-k+1)→r' = .ok (t,n-k+1)):plus k r' = .ok (t,n+1):=by
 obtain ⟨j,h1,h2⟩:=plus_ok h
 have:j=n-k+1:=by omega
 subst this
 rw [hr h1]
 show Except.ok (t,k+(n-k+1))=_
 rw [show k+(n-k+1)=n+1 by omega]
theorem tk_w {first:Bool} {W Y Z:List Nat} {t:Tk} (hb:Bs (W++62::Y)) (hbz:Bs (W++62::Z)) (h60:[60] <+: W++62::Y) (h:tkP first (W++62::Y) = .ok (t,W.length+1)):tkP first (W++62::Z) = .ok (t,W.length+1):=by
 have hd:isDc first (W++62::Y)↔isDc first (W++62::Z):=by
  have key:∀ Y Z,isDc first (W++62::Y)→isDc first (W++62::Z):=fun Y Z ⟨h1,h2,h3⟩=>by
   have hl:=len_of (by decide) h2
   simp at hl
   refine ⟨h1,(pre_loc (by decide) W Y Z).1 h2,?_⟩
   rw [drop_w hl] at h3 ⊢
   rw [←nx_w (W.drop 5) Y Z];exact h3
  exact ⟨key Y Z,key Z Y⟩
 have hl:∀ k,(W.drop k).length+1=W.length-k+1:=fun k=>by rw [List.length_drop]
 unfold tkP at h ⊢
 by_cases c0:isDc first (W++62::Y)
 ·have c:=len_of (by decide) c0.2.1
  simp at c
  rw [if_pos c0,drop_w c] at h
  rw [if_pos (hd.1 c0),drop_w c]
  refine plus_w c h fun h=>?_
  rw [←hl] at h ⊢
  exact dc_w (bs_w hb _) (bs_w hbz _) h
 rw [if_neg c0] at h
 rw [if_neg (fun e=>c0 (hd.2 e))]
 by_cases c1:[60,63] <+: W++62::Y
 ·have c:=len_of (by decide) c1
  simp at c
  rw [if_pos c1,drop_w c] at h
  rw [if_pos ((pre_loc (by decide) W Y Z).1 c1),drop_w c]
  refine plus_w c h fun h=>?_
  rw [←hl] at h ⊢
  exact pi_w (bs_w hb _) h
 rw [if_neg c1] at h
 rw [if_neg (fun e=>c1 ((pre_loc (by decide) W Y Z).2 e))]
 by_cases c2:[60,33,45,45] <+: W++62::Y
 ·have c:=len_of (by decide) c2
  simp at c
  rw [if_pos c2,drop_w c] at h
  rw [if_pos ((pre_loc (by decide) W Y Z).1 c2),drop_w c]
  refine plus_w c h fun h=>?_
  rw [←hl] at h ⊢
  exact rm_w h
 rw [if_neg c2] at h
 rw [if_neg (fun e=>c2 ((pre_loc (by decide) W Y Z).2 e))]
 by_cases c3:[60,33,91,67,68,65,84,65,91] <+: W++62::Y
 ·have c:=len_of (by decide) c3
  simp at c
  rw [if_pos c3,drop_w c] at h
  rw [if_pos ((pre_loc (by decide) W Y Z).1 c3),drop_w c]
  refine plus_w c h fun h=>?_
  rw [←hl] at h ⊢
  exact rw_w h
 rw [if_neg c3] at h
 rw [if_neg (fun e=>c3 ((pre_loc (by decide) W Y Z).2 e))]
 by_cases c4:[60,33] <+: W++62::Y
 ·rw [if_pos c4] at h;cases h
 rw [if_neg c4] at h
 rw [if_neg (fun e=>c4 ((pre_loc (by decide) W Y Z).2 e))]
 by_cases c5:[60,47] <+: W++62::Y
 ·have c:=len_of (by decide) c5
  simp at c
  rw [if_pos c5,drop_w c] at h
  rw [if_pos ((pre_loc (by decide) W Y Z).1 c5),drop_w c]
  refine plus_w c h fun h=>?_
  rw [←hl] at h ⊢
  exact en_w (bs_w hb _) h
 rw [if_neg c5] at h
 rw [if_neg (fun e=>c5 ((pre_loc (by decide) W Y Z).2 e))]
 have c:=len_of (by decide) h60
 simp at c
 rw [if_pos h60,drop_w c] at h
 rw [if_pos ((pre_loc (by decide) W Y Z).1 h60),drop_w c]
 refine plus_w c h fun h=>?_
 rw [←hl] at h ⊢
 exact bg_w (bs_w hb _) (bs_w hbz _) h
end
end Go.Proofs.YtbogfailbgbdoaaGreatDoor.K
