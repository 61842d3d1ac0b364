/- Part 5. -/
import Derived.Shelf.Small.Wraps
import Derived.Shelf.Strconv.ToError
import Derived.Shelf.Strings.Builder1
import Derived.Shelf.Strings.Cut
import Derived.Shelf.Strings.Search3
import Derived.Shelf.Strings.Trim
import Derived.Test.YtbogfailbgbdoaaGreatDoorXB4
set_option linter.unusedVariables false
set_option linter.unusedSimpArgs false
namespace Go.Proofs.YtbogfailbgbdoaaGreatDoor.K
set_option maxRecDepth 100000
section
open Go.RowKit Go.Proofs.YtbogfailbgbdoaaGreatDoor U
def StTo (p:Nat) (ao:Option Addr) (c:Nat) (xs:List Nat) (bg k:Nat) (r:Except Nat Nat) (w:World) (e:Ending) (w':World):Prop:=
 Touch (fun i=>i=p) w w'∧match r with
  | .error er=>e=kpan er∧∃ k',Scn w' p ao c xs bg k'
  | .ok n=>e = .returned (.string (txt ((xs.drop k).take n)))∧Scn w' p ao c xs bg (k+n)
theorem Scn.far2 {w:World} {p:Nat} {ao:Option Addr} {c:Nat} {xs:List Nat} {bg k:Nat} (h:Scn w p ao c xs bg k) (a n:Nat):∀ ad,cutA ao c a=some ad→(xs.drop a).take n≠[]→ad.block≠p:=fun ad e hne=>by
 have hx:xs≠[]:=by intro e;rw [e] at hne;simp at hne
 unfold cutA at e
 split at e
 ·exact h.far ad e hx
 ·rcases hao:ao with _ | a0
  ·rw [hao] at e;cases e
  ·rw [hao] at e
   have e1:=h.far a0 hao hx
   rw [Option.map_some] at e
   rw [←Option.some.inj e]
   unfold Addr.add
   split <;> exact e1
theorem Scn.piece {p:Nat} {ao:Option Addr} {c:Nat} {xs:List Nat} {bg k:Nat} (a n:Nat) (hn:a+n≤xs.length) (W:World) (hW:Scn W p ao c xs bg k) :
  (convert 22 9 (.slice (cutA ao c a) n (c-a))).run Tryz.prog W = .ok (.string (txt ((xs.drop a).take n))) W:=by
 have hp:=hW.sl.cut' a n hn
 have hl:((xs.drop a).take n).length=n:=by rw [List.length_take,List.length_drop];omega
 have:=conv_txt hp
 rwa [hl] at this
section
variable (w:World) (p:Nat) (ao:Option Addr) (c:Nat) (xs:List Nat) (bg k:Nat)
set_option maxHeartbeats 3200000 in
theorem name_any (h:Scn w p ao c xs bg k) :
  Calls Tryz.prog 99 #[.pointer (some ⟨p,0,none⟩)] w (StTo p ao c xs bg k (nmP (xs.drop k)) w):=by
 have K:=begins_any w p ao c xs bg k h
 have H:=Lib.hid h
 by_cases hb:begP (nx (xs.drop k)).1=true
 ·obtain ⟨n,hn⟩:∃ n,n=sk goP (xs.drop k):=⟨_,rfl⟩
  have hr:nmP (xs.drop k) = .ok n:=by unfold nmP;rw [if_pos hb,hn]
  rw [hr]
  rw [hb] at K
  have K:=Lib.hid K
  have hle:=(nmP_ok (h.bs.drop k) hr).2
  rw [List.length_drop] at hle
  have hkl:=h.le
  have hlen:=h.len
  have hcap:=h.sl.le
  have K2:Hid (∀ W,Scn W p ao c xs bg k→Calls Tryz.prog 123 #[.pointer (some ⟨p,0,none⟩),.func (.func 124) #[] #[]] W fun e w'=>e = .returned (.tuple #[])∧Touch (fun i=>i=p) W w'∧Scn w' p ao c xs bg (k+n)):=Lib.hid fun W hW=>by
   have:=skip_go W p ao c xs bg k hW
   rwa [←hn] at this
  obtain ⟨t,ht⟩:∃ t,t=k+n:=⟨_,rfl⟩
  have htl:t≤xs.length:=by omega
  have htk:k≤t:=by omega
  have hcut:=fun W=>slice_lh ao xs.length c k t htk (by omega) W
  rw [show t-k=n by omega] at hcut
  have hpiece:Hid (∀ W,Scn W p ao c xs bg t→(convert 22 9 (.slice (cutA ao c k) n (c-k))).run Tryz.prog W = .ok (.string (txt ((xs.drop k).take n))) W):=Lib.hid fun W hW=>Scn.piece k n (by omega) W hW
  unfold StTo
  simp only
  rw [←ht] at K2 ⊢
  generalize cutA ao c k=CO at hcut hpiece
  generalize txt ((xs.drop k).take n)=TX at hpiece ⊢
  clear h hb hn hr hle hkl ht
  go_enter Tryz.func99,Tryz.ntmps99
  go_upto_region 4 with (first
   | (go_at_call 122;(with_reducible refine K.out.mono ?_);rintro e w1 ⟨rfl,hb1⟩;have HS1:=Lib.hid (H.out.below hb1);have HB1:=Lib.hid hb1;clear hb1)
   | (go_at_call 97;refine (must_yes 22 w1).mono ?_;rintro e w2 ⟨rfl,rfl⟩;have p2:=HS1.out.c2)
   | (go_at_call 123;(with_reducible refine (K2.out w1 HS1.out).mono ?_);rintro e w3 ⟨rfl,ht3,hs3⟩;clear p2;have p2:=hs3.c2;have p0:=hs3.c0;have HS3:=Lib.hid hs3;have HT3:=Lib.hid ((Touch.of_below HB1.out).trans ht3);clear ht3 hs3))
  have hcv:∀ q,(convert 22 9 (.slice CO n (c-k))).run Tryz.prog (w3.drewN q) = .ok (.string TX) (w3.drewN q):=fun q=>hpiece.out (w3.drewN q) (HS3.out.below (below_drewN (Below.refl _ w3) q))
  have hkt:(k:Int)≤t:=by omega
  have htc:(t:Int)≤c:=by omega
  go_quiet (fail)
  go_wp2
  go_ret
  exact ⟨HT3.out.drewN _,rfl,HS3.out.below (below_drewN (Below.refl _ w3) _)⟩
 ·have hr:nmP (xs.drop k) = .error 22:=by unfold nmP;rw [if_neg hb]
  rw [hr]
  rw [show begP (nx (xs.drop k)).1=false by simpa using hb] at K
  have K:=Lib.hid K
  clear h hb hr
  go_enter Tryz.func99,Tryz.ntmps99
  go_wp2_with (first
   | (go_at_call 122;(with_reducible refine K.out.mono ?_);rintro e w1 ⟨rfl,hb1⟩;have HB1:=Lib.hid hb1;clear hb1)
   | (go_at_call 97;refine (must_no 22 w1).mono ?_;rintro e w2 ⟨rfl,rfl⟩))
  exact ⟨rfl,Touch.of_below HB1.out,rfl,k,H.out.below HB1.out⟩
end
theorem txt_app (a b:List Nat):txt a++txt b=txt (a++b):=by
 apply ByteArray.ext
 rw [ByteArray.data_append]
 simp [txt,u8L]
theorem take_colon {L:List Nat} {n m:Nat} (h:[58] <+: L.drop n):L.take n++58::(L.drop (n+1)).take m=L.take (n+1+m):=by
 obtain ⟨t,ht⟩:=pre1.1 h
 have e:L=L.take n++58::L.drop (n+1):=by
  rw [show L.drop (n+1)=(L.drop n).drop 1 by rw [List.drop_drop],ht,List.drop_one,List.tail_cons,←ht,List.take_append_drop]
 have hn:(L.take n).length=n:=by
  have:=pre_le (by simp) h
  rw [List.length_take];simp at this;omega
 have e2:L.take (n+1+m)=(L.take n++58::L.drop (n+1)).take (n+1+m):=congrArg (List.take (n+1+m)) e
 rw [e2,List.take_append,hn,List.take_of_length_le (l:=L.take n) (by omega),show n+1+m-n=m+1 by omega]
 rfl
section
variable (w:World) (p:Nat) (ao:Option Addr) (c:Nat) (xs:List Nat) (bg k:Nat)
set_option maxHeartbeats 3200000 in
theorem qualified_any (h:Scn w p ao c xs bg k) :
  Calls Tryz.prog 103 #[.pointer (some ⟨p,0,none⟩)] w (StTo p ao c xs bg k (qnP (xs.drop k)) w):=by
 have K:=name_any w p ao c xs bg k h
 rcases hn:nmP (xs.drop k) with er | n
 ·have hr:qnP (xs.drop k) = .error er:=by unfold qnP;rw [hn]
  rw [hr]
  rw [hn] at K
  have K:=Lib.hid K
  clear h hn hr
  go_enter Tryz.func103,Tryz.ntmps103
  go_wp2_with (go_at_call 99;(with_reducible refine K.out.mono ?_);rintro e w1 ⟨ht1,rfl,h1⟩)
  exact ⟨rfl,ht1,rfl,h1⟩
 ·rw [hn] at K
  have K:=Lib.hid K
  have hle:=(nmP_ok (h.bs.drop k) hn).2
  rw [List.length_drop] at hle
  have hkl:=h.le
  have H:=Lib.hid h
  by_cases hc:[58] <+: (xs.drop k).drop n
  ·have hp:=pre_le (by simp) hc
   rw [List.length_drop] at hp
   simp at hp
   have hc':[58] <+: xs.drop (k+n):=by rwa [List.drop_drop] at hc
   have KT:Hid (∀ W,Scn W p ao c xs bg (k+n)→Calls Tryz.prog 70 #[.pointer (some ⟨p,0,none⟩),.string ⟨#[58]⟩] W fun e w'=>e = .returned (.bool true)∧Touch (fun i=>i=p) W w'∧Scn w' p ao c xs bg (k+n+1)):=Lib.hid fun W hW=>takes_yes W p ao c xs bg (k+n) ⟨#[58]⟩ [58] rfl (fun x hx=>by simp at hx;omega) (by simp) hc' hW
   have K2:Hid (∀ W,Scn W p ao c xs bg (k+n+1)→Calls Tryz.prog 99 #[.pointer (some ⟨p,0,none⟩)] W (StTo p ao c xs bg (k+n+1) (nmP (xs.drop (k+n+1))) W)):=Lib.hid fun W hW=>name_any W p ao c xs bg (k+n+1) hW
   have hq:qnP (xs.drop k)=match nmP (xs.drop (k+n+1)) with
     | .error e => .error e
     | .ok m => .ok (n+1+m):=by
    unfold qnP
    rw [hn]
    simp only
    rw [if_pos hc,List.drop_drop,←Nat.add_assoc]
    cases nmP (xs.drop (k+n+1)) <;> rfl
   rcases hm:nmP (xs.drop (k+n+1)) with er | m
   ·rw [hm] at hq K2
    rw [hq]
    clear h hn hc hc' hp hle hkl hq hm
    go_enter Tryz.func103,Tryz.ntmps103
    go_wp2_with (first
     | (go_at_call 99;(with_reducible refine K.out.mono ?_);rintro e w1 ⟨ht1,rfl,hs1⟩;have HS1:=Lib.hid hs1;have HT1:=Lib.hid ht1;clear ht1 hs1)
     | (go_at_call 70;(with_reducible refine (KT.out w1 HS1.out).mono ?_);rintro e w2 ⟨rfl,ht2,hs2⟩;have HS2:=Lib.hid hs2;have HT2:=Lib.hid (HT1.out.trans ht2);clear ht2 hs2)
     | (go_at_call 99;(with_reducible refine (K2.out w2 HS2.out).mono ?_);rintro e w3 ⟨ht3,rfl,h3⟩;have HT3:=Lib.hid (HT2.out.trans ht3);clear ht3))
    exact ⟨rfl,HT3.out,rfl,h3⟩
   ·rw [hm] at hq K2
    simp only at hq
    rw [hq]
    have htx:txt ((xs.drop k).take n)++(⟨#[58]⟩++txt ((xs.drop (k+n+1)).take m))=txt ((xs.drop k).take (n+1+m)):=by
     rw [show (⟨#[58]⟩:ByteArray)=txt [58] from rfl,txt_app,txt_app]
     congr 1
     have:=take_colon (m:=m) hc
     rw [List.drop_drop,←Nat.add_assoc] at this
     exact this
    have HTX:=Lib.hid htx
    have HE:=Lib.hid (show k+n+1+m=k+(n+1+m) by omega)
    unfold StTo at K K2 ⊢
    simp only at K K2 ⊢
    have hlen:=h.len
    have hA:(txt ((xs.drop k).take n)).size≤1000000:=by rw [txt_size,List.length_take,List.length_drop];omega
    have hB:(txt ((xs.drop (k+n+1)).take m)).size≤1000000:=by rw [txt_size,List.length_take,List.length_drop];omega
    generalize txt ((xs.drop k).take n)=A at K HTX hA
    generalize txt ((xs.drop (k+n+1)).take m)=B at K2 HTX hB
    generalize txt ((xs.drop k).take (n+1+m))=C at HTX ⊢
    clear h hn hc hc' hp hle hkl hq hm htx
    go_enter Tryz.func103,Tryz.ntmps103
    go_wp2_with (first
     | (go_at_call 99;(with_reducible refine K.out.mono ?_);rintro e w1 ⟨ht1,rfl,hs1⟩;have HS1:=Lib.hid hs1;have HT1:=Lib.hid ht1;clear ht1 hs1)
     | (go_at_call 70;(with_reducible refine (KT.out w1 HS1.out).mono ?_);rintro e w2 ⟨rfl,ht2,hs2⟩;have HS2:=Lib.hid hs2;have HT2:=Lib.hid (HT1.out.trans ht2);clear ht2 hs2)
     | (go_at_call 99;(with_reducible refine (K2.out w2 HS2.out).mono ?_);rintro e w3 ⟨ht3,rfl,hs3⟩;have HS3:=Lib.hid hs3;have HT3:=Lib.hid (HT2.out.trans ht3);clear ht3 hs3))
    all_goals try (exfalso;omega)
    go_ret
    exact ⟨HT3.out,by rw [←HTX.out];rfl,by rw [←HE.out];exact HS3.out⟩
  ·have hr:qnP (xs.drop k) = .ok n:=by unfold qnP;rw [hn];simp only;rw [if_neg hc]
   rw [hr]
   have hc':¬[58] <+: xs.drop (k+n):=by rwa [List.drop_drop] at hc
   have KT:Hid (∀ W,Scn W p ao c xs bg (k+n)→Calls Tryz.prog 70 #[.pointer (some ⟨p,0,none⟩),.string ⟨#[58]⟩] W fun e w'=>e = .returned (.bool false)∧Below W.heap.size W w'):=Lib.hid fun W hW=>takes_no W p ao c xs bg (k+n) ⟨#[58]⟩ [58] rfl (fun x hx=>by simp at hx;omega) (by simp) hc' hW
   clear h hn hc hc' hle hkl hr
   go_enter Tryz.func103,Tryz.ntmps103
   go_wp2_with (first
    | (go_at_call 99;(with_reducible refine K.out.mono ?_);rintro e w1 ⟨ht1,rfl,hs1⟩;have HS1:=Lib.hid hs1;have HT1:=Lib.hid ht1;clear ht1 hs1)
    | (go_at_call 70;(with_reducible refine (KT.out w1 HS1.out).mono ?_);rintro e w2 ⟨rfl,hb2⟩;have HS2:=Lib.hid (HS1.out.below hb2);have HT2:=Lib.hid (HT1.out.trans (Touch.of_below hb2));clear hb2))
   go_ret
   exact ⟨HT2.out,rfl,HS2.out⟩
end
end
end Go.Proofs.YtbogfailbgbdoaaGreatDoor.K
namespace Go.Proofs.YtbogfailbgbdoaaGreatDoor
set_option maxRecDepth 100000
def scon_ren:Go.Shelf.Ren:=⟨fun | 144=>27 | 143=>56 | 219=>83 | 217=>109 | 225=>108 | 224=>107 | 267=>110 | 266=>127 | 314=>128 | n=>n,fun | 9=>9 | 4=>4 | 3=>3 | 5=>5 | 46=>126 | 146=>141 | 51=>132 | n=>n,fun | 1=>0 | n=>n⟩
theorem scon:Go.Proofs.Lays.n144 Tryz.prog scon_ren:={
 mixed:=by kernel_rfl,
 f143:=Tryz.func56.trans (congrArg some (by kernel_rfl)),
 f144:=Tryz.func27.trans (congrArg some (by kernel_rfl)),
 f217:=Tryz.func109.trans (congrArg some (by kernel_rfl)),
 f219:=Tryz.func83.trans (congrArg some (by kernel_rfl)),
 f224:=Tryz.func107.trans (congrArg some (by kernel_rfl)),
 f225:=Tryz.func108.trans (congrArg some (by kernel_rfl)),
 f266:=Tryz.func127.trans (congrArg some (by kernel_rfl)),
 f267:=Tryz.func110.trans (congrArg some (by kernel_rfl)),
 f314:=Tryz.func128.trans (congrArg some (by kernel_rfl)),
 t3:=Tryz.underlying3,
 a3:=Tryz.isAgg3,
 z3:=Tryz.sizeOf3,
 v3:=Tryz.zeroValue3,
 t4:=Tryz.underlying4,
 a4:=Tryz.isAgg4,
 z4:=Tryz.sizeOf4,
 v4:=Tryz.zeroValue4,
 t5:=Tryz.underlying5,
 a5:=Tryz.isAgg5,
 z5:=Tryz.sizeOf5,
 v5:=Tryz.zeroValue5,
 t9:=Tryz.underlying9,
 a9:=Tryz.isAgg9,
 z9:=Tryz.sizeOf9,
 v9:=Tryz.zeroValue9,
 t46:=Tryz.underlying126,
 a46:=Tryz.isAgg126,
 z46:=Tryz.sizeOf126,
 v46:=Tryz.zeroValue126,
 t51:=Tryz.underlying132,
 a51:=Tryz.isAgg132,
 z51:=Tryz.sizeOf132,
 v51:=Tryz.zeroValue132,
 t146:=Tryz.underlying141,
 a146:=Tryz.isAgg141,
 z146:=Tryz.sizeOf141,
 v146:=Tryz.zeroValue141,
 g1:=by kernel_rfl }
def scut_ren:Go.Shelf.Ren:=⟨fun | 145=>57 | 220=>84 | 219=>83 | 217=>109 | 225=>108 | 224=>107 | 267=>110 | 266=>127 | 314=>128 | n=>n,fun | 9=>9 | 4=>4 | 59=>89 | 3=>3 | 5=>5 | 46=>126 | 146=>141 | 51=>132 | n=>n,fun | 1=>0 | n=>n⟩
theorem scut:Go.Proofs.Lays.n145 Tryz.prog scut_ren:={
 mixed:=by kernel_rfl,
 f145:=Tryz.func57.trans (congrArg some (by kernel_rfl)),
 f217:=Tryz.func109.trans (congrArg some (by kernel_rfl)),
 f219:=Tryz.func83.trans (congrArg some (by kernel_rfl)),
 f220:=Tryz.func84.trans (congrArg some (by kernel_rfl)),
 f224:=Tryz.func107.trans (congrArg some (by kernel_rfl)),
 f225:=Tryz.func108.trans (congrArg some (by kernel_rfl)),
 f266:=Tryz.func127.trans (congrArg some (by kernel_rfl)),
 f267:=Tryz.func110.trans (congrArg some (by kernel_rfl)),
 f314:=Tryz.func128.trans (congrArg some (by kernel_rfl)),
 t3:=Tryz.underlying3,
 a3:=Tryz.isAgg3,
 z3:=Tryz.sizeOf3,
 v3:=Tryz.zeroValue3,
 t4:=Tryz.underlying4,
 a4:=Tryz.isAgg4,
 z4:=Tryz.sizeOf4,
 v4:=Tryz.zeroValue4,
 t5:=Tryz.underlying5,
 a5:=Tryz.isAgg5,
 z5:=Tryz.sizeOf5,
 v5:=Tryz.zeroValue5,
 t9:=Tryz.underlying9,
 a9:=Tryz.isAgg9,
 z9:=Tryz.sizeOf9,
 v9:=Tryz.zeroValue9,
 t46:=Tryz.underlying126,
 a46:=Tryz.isAgg126,
 z46:=Tryz.sizeOf126,
 v46:=Tryz.zeroValue126,
 t51:=Tryz.underlying132,
 a51:=Tryz.isAgg132,
 z51:=Tryz.sizeOf132,
 v51:=Tryz.zeroValue132,
 t59:=Tryz.underlying89,
 a59:=Tryz.isAgg89,
 z59:=Tryz.sizeOf89,
 v59:=Tryz.zeroValue89,
 t146:=Tryz.underlying141,
 a146:=Tryz.isAgg141,
 z146:=Tryz.sizeOf141,
 v146:=Tryz.zeroValue141,
 g1:=by kernel_rfl }
def scutp_ren:Go.Shelf.Ren:=⟨fun | 103=>85 | 210=>111 | 206=>129 | n=>n,fun | 9=>9 | 4=>4 | 24=>35 | 3=>3 | n=>n,fun | n=>n⟩
theorem scutp:Go.Proofs.Lays.n103 Tryz.prog scutp_ren:={
 mixed:=by kernel_rfl,
 f103:=Tryz.func85.trans (congrArg some (by kernel_rfl)),
 f206:=Tryz.func129.trans (congrArg some (by kernel_rfl)),
 f210:=Tryz.func111.trans (congrArg some (by kernel_rfl)),
 t3:=Tryz.underlying3,
 a3:=Tryz.isAgg3,
 z3:=Tryz.sizeOf3,
 v3:=Tryz.zeroValue3,
 t4:=Tryz.underlying4,
 a4:=Tryz.isAgg4,
 z4:=Tryz.sizeOf4,
 v4:=Tryz.zeroValue4,
 t9:=Tryz.underlying9,
 a9:=Tryz.isAgg9,
 z9:=Tryz.sizeOf9,
 v9:=Tryz.zeroValue9,
 t24:=Tryz.underlying35,
 a24:=Tryz.isAgg35,
 z24:=Tryz.sizeOf35,
 v24:=Tryz.zeroValue35 }
def strim_ren:Go.Shelf.Ren:=⟨fun | 161=>112 | 231=>130 | 227=>81 | 233=>131 | 235=>132 | 228=>82 | 197=>125 | 151=>144 | 260=>141 | 152=>79 | 137=>105 | 119=>106 | 224=>107 | 225=>108 | 217=>109 | 266=>127 | n=>n,fun | 9=>9 | 4=>4 | 3=>3 | 5=>5 | 117=>107 | 116=>106 | 0=>0 | 124=>127 | 105=>98 | 21=>21 | 119=>146 | 46=>126 | 139=>149 | 138=>148 | n=>n,fun | 3=>1 | 4=>2 | n=>n⟩
theorem strim:Go.Proofs.Lays.n161 Tryz.prog strim_ren:={
 mixed:=by kernel_rfl,
 f119:=Tryz.func106.trans (congrArg some (by kernel_rfl)),
 f137:=Tryz.func105.trans (congrArg some (by kernel_rfl)),
 f151:=Tryz.func144.trans (congrArg some (by kernel_rfl)),
 f152:=Tryz.func79.trans (congrArg some (by kernel_rfl)),
 f161:=Tryz.func112.trans (congrArg some (by kernel_rfl)),
 f197:=Tryz.func125.trans (congrArg some (by kernel_rfl)),
 f217:=Tryz.func109.trans (congrArg some (by kernel_rfl)),
 f224:=Tryz.func107.trans (congrArg some (by kernel_rfl)),
 f225:=Tryz.func108.trans (congrArg some (by kernel_rfl)),
 f227:=Tryz.func81.trans (congrArg some (by kernel_rfl)),
 f228:=Tryz.func82.trans (congrArg some (by kernel_rfl)),
 f231:=Tryz.func130.trans (congrArg some (by kernel_rfl)),
 f233:=Tryz.func131.trans (congrArg some (by kernel_rfl)),
 f235:=Tryz.func132.trans (congrArg some (by kernel_rfl)),
 f260:=Tryz.func141.trans (congrArg some (by kernel_rfl)),
 f266:=Tryz.func127.trans (congrArg some (by kernel_rfl)),
 t0:=Tryz.underlying0,
 a0:=Tryz.isAgg0,
 z0:=Tryz.sizeOf0,
 v0:=Tryz.zeroValue0,
 t3:=Tryz.underlying3,
 a3:=Tryz.isAgg3,
 z3:=Tryz.sizeOf3,
 v3:=Tryz.zeroValue3,
 t4:=Tryz.underlying4,
 a4:=Tryz.isAgg4,
 z4:=Tryz.sizeOf4,
 v4:=Tryz.zeroValue4,
 t5:=Tryz.underlying5,
 a5:=Tryz.isAgg5,
 z5:=Tryz.sizeOf5,
 v5:=Tryz.zeroValue5,
 t9:=Tryz.underlying9,
 a9:=Tryz.isAgg9,
 z9:=Tryz.sizeOf9,
 v9:=Tryz.zeroValue9,
 t21:=Tryz.underlying21,
 a21:=Tryz.isAgg21,
 z21:=Tryz.sizeOf21,
 v21:=Tryz.zeroValue21,
 t46:=Tryz.underlying126,
 a46:=Tryz.isAgg126,
 z46:=Tryz.sizeOf126,
 v46:=Tryz.zeroValue126,
 t105:=Tryz.underlying98,
 a105:=Tryz.isAgg98,
 z105:=Tryz.sizeOf98,
 v105:=Tryz.zeroValue98,
 t116:=Tryz.underlying106,
 a116:=Tryz.isAgg106,
 z116:=Tryz.sizeOf106,
 t117:=Tryz.underlying107,
 a117:=Tryz.isAgg107,
 z117:=Tryz.sizeOf107,
 v117:=Tryz.zeroValue107,
 t119:=Tryz.underlying146,
 a119:=Tryz.isAgg146,
 z119:=Tryz.sizeOf146,
 t124:=Tryz.underlying127,
 a124:=Tryz.isAgg127,
 z124:=Tryz.sizeOf127,
 v124:=Tryz.zeroValue127,
 t138:=Tryz.underlying148,
 a138:=Tryz.isAgg148,
 z138:=Tryz.sizeOf148,
 v138:=Tryz.zeroValue148,
 t139:=Tryz.underlying149,
 a139:=Tryz.isAgg149,
 z139:=Tryz.sizeOf149,
 v139:=Tryz.zeroValue149,
 g3:=by kernel_rfl,
 g4:=by kernel_rfl }
def bstr_ren:Go.Shelf.Ren:=⟨fun | 169=>36 | n=>n,fun | 70=>66 | 9=>9 | 0=>0 | 72=>68 | 37=>22 | 127=>97 | 3=>3 | 5=>5 | n=>n,fun | n=>n⟩
theorem bstr:Go.Proofs.Lays.n169 Tryz.prog bstr_ren:={
 mixed:=by kernel_rfl,
 f169:=Tryz.func36.trans (congrArg some (by kernel_rfl)),
 t0:=Tryz.underlying0,
 a0:=Tryz.isAgg0,
 z0:=Tryz.sizeOf0,
 v0:=Tryz.zeroValue0,
 t3:=Tryz.underlying3,
 a3:=Tryz.isAgg3,
 z3:=Tryz.sizeOf3,
 v3:=Tryz.zeroValue3,
 t9:=Tryz.underlying9,
 a9:=Tryz.isAgg9,
 z9:=Tryz.sizeOf9,
 v9:=Tryz.zeroValue9,
 t37:=Tryz.underlying22,
 a37:=Tryz.isAgg22,
 z37:=Tryz.sizeOf22,
 v37:=Tryz.zeroValue22,
 t70:=Tryz.underlying66,
 a70:=Tryz.isAgg66,
 z70:=Tryz.sizeOf66,
 v70:=Tryz.zeroValue66,
 t72:=Tryz.underlying68,
 a72:=Tryz.isAgg68,
 z72:=Tryz.sizeOf68,
 v72:=Tryz.zeroValue68,
 t127:=Tryz.underlying97,
 a127:=Tryz.isAgg97,
 z127:=Tryz.sizeOf97,
 v127:=Tryz.zeroValue97 }
def lerr_ren:Go.Shelf.Ren:=⟨fun | 245=>134 | 279=>147 | 280=>148 | 281=>149 | 282=>150 | 316=>151 | 171=>153 | 205=>152 | 243=>154 | 246=>155 | 283=>156 | 284=>157 | 285=>158 | 286=>159 | 129=>161 | 317=>160 | 318=>162 | 319=>163 | 320=>164 | 337=>165 | 338=>166 | n=>n,fun | 9=>9 | 3=>3 | 75=>71 | 167=>164 | 4=>4 | 168=>166 | 210=>174 | 37=>22 | 0=>0 | 127=>97 | 145=>179 | 143=>177 | 2=>2 | 171=>181 | 53=>129 | 5=>5 | 173=>184 | 212=>187 | 51=>132 | 20=>20 | 213=>188 | 46=>126 | 232=>191 | 233=>192 | 80=>75 | n=>n,fun | 15=>6 | 16=>7 | 17=>8 | 18=>9 | 19=>10 | n=>n⟩
theorem lerr:Go.Proofs.LaysC.n245 Tryz.prog lerr_ren:={
 mixed:=by kernel_rfl,
 f129:=Tryz.func161.trans (congrArg some (by kernel_rfl)),
 f171:=Tryz.func153.trans (congrArg some (by kernel_rfl)),
 f205:=Tryz.func152.trans (congrArg some (by kernel_rfl)),
 f243:=Tryz.func154.trans (congrArg some (by kernel_rfl)),
 f245:=Tryz.func134.trans (congrArg some (by kernel_rfl)),
 f246:=Tryz.func155.trans (congrArg some (by kernel_rfl)),
 f279:=Tryz.func147.trans (congrArg some (by kernel_rfl)),
 f280:=Tryz.func148.trans (congrArg some (by kernel_rfl)),
 f281:=Tryz.func149.trans (congrArg some (by kernel_rfl)),
 f282:=Tryz.func150.trans (congrArg some (by kernel_rfl)),
 f283:=Tryz.func156.trans (congrArg some (by kernel_rfl)),
 f284:=Tryz.func157.trans (congrArg some (by kernel_rfl)),
 f285:=Tryz.func158.trans (congrArg some (by kernel_rfl)),
 f286:=Tryz.func159.trans (congrArg some (by kernel_rfl)),
 f316:=Tryz.func151.trans (congrArg some (by kernel_rfl)),
 f317:=Tryz.func160.trans (congrArg some (by kernel_rfl)),
 f318:=Tryz.func162.trans (congrArg some (by kernel_rfl)),
 f319:=Tryz.func163.trans (congrArg some (by kernel_rfl)),
 f320:=Tryz.func164.trans (congrArg some (by kernel_rfl)),
 f337:=Tryz.func165.trans (congrArg some (by kernel_rfl)),
 f338:=Tryz.func166.trans (congrArg some (by kernel_rfl)),
 t0:=Tryz.underlying0,
 a0:=Tryz.isAgg0,
 z0:=Tryz.sizeOf0,
 v0:=Tryz.zeroValue0,
 t2:=Tryz.underlying2,
 a2:=Tryz.isAgg2,
 z2:=Tryz.sizeOf2,
 v2:=Tryz.zeroValue2,
 t3:=Tryz.underlying3,
 a3:=Tryz.isAgg3,
 z3:=Tryz.sizeOf3,
 v3:=Tryz.zeroValue3,
 t4:=Tryz.underlying4,
 a4:=Tryz.isAgg4,
 z4:=Tryz.sizeOf4,
 v4:=Tryz.zeroValue4,
 t5:=Tryz.underlying5,
 a5:=Tryz.isAgg5,
 z5:=Tryz.sizeOf5,
 v5:=Tryz.zeroValue5,
 t9:=Tryz.underlying9,
 a9:=Tryz.isAgg9,
 z9:=Tryz.sizeOf9,
 v9:=Tryz.zeroValue9,
 t20:=Tryz.underlying20,
 a20:=Tryz.isAgg20,
 z20:=Tryz.sizeOf20,
 v20:=Tryz.zeroValue20,
 t37:=Tryz.underlying22,
 a37:=Tryz.isAgg22,
 z37:=Tryz.sizeOf22,
 v37:=Tryz.zeroValue22,
 t46:=Tryz.underlying126,
 a46:=Tryz.isAgg126,
 z46:=Tryz.sizeOf126,
 v46:=Tryz.zeroValue126,
 t51:=Tryz.underlying132,
 a51:=Tryz.isAgg132,
 z51:=Tryz.sizeOf132,
 v51:=Tryz.zeroValue132,
 t53:=Tryz.underlying129,
 a53:=Tryz.isAgg129,
 z53:=Tryz.sizeOf129,
 v53:=Tryz.zeroValue129,
 t75:=Tryz.underlying71,
 a75:=Tryz.isAgg71,
 z75:=Tryz.sizeOf71,
 v75:=Tryz.zeroValue71,
 t127:=Tryz.underlying97,
 a127:=Tryz.isAgg97,
 z127:=Tryz.sizeOf97,
 v127:=Tryz.zeroValue97,
 t143:=Tryz.underlying177,
 a143:=Tryz.isAgg177,
 z143:=Tryz.sizeOf177,
 v143:=Tryz.zeroValue177,
 t145:=Tryz.underlying179,
 a145:=Tryz.isAgg179,
 z145:=Tryz.sizeOf179,
 v145:=Tryz.zeroValue179,
 t167:=Tryz.underlying164,
 a167:=Tryz.isAgg164,
 z167:=Tryz.sizeOf164,
 v167:=Tryz.zeroValue164,
 t168:=Tryz.underlying166,
 a168:=Tryz.isAgg166,
 z168:=Tryz.sizeOf166,
 v168:=Tryz.zeroValue166,
 t171:=Tryz.underlying181,
 a171:=Tryz.isAgg181,
 z171:=Tryz.sizeOf181,
 v171:=Tryz.zeroValue181,
 t173:=Tryz.underlying184,
 a173:=Tryz.isAgg184,
 z173:=Tryz.sizeOf184,
 v173:=Tryz.zeroValue184,
 t210:=Tryz.underlying174,
 a210:=Tryz.isAgg174,
 z210:=Tryz.sizeOf174,
 v210:=Tryz.zeroValue174,
 t212:=Tryz.underlying187,
 a212:=Tryz.isAgg187,
 z212:=Tryz.sizeOf187,
 v212:=Tryz.zeroValue187,
 t213:=Tryz.underlying188,
 a213:=Tryz.isAgg188,
 z213:=Tryz.sizeOf188,
 t232:=Tryz.underlying191,
 a232:=Tryz.isAgg191,
 z232:=Tryz.sizeOf191,
 v232:=Tryz.zeroValue191,
 t233:=Tryz.underlying192,
 a233:=Tryz.isAgg192,
 z233:=Tryz.sizeOf192,
 v233:=Tryz.zeroValue192,
 g15:=by kernel_rfl,
 g16:=by kernel_rfl,
 g17:=by kernel_rfl,
 g18:=by kernel_rfl,
 g19:=by kernel_rfl,
 t80:=Tryz.underlying75,
 a80:=Tryz.isAgg75,
 z80:=Tryz.sizeOf75,
 v80:=Tryz.zeroValue75,
 i0:=by kernel_rfl,
 i2:=by kernel_rfl,
 i3:=by kernel_rfl,
 i4:=by kernel_rfl,
 i5:=by kernel_rfl,
 i9:=by kernel_rfl,
 i20:=by kernel_rfl,
 i37:=by kernel_rfl,
 i46:=by kernel_rfl,
 i51:=by kernel_rfl,
 i53:=by kernel_rfl,
 i75:=by kernel_rfl,
 i80:=by kernel_rfl,
 i127:=by kernel_rfl,
 i143:=by kernel_rfl,
 i145:=by kernel_rfl,
 i167:=by kernel_rfl,
 i168:=by kernel_rfl,
 i171:=by kernel_rfl,
 i173:=by kernel_rfl,
 i210:=by kernel_rfl,
 i212:=by kernel_rfl,
 i232:=by kernel_rfl,
 i233:=by kernel_rfl,
 m15:=by kernel_rfl,
 m16:=by kernel_rfl,
 m17:=by kernel_rfl,
 m18:=by kernel_rfl,
 m19:=by kernel_rfl,
 c0:=by kernel_rfl,
 c2:=by kernel_rfl,
 c3:=by kernel_rfl,
 c4:=by kernel_rfl,
 c5:=by kernel_rfl,
 c9:=by kernel_rfl,
 c20:=by kernel_rfl,
 c37:=by kernel_rfl,
 c46:=by kernel_rfl,
 c51:=by kernel_rfl,
 c53:=by kernel_rfl,
 c75:=by kernel_rfl,
 c80:=by kernel_rfl,
 c127:=by kernel_rfl,
 c143:=by kernel_rfl,
 c145:=by kernel_rfl,
 c167:=by kernel_rfl,
 c168:=by kernel_rfl,
 c171:=by kernel_rfl,
 c173:=by kernel_rfl,
 c210:=by kernel_rfl,
 c212:=by kernel_rfl,
 c213:=by kernel_rfl,
 c232:=by kernel_rfl,
 c233:=by kernel_rfl }
end Go.Proofs.YtbogfailbgbdoaaGreatDoor
namespace Go.Proofs.YtbogfailbgbdoaaGreatDoor.K
set_option maxRecDepth 100000
section
open Go.RowKit Go.Proofs.YtbogfailbgbdoaaGreatDoor U
theorem xbld:Builder.Extra Tryz.prog bstr_ren:={
 sizeBuilder:=by kernel_rfl,liesBuilder:=by kernel_rfl,t5:=Tryz.underlying5,a5:=Tryz.isAgg5,z5:=Tryz.sizeOf5,v5:=Tryz.zeroValue5,
 infoByte:=by kernel_rfl,cellsByte:=by kernel_rfl,sizeByte:=by kernel_rfl,neB5:=by decide }
def Bu (B b:Nat) (L:List Nat) (w:World):Prop:=Lib.IsBuilder 68 5 B b (u8s L) w
def BuU (B b:Nat) (L:List Nat) (w:World):Prop:=Lib.BuilderAt 68 5 B b (.pointer (some ⟨b,0,none⟩)) (u8s L) w
theorem BuU.bu {B b:Nat} {L:List Nat} {w:World} (h:BuU B b L w):Bu B b L w := .inr h
theorem Bu.fresh (w:World):Bu w.heap.size w.heap.size [] (w.alloc (.cells #[.pointer none,.slice none 0 0] 68)):=Lib.fresh_isBuilder 68 5 w
theorem buAt_below {p:Value} {B b:Nat} {L:List Value} {w w':World} (h:Lib.BuilderAt 68 5 B b p L w) (hb:Below w.heap.size w w'):Lib.BuilderAt 68 5 B b p L w':=by
 obtain ⟨h1,v,h2,h3,h4⟩:=h
 exact ⟨h1,v,(hb.block b (Array.getElem?_eq_some_iff.1 h2).1).trans h2,ownsRow_below h3 hb,h4⟩
theorem Bu.below {B b:Nat} {L:List Nat} {w w':World} (h:Bu B b L w) (hb:Below w.heap.size w w'):Bu B b L w':=by
 rcases h with h | h
 ·exact .inl (buAt_below h hb)
 ·exact .inr (buAt_below h hb)
theorem hs68:∃ i,Tryz.prog.info? 68=some i∧i.size=2:=Option.map_eq_some_iff.1 xbld.sizeBuilder
set_option maxHeartbeats 1000000 in
theorem copyCheck_used (b:Nat) (w:World) (h0:w.cell? ⟨b,0,none⟩=some (.pointer (some ⟨b,0,none⟩))) :
  Calls Tryz.prog 63 #[.pointer (some ⟨b,0,none⟩)] w fun e w'=>e = .returned (.tuple #[])∧w'=w:=by
 obtain ⟨j,hj,_⟩:=hs68
 go_enter Tryz.func63,Tryz.ntmps63
 go_wp2
 rw [Lib.run_neq_ptr_same w _ Tryz.underlying66 hj]
 go_wp2
 go_end0
 exact ⟨rfl,rfl⟩
set_option maxHeartbeats 1000000 in
theorem copyCheck_fresh (b:Nat) (w:World) (h0:w.cell? ⟨b,0,none⟩=some (.pointer none)) (hsh:w.shape? b=some (68,2)) (hfz:w.frozen? ⟨b,0,none⟩=false) :
  Calls Tryz.prog 63 #[.pointer (some ⟨b,0,none⟩)] w fun e w'=>e = .returned (.tuple #[])∧w'=w.setCell ⟨b,0,none⟩ (.pointer (some ⟨b,0,none⟩)):=by
 obtain ⟨j,hj,hjs⟩:=hs68
 go_enter Tryz.func63,Tryz.ntmps63
 go_wp2
 rw [Lib.run_to_unsafe w ⟨b,0,none⟩ Tryz.underlying66 Tryz.underlying113 hj (by rw [hjs];decide) hsh (Nat.zero_lt_succ 1)]
 simp only [Result.andThen]
 rw [Oper.upon_value]
 go_wp2
 rw [run_callFunc_extern Tryz.func88 (by kernel_rfl) (by kernel_rfl) (by kernel_rfl) (e:=Extern.AbiNoEscape.same) (by kernel_rfl)]
 rw [Lib.run_noEscape]
 simp only [Result.andThen]
 rw [Oper.upon_value]
 go_wp2
 rw [Lib.run_from_unsafe w ⟨b,0,none⟩ Tryz.underlying113 Tryz.underlying66 hj hsh xbld.liesBuilder]
 simp only [Result.andThen]
 rw [Oper.upon_value]
 go_wp2
 go_end0
 exact ⟨rfl,rfl⟩
theorem copyCheck_any (B b:Nat) (L:List Nat) (w:World) (h:Bu B b L w) :
  Calls Tryz.prog 63 #[.pointer (some ⟨b,0,none⟩)] w fun e w'=>e = .returned (.tuple #[])∧BuU B b L w'∧Below B w w':=by
 rcases h with h | h
 ·refine (copyCheck_fresh b w h.cell0 h.shape h.frozen0).mono ?_
  rintro e w' ⟨rfl,rfl⟩
  exact ⟨rfl,h.used _,(Below.refl B w).setCell (p:=⟨b,0,none⟩) h.1 _⟩
 ·refine (copyCheck_used b w h.cell0).mono ?_
  rintro e w' ⟨rfl,rfl⟩
  exact ⟨rfl,h,Below.refl B _⟩
theorem strCells_txt (s:List Nat) (hs:Bs s):Lib.strCells (txt s)=u8s s:=by
 show ((u8L s).toArray.toList.map fun x:UInt8=>Value.int .u8 (x.toNat:Int))=u8s s
 rw [List.toList_toArray,u8L,List.map_map]
 refine List.map_congr_left fun x hx=>?_
 have:=hs x hx
 simp
 omega
set_option maxHeartbeats 1600000 in
theorem writeString_any (B b:Nat) (L s:List Nat) (S:ByteArray) (hS:S=txt s) (w:World) (hs:Bs s) (h:Bu B b L w) (hlen:L.length+s.length≤100000000) (hBw:B≤w.heap.size) :
  Calls Tryz.prog 34 #[.pointer (some ⟨b,0,none⟩),.string S] w fun e w'=>(∃ r,e = .returned r)∧BuU B b (L++s) w'∧Below B w w':=by
 subst hS
 obtain ⟨i0,hi,hz0,hz1,hz2⟩:=info_parts xbld.infoByte
 have K:=Lib.hid (copyCheck_any B b L w h)
 have hcs:=strCells_txt s hs
 have hz:=txt_size s
 clear h
 go_enter Tryz.func34,Tryz.ntmps34
 go_wp2_with (go_at_call 63;(with_reducible refine K.out.mono ?_))
 rintro e w1 ⟨rfl,h1,hb1⟩
 obtain ⟨hB,v,hbk,hown,hne⟩:=h1
 have c0:w1.cell? ⟨b,0,none⟩=some (.pointer (some ⟨b,0,none⟩)):=by rw [Lib.cell_of_heap hbk];rfl
 have c1:w1.cell? ⟨b,1,none⟩=some v:=by rw [Lib.cell_of_heap hbk];rfl
 rw [u8s_len] at hown
 go_wp2_with (at_builtin;refine Lib.wpList_append_own_string _ rfl _ _ 22 9 rfl B 5 i0 Tryz.underlying22 Tryz.underlying9 hi hz0 hz1 hz2 _ _ _ rfl hown (txt s) rfl ?c3 ?c4 ?c5 ?_)
 case c3=>rw [hz];unfold maxLen;omega
 case c4=>rw [hz];omega
 case c5=>have:=hb1.size;omega
 intro v' w2 hown' hgrow _
 have hlt:b<w1.heap.size:=(Array.getElem?_eq_some_iff.1 hbk).1
 have hb2:w2.heap[b]? = some (.cells #[.pointer (some ⟨b,0,none⟩),v] 68 (0,0)):=by
  rw [hgrow.block b hlt (fun e=>hne e.symm)]
  exact hbk
 have d0:w2.cell? ⟨b,0,none⟩=some (.pointer (some ⟨b,0,none⟩)):=by rw [Lib.cell_of_heap hb2];rfl
 have d1:w2.cell? ⟨b,1,none⟩=some v:=by rw [Lib.cell_of_heap hb2];rfl
 have f1:w2.frozen? ⟨b,1,none⟩=false:=Lib.frozen_of_heap hb2 1
 obtain ⟨ao,cap,rfl⟩:=own_shape' hown'
 rw [u8s_app] at hown'
 go_wp2
 go_ret2
 refine ⟨⟨_,rfl⟩,Lib.BuilderAt.put (T:=68) (e:=5) hB hb2 (bs':=u8s (L++s)) (by rw [u8s_len,List.length_append];exact hown') (by decide),(hb1.grown hgrow (by have:=hb1.size;omega) (fun k hk=>(hown.lt k hk).1)).setCell (p:=⟨b,1,none⟩) hB _⟩
set_option maxHeartbeats 1600000 in
theorem writeByte_any (B b:Nat) (L:List Nat) (x:Nat) (w:World) (h:Bu B b L w) (hlen:L.length+1≤100000000) (hBw:B≤w.heap.size) :
  Calls Tryz.prog 35 #[.pointer (some ⟨b,0,none⟩),.int .u8 (x:Nat)] w fun e w'=>(∃ r,e = .returned r)∧BuU B b (L++[x]) w'∧Below B w w':=by
 obtain ⟨i0,hi,hz0,hz1,hz2⟩:=info_parts xbld.infoByte
 have K:=Lib.hid (copyCheck_any B b L w h)
 clear h
 go_enter Tryz.func35,Tryz.ntmps35
 go_wp2_with (go_at_call 63;(with_reducible refine K.out.mono ?_))
 rintro e w1 ⟨rfl,h1,hb1⟩
 obtain ⟨hB,v,hbk,hown,hne⟩:=h1
 have c0:w1.cell? ⟨b,0,none⟩=some (.pointer (some ⟨b,0,none⟩)):=by rw [Lib.cell_of_heap hbk];rfl
 have c1:w1.cell? ⟨b,1,none⟩=some v:=by rw [Lib.cell_of_heap hbk];rfl
 rw [u8s_len] at hown
 have hsz:=hb1.size
 have hown2:=ownsRow_below hown (lit_below w1 (.cells #[.int .u8 (x:Nat)] 5))
 go_wp2_with (at_builtin;refine wpList_append_x at22 rfl (.tmp 11) (.tmp 13) rfl B v (.slice (some ⟨w1.heap.size,0,none⟩) 1 1) L.length 1 (u8s L) [.int .u8 (x:Nat)] rfl rfl hown2 (cells_one _ _ _) rfl (by intro u hu;rw [List.mem_singleton] at hu;subst hu;rfl) (by rw [alloc_size];omega) (by omega) (by omega) ?_)
 intro ao cap w2 hA
 have hlt:b<w1.heap.size:=(Array.getElem?_eq_some_iff.1 hbk).1
 have hb1':(w1.alloc (.cells #[.int .u8 (x:Nat)] 5)).heap[b]? = some (.cells #[.pointer (some ⟨b,0,none⟩),v] 68 (0,0)):=((lit_below w1 _).block b hlt).trans hbk
 have hb2:w2.heap[b]? = some (.cells #[.pointer (some ⟨b,0,none⟩),v] 68 (0,0)):=(hA.touch.block b (by rw [alloc_size];omega) hne).trans hb1'
 have d0:w2.cell? ⟨b,0,none⟩=some (.pointer (some ⟨b,0,none⟩)):=by rw [Lib.cell_of_heap hb2];rfl
 have d1:w2.cell? ⟨b,1,none⟩=some v:=by rw [Lib.cell_of_heap hb2];rfl
 have f1:w2.frozen? ⟨b,1,none⟩=false:=Lib.frozen_of_heap hb2 1
 have hown':=hA.own
 rw [show ([Value.int .u8 (x:Nat)]:List Value)=u8s [x] from rfl,u8s_app] at hown'
 have hBl:=hA.alloc.below (base:=B) hown (by omega)
 clear hA
 go_wp2
 go_ret
 refine ⟨⟨_,rfl⟩,Lib.BuilderAt.put (T:=68) (e:=5) hB hb2 (bs':=u8s (L++[x])) (by rw [u8s_len,List.length_append];exact hown') (by decide),(hb1.trans (hBl.mono (Nat.le_refl _))).setCell (p:=⟨b,1,none⟩) hB _⟩
set_option maxHeartbeats 1600000 in
theorem writeRune_any (B b:Nat) (L:List Nat) (x:Nat) (hx:isSign x) (w:World) (h:Bu B b L w) (hlen:L.length+4≤100000000) (hBw:B≤w.heap.size) :
  Calls Tryz.prog 59 #[.pointer (some ⟨b,0,none⟩),.int .i32 (x:Nat)] w fun e w'=>(∃ r,e = .returned r)∧BuU B b (L++enc x) w'∧Below B w w':=by
 have K:=Lib.hid (copyCheck_any B b L w h)
 clear h
 go_enter Tryz.func59,Tryz.ntmps59
 go_wp2_with (go_at_call 63;(with_reducible refine K.out.mono ?_))
 rintro e w1 ⟨rfl,h1,hb1⟩
 obtain ⟨hB,v,hbk,hown,hne⟩:=h1
 have c0:w1.cell? ⟨b,0,none⟩=some (.pointer (some ⟨b,0,none⟩)):=by rw [Lib.cell_of_heap hbk];rfl
 rw [u8s_len] at hown
 have hsz:=hb1.size
 have hKR:=Any.utf8_AppendRune_plain lapp (by kernel_rfl) B v L.length (u8s L) (x:Int) (by omega) (by have:=hx.1;omega) w1 hown (by omega) (by omega)
 rw [cells_enc x hx,u8s_len,u8s_app] at hKR
 have KR:Hid (Calls Tryz.prog 87 #[v,.int .i32 (x:Nat)] w1 fun e w'=>∃ v',e = .returned v'∧w'.ownsRow B 5 1 v' (L.length+(enc x).length) (u8s (L++enc x))∧∃ o,(w1.alloc o).grownBy w' v.ownBlock):=Lib.hid hKR
 obtain ⟨a1,cp1,rfl⟩:=own_shape' hown
 have c1:w1.cell? ⟨b,1,none⟩=some (.slice a1 L.length cp1):=by rw [Lib.cell_of_heap hbk];rfl
 clear hKR
 go_wp2_with (go_at_call 87;(with_reducible refine KR.out.mono ?_))
 rintro e w2 ⟨v',rfl,hown',o,hgrow⟩
 have hlt:b<w1.heap.size:=(Array.getElem?_eq_some_iff.1 hbk).1
 have hb1':(w1.alloc o).heap[b]? = some (.cells #[.pointer (some ⟨b,0,none⟩),.slice a1 L.length cp1] 68 (0,0)):=((lit_below w1 _).block b hlt).trans hbk
 have hb2:w2.heap[b]? = some (.cells #[.pointer (some ⟨b,0,none⟩),.slice a1 L.length cp1] 68 (0,0)):=(hgrow.block b (by rw [alloc_size];omega) (fun e=>hne e.symm)).trans hb1'
 have d0:w2.cell? ⟨b,0,none⟩=some (.pointer (some ⟨b,0,none⟩)):=by rw [Lib.cell_of_heap hb2];rfl
 have d1:w2.cell? ⟨b,1,none⟩=some (.slice a1 L.length cp1):=by rw [Lib.cell_of_heap hb2];rfl
 have f1:w2.frozen? ⟨b,1,none⟩=false:=Lib.frozen_of_heap hb2 1
 obtain ⟨ao,cap,rfl⟩:=own_shape' hown'
 have hnx:=hown'
 rw [←List.length_append] at hown'
 have hBl:Below B w1 w2:=((Below.refl B w1).alloc (by omega) o).grown hgrow (by rw [alloc_size];omega) (fun k hk=>(hown.lt k hk).1)
 have hl1:=hx.1
 have he4:=enc_le x
 obtain ⟨m,hm⟩:∃ m,m=(enc x).length:=⟨_,rfl⟩
 have hput:=Lib.BuilderAt.put (T:=68) (e:=5) hB hb2 (bs':=u8s (L++enc x)) (by rw [u8s_len];exact hown') (by decide)
 obtain ⟨w3,hw3⟩:∃ w3,w3=w2.setCell ⟨b,1,none⟩ (.slice ao (L.length+(enc x).length) cap):=⟨_,rfl⟩
 have e1:w3.cell? ⟨b,1,none⟩=some (.slice ao (L.length+(enc x).length) cap):=by rw [hw3];exact World.cell?_setCell_same _ _ _ d1
 go_wp2
 go_ret2
 refine ⟨⟨_,rfl⟩,by rw [List.length_append] at hput;exact hput,(hb1.trans hBl).setCell (p:=⟨b,1,none⟩) hB _⟩
theorem string_any (B b:Nat) (L:List Nat) (w:World) (hL:Bs L) (h:Bu B b L w) (hBw:B≤w.heap.size) :
  Calls Tryz.prog 36 #[.pointer (some ⟨b,0,none⟩)] w fun e w'=>e = .returned (.string (txt L))∧Below B w w':=by
 refine Any.Builder_String_any bstr xbld B b (u8L L) w ?_ hBw
 have:Lib.byteCells (u8L L)=u8s L:=strCells_txt L hL
 rw [this]
 exact h
theorem or_u8 (a b:Nat) (ha:a<256) (hb:b<256):bits BinOp.or IntKind.u8 (a:Int) (b:Int)=((a ||| b:Nat):Int):=by
 have hx:a ||| b<2^8:=Nat.or_lt_two_pow (by omega) (by omega)
 have h1:(BitVec.ofInt 8 (a:Int)).toNat=a:=by
  rw [BitVec.ofInt_natCast,BitVec.toNat_ofNat];exact Nat.mod_eq_of_lt (by omega)
 have h2:(BitVec.ofInt 8 (b:Int)).toNat=b:=by
  rw [BitVec.ofInt_natCast,BitVec.toNat_ofNat];exact Nat.mod_eq_of_lt (by omega)
 show IntKind.u8.wrap ((BitVec.ofInt 8 (a:Int) ||| BitVec.ofInt 8 (b:Int)).toNat:Int)=_
 rw [BitVec.toNat_or,h1,h2,IntKind.wrap_u8]
 omega
theorem digit_kinds:∀ c,c<256→(48≤c∧c≤57∧digit c=c-48) ∨
  (¬(48≤c∧c≤57)∧97≤c ||| 32∧c ||| 32≤122∧((digit c=(c ||| 32)-87∧(c ||| 32)-87<16)∨(digit c=99∧16≤(c ||| 32)-87))) ∨
  (¬(48≤c∧c≤57)∧¬(97≤c ||| 32∧c ||| 32≤122)∧digit c=99):=by decide +kernel
theorem lower_any (c:Nat) (hc:c<256) (w:World):Calls Tryz.prog 145 #[.int .u8 (c:Nat)] w fun e w'=>e = .returned (.int .u8 ((c ||| 32:Nat):Int))∧w=w':=by
 have h:=or_u8 c 32 hc (by decide)
 go_enter Tryz.func145,Tryz.ntmps145
 go_wp2
 go_ret
 exact ⟨by rw [←h];rfl,rfl⟩
def puR:Option Nat→Value
 | some v => .tuple #[.int .u64 (v:Nat),.nilIface]
 | none => .tuple #[.int .u64 0,.iface 164 (.int .i64 2)]
def numB (base:Nat) (ds:List Nat):Option Nat:=if ds=[] then none else num base ds 0
theorem pu_empty (base:Int) (w:World):Calls Tryz.prog 133 #[.string ⟨#[]⟩,.int .i64 base,.int .i64 32] w fun e w'=>e = .returned (.tuple #[.int .u64 0,.iface 164 (.int .i64 2)])∧w=w':=by
 go_enter Tryz.func133,Tryz.ntmps133
 go_wp2
 go_ret2
 exact ⟨rfl,rfl⟩
theorem num_drop {base:Nat} {ds:List Nat} {k:Nat} (h:k<ds.length) (v:Nat):num base (ds.drop k) v=if base≤digit (ds.getD k 0) then none else num base (ds.drop (k+1)) (v*base+digit (ds.getD k 0)):=by
 have e:ds.getD k 0=ds[k]:=by simp [List.getD,h]
 rw [List.drop_eq_getElem_cons h,num,e]
set_option maxHeartbeats 3200000 in
theorem pu_16 (ds:List Nat) (S:ByteArray) (hS:S=txt ds) (hb:Bs ds) (h0:ds≠[]) (hl:ds.length≤7) (w:World) :
  Calls Tryz.prog 133 #[.string S,.int .i64 16,.int .i64 32] w fun e w'=>e = .returned (puR (num 16 ds 0))∧Below w.heap.size w w':=by
 subst hS
 obtain ⟨NEW,CAP,hcvt,hnb,hns⟩:=text_run (txt ds) (by rw [txt_size];omega)
 rw [txt_size] at hcvt
 rw [bts_txt hb] at hns
 have hc0:=hcvt w
 have HS0:=Lib.hid (hns w)
 have HB0:=Lib.hid (hnb w)
 obtain ⟨W0,hW0⟩:∃ W0,W0=NEW w:=⟨_,rfl⟩
 obtain ⟨C0,hC0⟩:∃ C0,C0=CAP w:=⟨_,rfl⟩
 rw [←hW0,←hC0] at hc0
 rw [←hW0] at HB0
 rw [←hW0,←hC0] at HS0
 have hne:((txt ds).toList == ([]:List UInt8))=false:=by
  rw [ByteArray.toList_eq]
  show ((u8L ds).toArray.toList == [])=false
  rw [List.toList_toArray]
  cases ds with
  | nil=>exact absurd rfl h0
  | cons a t=>rfl
 have hne2:(txt ds).toList.isEmpty=false:=by
  rw [ByteArray.toList_eq]
  show ((u8L ds).toArray.toList).isEmpty=false
  rw [List.toList_toArray]
  cases ds with
  | nil=>exact absurd rfl h0
  | cons a t=>rfl
 obtain ⟨R,hR⟩:∃ R,R=num 16 ds 0:=⟨_,rfl⟩
 rw [←hR]
 have HR:=Lib.hid hR
 obtain ⟨N,hN⟩:∃ N,N=ds.length:=⟨_,rfl⟩
 have HN:=Lib.hid hN
 rw [←hN] at hc0 hl
 obtain ⟨TX,hTX⟩:∃ TX,TX=txt ds:=⟨_,rfl⟩
 rw [←hTX] at hne hne2 hc0 ⊢
 have KL:=Lib.hid lower_any
 clear hcvt hnb hns hR hN hW0 hC0 hTX
 go_enter Tryz.func133,Tryz.ntmps133
 go_wp2
 obtain ⟨cu,hcu⟩:∃ cu:Nat,(1152921504606846976:Int)=(cu:Int):=⟨1152921504606846976,rfl⟩
 obtain ⟨mv,hmv⟩:∃ mv:Nat,(4294967295:Int)=(mv:Int):=⟨4294967295,rfl⟩
 rw [hcu,hmv]
 have hcm:=Lib.hid (show 268435456≤cu∧268435456≤mv by omega)
 clear hcu hmv
 go_loopw [12,13,101] (fun vu vn vi wr=>∃ k n:Nat,k≤N∧vu = .bool false∧vi = .int .i64 (k:Nat)∧vn = .int .u64 (n:Nat)∧n<16^k∧wr=W0∧Hid (R=num 16 (ds.drop k) n)) (fun _ _ vi _=>N-(intOf vi).toNat)
 case atStart=>exact ⟨0,0,Nat.zero_le _,rfl,rfl,rfl,by decide,rfl,Lib.hid (by rw [HR.out];rfl)⟩
 case round=>
  obtain ⟨k,n,hk,rfl,rfl,rfl,hn,rfl,hrel⟩:=hrel
  by_cases hlt:k<N
  ·have hkk:(k:Int)<N:=by omega
   have hkx:k<ds.length:=by rw [←HN.out];exact hlt
   have hcell:=HS0.out.src
   rcases hcell with h00 | ⟨b,off,e0,hc⟩
   ·exact absurd h00 h0
   injection e0 with e0
   injection e0 with e1 e2
   subst e1 e2
   have hcell:=hc k hkx
   rw [Nat.zero_add] at hcell
   have hst:=hrel.out
   rw [num_drop hkx] at hst
   have hx:=hb.at k
   obtain ⟨x,hxx⟩:∃ x,x=ds.getD k 0:=⟨_,rfl⟩
   rw [←hxx] at hcell hst hx
   have hk7:k<7:=by omega
   have hn28:n<16^6:=Nat.lt_of_lt_of_le hn (Nat.pow_le_pow_right (by omega) (by omega))
   have e166:(16:Nat)^6=16777216:=by decide
   rw [e166] at hn28
   have KLX:=Lib.hid fun W=>KL.out x hx W
   have HBS:=HB0.out
   clear hrel hc hxx e166
   rcases digit_kinds x hx with ⟨a1,a2,hd⟩ | ⟨a1,a2,a3,hd⟩ | ⟨a1,a2,hd⟩
   ·
    obtain ⟨d,hdd⟩:∃ d,d=x-48:=⟨_,rfl⟩
    have hd2:digit x=d:=by rw [hd,hdd]
    have hd10:d<10:=by omega
    have hsubd:IntKind.u8.wrap ((x:Int)-48)=(d:Int):=by rw [IntKind.wrap_u8];omega
    have b1:(48:Int)≤x:=by omega
    have b2:(x:Int)≤57:=by omega
    have e95':¬(x:Int)=95:=by omega
    have hdb:¬16≤d:=by omega
    have HRN:Hid (R=num 16 (ds.drop (k+1)) (n*16+d)):=Lib.hid (by rw [hst,hd2,if_neg hdb])
    obtain ⟨m1,hm1⟩:∃ m,m=n*16:=⟨_,rfl⟩
    obtain ⟨m2,hm2⟩:∃ m,m=m1+d:=⟨_,rfl⟩
    have hpow:Hid (m2<16^(k+1)):=Lib.hid (by rw [Nat.pow_succ];omega)
    have hmul:IntKind.u64.wrap ((n:Int)*16)=(m1:Int):=by rw [IntKind.wrap_u64];omega
    have hadd:IntKind.u64.wrap ((m1:Int)+d)=(m2:Int):=by rw [IntKind.wrap_u64];omega
    have hm28:m2<268435456:=by omega
    have hge:¬(m2:Int)<m1:=by omega
    have hge2:¬(mv:Int)<m2:=by have:=hcm.out;omega
    have hcutoff:¬(cu:Int)≤n:=by have:=hcm.out;omega
    have hdb':¬(16:Int)≤d:=by omega
    rw [←hm1,←hm2] at HRN
    clear hst hd hdd hd2 hm1 hm2 a1 a2 hdb hn hn28
    go_wp2
    refine ⟨⟨k+1,m2,by omega,by go_num,by first | rfl | trivial,by first | rfl | trivial,hpow.out,by first | rfl | trivial,HRN⟩,?_⟩
    simp [intOf];omega
   ·have h95:¬x=95:=fun e=>by subst e;exact absurd a3 (by decide)
    obtain ⟨y,hy⟩:∃ y,y=x ||| 32:=⟨_,rfl⟩
    rw [←hy] at a2 a3 hd KLX
    clear hy
    have e95':¬(x:Int)=95:=by omega
    obtain ⟨z,hz⟩:∃ z,z=y-97:=⟨_,rfl⟩
    obtain ⟨d,hdd⟩:∃ d,d=z+10:=⟨_,rfl⟩
    have hs1:IntKind.u8.wrap ((y:Int)-97)=(z:Int):=by rw [IntKind.wrap_u8];omega
    have hs2:IntKind.u8.wrap ((z:Int)+10)=(d:Int):=by rw [IntKind.wrap_u8];omega
    have b3:(97:Int)≤y:=by omega
    have b4:(y:Int)≤122:=by omega
    rw [show y-87=d by omega] at hd
    clear hz hdd a2 a3 h95
    by_cases hdb:16≤d
    ·have hdb':(16:Int)≤d:=by omega
     have HRN:Hid (R=none):=Lib.hid (by
      rw [hst,if_pos]
      rcases hd with ⟨h1,_⟩ | ⟨h1,_⟩
      ·rw [h1];exact hdb
      ·rw [h1];decide)
     clear hst hd hdb
     by_cases a48:48≤x
     ·have b1:¬(x:Int)≤57:=by omega
      have b2:(48:Int)≤x:=by omega
      clear a1 a48
      go_wp2_with (go_at_call 145;(with_reducible refine (KLX.out _).mono ?_);rintro e w1 ⟨rfl,rfl⟩)
      go_ret2
      exact ⟨by rw [HRN.out];rfl,HB0.out⟩
     ·have b2:¬(48:Int)≤x:=by omega
      clear a1 a48
      go_wp2_with (go_at_call 145;(with_reducible refine (KLX.out _).mono ?_);rintro e w1 ⟨rfl,rfl⟩)
      go_ret2
      exact ⟨by rw [HRN.out];rfl,HB0.out⟩
    ·have hd2:digit x=d:=by
      rcases hd with ⟨h1,_⟩ | ⟨_,h2⟩
      ·exact h1
      ·omega
     have hd10:d<16:=by omega
     by_cases a48:48≤x
     ·have b1:¬(x:Int)≤57:=by omega
      have b2:(48:Int)≤x:=by omega
      clear a48
      have HRN:Hid (R=num 16 (ds.drop (k+1)) (n*16+d)):=Lib.hid (by rw [hst,hd2,if_neg hdb])
      obtain ⟨m1,hm1⟩:∃ m,m=n*16:=⟨_,rfl⟩
      obtain ⟨m2,hm2⟩:∃ m,m=m1+d:=⟨_,rfl⟩
      have hpow:Hid (m2<16^(k+1)):=Lib.hid (by rw [Nat.pow_succ];omega)
      have hmul:IntKind.u64.wrap ((n:Int)*16)=(m1:Int):=by rw [IntKind.wrap_u64];omega
      have hadd:IntKind.u64.wrap ((m1:Int)+d)=(m2:Int):=by rw [IntKind.wrap_u64];omega
      have hge:¬(m2:Int)<m1:=by omega
      have hdb':¬(16:Int)≤d:=by omega
      have HGE2:=Lib.hid (show ¬(mv:Int)<m2 by have:=hcm.out;omega)
      have HCUT:=Lib.hid (show ¬(cu:Int)≤n by have:=hcm.out;omega)
      rw [←hm1,←hm2] at HRN
      clear hst hd hd2 hm1 hm2 a1 hdb hn hn28
      go_upto_region 46 with (go_at_call 145;(with_reducible refine (KLX.out _).mono ?_);rintro e w1 ⟨rfl,rfl⟩)
      clear hs1 hs2 b3 b4 b2 hd10 hcell HBS
      have hge2:=HGE2.out
      have hcutoff:=HCUT.out
      go_wp2
      refine ⟨⟨k+1,m2,by omega,by go_num,by first | rfl | trivial,by first | rfl | trivial,hpow.out,by first | rfl | trivial,HRN⟩,?_⟩
      simp [intOf];omega
     ·have b2:¬(48:Int)≤x:=by omega
      clear a48
      have HRN:Hid (R=num 16 (ds.drop (k+1)) (n*16+d)):=Lib.hid (by rw [hst,hd2,if_neg hdb])
      obtain ⟨m1,hm1⟩:∃ m,m=n*16:=⟨_,rfl⟩
      obtain ⟨m2,hm2⟩:∃ m,m=m1+d:=⟨_,rfl⟩
      have hpow:Hid (m2<16^(k+1)):=Lib.hid (by rw [Nat.pow_succ];omega)
      have hmul:IntKind.u64.wrap ((n:Int)*16)=(m1:Int):=by rw [IntKind.wrap_u64];omega
      have hadd:IntKind.u64.wrap ((m1:Int)+d)=(m2:Int):=by rw [IntKind.wrap_u64];omega
      have hge:¬(m2:Int)<m1:=by omega
      have hdb':¬(16:Int)≤d:=by omega
      have HGE2:=Lib.hid (show ¬(mv:Int)<m2 by have:=hcm.out;omega)
      have HCUT:=Lib.hid (show ¬(cu:Int)≤n by have:=hcm.out;omega)
      rw [←hm1,←hm2] at HRN
      clear hst hd hd2 hm1 hm2 a1 hdb hn hn28
      go_upto_region 46 with (go_at_call 145;(with_reducible refine (KLX.out _).mono ?_);rintro e w1 ⟨rfl,rfl⟩)
      clear hs1 hs2 b3 b4 b2 hd10 hcell HBS
      have hge2:=HGE2.out
      have hcutoff:=HCUT.out
      go_wp2
      refine ⟨⟨k+1,m2,by omega,by go_num,by first | rfl | trivial,by first | rfl | trivial,hpow.out,by first | rfl | trivial,HRN⟩,?_⟩
      simp [intOf];omega
   ·have HRN:Hid (R=none):=Lib.hid (by rw [hst,hd,if_pos (by decide)])
    clear hst hd
    by_cases e95:x=95
    ·subst e95
     have KLX:Hid (∀ W,Calls Tryz.prog 145 #[.int .u8 95] W fun e w'=>e = .returned (.int .u8 127)∧W=w'):=KLX
     clear a1 a2
     go_wp2_with (go_at_call 145;(with_reducible refine (KLX.out _).mono ?_);rintro e w1 ⟨rfl,rfl⟩)
     go_ret2
     exact ⟨by rw [HRN.out];rfl,HB0.out⟩
    have e95':¬(x:Int)=95:=by omega
    obtain ⟨y,hy⟩:∃ y,y=x ||| 32:=⟨_,rfl⟩
    rw [←hy] at a2 KLX
    clear hy e95
    by_cases a48:48≤x
    ·have b1:¬(x:Int)≤57:=by omega
     have b2:(48:Int)≤x:=by omega
     by_cases c97:97≤y
     ·have b3:(97:Int)≤y:=by omega
      have b4:¬(y:Int)≤122:=by omega
      clear a1 a2 a48 c97
      go_wp2_with (go_at_call 145;(with_reducible refine (KLX.out _).mono ?_);rintro e w1 ⟨rfl,rfl⟩)
      go_ret2
      exact ⟨by rw [HRN.out];rfl,HB0.out⟩
     ·have b3:¬(97:Int)≤y:=by omega
      clear a1 a2 a48 c97
      go_wp2_with (go_at_call 145;(with_reducible refine (KLX.out _).mono ?_);rintro e w1 ⟨rfl,rfl⟩)
      go_ret2
      exact ⟨by rw [HRN.out];rfl,HB0.out⟩
    ·have b2:¬(48:Int)≤x:=by omega
     by_cases c97:97≤y
     ·have b3:(97:Int)≤y:=by omega
      have b4:¬(y:Int)≤122:=by omega
      clear a1 a2 a48 c97
      go_wp2_with (go_at_call 145;(with_reducible refine (KLX.out _).mono ?_);rintro e w1 ⟨rfl,rfl⟩)
      go_ret2
      exact ⟨by rw [HRN.out];rfl,HB0.out⟩
     ·have b3:¬(97:Int)≤y:=by omega
      clear a1 a2 a48 c97
      go_wp2_with (go_at_call 145;(with_reducible refine (KLX.out _).mono ?_);rintro e w1 ⟨rfl,rfl⟩)
      go_ret2
      exact ⟨by rw [HRN.out];rfl,HB0.out⟩
  ·obtain rfl:k=N:=by omega
   have HRN:Hid (R=some n):=Lib.hid (by rw [hrel.out,HN.out,List.drop_length];rfl)
   go_wp2
   go_ret2
   exact ⟨by rw [HRN.out];rfl,HB0.out⟩
set_option maxHeartbeats 3200000 in
theorem pu_10 (ds:List Nat) (S:ByteArray) (hS:S=txt ds) (hb:Bs ds) (h0:ds≠[]) (hl:ds.length≤7) (w:World) :
  Calls Tryz.prog 133 #[.string S,.int .i64 10,.int .i64 32] w fun e w'=>e = .returned (puR (num 10 ds 0))∧Below w.heap.size w w':=by
 subst hS
 obtain ⟨NEW,CAP,hcvt,hnb,hns⟩:=text_run (txt ds) (by rw [txt_size];omega)
 rw [txt_size] at hcvt
 rw [bts_txt hb] at hns
 have hc0:=hcvt w
 have HS0:=Lib.hid (hns w)
 have HB0:=Lib.hid (hnb w)
 obtain ⟨W0,hW0⟩:∃ W0,W0=NEW w:=⟨_,rfl⟩
 obtain ⟨C0,hC0⟩:∃ C0,C0=CAP w:=⟨_,rfl⟩
 rw [←hW0,←hC0] at hc0
 rw [←hW0] at HB0
 rw [←hW0,←hC0] at HS0
 have hne:((txt ds).toList == ([]:List UInt8))=false:=by
  rw [ByteArray.toList_eq]
  show ((u8L ds).toArray.toList == [])=false
  rw [List.toList_toArray]
  cases ds with
  | nil=>exact absurd rfl h0
  | cons a t=>rfl
 have hne2:(txt ds).toList.isEmpty=false:=by
  rw [ByteArray.toList_eq]
  show ((u8L ds).toArray.toList).isEmpty=false
  rw [List.toList_toArray]
  cases ds with
  | nil=>exact absurd rfl h0
  | cons a t=>rfl
 obtain ⟨R,hR⟩:∃ R,R=num 10 ds 0:=⟨_,rfl⟩
 rw [←hR]
 have HR:=Lib.hid hR
 obtain ⟨N,hN⟩:∃ N,N=ds.length:=⟨_,rfl⟩
 have HN:=Lib.hid hN
 rw [←hN] at hc0 hl
 obtain ⟨TX,hTX⟩:∃ TX,TX=txt ds:=⟨_,rfl⟩
 rw [←hTX] at hne hne2 hc0 ⊢
 have KL:=Lib.hid lower_any
 clear hcvt hnb hns hR hN hW0 hC0 hTX
 go_enter Tryz.func133,Tryz.ntmps133
 go_wp2
 obtain ⟨cu,hcu⟩:∃ cu:Nat,(1844674407370955162:Int)=(cu:Int):=⟨1844674407370955162,rfl⟩
 obtain ⟨mv,hmv⟩:∃ mv:Nat,(4294967295:Int)=(mv:Int):=⟨4294967295,rfl⟩
 rw [hcu,hmv]
 have hcm:=Lib.hid (show 268435456≤cu∧268435456≤mv by omega)
 clear hcu hmv
 go_loopw [12,13,101] (fun vu vn vi wr=>∃ k n:Nat,k≤N∧vu = .bool false∧vi = .int .i64 (k:Nat)∧vn = .int .u64 (n:Nat)∧n<16^k∧wr=W0∧Hid (R=num 10 (ds.drop k) n)) (fun _ _ vi _=>N-(intOf vi).toNat)
 case atStart=>exact ⟨0,0,Nat.zero_le _,rfl,rfl,rfl,by decide,rfl,Lib.hid (by rw [HR.out];rfl)⟩
 case round=>
  obtain ⟨k,n,hk,rfl,rfl,rfl,hn,rfl,hrel⟩:=hrel
  by_cases hlt:k<N
  ·have hkk:(k:Int)<N:=by omega
   have hkx:k<ds.length:=by rw [←HN.out];exact hlt
   have hcell:=HS0.out.src
   rcases hcell with h00 | ⟨b,off,e0,hc⟩
   ·exact absurd h00 h0
   injection e0 with e0
   injection e0 with e1 e2
   subst e1 e2
   have hcell:=hc k hkx
   rw [Nat.zero_add] at hcell
   have hst:=hrel.out
   rw [num_drop hkx] at hst
   have hx:=hb.at k
   obtain ⟨x,hxx⟩:∃ x,x=ds.getD k 0:=⟨_,rfl⟩
   rw [←hxx] at hcell hst hx
   have hk7:k<7:=by omega
   have hn28:n<16^6:=Nat.lt_of_lt_of_le hn (Nat.pow_le_pow_right (by omega) (by omega))
   have e166:(16:Nat)^6=16777216:=by decide
   rw [e166] at hn28
   have KLX:=Lib.hid fun W=>KL.out x hx W
   have HBS:=HB0.out
   clear hrel hc hxx e166
   rcases digit_kinds x hx with ⟨a1,a2,hd⟩ | ⟨a1,a2,a3,hd⟩ | ⟨a1,a2,hd⟩
   ·
    obtain ⟨d,hdd⟩:∃ d,d=x-48:=⟨_,rfl⟩
    have hd2:digit x=d:=by rw [hd,hdd]
    have hd10:d<10:=by omega
    have hsubd:IntKind.u8.wrap ((x:Int)-48)=(d:Int):=by rw [IntKind.wrap_u8];omega
    have b1:(48:Int)≤x:=by omega
    have b2:(x:Int)≤57:=by omega
    have e95':¬(x:Int)=95:=by omega
    have hdb:¬10≤d:=by omega
    have HRN:Hid (R=num 10 (ds.drop (k+1)) (n*10+d)):=Lib.hid (by rw [hst,hd2,if_neg hdb])
    obtain ⟨m1,hm1⟩:∃ m,m=n*10:=⟨_,rfl⟩
    obtain ⟨m2,hm2⟩:∃ m,m=m1+d:=⟨_,rfl⟩
    have hpow:Hid (m2<16^(k+1)):=Lib.hid (by rw [Nat.pow_succ];omega)
    have hmul:IntKind.u64.wrap ((n:Int)*10)=(m1:Int):=by rw [IntKind.wrap_u64];omega
    have hadd:IntKind.u64.wrap ((m1:Int)+d)=(m2:Int):=by rw [IntKind.wrap_u64];omega
    have hm28:m2<268435456:=by omega
    have hge:¬(m2:Int)<m1:=by omega
    have hge2:¬(mv:Int)<m2:=by have:=hcm.out;omega
    have hcutoff:¬(cu:Int)≤n:=by have:=hcm.out;omega
    have hdb':¬(10:Int)≤d:=by omega
    rw [←hm1,←hm2] at HRN
    clear hst hd hdd hd2 hm1 hm2 a1 a2 hdb hn hn28
    go_wp2
    refine ⟨⟨k+1,m2,by omega,by go_num,by first | rfl | trivial,by first | rfl | trivial,hpow.out,by first | rfl | trivial,HRN⟩,?_⟩
    simp [intOf];omega
   ·have h95:¬x=95:=fun e=>by subst e;exact absurd a3 (by decide)
    obtain ⟨y,hy⟩:∃ y,y=x ||| 32:=⟨_,rfl⟩
    rw [←hy] at a2 a3 hd KLX
    clear hy
    have e95':¬(x:Int)=95:=by omega
    obtain ⟨z,hz⟩:∃ z,z=y-97:=⟨_,rfl⟩
    obtain ⟨d,hdd⟩:∃ d,d=z+10:=⟨_,rfl⟩
    have hs1:IntKind.u8.wrap ((y:Int)-97)=(z:Int):=by rw [IntKind.wrap_u8];omega
    have hs2:IntKind.u8.wrap ((z:Int)+10)=(d:Int):=by rw [IntKind.wrap_u8];omega
    have b3:(97:Int)≤y:=by omega
    have b4:(y:Int)≤122:=by omega
    rw [show y-87=d by omega] at hd
    clear hz hdd a2 a3 h95
    by_cases hdb:10≤d
    ·have hdb':(10:Int)≤d:=by omega
     have HRN:Hid (R=none):=Lib.hid (by
      rw [hst,if_pos]
      rcases hd with ⟨h1,_⟩ | ⟨h1,_⟩
      ·rw [h1];exact hdb
      ·rw [h1];decide)
     clear hst hd hdb
     by_cases a48:48≤x
     ·have b1:¬(x:Int)≤57:=by omega
      have b2:(48:Int)≤x:=by omega
      clear a1 a48
      go_wp2_with (go_at_call 145;(with_reducible refine (KLX.out _).mono ?_);rintro e w1 ⟨rfl,rfl⟩)
      go_ret2
      exact ⟨by rw [HRN.out];rfl,HB0.out⟩
     ·have b2:¬(48:Int)≤x:=by omega
      clear a1 a48
      go_wp2_with (go_at_call 145;(with_reducible refine (KLX.out _).mono ?_);rintro e w1 ⟨rfl,rfl⟩)
      go_ret2
      exact ⟨by rw [HRN.out];rfl,HB0.out⟩
    ·have hd2:digit x=d:=by
      rcases hd with ⟨h1,_⟩ | ⟨_,h2⟩
      ·exact h1
      ·omega
     have hd10:d<10:=by omega
     by_cases a48:48≤x
     ·have b1:¬(x:Int)≤57:=by omega
      have b2:(48:Int)≤x:=by omega
      clear a48
      have HRN:Hid (R=num 10 (ds.drop (k+1)) (n*10+d)):=Lib.hid (by rw [hst,hd2,if_neg hdb])
      obtain ⟨m1,hm1⟩:∃ m,m=n*10:=⟨_,rfl⟩
      obtain ⟨m2,hm2⟩:∃ m,m=m1+d:=⟨_,rfl⟩
      have hpow:Hid (m2<16^(k+1)):=Lib.hid (by rw [Nat.pow_succ];omega)
      have hmul:IntKind.u64.wrap ((n:Int)*10)=(m1:Int):=by rw [IntKind.wrap_u64];omega
      have hadd:IntKind.u64.wrap ((m1:Int)+d)=(m2:Int):=by rw [IntKind.wrap_u64];omega
      have hge:¬(m2:Int)<m1:=by omega
      have hdb':¬(10:Int)≤d:=by omega
      have HGE2:=Lib.hid (show ¬(mv:Int)<m2 by have:=hcm.out;omega)
      have HCUT:=Lib.hid (show ¬(cu:Int)≤n by have:=hcm.out;omega)
      rw [←hm1,←hm2] at HRN
      clear hst hd hd2 hm1 hm2 a1 hdb hn hn28
      go_upto_region 46 with (go_at_call 145;(with_reducible refine (KLX.out _).mono ?_);rintro e w1 ⟨rfl,rfl⟩)
      clear hs1 hs2 b3 b4 b2 hd10 hcell HBS
      have hge2:=HGE2.out
      have hcutoff:=HCUT.out
      go_wp2
      refine ⟨⟨k+1,m2,by omega,by go_num,by first | rfl | trivial,by first | rfl | trivial,hpow.out,by first | rfl | trivial,HRN⟩,?_⟩
      simp [intOf];omega
     ·have b2:¬(48:Int)≤x:=by omega
      clear a48
      have HRN:Hid (R=num 10 (ds.drop (k+1)) (n*10+d)):=Lib.hid (by rw [hst,hd2,if_neg hdb])
      obtain ⟨m1,hm1⟩:∃ m,m=n*10:=⟨_,rfl⟩
      obtain ⟨m2,hm2⟩:∃ m,m=m1+d:=⟨_,rfl⟩
      have hpow:Hid (m2<16^(k+1)):=Lib.hid (by rw [Nat.pow_succ];omega)
      have hmul:IntKind.u64.wrap ((n:Int)*10)=(m1:Int):=by rw [IntKind.wrap_u64];omega
      have hadd:IntKind.u64.wrap ((m1:Int)+d)=(m2:Int):=by rw [IntKind.wrap_u64];omega
      have hge:¬(m2:Int)<m1:=by omega
      have hdb':¬(10:Int)≤d:=by omega
      have HGE2:=Lib.hid (show ¬(mv:Int)<m2 by have:=hcm.out;omega)
      have HCUT:=Lib.hid (show ¬(cu:Int)≤n by have:=hcm.out;omega)
      rw [←hm1,←hm2] at HRN
      clear hst hd hd2 hm1 hm2 a1 hdb hn hn28
      go_upto_region 46 with (go_at_call 145;(with_reducible refine (KLX.out _).mono ?_);rintro e w1 ⟨rfl,rfl⟩)
      clear hs1 hs2 b3 b4 b2 hd10 hcell HBS
      have hge2:=HGE2.out
      have hcutoff:=HCUT.out
      go_wp2
      refine ⟨⟨k+1,m2,by omega,by go_num,by first | rfl | trivial,by first | rfl | trivial,hpow.out,by first | rfl | trivial,HRN⟩,?_⟩
      simp [intOf];omega
   ·have HRN:Hid (R=none):=Lib.hid (by rw [hst,hd,if_pos (by decide)])
    clear hst hd
    by_cases e95:x=95
    ·subst e95
     have KLX:Hid (∀ W,Calls Tryz.prog 145 #[.int .u8 95] W fun e w'=>e = .returned (.int .u8 127)∧W=w'):=KLX
     clear a1 a2
     go_wp2_with (go_at_call 145;(with_reducible refine (KLX.out _).mono ?_);rintro e w1 ⟨rfl,rfl⟩)
     go_ret2
     exact ⟨by rw [HRN.out];rfl,HB0.out⟩
    have e95':¬(x:Int)=95:=by omega
    obtain ⟨y,hy⟩:∃ y,y=x ||| 32:=⟨_,rfl⟩
    rw [←hy] at a2 KLX
    clear hy e95
    by_cases a48:48≤x
    ·have b1:¬(x:Int)≤57:=by omega
     have b2:(48:Int)≤x:=by omega
     by_cases c97:97≤y
     ·have b3:(97:Int)≤y:=by omega
      have b4:¬(y:Int)≤122:=by omega
      clear a1 a2 a48 c97
      go_wp2_with (go_at_call 145;(with_reducible refine (KLX.out _).mono ?_);rintro e w1 ⟨rfl,rfl⟩)
      go_ret2
      exact ⟨by rw [HRN.out];rfl,HB0.out⟩
     ·have b3:¬(97:Int)≤y:=by omega
      clear a1 a2 a48 c97
      go_wp2_with (go_at_call 145;(with_reducible refine (KLX.out _).mono ?_);rintro e w1 ⟨rfl,rfl⟩)
      go_ret2
      exact ⟨by rw [HRN.out];rfl,HB0.out⟩
    ·have b2:¬(48:Int)≤x:=by omega
     by_cases c97:97≤y
     ·have b3:(97:Int)≤y:=by omega
      have b4:¬(y:Int)≤122:=by omega
      clear a1 a2 a48 c97
      go_wp2_with (go_at_call 145;(with_reducible refine (KLX.out _).mono ?_);rintro e w1 ⟨rfl,rfl⟩)
      go_ret2
      exact ⟨by rw [HRN.out];rfl,HB0.out⟩
     ·have b3:¬(97:Int)≤y:=by omega
      clear a1 a2 a48 c97
      go_wp2_with (go_at_call 145;(with_reducible refine (KLX.out _).mono ?_);rintro e w1 ⟨rfl,rfl⟩)
      go_ret2
      exact ⟨by rw [HRN.out];rfl,HB0.out⟩
  ·obtain rfl:k=N:=by omega
   have HRN:Hid (R=some n):=Lib.hid (by rw [hrel.out,HN.out,List.drop_length];rfl)
   go_wp2
   go_ret2
   exact ⟨by rw [HRN.out];rfl,HB0.out⟩
end
end Go.Proofs.YtbogfailbgbdoaaGreatDoor.K
