/- Part 7. -/
import Derived.Laws.Bits64b
import Derived.Laws.CopyOwn
import Derived.Lib.AppendZerosOnto
import Derived.Shelf.Spec.SlicesGrow
import Derived.Test.YthbbpooobaahiaaGreatDoorXA6
namespace Go.Proofs.YthbbpooobaahiaaGreatDoor
set_option maxRecDepth 100000
section
open Go.RowKit
section
variable {B K p pb:Nat} {g:Option Nat} {bs:List Nat} {lim:Nat} {w:World} {ov:Value} {s:Sta}
def Roomy (w:World) (ok:Bool) (e:Ending) (w':World):Prop:=(if ok then e = .returned (.tuple #[]) else e=pan 14)∧∃ nq,w'=w.drewN nq
theorem RS.slice (h:RS B K p pb g bs lim w ov s):∃ ao c,ov = .slice ao s.out.length c:=own_shape h.own
theorem needRoom_any (h:RS B K p pb g bs lim w ov s) (n:Nat) :
  Calls Tryz.prog 151 #[.pointer (some ⟨p,0,none⟩),.int .i64 n] w (Roomy w (decide (s.out.length+n≤lim))):=by
 have ho:=h.out
 have hl:=h.lim_
 have k:=h.cells
 have c1:=k.c1
 have c2:=k.c2
 obtain ⟨ao,c,rfl⟩:=h.slice
 obtain ⟨m,hm⟩:∃ m,m=s.out.length:=⟨_,rfl⟩
 rw [←hm] at ho c1 ⊢
 clear h k hm
 have e1:IntKind.i64.wrap ((lim:Int)-(m:Int))=((lim-m:Nat):Int):=by rw [IntKind.wrap_i64];omega
 obtain ⟨d,hd⟩:∃ d,d=lim-m:=⟨_,rfl⟩
 rw [←hd] at e1
 by_cases hr:m+n≤lim
 ·have d1:decide (n≤d)=true:=by simp;omega
  have d2:decide ((n:Int)≤(d:Int))=true:=by simp;omega
  rw [decide_eq_true hr]
  clear hd hr
  go_enter Tryz.func151,Tryz.ntmps151
  go_still_tail 12,(by kernel_rfl)
  change wpList _ _ _ _ _ w.drew
  go_wp2_with (go_at_call 135;refine (must_yes _ _).mono ?_;rintro e w3 ⟨rfl,rfl⟩)
  go_end0
  exact ⟨rfl,1,rfl⟩
 ·have d1:decide (n≤d)=false:=by simp;omega
  have d2:decide ((n:Int)≤(d:Int))=false:=by simp;omega
  rw [decide_eq_false hr]
  clear hd hr
  go_enter Tryz.func151,Tryz.ntmps151
  go_still_tail 12,(by kernel_rfl)
  change wpList _ _ _ _ _ w.drew
  go_wp2_with (go_at_call 135;refine (must_no 14 _).mono ?_;rintro e w3 ⟨rfl,rfl⟩)
  exact ⟨rfl,rfl,1,rfl⟩
theorem grown_none:Calls Tryz.prog 166 #[.pointer (some ⟨p,0,none⟩),.int .i64 0,.int .i64 0,.bool false] w (RBad p pb w ov 10):=by
 go_enter Tryz.func166,Tryz.ntmps166
 go_wp2_with (go_at_call 135;refine (must_no 10 _).mono ?_;rintro e w3 ⟨rfl,rfl⟩)
 exact ⟨rfl,rfl,Touch.refl _ _⟩
theorem grown_some (h:RS B K p pb g bs lim w ov s) (x:Nat × Nat) (h1:x.1≤100000) (h2:x.2≤16) :
  Calls Tryz.prog 166 #[.pointer (some ⟨p,0,none⟩),.int .i64 x.1,.int .i64 x.2,.bool true] w (RTo B K p pb g bs lim w ov nv (grown bs (some x) s)):=by
 have HN:=Lib.hid (number_any h x.2 h2)
 obtain ⟨a,b⟩:=x
 simp only at h1 h2 ⊢
 unfold grown
 cases hr:rdN bs b s with
 | bad er=>
  simp only [hr] at HN
  simp only [hr,Res.bind_bad]
  clear h hr
  go_enter Tryz.func166,Tryz.ntmps166
  go_wp2_with (first
   | (go_at_call 135;refine (must_yes _ _).mono ?_;rintro e w3 ⟨rfl,rfl⟩)
   | (go_at_call 117;(refine HN.out.mono ?_);rintro e w2 ⟨rfl,ht⟩))
  exact ⟨rfl,rfl,ht⟩
 | ok v t=>
  simp only [hr] at HN
  simp only [hr,Res.bind_ok]
  have hv:v<65536:=by
   obtain ⟨_,h4,_⟩:=rdN_is hr
   rw [h4]
   exact Nat.lt_of_lt_of_le (pk_lt bs s.at_ b) (Nat.le_trans (Nat.pow_le_pow_right (by omega) h2) (by decide:2^16≤65536))
  clear h hr
  go_enter Tryz.func166,Tryz.ntmps166
  go_wp2_with (first
   | (go_at_call 135;refine (must_yes _ _).mono ?_;rintro e w3 ⟨rfl,rfl⟩)
   | (go_at_call 117;(refine HN.out.mono ?_);rintro e w2 ⟨rfl,ht⟩;have HT:=Lib.hid ht;clear ht))
  go_ret
  exact ⟨by simp [nv],HT.out⟩
theorem lenOf_le {y:Nat} {x:Nat × Nat} (h:lenOf y=some x):x.1≤1000∧x.2≤16:=by
 unfold lenOf at h
 split at h
 ·cases h
 ·split at h
  ·cases h;exact ⟨by decide,by decide⟩
  ·split at h
   ·cases h;exact ⟨by show y-254≤1000;omega,Nat.zero_le _⟩
   ·cases h
    have h1:(y-257)/4-1≤6:=by omega
    have h2:2^((y-257)/4-1)≤2^6:=Nat.pow_le_pow_right (by omega) h1
    have h3:=Nat.mul_le_mul (show 4+(y-257)%4≤8 by omega) h2
    exact ⟨by show 3+_≤1000;omega,by show (y-257)/4-1≤16;omega⟩
theorem disOf_le {y:Nat} {x:Nat × Nat} (h:disOf y=some x):1≤x.1∧x.1≤60000∧x.2≤16:=by
 unfold disOf at h
 split at h
 ·cases h
 ·split at h
  ·cases h;exact ⟨by show 1≤1+y;omega,by show 1+y≤60000;omega,Nat.zero_le _⟩
  ·cases h
   have h1:y/2-1≤13:=by omega
   have h2:2^(y/2-1)≤2^13:=Nat.pow_le_pow_right (by omega) h1
   have h3:=Nat.mul_le_mul (show 2+y%2≤3 by omega) h2
   exact ⟨by show 1≤1+_;omega,by show 1+_≤60000;omega,by show y/2-1≤16;omega⟩
theorem back_succ (far n:Nat):∀ l,back far (n+1) l=back far n l++[(back far n l).getD ((back far n l).length-far) 0]:=by
 induction n with
 | zero=>intro l;rfl
 | succ n ih=>intro l;rw [back,ih];rfl
theorem RS.mid {w1:World} {ov':Value} {xs:List Nat} {o:Obj} (h:RS B K p pb g bs lim w ov s) (hA:Apd (w.alloc o).drew B ov xs ov' w1) (hx:xs.length≤lim) (hb':Bs xs) :
  w1.cell? ⟨p,1,none⟩=some ov∧w1.frozen? ⟨p,1,none⟩=false∧RS B K p pb g bs lim (w1.setCell ⟨p,1,none⟩ ov') ov' { s with out:=xs }∧Mv p pb w ov (w1.setCell ⟨p,1,none⟩ ov') ov':=by
 obtain ⟨h1,k1⟩:=h.grow (below_drew ((Below.refl _ w).alloc (Nat.le_refl _) o))
 obtain ⟨fx,hb,_⟩:=h1.blk
 have hb1:Blk w1 p 168 (rc pb ov lim s fx):=hb.touch hA.touch fun e=>((h1.ne).2.1 _ e).1 rfl
 obtain ⟨h2,k2⟩:=h1.setOut hA hx hb'
 exact ⟨(hb1.cell 1).trans rfl,hb1.free 1,h2,k1.trans k2⟩
theorem RS.byte (h:RS B K p pb g bs lim w ov s) (k:Nat) (hk:k<s.out.length):∃ b c,ov = .slice (some ⟨b,0,none⟩) s.out.length c∧s.out.length≤c∧w.cell? ⟨b,k,none⟩=some (.int .u8 (s.out.getD k 0:Nat)):=by
 rcases h.own.2 with ⟨_,hl⟩ | ⟨g',cap,cur,rfl,_,hh,hc,_⟩
 ·omega
 ·exact ⟨g',cap,rfl,hc,row_cell h.own k hk⟩
end
section
variable {B K p pb:Nat} {g:Option Nat} {bs:List Nat} {lim:Nat} {w:World} {ov:Value} {s:Sta}
abbrev uv (_:Unit):Value := .tuple #[]
theorem grown_le {x:Nat × Nat} {t:Sta} {n:Nat} (h:grown bs (some x) s = .ok n t) (hx:x.2≤16):x.1≤n∧n<x.1+65536:=by
 obtain ⟨v,s',h1,h2⟩:=Res.bind_is h
 cases h2
 obtain ⟨_,h4,_⟩:=rdN_is h1
 have:v<65536:=by
  rw [h4]
  exact Nat.lt_of_lt_of_le (pk_lt bs s.at_ x.2) (Nat.le_trans (Nat.pow_le_pow_right (by omega) hx) (by decide:2^16≤65536))
 omega
theorem RTo.bad {α : Type} {enc : α → Value} {R:Res α} {er:Nat} {w':World} (e:R = .bad er) (ht:Touch (FT p pb ov) w w'):RTo B K p pb g bs lim w ov enc R (pan er) w':=by
 subst e;exact ⟨rfl,ht⟩
theorem RTo.ok {α : Type} {enc : α → Value} {R:Res α} {a : α} {t:Sta} {w':World} {ov':Value} (e:R = .ok a t) (h:RS B K p pb g bs lim w' ov' t) (m:Mv p pb w ov w' ov'):RTo B K p pb g bs lim w ov enc R (.returned (enc a)) w':=by
 subst e;exact ⟨rfl,ov',h,m⟩
set_option maxHeartbeats 3200000 in
theorem again_any {pc:Nat} {ol:List Nat} (h:RS B K p pb g bs lim w ov s) (hc:CodeAt w pc ol) (y:Nat) :
  Calls Tryz.prog 153 #[.pointer (some ⟨p,0,none⟩),.int .i64 y,.pointer (some ⟨pc,0,none⟩)] w (RTo B K p pb g bs lim w ov uv (again bs lim ol y s)):=by
 obtain ⟨R,hR⟩:∃ R,R=again bs lim ol y s:=⟨_,rfl⟩
 rw [←hR]
 unfold again at hR
 have HL:=Lib.hid fun W=>Length_any y W
 cases hL:lenOf y with
 | none=>
  simp only [hL,tells] at HL
  rw [hL] at hR
  have HR:=Lib.hid hR
  clear h hc hL hR
  go_enter Tryz.func153,Tryz.ntmps153
  go_wp2_with (first
   | (go_at_call 167;refine (HL.out _).mono ?_;rintro e w3 ⟨rfl,rfl⟩)
   | (go_at_call 166;refine (grown_none (p:=p) (pb:=pb) (ov:=ov)).mono ?_;rintro e w3 ⟨rfl,ht⟩))
  exact ⟨rfl,RTo.bad HR.out ht⟩
 | some x=>
  have hx:=lenOf_le hL
  simp only [hL,tells] at HL
  rw [hL] at hR
  have HR:=Lib.hid hR
  clear hL hR
  go_enter Tryz.func153,Tryz.ntmps153
  go_wp2_with fail
  refine (HL.out _).mono ?_
  rintro e w0 ⟨rfl,rfl⟩
  go_wp2_with fail
  refine (grown_some h x (by omega) hx.2).mono ?_
  rintro e w1 h1
  cases hr1:grown bs (some x) s with
  | bad er=>
   rw [hr1] at h1
   obtain ⟨rfl,ht⟩:=h1
   have hR:=HR.out
   rw [hr1] at hR
   have HR1:=Lib.hid hR
   clear hr1 h hc hR
   go_wp2
   exact ⟨rfl,RTo.bad HR1.out ht⟩
  | ok n s1=>
   rw [hr1] at h1
   obtain ⟨rfl,ov1,h1,m1⟩:=h1
   have hn:n≤100000:=by have:=grown_le hr1 hx.2;omega
   have hc1:=hc.safe m1.touch h.safe
   have hR:=HR.out
   rw [hr1,Res.bind_ok] at hR
   have HR1:=Lib.hid hR
   clear hr1 hR HR
   go_wp2_with fail
   refine (symbol_any h1 hc1).mono ?_
   rintro e w2 h2
   cases hr2:rdS bs ol s1 with
   | bad er=>
    rw [hr2] at h2
    obtain ⟨rfl,ht⟩:=h2
    have HT:=Lib.hid (m1.bad ht)
    have hR:=HR1.out
    rw [hr2] at hR
    have HR2:=Lib.hid hR
    clear hr2 h hc h1 hc1 m1 ht hR
    go_wp2
    exact ⟨rfl,RTo.bad HR2.out HT.out⟩
   | ok d s2=>
    rw [hr2] at h2
    obtain ⟨rfl,ov2,h2,m2⟩:=h2
    have M2:=Lib.hid (m1.trans m2)
    have hR:=HR1.out
    rw [hr2,Res.bind_ok] at hR
    clear hr2 m1 m2 h1 hc1 hc HR1
    have HD:=Lib.hid fun W=>Distance_any d W
    cases hD:disOf d with
    | none=>
     simp only [hD,tells] at HD
     rw [hD] at hR
     have HR:=Lib.hid hR
     clear hD h h2 hR
     go_wp2_with (first
      | (go_at_call 168;refine (HD.out _).mono ?_;rintro e w3 ⟨rfl,rfl⟩)
      | (go_at_call 166;refine (grown_none (p:=p) (pb:=pb) (ov:=ov2)).mono ?_;rintro e w3 ⟨rfl,ht⟩))
     exact ⟨rfl,RTo.bad HR.out (M2.out.bad ht)⟩
    | some z=>
     have hz:=disOf_le hD
     simp only [hD,tells] at HD
     rw [hD] at hR
     have HR:=Lib.hid hR
     clear hD hR
     go_wp2_with fail
     refine (HD.out _).mono ?_
     rintro e w02 ⟨rfl,rfl⟩
     go_wp2_with fail
     refine (grown_some h2 z (by omega) hz.2.2).mono ?_
     rintro e w3 h3
     cases hr3:grown bs (some z) s2 with
     | bad er=>
      rw [hr3] at h3
      obtain ⟨rfl,ht⟩:=h3
      have hR:=HR.out
      rw [hr3] at hR
      have HR1:=Lib.hid hR
      clear hr3 h h2 hR HR
      go_wp2
      exact ⟨rfl,RTo.bad HR1.out (M2.out.bad ht)⟩
     | ok far s3=>
      rw [hr3] at h3
      obtain ⟨rfl,ov3,h3,m3⟩:=h3
      have hf:=grown_le hr3 hz.2.2
      have M3:=Lib.hid (M2.out.trans m3)
      have hR:=HR.out
      rw [hr3,Res.bind_ok] at hR
      clear hr3 m3 M2 h h2 HR
      have c1:=h3.cells.c1
      obtain ⟨ao,c,rfl⟩:=h3.slice
      have hout:=h3.out
      have hlim:=h3.lim_
      have H3:=Lib.hid h3
      obtain ⟨m,hm⟩:∃ m,m=s3.out.length:=⟨_,rfl⟩
      have HM:=Lib.hid hm
      rw [←hm] at c1 hout H3 M3 hR
      clear h3 hm
      by_cases h4:m<far
      ·have d1:decide (far≤m)=false:=by simp;omega
       have d2:decide ((far:Int)≤(m:Int))=false:=by simp;omega
       rw [if_pos h4] at hR
       have HR:=Lib.hid hR
       clear h4 hR
       go_wp2_with (go_at_call 135;refine (must_no 10 _).mono ?_;rintro e w4 ⟨rfl,rfl⟩)
       exact ⟨rfl,RTo.bad HR.out M3.out.touch⟩
      ·have d1:decide (far≤m)=true:=by simp;omega
       have d2:decide ((far:Int)≤(m:Int))=true:=by simp;omega
       rw [if_neg h4] at hR
       have HR:=Lib.hid hR
       clear hR
       go_wp2_with (go_at_call 135;refine (must_yes _ _).mono ?_;rintro e w4 ⟨rfl,rfl⟩)
       have hNR:=needRoom_any H3.out n
       rw [←HM.out] at hNR
       refine hNR.mono ?_
       clear hNR
       rintro e w5 ⟨he,nq,rfl⟩
       by_cases h5:lim<m+n
       ·rw [if_neg (by simpa using h5)] at he
        subst he
        have hR:=HR.out
        rw [if_pos h5] at hR
        have HR1:=Lib.hid hR
        clear h4 h5 hR HR
        go_wp2
        exact ⟨rfl,RTo.bad HR1.out (M3.out.trans (H3.out.drewN nq).2).touch⟩
       ·rw [if_pos (by simpa using h5)] at he
        subst he
        have hR:=HR.out
        rw [if_neg h5] at hR
        have HR1:=Lib.hid hR
        obtain ⟨h6,m6⟩:=H3.out.drewN nq
        have M6:=Lib.hid (M3.out.trans m6)
        have H6:=Lib.hid h6
        have hmn:m+n≤lim:=by omega
        have hfm:far≤m:=by omega
        have hf1:1≤far:=by omega
        clear h4 h5 hR HR c1 d1 d2 h6 m6 H3 M3 hf
        go_wp2
        go_loopw [36] (fun iv' wr=>∃ (j:Nat) (ov':Value),j≤n∧iv' = .int .i64 j∧RS B K p pb g bs lim wr ov' { s3 with out:=back far j s3.out }∧Mv p pb w ov wr ov') (fun iv' _=>n-(intOf iv').toNat)
        case atStart=>exact ⟨0,_,Nat.zero_le _,rfl,H6.out,M6.out⟩
        case round=>
         clear H6 M6
         obtain ⟨j,ov4,hj,rfl,h7,m7⟩:=hrel
         by_cases hlt:j<n
         ·obtain ⟨xs,hxs⟩:∃ xs,xs=back far j s3.out:=⟨_,rfl⟩
          have hxl:xs.length=m+j:=by rw [hxs,back_len,←HM.out]
          rw [←hxs] at h7
          obtain ⟨k,hk⟩:∃ k,k=xs.length-far:=⟨_,rfl⟩
          have hkl:k<xs.length:=by omega
          have hk1:(k:Int)<xs.length:=by omega
          have e1:IntKind.i64.wrap ((xs.length:Int)-(far:Int))=(k:Int):=by rw [IntKind.wrap_i64];omega
          obtain ⟨b,c4,rfl,hc4,q0⟩:=h7.byte k hkl
          obtain ⟨V,hV⟩:∃ V,V=xs.getD k 0:=⟨_,rfl⟩
          have hV256:V<256:=by rw [hV];exact getD_bs h7.bytes k
          have hnx:xs++[V]=back far (j+1) s3.out:=by rw [back_succ,←hxs,hV,hk]
          have hxb:xs.length≤3000000:=by omega
          have hj1:(xs++[V]).length≤lim:=by rw [List.length_append,List.length_singleton];omega
          have hbV:=bs_snoc h7.bytes hV256
          have p1:=h7.cells.c1
          have hbo:=(h7.own.lt b rfl).2
          have hpl:p<wr.heap.size:=by obtain ⟨fx,hb,_⟩:=h7.blk;exact hb.lt
          have hB:=h7.size
          have H7:=Lib.hid h7
          have HOWN:=Lib.hid h7.own
          have M7:=Lib.hid m7
          have HNX:=Lib.hid hnx
          have q0':wr.cell? ⟨b,k,none⟩=some (.int .u8 (V:Nat)):=by rw [hV];exact q0
          clear q0 hV hxs hnx h7 m7 hk hxl
          go_wp2
          go_region_law (refine step_append_x rfl (.tmp 42) (.tmp 56) rfl B (.slice (some ⟨b,0,none⟩) xs.length c4) (.slice (some ⟨wr.heap.size,0,none⟩) 1 1) xs [V] (by simp [Act.eval]) (by simp [Act.eval]) (World.ownsRow.alloc (w:=wr) HOWN.out _) (by_one wr V rfl) (by simp;omega) (by simp;omega) ?_;intro ao2 cc2 w4 hA;obtain ⟨r1,r2,r3,r4⟩:=H7.out.mid hA hj1 hbV;rw [List.length_append,List.length_singleton] at r3 r4;have R3:=Lib.hid r3;have R4:=Lib.hid r4;clear r3 r4 hA)
          all_goals
           go_wp2
           go_roundw
           case rel=>exact ⟨j+1,_,by omega,by go_num,by rw [←HNX.out];exact R3.out,M7.out.trans R4.out⟩
           case measure=>simp [intOf];omega
         ·have hj':j=n:=by omega
          subst hj'
          have H7:=Lib.hid h7
          have M7:=Lib.hid m7
          clear h7 m7
          go_wp2
          go_end0
          exact RTo.ok HR1.out H7.out M7.out
end
section
variable {B K p pb:Nat} {g:Option Nat} {bs:List Nat} {lim:Nat} {w:World} {ov:Value} {s:Sta}
theorem syms_eq {fl ol:List Nat} (hs:s.at_≤8*bs.length):syms bs lim fl ol s=(rdS bs fl s).bind fun y s1=>
  if y<256 then (if lim<s1.out.length+1 then .bad 14 else syms bs lim fl ol { s1 with steps:=s1.steps+1,out:=s1.out++[y] })
  else if y=256 then .ok () { s1 with steps:=s1.steps+1 }
  else (again bs lim ol y { s1 with steps:=s1.steps+1 }).bind fun _ s2=>syms bs lim fl ol s2:=by
 unfold syms
 rw [run_eq (sym1_takes fl ol) () hs]
 unfold sym1
 cases hr:rdS bs fl s with
 | bad e=>rfl
 | ok y s1=>
  simp only [Res.bind_ok]
  split
  ·split
   ·rfl
   ·rfl
  ·split
   ·rfl
   ·cases again bs lim ol y { s1 with steps:=s1.steps+1 } with
    | bad e=>rfl
    | ok u s2=>rfl
structure Sx (B K p pb:Nat) (g:Option Nat) (bs:List Nat) (lim:Nat) (w:World) (ov:Value) (q p1 p2:Nat) (fl ol:List Nat) (wr:World) (ov':Value) (s':Sta):Prop where
 rs:RS B K p pb g bs lim wr ov' s'
 mv:Mv p pb w ov wr ov'
 box:Blk wr q 203 #[.pointer (some ⟨p1,0,none⟩),.pointer (some ⟨p2,0,none⟩)]
 c1:CodeAt wr p1 fl
 c2:CodeAt wr p2 ol
theorem Sx.on {q p1 p2:Nat} {fl ol:List Nat} {wr w':World} {ov' ov2:Value} {s' s2:Sta} (h:Sx B K p pb g bs lim w ov q p1 p2 fl ol wr ov' s') (k:RS B K p pb g bs lim w' ov2 s2) (m:Mv p pb wr ov' w' ov2) :
  Sx B K p pb g bs lim w ov q p1 p2 fl ol w' ov2 s2:=
 ⟨k,h.mv.trans m,h.box.safe m.touch h.rs.safe (by decide),h.c1.safe m.touch h.rs.safe,h.c2.safe m.touch h.rs.safe⟩
theorem RS.mid0 {w1:World} {ov':Value} {xs:List Nat} {o:Obj} (h:RS B K p pb g bs lim w ov s) (hA:Apd (w.alloc o) B ov xs ov' w1) (hx:xs.length≤lim) (hb':Bs xs) :
  w1.cell? ⟨p,1,none⟩=some ov∧w1.frozen? ⟨p,1,none⟩=false∧RS B K p pb g bs lim (w1.setCell ⟨p,1,none⟩ ov') ov' { s with out:=xs }∧Mv p pb w ov (w1.setCell ⟨p,1,none⟩ ov') ov':=by
 obtain ⟨h1,k1⟩:=h.grow ((Below.refl _ w).alloc (Nat.le_refl _) o)
 obtain ⟨fx,hb,_⟩:=h1.blk
 have hb1:Blk w1 p 168 (rc pb ov lim s fx):=hb.touch hA.touch fun e=>((h1.ne).2.1 _ e).1 rfl
 obtain ⟨h2,k2⟩:=h1.setOut hA hx hb'
 exact ⟨(hb1.cell 1).trans rfl,hb1.free 1,h2,k1.trans k2⟩
set_option maxHeartbeats 3200000 in
theorem symbols_any {p1 p2:Nat} {fl ol:List Nat} (h:RS B K p pb g bs lim w ov s) (hc1:CodeAt w p1 fl) (hc2:CodeAt w p2 ol) :
  Calls Tryz.prog 137 #[.pointer (some ⟨p,0,none⟩),.agg #[.pointer (some ⟨p1,0,none⟩),.pointer (some ⟨p2,0,none⟩)]] w (RTo B K p pb g bs lim w ov uv (syms bs lim fl ol s)):=by
 obtain ⟨R,hR⟩:∃ R,R=syms bs lim fl ol s:=⟨_,rfl⟩
 rw [←hR]
 have hw1:Below w.heap.size w (w.alloc (.cells #[.pointer (some ⟨p1,0,none⟩),.pointer (some ⟨p2,0,none⟩)] 203)):=(Below.refl _ w).alloc (Nat.le_refl _) _
 obtain ⟨h1,m1⟩:=h.grow hw1
 have H1:Hid (Sx B K p pb g bs lim w ov w.heap.size p1 p2 fl ol (w.alloc (.cells #[.pointer (some ⟨p1,0,none⟩),.pointer (some ⟨p2,0,none⟩)] 203)) ov s):=
  Lib.hid ⟨h1,m1,Blk.made _ _ _,hc1.below hw1,hc2.below hw1⟩
 have HR0:=Lib.hid hR.symm
 obtain ⟨q,hq⟩:∃ q,q=w.heap.size:=⟨_,rfl⟩
 clear h hc1 hc2 hw1 h1 m1 hR
 go_enter Tryz.func137,Tryz.ntmps137
 go_wp2
 rw [←hq] at H1 ⊢
 clear hq
 go_loopg [] (8*bs.length+1) (fun gm wr=>∃ (ov':Value) (s':Sta),8*bs.length+1-s'.at_≤gm∧Hid (syms bs lim fl ol s'=R)∧Sx B K p pb g bs lim w ov q p1 p2 fl ol wr ov' s')
 case atStart=>exact ⟨ov,s,by omega,HR0,H1.out⟩
 case round=>
  clear H1 HR0
  obtain ⟨ov1,s1,hgm,HR,hx⟩:=hrel
  have HX:=Lib.hid hx
  have hin:=hx.rs.in_
  have b0:=(hx.box.cell 0).trans (show _=some (.pointer (some ⟨p1,0,none⟩)) from rfl)
  have hst:=hx.rs.steps
  clear hx
  go_wp2_with fail
  refine (symbol_any HX.out.rs HX.out.c1).mono ?_
  rintro e w2 h2
  have hR:=HR.out
  rw [syms_eq hin] at hR
  cases hr1:rdS bs fl s1 with
  | bad er=>
   rw [hr1] at h2 hR
   obtain ⟨rfl,ht⟩:=h2
   have HR1:=Lib.hid hR.symm
   have HT:=Lib.hid (HX.out.mv.bad ht)
   clear hr1 hR ht b0
   go_wp2
   exact ⟨rfl,RTo.bad HR1.out HT.out⟩
  | ok y s2=>
   rw [hr1] at h2 hR
   obtain ⟨rfl,ov2,h2,m2⟩:=h2
   obtain ⟨_,k1,k2,k3⟩:=rdS_is hr1
   have hs2:s2.steps+1≤s2.at_:=by rw [k3];show s1.steps+1≤s1.at_+ln fl y;omega
   have hat:s1.at_<s2.at_:=by rw [k3];show s1.at_<s1.at_+ln fl y;omega
   have X2:=HX.out.on h2 m2
   have c3:=h2.cells.c3
   have f3:=h2.cells.f3
   obtain ⟨h3,m3⟩:=h2.setSteps (s2.steps+1) hs2 (x:=(s2.steps:Int)+1) (by simp)
   have X3:=Lib.hid (X2.on h3 m3)
   have hi2:=h2.in_
   have hy:y<320:=by
    have:=ln_lt (ls:=fl) (s:=y) (by omega)
    have:=X2.c1.ok.len
    omega
   have hstb:=h2.steps
   have hlb:=h2.len
   clear k3 k1 k2 hr1 h3 m3 h2 m2 X2 b0 HX hst
   rw [Res.bind_ok] at hR
   by_cases hy1:y<256
   ·rw [if_pos hy1] at hR
    have HR1:=Lib.hid hR
    have hy2:(y:Int)<256:=by omega
    clear hR HR
    go_wp2_with fail
    have c1:=X3.out.rs.cells.c1
    refine (needRoom_any X3.out.rs 1).mono ?_
    rintro e w4 ⟨he,nq,rfl⟩
    have hR:=HR1.out
    by_cases h5:lim<s2.out.length+1
    ·rw [if_neg (by simpa using h5)] at he
     subst he
     rw [if_pos h5] at hR
     have HR2:=Lib.hid hR.symm
     clear hR h5 c1 c3 f3
     go_wp2
     exact ⟨rfl,RTo.bad HR2.out (X3.out.mv.trans (X3.out.rs.drewN nq).2).touch⟩
    ·rw [if_pos (by simpa using h5)] at he
     subst he
     rw [if_neg h5] at hR
     have HR2:=Lib.hid hR
     obtain ⟨h4,m4⟩:=X3.out.rs.drewN nq
     have X4:=Lib.hid (X3.out.on h4 m4)
     obtain ⟨W,hW⟩:∃ W,W=(w2.setCell ⟨p,3,none⟩ (.int .i64 ((s2.steps:Int)+1))).drewN nq:=⟨_,rfl⟩
     rw [←hW] at X4 ⊢
     obtain ⟨ao,c,rfl⟩:=X4.out.rs.slice
     have c1:=X4.out.rs.cells.c1
     obtain ⟨xs,hxs⟩:∃ xs,xs=s2.out:=⟨_,rfl⟩
     have hxb:xs.length≤3000000:=by rw [hxs];have:=X4.out.rs.out;have:=X4.out.rs.lim_;simp at *;omega
     have hj1:(xs++[y]).length≤lim:=by rw [List.length_append,List.length_singleton,hxs];omega
     have hbV:Bs (xs++[y]):=by rw [hxs];exact bs_snoc X4.out.rs.bytes hy1
     have HOWN:Hid (W.ownsRow B 5 1 (.slice ao xs.length c) xs.length (u8s xs)):=Lib.hid (by rw [hxs];exact X4.out.rs.own)
     have c1':W.cell? ⟨p,1,none⟩=some (.slice ao xs.length c):=by rw [hxs];exact c1
     have hB:=X4.out.rs.size
     have e8:IntKind.u8.wrap (y:Int)=y:=by rw [IntKind.wrap_u8'];omega
     have HXS:=Lib.hid hxs
     clear h5 h4 m4 X3 c1 c3 f3 hW hR hxs HR1
     go_wp2_with (refine wpList_append_x rfl (.tmp 30) (.tmp 33) rfl B (.slice ao xs.length c) (.slice (some ⟨W.heap.size,0,none⟩) 1 1) xs [y] rfl rfl (World.ownsRow.alloc (w:=W) HOWN.out _) (by_one W y rfl) (by simp;omega) (by simp;omega) ?_;intro ao2 cc2 w5 hA;obtain ⟨r1,r2,r3,r4⟩:=X4.out.rs.mid0 (by rw [←HXS.out];exact hA) hj1 hbV;rw [List.length_append,List.length_singleton] at r3 r4;rw [←HXS.out] at r1;have R3:=Lib.hid r3;have R4:=Lib.hid r4;clear r3 r4 hA)
     go_roundg (8*bs.length+1-s2.at_)
     case measure=>omega
     case rel=>
      refine ⟨_,{ s2 with steps:=s2.steps+1,out:=xs++[y] },Nat.le_refl _,?_,X4.out.on R3.out R4.out⟩
      have:=HR2.out
      rw [HXS.out]
      exact Lib.hid this
   ·rw [if_neg hy1] at hR
    by_cases hy2:y=256
    ·subst hy2
     rw [if_pos rfl] at hR
     have HR1:=Lib.hid hR.symm
     clear hR HR hy1
     go_wp2
     refine bodyPost_ret (results_none rfl _ _ _) rfl ?_
     exact RTo.ok HR1.out X3.out.rs X3.out.mv
    ·rw [if_neg hy2] at hR
     have HR1:=Lib.hid hR
     have d1:¬(y:Int)<256:=by omega
     have d2:((y:Int) == 256)=false:=by simp;omega
     have b1:=(X3.out.box.cell 1).trans (show _=some (.pointer (some ⟨p2,0,none⟩)) from rfl)
     clear hR HR hy1 hy2
     go_wp2_with fail
     refine (again_any X3.out.rs X3.out.c2 y).mono ?_
     rintro e w4 h4
     have hR:=HR1.out
     cases hr2:again bs lim ol y { s2 with steps:=s2.steps+1 } with
     | bad er=>
      rw [hr2] at h4 hR
      obtain ⟨rfl,ht⟩:=h4
      have HR2:=Lib.hid hR.symm
      have HT:=Lib.hid (X3.out.mv.bad ht)
      clear hr2 hR ht b1 c3 f3
      go_wp2
      exact ⟨rfl,RTo.bad HR2.out HT.out⟩
     | ok u s4=>
      rw [hr2] at h4 hR
      obtain ⟨rfl,ov4,h4,m4⟩:=h4
      have HR2:=Lib.hid hR
      have hle:=(again_pr (lim:=lim) ol y { s2 with steps:=s2.steps+1 } _ _ hi2 hr2).at_
      have hle':s2.at_≤s4.at_:=hle
      have X4:=Lib.hid (X3.out.on h4 m4)
      clear hr2 hR b1 c3 f3 h4 m4 hle
      go_wp2
      go_roundg (8*bs.length+1-s4.at_)
      case measure=>omega
      case rel=>exact ⟨_,_,Nat.le_refl _,HR2,X4.out⟩
end
theorem turned (n:Nat) (h:n<65536):n ^^^ 65535=65535-n:=by
 rw [show 65535-n=2^16-(n+1) by omega]
 apply Nat.eq_of_testBit_eq
 intro i
 rw [Nat.testBit_xor,Nat.testBit_two_pow_sub_succ (by omega),show (65535:Nat)=2^16-1 by decide,Nat.testBit_two_pow_sub_one]
 by_cases hi:i<16
 ·simp [hi]
 ·have:n.testBit i=false:=Nat.testBit_lt_two_pow (Nat.lt_of_lt_of_le (show n<2^16 by omega) (Nat.pow_le_pow_right (by omega) (by omega)))
  simp [hi,this]
theorem xor_ones (n:Nat) (h:n<65536):bits BinOp.xor IntKind.i64 (n:Int) 65535=((65535-n:Nat):Int):=by
 rw [←turned n h]
 have h1:n ^^^ 65535<65536:=Nat.xor_lt_two_pow (n:=16) h (by decide)
 have e:(65535:Int)=((65535:Nat):Int):=rfl
 rw [e]
 have a':n%2^IntKind.i64.bits=n:=Nat.mod_eq_of_lt (Nat.lt_of_lt_of_le h (by decide))
 have b':65535%2^IntKind.i64.bits=65535:=by decide
 simp only [bits,BitVec.ofInt_natCast,BitVec.toNat_xor,BitVec.toNat_ofNat,a',b']
 rw [IntKind.wrap_i64]
 omega
section
variable {B K p pb:Nat} {g:Option Nat} {bs:List Nat} {lim:Nat} {w:World} {ov:Value} {s:Sta}
theorem rdN_lt {n:Nat} {t:Sta} {v:Nat} (h:rdN bs n s = .ok v t):v<2^n:=by
 obtain ⟨_,h4,_⟩:=rdN_is h
 rw [h4]
 exact pk_lt bs s.at_ n
theorem RS.mid1 {w1:World} {ov':Value} {xs:List Nat} (h:RS B K p pb g bs lim w ov s) (hA:Apd w B ov xs ov' w1) (hx:xs.length≤lim) (hb':Bs xs) :
  w1.cell? ⟨p,1,none⟩=some ov∧w1.frozen? ⟨p,1,none⟩=false∧RS B K p pb g bs lim (w1.setCell ⟨p,1,none⟩ ov') ov' { s with out:=xs }∧Mv p pb w ov (w1.setCell ⟨p,1,none⟩ ov') ov':=by
 obtain ⟨fx,hb,_⟩:=h.blk
 have hb1:Blk w1 p 168 (rc pb ov lim s fx):=hb.touch hA.touch fun e=>((h.ne).2.1 _ e).1 rfl
 obtain ⟨h2,k2⟩:=h.setOut hA hx hb'
 exact ⟨(hb1.cell 1).trans rfl,hb1.free 1,h2,k2⟩
set_option maxHeartbeats 3200000 in
theorem stored_any (h:RS B K p pb g bs lim w ov s) :
  Calls Tryz.prog 136 #[.pointer (some ⟨p,0,none⟩)] w (RTo B K p pb g bs lim w ov uv (stored bs lim s)):=by
 obtain ⟨R,hR⟩:∃ R,R=stored bs lim s:=⟨_,rfl⟩
 rw [←hR]
 unfold stored at hR
 have HR:=Lib.hid hR
 have hin:=h.in_
 have hlen:=h.len
 have c0:=h.cells.c0
 have HA:=Lib.hid (h.ob.ralign (by omega))
 have HM:=Lib.hid fun w' (k:Moved w B 186 pb g bs (up8 s.at_) w')=>h.moved k (up8_le _) (up8_end hin)
 clear hR h
 go_enter Tryz.func136,Tryz.ntmps136
 go_wp2_with fail
 refine HA.out.mono ?_
 rintro e w0 ⟨rfl,hm⟩
 obtain ⟨h0,m0⟩:=HM.out w0 hm
 clear c0 HA HM hm
 go_wp2_with fail
 refine (number_any h0 16 (by omega)).mono ?_
 rintro e w1 h1
 have hR:=HR.out
 cases hr1:rdN bs 16 { s with at_:=up8 s.at_ } with
 | bad er=>
  rw [hr1] at h1 hR
  obtain ⟨rfl,ht⟩:=h1
  have HR1:=Lib.hid hR
  clear hr1 hR h0
  go_wp2
  exact ⟨rfl,RTo.bad HR1.out (m0.bad ht)⟩
 | ok n s1=>
  rw [hr1,Res.bind_ok] at hR
  rw [hr1] at h1
  obtain ⟨rfl,ov1,h1,m1⟩:=h1
  have hn:=rdN_lt hr1
  have hn6:n<65536:=hn
  have q1:=(rdN_is hr1).2.2
  have M1:=Lib.hid (m0.trans m1)
  have HR1:=Lib.hid hR
  clear hr1 hR h0 m0 m1 hn HR
  go_wp2_with fail
  refine (number_any h1 16 (by omega)).mono ?_
  rintro e w2 h2
  have hR:=HR1.out
  cases hr2:rdN bs 16 s1 with
  | bad er=>
   rw [hr2] at h2 hR
   obtain ⟨rfl,ht⟩:=h2
   have HR2:=Lib.hid hR
   clear hr2 hR h1 q1
   go_wp2
   exact ⟨rfl,RTo.bad HR2.out (M1.out.bad ht)⟩
  | ok m s2=>
   rw [hr2,Res.bind_ok] at hR
   rw [hr2] at h2
   obtain ⟨rfl,ov2,h2,m2⟩:=h2
   have hm6:m<65536:=rdN_lt hr2
   have q2:=(rdN_is hr2).2.2
   have hal:s2.at_%8=0:=by rw [q2,q1];show (up8 s.at_+16+16)%8=0;unfold up8;omega
   have M2:=Lib.hid (M1.out.trans m2)
   clear hr2 h1 m2 q1 q2 HR1 M1
   have hx:=xor_ones n hn6
   obtain ⟨z,hz⟩:∃ z,z=65535-n:=⟨_,rfl⟩
   rw [←hz] at hx hR
   by_cases h4:m≠z
   ·rw [if_pos h4] at hR
    have HR2:=Lib.hid hR
    have d1:((m:Int) == (z:Int))=false:=by simp;omega
    clear hR h4 hz h2 hal
    go_wp2_with (go_at_call 135;refine (must_no 10 _).mono ?_;rintro e w4 ⟨rfl,rfl⟩)
    exact ⟨rfl,RTo.bad HR2.out M2.out.touch⟩
   ·rw [if_neg h4] at hR
    have d1:((m:Int) == (z:Int))=true:=by simp;omega
    have HR2:=Lib.hid hR
    have c0:=h2.cells.c0
    have H2:=Lib.hid h2
    have hin2:=h2.in_
    have hlen2:=h2.len
    clear h4 hz hR h2
    by_cases h5:8*bs.length<s2.at_+8*n
    ·have hR:=HR2.out
     rw [if_pos h5] at hR
     have HR3:=Lib.hid hR
     have HB:=Lib.hid (H2.out.ob.bytes_no (by omega) hin2 n (by omega))
     clear hR h5 HR2
     go_wp2_with (first
      | (go_at_call 135;(with_reducible refine (must_yes _ _).mono ?_);rintro e w4 ⟨rfl,rfl⟩)
      | (go_at_call 150;(refine HB.out.mono ?_);rintro e w4 ⟨rfl,rfl⟩)
      | (go_at_call 135;refine (must_no 15 _).mono ?_;rintro e w4 ⟨rfl,rfl⟩))
     exact ⟨rfl,RTo.bad HR3.out M2.out.touch⟩
    ·have hR:=HR2.out
     rw [if_neg h5] at hR
     have HR3:=Lib.hid hR
     have HB:=Lib.hid (H2.out.ob.bytes_yes (by omega) hin2 n (by omega))
     have hf:(s2.at_+7)/8=s2.at_/8:=by omega
     rw [hf] at HB
     have hq:(s2.at_/8+n)*8=s2.at_+8*n:=by omega
     rw [hq] at HB
     clear hR HR2 hf hq
     go_wp2_with (go_at_call 135;(with_reducible refine (must_yes _ _).mono ?_);rintro e w4 ⟨rfl,rfl⟩)
     refine HB.out.mono ?_
     rintro e w4 ⟨a,c,rfl,hown,hlow,ho,ht⟩
     obtain ⟨h4,m4⟩:=H2.out.moved ⟨ho,ht⟩ (by omega) (by omega)
     have M4:=Lib.hid (M2.out.trans m4)
     obtain ⟨xs,hxs⟩:∃ xs,xs=(bs.drop (s2.at_/8)).take n:=⟨_,rfl⟩
     have hxl:xs.length=n:=by rw [hxs,List.length_take,List.length_drop];omega
     have hxb:Bs xs:=by rw [hxs];exact cut_bs H2.out.ob.hb _ _
     rw [←hxs] at hown ⊢
     have HOWN:=Lib.hid hown
     have hR:=HR3.out
     rw [←hxs] at hR
     have HXL:=Lib.hid hxl
     have HR5:=Lib.hid hR
     clear hown hlow ho ht m4 HB c0 M2 hxs hxl HR3 hR
     go_wp2_with (go_at_call 135;(with_reducible refine (must_yes _ _).mono ?_);rintro e w5 ⟨rfl,rfl⟩)
     refine (needRoom_any h4 n).mono ?_
     rintro e w5 ⟨he,nq,rfl⟩
     have hR:=HR5.out
     by_cases h6:lim<s2.out.length+n
     ·rw [if_neg (by simpa using h6)] at he
      subst he
      rw [if_pos h6] at hR
      have HR4:=Lib.hid hR
      clear hR h6
      go_wp2
      exact ⟨rfl,RTo.bad HR4.out (M4.out.trans (h4.drewN nq).2).touch⟩
     ·rw [if_pos (by simpa using h6)] at he
      subst he
      rw [if_neg h6] at hR
      have HR4:=Lib.hid hR
      obtain ⟨h7,m7⟩:=h4.drewN nq
      have M7:=Lib.hid (M4.out.trans m7)
      have HSR:Hid (BySl (w4.drewN nq) (.slice a xs.length c) xs):=Lib.hid ((BySl.own HOWN.out).touch ((Touch.refl (fun _=>False) w4).drewN nq) (fun _ _ h=>h))
      obtain ⟨W,hW⟩:∃ W,W=w4.drewN nq:=⟨_,rfl⟩
      rw [←hW] at h7 M7 HSR ⊢
      obtain ⟨ao,c1,rfl⟩:=h7.slice
      obtain ⟨l,hl⟩:∃ l,l=s2.out:=⟨_,rfl⟩
      have h6':l.length+xs.length≤lim:=by rw [hl,HXL.out];omega
      have hlim:=h7.lim_
      have p1:=h7.cells.c1
      have HO7:Hid (W.ownsRow B 5 1 (.slice ao l.length c1) l.length (u8s l)):=Lib.hid (by rw [hl];exact h7.own)
      have hB:=h7.size
      have hbb:Bs (l++xs):=fun x hx=>by
       rcases List.mem_append.1 hx with hx | hx
       ·rw [hl] at hx;exact h7.bytes x hx
       ·exact hxb x hx
      have h6'':(l++xs).length≤lim:=by rw [List.length_append];exact h6'
      have HL:=Lib.hid hl
      have p1':W.cell? ⟨p,1,none⟩=some (.slice ao l.length c1):=by rw [hl];exact p1
      have hst:s2.steps≤800000:=by have:=h7.steps;have:=h7.in_;simp at *;omega
      have hst2:s2.steps+n≤s2.at_+8*n:=by have:=H2.out.steps;omega
      have H7:=Lib.hid h7
      clear hR h6 h7 m7 h4 hW hl p1 M4 HR5 H2 HOWN
      go_wp2_with (refine wpList_append_x rfl (.tmp 38) (.tmp 39) rfl B (.slice ao l.length c1) (.slice a xs.length c) l xs rfl rfl HO7.out HSR.out (by omega) (by omega) ?_;intro ao2 cc2 w5 hA;obtain ⟨r1,r2,r3,r4⟩:=H7.out.mid1 (by rw [←HL.out];exact hA) h6'' hbb;rw [←HL.out] at r1;rw [List.length_append] at r3 r4;have r5:=r3.cells.c3;have r6:=r3.cells.f3;have R3:=Lib.hid r3;have R4:=Lib.hid r4;clear r3 r4 hA)
      go_end0
      obtain ⟨h8,m8⟩:=R3.out.setSteps (s2.steps+n) hst2 (x:=(s2.steps:Int)+n) (by simp)
      refine RTo.ok (a:=()) ?_ h8 ((M7.out.trans R4.out).trans m8)
      rw [HR4.out,HL.out]
end
theorem mul64_one (n:Nat) (w:World) (hn:n≤1000) :
  Calls Tryz.prog 189 #[.int .u64 1,.int .u64 n] w fun e w'=>e = .returned (.tuple #[.int .u64 0,.int .u64 n])∧w=w':=by
 have e1:bits BinOp.and IntKind.u64 1 4294967295=1:=by decide
 have e2:bits BinOp.and IntKind.u64 (n:Int) 4294967295=n:=by
  have h:=bits_and_u64_nat n 4294967295 (by omega) (by decide)
  have e:n &&& 4294967295=n:=by
   rw [show (4294967295:Nat)=2^32-1 by decide,Nat.and_two_pow_sub_one_eq_mod]
   exact Nat.mod_eq_of_lt (by omega)
  rw [e] at h
  exact h
 have e3:bits BinOp.and IntKind.u64 0 4294967295=0:=by decide
 have e4:(n:Int)/4294967296=0:=by omega
 go_enter Tryz.func189,Tryz.ntmps189
 go_wp2
 go_ret2
 exact ⟨rfl,rfl⟩
theorem mul_one' (n:Nat) (w:World) (hn:n≤1000) :
  Calls Tryz.prog 179 #[.int .u64 1,.int .u64 n] w fun e w'=>e = .returned (.tuple #[.int .u64 0,.int .u64 n])∧w=w':=by
 go_enter Tryz.func179,Tryz.ntmps179
 go_wp2_with (go_at_call 189;(refine (mul64_one n _ hn).mono ?_);rintro e w2 ⟨rfl,rfl⟩)
 go_ret2
 exact ⟨rfl,rfl⟩
def fill (n x i:Nat):List Value:=(List.range n).map fun j => .int .i64 ((if j<i then x else 0:Nat):Int)
theorem fill_len (n x i:Nat):(fill n x i).length=n:=by simp [fill]
theorem fill_at (n x i j:Nat) (h:j<n):(fill n x i)[j]? = some (.int .i64 ((if j<i then x else 0:Nat):Int)):=by simp [fill,h]
theorem fill_splice (n x i m:Nat) (h:i+m≤n):splice (fill n x i) i (List.replicate m (.int .i64 (x:Nat)))=fill n x (i+m):=by
 have hl:(splice (fill n x i) i (List.replicate m (.int .i64 (x:Nat)))).length=n:=by rw [length_splice _ _ _ (by simp [fill_len];omega),fill_len]
 apply List.ext_getElem?
 intro j
 rcases Nat.lt_or_ge j n with hj | hj
 ·rw [fill_at _ _ _ _ hj]
  unfold splice
  rw [List.getElem?_append]
  have ht:(List.take i (fill n x i)).length=i:=by rw [List.length_take,fill_len];omega
  rw [ht]
  split
  ·rename_i h1
   rw [List.getElem?_take_of_lt h1,fill_at _ _ _ _ hj,if_pos h1,if_pos (by omega)]
  ·rename_i h1
   rw [List.getElem?_append,List.length_replicate]
   split
   ·rename_i h2
    rw [List.getElem?_replicate,if_pos h2,if_pos (by omega)]
   ·rename_i h2
    rw [List.getElem?_drop,show i+m+(j-i-m)=j by omega,fill_at _ _ _ _ hj,if_neg (by omega),if_neg (by omega)]
 ·rw [List.getElem?_eq_none (by omega),List.getElem?_eq_none (by rw [fill_len];exact hj)]
theorem fill_zero (n x:Nat):va (n*1) (fun i=>(Value.int .i64 0).cells[i%(Value.int .i64 0).cells.size]!)=(fill n x 0).toArray:=by
 rw [Nat.mul_one]
 unfold va fill
 congr 1
 apply List.map_congr_left
 intro j _
 simp [Value.cells,Nat.mod_one]
set_option maxHeartbeats 1600000 in
theorem repeat_any (b x n:Nat) (w:World) (h1:1≤n) (hn:n≤1000) (hc:w.cell? ⟨b,0,none⟩=some (.int .i64 (x:Nat))) :
  Calls Tryz.prog 170 #[.slice (some ⟨b,0,none⟩) 1 1,.int .i64 n] w fun e w'=>e = .returned (.slice (some ⟨w.heap.size,0,none⟩) n n)∧Blk w' w.heap.size 3 (fill n x n).toArray∧Below w.heap.size w w':=by
 have HC:=Lib.hid hc
 have hbl:b<w.heap.size:=World.block_lt_of_cell? w _ hc
 obtain ⟨g,hg⟩:∃ g,g=w.heap.size:=⟨_,rfl⟩
 rw [←hg] at hbl ⊢
 have HG:=Lib.hid hg
 clear hc hg
 go_enter Tryz.func170,Tryz.ntmps170
 go_wp2_with (first
  | (go_at_call 179;(refine (mul_one' n _ hn).mono ?_);rintro e w2 ⟨rfl,rfl⟩)
  | (refine wpList_make_z rfl 88 (.tmp 29) (.tmp 29) rfl 3 (.int .i64 0) 1 8 n Tryz.underlying88 (by kernel_rfl) .i64 .i64 _ _ rfl rfl rfl rfl (by omega) (by omega) ?_;intro W hb1 ht1 hs1;rw [fill_zero n x] at hb1;rw [←HG.out] at hb1 ⊢;have HB:=Lib.hid hb1;have HT:=Lib.hid ht1;have HS:=Lib.hid hs1;clear hb1 ht1 hs1)
  | (refine wpList_copy_splice rfl (.tmp 31) (.tmp 32) 88 88 rfl 3 Tryz.underlying88 (by kernel_rfl) (some ⟨g,0,none⟩) (some ⟨b,0,none⟩) n n 1 1 rfl rfl g 0 (fill n x 0) 3 HB.out (List.replicate 1 (.int .i64 (x:Nat))) (by rw [List.length_replicate];exact (Nat.min_eq_left h1).symm) (fun _=>⟨rfl,⟨b,0,none⟩,rfl,fun j v hv=>by
    have hj:j=0:=by have:=(List.getElem?_eq_some_iff.1 hv).1;simp at this;exact this
    subst hj
    simp at hv
    subst hv
    rw [Addr.add_lit]
    exact ((Below.cell (HT.out.below (B:=w.heap.size) (Nat.le_refl _) fun _ h=>h.elim) (p:=⟨b,0,none⟩) (by rw [←HG.out];exact hbl))).trans HC.out⟩) (by simp [fill_len];omega) (by simp [Value.oneCell']) g w (HT.out.below (by rw [HG.out];exact Nat.le_refl _) fun _ h=>h.elim) (Nat.le_refl _) ?_;intro W2 hb2 hl2;have HB2:=Lib.hid (hb2.out);have HL2:=Lib.hid hl2;clear hb2 hl2))
 have H1:Hid (Blk W2 g 3 (fill n x 1).toArray):=Lib.hid (by have h:=HB2.out;rw [fill_splice n x 0 1 (by omega)] at h;exact h)
 clear HB2 HB HT HS HC
 go_loopw [8] (fun iv' wr=>∃ i:Nat,1≤i∧i≤n∧iv' = .int .i64 i∧Blk wr g 3 (fill n x i).toArray∧Below g w wr) (fun iv' _=>n-(intOf iv').toNat)
 case atStart=>exact ⟨1,Nat.le_refl _,h1,by simp,H1.out,HL2.out⟩
 case round=>
  clear H1 HL2
  obtain ⟨i,hi1,hi,rfl,hb3,hl3⟩:=hrel
  have HB3:=Lib.hid hb3
  have HL3:=Lib.hid hl3
  clear hb3 hl3
  by_cases hlt:i<n
  ·obtain ⟨m,hm⟩:∃ m,m=Nat.min i (n-i):=⟨_,rfl⟩
   have hm1:1≤m:=by rw [hm];exact Nat.le_min.2 ⟨hi1,by omega⟩
   have hm2:i+m≤n:=by
                 have:m≤n-i:=by rw [hm];exact Nat.min_le_right _ _
                 omega
   have hm3:m≤i:=by rw [hm];exact Nat.min_le_left _ _
   have HM:=Lib.hid hm
   clear hm
   have hin:(i:Int)<n:=by omega
   have hne:¬(n=i):=by omega
   have HW:Hid (IntKind.i64.wrap ((i:Int)+(m:Int))=((i+m:Nat):Int)):=Lib.hid (by rw [IntKind.wrap_i64];omega)
   have HP:Hid (∀ j v,(List.replicate m (Value.int .i64 (x:Nat)))[j]? = some v→wr.drew.cell? ((⟨g,0,none⟩:Addr).add j)=some v):=Lib.hid fun j v hv=>by
    have hj:j<m:=by have:=(List.getElem?_eq_some_iff.1 hv).1;simpa using this
    rw [List.getElem?_replicate,if_pos hj] at hv
    rw [Addr.add_lit,Nat.zero_add]
    refine (HB3.out.cell j).trans ?_
    rw [List.getElem?_toArray,fill_at _ _ _ _ (by omega),if_pos (by omega)]
    exact hv
   go_wp2
   go_region_law (refine step_copy_splice rfl (.tmp 41) (.tmp 44) 88 88 rfl 3 Tryz.underlying88 (by kernel_rfl) (some ⟨g,i,none⟩) (some ⟨g,0,none⟩) (n-i) (n-i) i n (by simp [Act.eval,Act.put]) (by simp [Act.eval,Act.put]) g i (fill n x i) 3 HB3.out (List.replicate m (.int .i64 (x:Nat))) (by rw [List.length_replicate];exact HM.out) (fun _=>⟨rfl,⟨g,0,none⟩,rfl,HP.out⟩) (by simp [fill_len];omega) (by simp [Value.oneCell']) g w (below_drew HL3.out) (Nat.le_refl _) ?_;intro W4 hb4 hl4;have h4:=hb4.out;rw [fill_splice n x i m (by omega)] at h4;have HB4:Hid (Blk W4 g 3 (fill n x (i+m)).toArray):=Lib.hid h4;have HL4:=Lib.hid hl4;clear hb4 hl4 h4)
   all_goals
    go_wp2
    go_roundw
    case rel=>
     repeat apply Exists.intro
     refine ⟨?_,rfl⟩
     exact ⟨i+m,by omega,by omega,congrArg (Value.int .i64) HW.out,HB4.out,HL4.out⟩
    case measure=>simp [intOf,Act.put,HW.out];omega
  ·have hj':i=n:=by omega
   subst hj'
   have hii:¬((i:Int)<i):=by omega
   go_wp2
   go_ret
   exact ⟨rfl,HB3.out,HL3.out⟩
theorem grow_none (n:Nat) (w:World) (h1:1≤n) (hn:n≤1000) :
  Calls Tryz.prog 178 #[.slice none 0 0,.int .i64 n] w fun e w'=>∃ c,e = .returned (.slice (some ⟨w.heap.size,0,none⟩) 0 c)∧w'.ownsRow w.heap.size 3 1 (.slice (some ⟨w.heap.size,0,none⟩) 0 c) 0 []∧Below w.heap.size w w':=by
 obtain ⟨i,hi,hz0,hz1,hz2⟩:=info_parts (P:=Tryz.prog) (e:=3) (z := .int .i64 0) (size:=1) (bytes:=8) (by kernel_rfl)
 have hold:(Builtin.firstCells i.size 0 (.slice none 0 0)).run Tryz.prog w.drew = .ok ([]:List Value).toArray w.drew:=run_firstCells_none w.drew i.size 0 0 0
 have hns:Builtin.nextslicecap (0+n) 0=n:=by unfold Builtin.nextslicecap;rw [if_pos (by omega)];omega
 have hrz:∀ ty,(Builtin.append_ #[88,3] ty #[.slice none 0 0,.int .i64 (n:Nat)]).run Tryz.prog w =
   .ok (.slice (some ⟨w.heap.size,0,none⟩) n (grownCap w n 0 3)) (w.drew.alloc (.cells (([]:List Value).toArray++Builtin.zeroCells (Value.int .i64 0).cells n++Builtin.zeroCells (Value.int .i64 0).cells (grownCap w n 0 3-n)) 3)):=fun ty=>by
  have h:=Lib.run_append_grow_zeros w 88 3 ty 3 i (.int .i64 0) .i64 .i64 Tryz.underlying88 Tryz.underlying3 hi hz0 none 0 0 [] hold n (by omega) (by omega) (by omega) (by omega) (by rw [hz2];omega) (by rw [hns,hz2];omega)
  rw [Nat.zero_add] at h
  exact h
 have hGn:n≤grownCap w n 0 3:=grownCap_ge w _ _ _
 have hGm:grownCap w n 0 3≤maxLen:=grownCap_le_maxLen w n 0 3 (by unfold maxLen;omega)
 obtain ⟨G,hG⟩:∃ G,G=grownCap w n 0 3:=⟨_,rfl⟩
 rw [←hG] at hrz hGn hGm
 have hG63:G≤9223372036854775807:=by unfold maxLen at hGm;omega
 have HRZ:=Lib.hid hrz
 have HM:=Lib.hid hGm
 clear hold hG hi hz0 hz1 hz2 hns hrz hGm
 go_enter Tryz.func178,Tryz.ntmps178
 go_wp2_with (at_builtin;refine Lib.wpList_append_run _ rfl _ _ _ _ rfl _ _ rfl rfl _ _ (HRZ.out _) ?_)
 go_ret
 refine ⟨G,rfl,⟨rfl,.inr ⟨w.heap.size,G,_,rfl,Nat.le_refl _,Blk.made w.drew 3 _,Nat.zero_le _,HM.out,?_,?_⟩⟩,(below_drew (Below.refl _ _)).alloc (Nat.le_refl _) _⟩
 ·simp [size_zeroCells];omega
 ·simp
def cat (Z:Nat→List Int) (k:Nat):List Int:=(List.range k).flatMap Z
theorem cat_zero (Z:Nat→List Int):cat Z 0=[]:=rfl
theorem cat_succ (Z:Nat→List Int) (k:Nat):cat Z (k+1)=cat Z k++Z k:=by simp [cat,List.range_succ]
structure Rows4 (w:World) (q:Nat) (A:Nat→Option Addr) (C:Nat→Nat) (Z:Nat→List Int):Prop where
 cell:∀ k,k<4→w.cell? ⟨q,k,none⟩=some (.slice (A k) (Z k).length (C k))
 is:∀ k,k<4→IS w (A k) (Z k)
 some_:∀ k,k<4→A k=none→C k=0
 len:∀ k,k<4→(Z k).length≤200
theorem Rows4.below {w w':World} {q:Nat} {A:Nat→Option Addr} {C:Nat→Nat} {Z:Nat→List Int} (h:Rows4 w q A C Z) (hb:Below w.heap.size w w'):Rows4 w' q A C Z:=
 ⟨fun k hk=>(hb.cell (World.block_lt_of_cell? w _ (h.cell k hk))).trans (h.cell k hk),fun k hk=>(h.is k hk).below hb,h.some_,h.len⟩
theorem Rows4.cat_le {w:World} {q:Nat} {A:Nat→Option Addr} {C:Nat→Nat} {Z:Nat→List Int} (h:Rows4 w q A C Z):∀ k,k≤4→(cat Z k).length≤200*k:=by
 intro k
 induction k with
 | zero=>intro _;simp [cat_zero]
 | succ k ih=>
  intro hk
  rw [cat_succ,List.length_append]
  have:=ih (by omega)
  have:=h.len k (by omega)
  omega
def Cats (w:World) (zs:List Int) (e:Ending) (w':World):Prop:=∃ ao c,e = .returned (.slice ao zs.length c)∧w'.ownsRow w.heap.size 3 1 (.slice ao zs.length c) zs.length (iv zs)∧Below w.heap.size w w'
set_option maxHeartbeats 1600000 in
theorem concat_any (q:Nat) (A:Nat→Option Addr) (C:Nat→Nat) (Z:Nat→List Int) (w:World) (h:Rows4 w q A C Z) (h1:1≤(cat Z 4).length) :
  Calls Tryz.prog 169 #[.slice (some ⟨q,0,none⟩) 4 4] w (Cats w (cat Z 4)):=by
 have hle:=h.cat_le
 have H:=Lib.hid h
 clear h
 go_enter Tryz.func169,Tryz.ntmps169
 go_wp2
 go_loop [3,11] (fun v iv'=>∃ k:Nat,k≤4∧iv' = .int .i64 k∧v = .int .i64 ((cat Z k).length:Nat)) (fun _ iv'=>4-(intOf iv').toNat)
 case atStart=>exact ⟨0,by omega,rfl,by simp [cat_zero]⟩
 case round=>
  obtain ⟨k,hk,rfl,rfl⟩:=hrel
  by_cases hlt:k<4
  ·have hc:=H.out.cell k hlt
   have hl:=H.out.len k hlt
   have hs:=hle k hk
   have hlt':(k:Int)<4:=by omega
   obtain ⟨m,hm⟩:∃ m,m=(cat Z k).length:=⟨_,rfl⟩
   have HS:Hid ((cat Z (k+1)).length=m+(Z k).length):=Lib.hid (by rw [cat_succ,List.length_append,hm])
   rw [←hm] at hs ⊢
   have d0:decide (((m:Int)+(Z k).length)<0)=false:=by simp;omega
   clear hm
   go_wp2
   go_round
   case rel=>exact ⟨k+1,by omega,by go_num,by rw [HS.out];go_num⟩
   case measure=>simp [intOf];omega
  ·have hk4:k=4:=by omega
   have hge:(4:Int)≤k:=by omega
   have hs:=hle 4 (by omega)
   obtain ⟨m,hm⟩:∃ m,m=(cat Z k).length:=⟨_,rfl⟩
   have hm4:(cat Z 4).length=m:=by rw [hm,hk4]
   rw [hm4] at hs h1
   rw [←hm]
   have HM:=Lib.hid hm4
   clear hm hm4 hk4
   go_wp2_with (go_at_call 178;(refine (grow_none m _ h1 (by omega)).mono ?_);rintro e w2 ⟨c,rfl,ho,hb⟩;have HO:=Lib.hid ho;have HB:=Lib.hid hb;clear ho hb)
   go_loopw [6,27] (fun v iv' wr=>∃ (k:Nat) (ao:Option Addr) (c:Nat),k≤4∧iv' = .int .i64 k∧v = .slice ao (cat Z k).length c∧wr.ownsRow w.heap.size 3 1 (.slice ao (cat Z k).length c) (cat Z k).length (iv (cat Z k))∧Below w.heap.size w wr) (fun _ iv' _=>4-(intOf iv').toNat)
   case atStart=>exact ⟨0,some ⟨w.heap.size,0,none⟩,c,by omega,rfl,by simp [cat_zero],by simpa [cat_zero,iv] using HO.out,HB.out⟩
   case round=>
    clear HO HB
    obtain ⟨k,ao,c,hk,rfl,rfl,ho,hb⟩:=hrel
    have HO:=Lib.hid ho
    have HB:=Lib.hid hb
    clear ho hb
    by_cases hlt:k<4
    ·have H2:=Lib.hid (H.out.below HB.out)
     have hc:=H2.out.cell k hlt
     have hl:=H2.out.len k hlt
     have hs:=hle k hk
     have hlt':(k:Int)<4:=by omega
     have HCA:=Lib.hid ((H2.out.is k hlt).cells (c:=C k) fun _=>H2.out.some_ k hlt)
     obtain ⟨ys,hys⟩:∃ ys,ys=cat Z k:=⟨_,rfl⟩
     have hys1:Hid (cat Z (k+1)=ys++Z k):=Lib.hid (by rw [cat_succ,hys])
     rw [←hys] at HO hs ⊢
     have hsz:=HB.out.size
     clear hys
     go_wp2_with (refine wpList_append_g at22 rfl (.tmp 31) (.tmp 32) rfl w.heap.size (.slice ao ys.length c) (.slice (A k) (Z k).length (C k)) ys.length (Z k).length (iv ys) (iv (Z k)) rfl rfl HO.out HCA.out (by simp [iv_len]) (iv_one _) hsz (by omega) (by omega) ?_;intro ao2 c2 w4 hA;have HA:=Lib.hid hA;clear hA)
     go_roundw
     case rel=>
      refine ⟨k+1,ao2,c2,by omega,by go_num,?_,?_,HB.out.trans (HA.out.below HO.out hsz)⟩
      ·rw [hys1.out,List.length_append]
      ·have:=HA.out.own
       rw [iv_app] at this
       rw [hys1.out,List.length_append]
       exact this
     case measure=>simp [intOf];omega
    ·have hge:(4:Int)≤k:=by omega
     have hk4:=Lib.hid (show k=4 by omega)
     go_wp2
     go_ret
     have e:=hk4.out
     subst e
     exact ⟨ao,c,rfl,HO.out,HB.out⟩
theorem is_fill {w:World} {g n x:Nat} (h:Blk w g 3 (fill n x n).toArray):IS w (some ⟨g,0,none⟩) (List.replicate n (x:Int)):=by
 refine .inr ⟨g,0,rfl,fun j hj=>?_⟩
 rw [List.length_replicate] at hj
 rw [Nat.zero_add,h.cell,List.getElem?_toArray,fill_at _ _ _ _ hj,if_pos hj]
 simp [List.getD,hj]
def fixZ (k:Nat):List Int:=if k=0 then List.replicate 144 8 else if k=1 then List.replicate 112 9 else if k=2 then List.replicate 24 7 else List.replicate 8 8
def fixFZ:List Int:=cat fixZ 4
def fixOZ:List Int:=List.replicate 32 5
theorem fixFZ_nat:nat fixFZ=fixF:=by decide +kernel
theorem fixOZ_nat:nat fixOZ=fixO:=by decide +kernel
theorem fixFZ_len:fixFZ.length=288:=by decide +kernel
theorem fixOZ_len:fixOZ.length=32:=by decide +kernel
theorem repeat_at (b x n:Nat) (w:World) (h1:1≤n) (hn:n≤1000) (hb:w.heap[b]? = some (.cells #[.int .i64 (x:Nat)] 3 (0,0))) :
  Calls Tryz.prog 170 #[.slice (some ⟨b,0,none⟩) 1 1,.int .i64 n] w fun e w'=>∃ g,e = .returned (.slice (some ⟨g,0,none⟩) n n)∧IS w' (some ⟨g,0,none⟩) (List.replicate n (x:Int))∧Below w.heap.size w w':=
 (repeat_any b x n w h1 hn (cell_of_row w b 0 _ 3 (0,0) hb)).mono fun _ _ k=>⟨w.heap.size,k.1,is_fill k.2.1,k.2.2⟩
def FixTo (w:World) (e:Ending) (w':World):Prop:=
 ∃ a1 c1 a2 c2,e = .returned (.tuple #[.slice a1 288 c1,.slice a2 32 c2])∧IS w' a1 fixFZ∧IS w' a2 fixOZ∧Below w.heap.size w w'
theorem fixed_rows {w1 w2 w3 w4:World} {g0 g1 g2 g3:Nat} (i0:IS w1 (some ⟨g0,0,none⟩) (List.replicate 144 8)) (i1:IS w2 (some ⟨g1,0,none⟩) (List.replicate 112 9)) (i2:IS w3 (some ⟨g2,0,none⟩) (List.replicate 24 7)) (i3:IS w4 (some ⟨g3,0,none⟩) (List.replicate 8 8))
  (b1:Below w1.heap.size w1 w2) (b2:Below w2.heap.size w2 w3) (b3:Below w3.heap.size w3 w4) :
  Rows4 (w4.alloc (.cells #[.slice (some ⟨g0,0,none⟩) 144 144,.slice (some ⟨g1,0,none⟩) 112 112,.slice (some ⟨g2,0,none⟩) 24 24,.slice (some ⟨g3,0,none⟩) 8 8] 88)) w4.heap.size
   (fun k=>some ⟨if k=0 then g0 else if k=1 then g1 else if k=2 then g2 else g3,0,none⟩) (fun k=>if k=0 then 144 else if k=1 then 112 else if k=2 then 24 else 8) fixZ:=by
 have hA:=(Below.refl w4.heap.size w4).alloc (Nat.le_refl _) (.cells #[.slice (some ⟨g0,0,none⟩) 144 144,.slice (some ⟨g1,0,none⟩) 112 112,.slice (some ⟨g2,0,none⟩) 24 24,.slice (some ⟨g3,0,none⟩) 8 8] 88)
 have k3:=i3.below hA
 have k2:=(i2.below b3).below hA
 have k1:=((i1.below b2).below b3).below hA
 have k0:=(((i0.below b1).below b2).below b3).below hA
 refine ⟨fun k hk=>?_,fun k hk=>?_,fun k hk h=>by simp at h,fun k hk=>?_⟩
 ·rw [(Blk.made w4 88 _).cell k]
  match k,hk with
  | 0,_=>rfl
  | 1,_=>rfl
  | 2,_=>rfl
  | 3,_=>rfl
 ·match k,hk with
  | 0,_=>exact k0
  | 1,_=>exact k1
  | 2,_=>exact k2
  | 3,_=>exact k3
 ·match k,hk with
  | 0,_=>decide
  | 1,_=>decide
  | 2,_=>decide
  | 3,_=>decide
set_option maxHeartbeats 1600000 in
theorem Fixed_any (w:World):Calls Tryz.prog 154 #[] w (FixTo w):=by
 go_enter Tryz.func154,Tryz.ntmps154
 go_wp2_with fail
 refine (repeat_at _ 8 144 _ (by omega) (by omega) (Blk.made w 3 _)).mono ?_
 rintro e w1 ⟨g0,rfl,i0,b0⟩
 have B0:=Lib.hid (((Below.refl w.heap.size w).alloc (Nat.le_refl _) _).trans (b0.mono (by simp)))
 have I0:=Lib.hid i0
 clear i0 b0
 go_wp2_with fail
 refine (repeat_at _ 9 112 _ (by omega) (by omega) (Blk.made w1 3 _)).mono ?_
 rintro e w2 ⟨g1,rfl,i1,b1⟩
 have B1:=Lib.hid (((Below.refl w1.heap.size w1).alloc (Nat.le_refl _) _).trans (b1.mono (by simp)))
 have I1:=Lib.hid i1
 clear i1 b1
 go_wp2_with fail
 refine (repeat_at _ 7 24 _ (by omega) (by omega) (Blk.made w2 3 _)).mono ?_
 rintro e w3 ⟨g2,rfl,i2,b2⟩
 have B2:=Lib.hid (((Below.refl w2.heap.size w2).alloc (Nat.le_refl _) _).trans (b2.mono (by simp)))
 have I2:=Lib.hid i2
 clear i2 b2
 go_wp2_with fail
 refine (repeat_at _ 8 8 _ (by omega) (by omega) (Blk.made w3 3 _)).mono ?_
 rintro e w4 ⟨g3,rfl,i3,b3⟩
 have B3:=Lib.hid (((Below.refl w3.heap.size w3).alloc (Nat.le_refl _) _).trans (b3.mono (by simp)))
 have I3:=Lib.hid i3
 clear i3 b3
 go_wp2_with fail
 refine (concat_any _ _ _ fixZ _ (fixed_rows I0.out I1.out I2.out I3.out B1.out B2.out B3.out) (by decide +kernel)).mono ?_
 rintro e w5 ⟨a1,c1,rfl,o1,b5⟩
 have hl:(cat fixZ 4).length=288:=fixFZ_len
 rw [hl] at o1 ⊢
 have I5:Hid (IS w5 a1 fixFZ):=Lib.hid (own_is o1 fixFZ_len)
 have B5:=Lib.hid (((Below.refl w4.heap.size w4).alloc (Nat.le_refl _) _).trans (b5.mono (by simp)))
 clear o1 b5 hl
 go_wp2_with fail
 refine (repeat_at _ 5 32 _ (by omega) (by omega) (Blk.made w5 3 _)).mono ?_
 rintro e w6 ⟨g6,rfl,i6,b6⟩
 have B6:=Lib.hid (((Below.refl w5.heap.size w5).alloc (Nat.le_refl _) _).trans (b6.mono (by simp)))
 have I6:=Lib.hid i6
 clear i6 b6
 go_wp2
 go_ret2
 have s0:=B0.out.size
 have s1:=B1.out.size
 have s2:=B2.out.size
 have s3:=B3.out.size
 have s5:=B5.out.size
 exact ⟨a1,c1,_,32,rfl,I5.out.below B6.out,I6.out,B0.out.trans ((B1.out.mono (by omega)).trans ((B2.out.mono (by omega)).trans ((B3.out.mono (by omega)).trans ((B5.out.mono (by omega)).trans (B6.out.mono (by omega))))))⟩
end
end Go.Proofs.YthbbpooobaahiaaGreatDoor
