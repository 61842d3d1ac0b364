/- Part 18. -/
import Derived.Test.YtbogfailbgbdoaaGreatDoorXA17
set_option linter.unusedVariables false
set_option linter.unusedSimpArgs false
namespace Go.Proofs.YtbogfailbgbdoaaGreatDoor.K
set_option maxRecDepth 100000
section
open Go.RowKit Go.Proofs.YtbogfailbgbdoaaGreatDoor U
set_option maxHeartbeats 25600000 in
theorem rescape_any (xs:List Nat) (S:ByteArray) (hS:S=txt xs) (hb:Bs xs) (q:Bool) (w:World) (hl:xs.length≤1000000) :
  Calls Tryz.prog 19 #[.string S,.bool q] w fun e w'=>e = .returned (esA q xs)∧Below w.heap.size w w':=by
 have hz:S.size=xs.length:=by rw [hS];exact txt_size xs
 have hbt:bts S=xs:=by rw [hS];exact bts_txt hb
 obtain ⟨NEW,CAP,hcvt,hnb,hnl⟩:=text_run S (by omega)
 rw [hbt] at hnl
 obtain ⟨M,hM⟩:∃ M,M=xs.length:=⟨_,rfl⟩
 have HM:=Lib.hid hM
 rw [hz,←hM] at hcvt
 have KC:Hid (Calls Tryz.prog 16 #[.slice (some ⟨w.heap.size,0,none⟩) M (CAP w)] (NEW w) fun e w'=>e = .returned (.tuple #[.int .i64 ((alA charP xs).1:Nat),.bool (alA charP xs).2])∧Below (NEW w).heap.size (NEW w) w'):=
  Lib.hid (by rw [hM];exact rCheck_any (some ⟨w.heap.size,0,none⟩) (CAP w) xs (NEW w) (hnl w) (by omega))
 have HB1:=Lib.hid (hnb w)
 have HEX:=Lib.hid fun i j=>txt_extract xs i j
 rw [←hS] at HEX
 have HGET:Hid (∀ i (h:i<S.size),((S[i]'h).toNat)=xs.getD i 0):=Lib.hid fun i h=>by subst hS;exact txt_get xs hb i _
 rw [←hM] at hz hl
 unfold esA
 rcases hal:al charP xs 0 with _ | k
 ·have ha:alA charP xs=(0,true):=by unfold alA;rw [hal];rfl
  rw [ha] at KC
  rw [if_pos rfl]
  clear hal ha hbt hnb hnl hb hS hM
  cases q
  ·go_enter Tryz.func19,Tryz.ntmps19
   go_wp2_with (go_at_call 16;(with_reducible refine KC.out.mono ?_);rintro e w2 ⟨rfl,hb2⟩;have HB2:=Lib.hid (HB1.out.trans (hb2.mono HB1.out.size));clear hb2)
   go_loopg [8,9,10] M (fun gh s8 s9 _ wr=>wr=w2∧∃ (i:Nat) (T:ByteArray),s9 = .int .i64 (i:Nat)∧s8 = .string T∧M-i≤gh∧i≤M∧Hid (T=txt (esc false (xs.take i))))
   case atStart=>exact ⟨rfl,0,_,rfl,rfl,by omega,by omega,Lib.hid rfl⟩
   case round=>
    obtain ⟨rfl,i,T,rfl,rfl,hgh,hi,hT⟩:=hrel
    have hTs:T.size≤6000000:=by
     rw [hT.out,txt_size]
     have h1:=esc_len false (xs.take i)
     rw [List.length_take] at h1
     omega
    by_cases hlt:i<M
    ·have hiS:i<S.size:=by omega
     have hiI:(i:Int)<S.size:=by omega
     have hix:i<xs.length:=by rw [←HM.out];exact hlt
     obtain ⟨x,hx⟩:∃ x:UInt8,S[i]'hiS=x:=⟨_,rfl⟩
     have hxn:xs.getD i 0=x.toNat:=by rw [←hx];exact (HGET.out i hiS).symm
     have hes:=esc_take false hix
     rw [hxn] at hes
     by_cases c38:x.toNat=38
     ·have cI38:(x.toNat:Int)=38:=by omega
      have cb38:((x.toNat:Int) == 38)=true:=by rw [cI38];rfl
      have hE:esc1 false x.toNat=[38,97,109,112,59]:=by rw [c38];rfl
      rw [hE] at hes
      have HT2:Hid (T++⟨#[38,97,109,112,59]⟩=txt (esc false (xs.take (i+1)))):=Lib.hid (by rw [hes,hT.out,show (⟨#[38,97,109,112,59]⟩:ByteArray)=txt [38,97,109,112,59] from rfl,txt_app])
      clear hes hE hxn
      go_wp2
      all_goals try (exfalso;omega)
      go_roundg (M-(i+1))
      case measure=>omega
      case rel=>exact ⟨rfl,i+1,_,by go_num,rfl,by omega,by omega,HT2⟩
     ·have cI38:¬(x.toNat:Int)=38:=by omega
      have cb38:((x.toNat:Int) == 38)=false:=beq_eq_false_iff_ne.2 cI38
      by_cases c60:x.toNat=60
      ·have cI60:(x.toNat:Int)=60:=by omega
       have cb60:((x.toNat:Int) == 60)=true:=by rw [cI60];rfl
       have hE:esc1 false x.toNat=[38,108,116,59]:=by rw [c60];rfl
       rw [hE] at hes
       have HT2:Hid (T++⟨#[38,108,116,59]⟩=txt (esc false (xs.take (i+1)))):=Lib.hid (by rw [hes,hT.out,show (⟨#[38,108,116,59]⟩:ByteArray)=txt [38,108,116,59] from rfl,txt_app])
       clear hes hE hxn
       go_wp2
       all_goals try (exfalso;omega)
       go_roundg (M-(i+1))
       case measure=>omega
       case rel=>exact ⟨rfl,i+1,_,by go_num,rfl,by omega,by omega,HT2⟩
      ·have cI60:¬(x.toNat:Int)=60:=by omega
       have cb60:((x.toNat:Int) == 60)=false:=beq_eq_false_iff_ne.2 cI60
       by_cases c62:x.toNat=62
       ·have cI62:(x.toNat:Int)=62:=by omega
        have cb62:((x.toNat:Int) == 62)=true:=by rw [cI62];rfl
        have hE:esc1 false x.toNat=[38,103,116,59]:=by rw [c62];rfl
        rw [hE] at hes
        have HT2:Hid (T++⟨#[38,103,116,59]⟩=txt (esc false (xs.take (i+1)))):=Lib.hid (by rw [hes,hT.out,show (⟨#[38,103,116,59]⟩:ByteArray)=txt [38,103,116,59] from rfl,txt_app])
        clear hes hE hxn
        go_wp2
        all_goals try (exfalso;omega)
        go_roundg (M-(i+1))
        case measure=>omega
        case rel=>exact ⟨rfl,i+1,_,by go_num,rfl,by omega,by omega,HT2⟩
       ·have cI62:¬(x.toNat:Int)=62:=by omega
        have cb62:((x.toNat:Int) == 62)=false:=beq_eq_false_iff_ne.2 cI62
        by_cases c13:x.toNat=13
        ·have cI13:(x.toNat:Int)=13:=by omega
         have cb13:((x.toNat:Int) == 13)=true:=by rw [cI13];rfl
         have hE:esc1 false x.toNat=[38,35,49,51,59]:=by rw [c13];rfl
         rw [hE] at hes
         have HT2:Hid (T++⟨#[38,35,49,51,59]⟩=txt (esc false (xs.take (i+1)))):=Lib.hid (by rw [hes,hT.out,show (⟨#[38,35,49,51,59]⟩:ByteArray)=txt [38,35,49,51,59] from rfl,txt_app])
         clear hes hE hxn
         go_wp2
         all_goals try (exfalso;omega)
         go_roundg (M-(i+1))
         case measure=>omega
         case rel=>exact ⟨rfl,i+1,_,by go_num,rfl,by omega,by omega,HT2⟩
        ·have cI13:¬(x.toNat:Int)=13:=by omega
         have cb13:((x.toNat:Int) == 13)=false:=beq_eq_false_iff_ne.2 cI13
         have hE:esc1 false x.toNat=[x.toNat]:=by
          unfold esc1
          simp only [c38,c60,c62,c13,Bool.false_eq_true,false_and,if_false]
         rw [hE] at hes
         obtain ⟨p,hp⟩:∃ p,p=i+1:=⟨_,rfl⟩
         have hsum:(i:Int)+1=p:=by omega
         have hsl:∀ W,(Instr.slice 9 (.string S) (some (.int .i64 (i:Nat))) (some (.int .i64 (p:Nat))) none).run Tryz.prog W = .ok (.string (S.extract i p)) W:=fun W=>by
          have h1:(0:Int)≤i∧(i:Int)≤p:=by omega
          have h2:(p:Int)≤S.size:=by omega
          simp [go_sem,h1,h2]
         obtain ⟨PC,hPC⟩:∃ PC,PC=S.extract i p:=⟨_,rfl⟩
         rw [←hPC] at hsl
         have hPt:PC=txt [x.toNat]:=by
          rw [hPC,HEX.out,hp,show i+1-i=1 by omega,drop_cons hix,hxn];rfl
         have hPs:PC.size≤10:=by rw [hPt,txt_size];simp
         have HT2:Hid (T++PC=txt (esc false (xs.take (i+1)))):=Lib.hid (by rw [hes,hT.out,hPt,txt_app])
         have HPP:=Lib.hid hp
         clear hes hE hPC hPt hxn hp
         go_wp2
         all_goals try (exfalso;omega)
         have hp:=HPP.out
         go_roundg (M-(i+1))
         case measure=>omega
         case rel=>exact ⟨rfl,i+1,_,by go_num,rfl,by omega,by omega,HT2⟩
    ·obtain rfl:i=M:=by omega
     have hiI:¬(i:Int)<S.size:=by omega
     have HF:Hid (T=txt (esc false xs)):=Lib.hid (by rw [hT.out,List.take_of_length_le (by rw [←HM.out];exact Nat.le_refl _)])
     go_wp2
     go_ret2
     exact ⟨by rw [←HF.out];rfl,HB2.out⟩
  ·go_enter Tryz.func19,Tryz.ntmps19
   go_wp2_with (go_at_call 16;(with_reducible refine KC.out.mono ?_);rintro e w2 ⟨rfl,hb2⟩;have HB2:=Lib.hid (HB1.out.trans (hb2.mono HB1.out.size));clear hb2)
   go_loopg [8,9,10] M (fun gh s8 s9 _ wr=>wr=w2∧∃ (i:Nat) (T:ByteArray),s9 = .int .i64 (i:Nat)∧s8 = .string T∧M-i≤gh∧i≤M∧Hid (T=txt (esc true (xs.take i))))
   case atStart=>exact ⟨rfl,0,_,rfl,rfl,by omega,by omega,Lib.hid rfl⟩
   case round=>
    obtain ⟨rfl,i,T,rfl,rfl,hgh,hi,hT⟩:=hrel
    have hTs:T.size≤6000000:=by
     rw [hT.out,txt_size]
     have h1:=esc_len true (xs.take i)
     rw [List.length_take] at h1
     omega
    by_cases hlt:i<M
    ·have hiS:i<S.size:=by omega
     have hiI:(i:Int)<S.size:=by omega
     have hix:i<xs.length:=by rw [←HM.out];exact hlt
     obtain ⟨x,hx⟩:∃ x:UInt8,S[i]'hiS=x:=⟨_,rfl⟩
     have hxn:xs.getD i 0=x.toNat:=by rw [←hx];exact (HGET.out i hiS).symm
     have hes:=esc_take true hix
     rw [hxn] at hes
     by_cases c38:x.toNat=38
     ·have cI38:(x.toNat:Int)=38:=by omega
      have cb38:((x.toNat:Int) == 38)=true:=by rw [cI38];rfl
      have hE:esc1 true x.toNat=[38,97,109,112,59]:=by rw [c38];rfl
      rw [hE] at hes
      have HT2:Hid (T++⟨#[38,97,109,112,59]⟩=txt (esc true (xs.take (i+1)))):=Lib.hid (by rw [hes,hT.out,show (⟨#[38,97,109,112,59]⟩:ByteArray)=txt [38,97,109,112,59] from rfl,txt_app])
      clear hes hE hxn
      go_wp2
      all_goals try (exfalso;omega)
      go_roundg (M-(i+1))
      case measure=>omega
      case rel=>exact ⟨rfl,i+1,_,by go_num,rfl,by omega,by omega,HT2⟩
     ·have cI38:¬(x.toNat:Int)=38:=by omega
      have cb38:((x.toNat:Int) == 38)=false:=beq_eq_false_iff_ne.2 cI38
      by_cases c60:x.toNat=60
      ·have cI60:(x.toNat:Int)=60:=by omega
       have cb60:((x.toNat:Int) == 60)=true:=by rw [cI60];rfl
       have hE:esc1 true x.toNat=[38,108,116,59]:=by rw [c60];rfl
       rw [hE] at hes
       have HT2:Hid (T++⟨#[38,108,116,59]⟩=txt (esc true (xs.take (i+1)))):=Lib.hid (by rw [hes,hT.out,show (⟨#[38,108,116,59]⟩:ByteArray)=txt [38,108,116,59] from rfl,txt_app])
       clear hes hE hxn
       go_wp2
       all_goals try (exfalso;omega)
       go_roundg (M-(i+1))
       case measure=>omega
       case rel=>exact ⟨rfl,i+1,_,by go_num,rfl,by omega,by omega,HT2⟩
      ·have cI60:¬(x.toNat:Int)=60:=by omega
       have cb60:((x.toNat:Int) == 60)=false:=beq_eq_false_iff_ne.2 cI60
       by_cases c62:x.toNat=62
       ·have cI62:(x.toNat:Int)=62:=by omega
        have cb62:((x.toNat:Int) == 62)=true:=by rw [cI62];rfl
        have hE:esc1 true x.toNat=[38,103,116,59]:=by rw [c62];rfl
        rw [hE] at hes
        have HT2:Hid (T++⟨#[38,103,116,59]⟩=txt (esc true (xs.take (i+1)))):=Lib.hid (by rw [hes,hT.out,show (⟨#[38,103,116,59]⟩:ByteArray)=txt [38,103,116,59] from rfl,txt_app])
        clear hes hE hxn
        go_wp2
        all_goals try (exfalso;omega)
        go_roundg (M-(i+1))
        case measure=>omega
        case rel=>exact ⟨rfl,i+1,_,by go_num,rfl,by omega,by omega,HT2⟩
       ·have cI62:¬(x.toNat:Int)=62:=by omega
        have cb62:((x.toNat:Int) == 62)=false:=beq_eq_false_iff_ne.2 cI62
        by_cases c13:x.toNat=13
        ·have cI13:(x.toNat:Int)=13:=by omega
         have cb13:((x.toNat:Int) == 13)=true:=by rw [cI13];rfl
         have hE:esc1 true x.toNat=[38,35,49,51,59]:=by rw [c13];rfl
         rw [hE] at hes
         have HT2:Hid (T++⟨#[38,35,49,51,59]⟩=txt (esc true (xs.take (i+1)))):=Lib.hid (by rw [hes,hT.out,show (⟨#[38,35,49,51,59]⟩:ByteArray)=txt [38,35,49,51,59] from rfl,txt_app])
         clear hes hE hxn
         go_wp2
         all_goals try (exfalso;omega)
         go_roundg (M-(i+1))
         case measure=>omega
         case rel=>exact ⟨rfl,i+1,_,by go_num,rfl,by omega,by omega,HT2⟩
        ·have cI13:¬(x.toNat:Int)=13:=by omega
         have cb13:((x.toNat:Int) == 13)=false:=beq_eq_false_iff_ne.2 cI13
         by_cases c34:x.toNat=34
         ·have cI34:(x.toNat:Int)=34:=by omega
          have cb34:((x.toNat:Int) == 34)=true:=by rw [cI34];rfl
          have hE:esc1 true x.toNat=[38,113,117,111,116,59]:=by rw [c34];rfl
          rw [hE] at hes
          have HT2:Hid (T++⟨#[38,113,117,111,116,59]⟩=txt (esc true (xs.take (i+1)))):=Lib.hid (by rw [hes,hT.out,show (⟨#[38,113,117,111,116,59]⟩:ByteArray)=txt [38,113,117,111,116,59] from rfl,txt_app])
          clear hes hE hxn
          go_wp2
          all_goals try (exfalso;omega)
          go_roundg (M-(i+1))
          case measure=>omega
          case rel=>exact ⟨rfl,i+1,_,by go_num,rfl,by omega,by omega,HT2⟩
         ·have cI34:¬(x.toNat:Int)=34:=by omega
          have cb34:((x.toNat:Int) == 34)=false:=beq_eq_false_iff_ne.2 cI34
          by_cases c9:x.toNat=9
          ·have cI9:(x.toNat:Int)=9:=by omega
           have cb9:((x.toNat:Int) == 9)=true:=by rw [cI9];rfl
           have hE:esc1 true x.toNat=[38,35,57,59]:=by rw [c9];rfl
           rw [hE] at hes
           have HT2:Hid (T++⟨#[38,35,57,59]⟩=txt (esc true (xs.take (i+1)))):=Lib.hid (by rw [hes,hT.out,show (⟨#[38,35,57,59]⟩:ByteArray)=txt [38,35,57,59] from rfl,txt_app])
           clear hes hE hxn
           go_wp2
           all_goals try (exfalso;omega)
           go_roundg (M-(i+1))
           case measure=>omega
           case rel=>exact ⟨rfl,i+1,_,by go_num,rfl,by omega,by omega,HT2⟩
          ·have cI9:¬(x.toNat:Int)=9:=by omega
           have cb9:((x.toNat:Int) == 9)=false:=beq_eq_false_iff_ne.2 cI9
           by_cases c10:x.toNat=10
           ·have cI10:(x.toNat:Int)=10:=by omega
            have cb10:((x.toNat:Int) == 10)=true:=by rw [cI10];rfl
            have hE:esc1 true x.toNat=[38,35,49,48,59]:=by rw [c10];rfl
            rw [hE] at hes
            have HT2:Hid (T++⟨#[38,35,49,48,59]⟩=txt (esc true (xs.take (i+1)))):=Lib.hid (by rw [hes,hT.out,show (⟨#[38,35,49,48,59]⟩:ByteArray)=txt [38,35,49,48,59] from rfl,txt_app])
            clear hes hE hxn
            go_wp2
            all_goals try (exfalso;omega)
            go_roundg (M-(i+1))
            case measure=>omega
            case rel=>exact ⟨rfl,i+1,_,by go_num,rfl,by omega,by omega,HT2⟩
           ·have cI10:¬(x.toNat:Int)=10:=by omega
            have cb10:((x.toNat:Int) == 10)=false:=beq_eq_false_iff_ne.2 cI10
            have hE:esc1 true x.toNat=[x.toNat]:=by
             unfold esc1
             simp only [c38,c60,c62,c13,c34,c9,c10,true_and,if_false]
            rw [hE] at hes
            obtain ⟨p,hp⟩:∃ p,p=i+1:=⟨_,rfl⟩
            have hsum:(i:Int)+1=p:=by omega
            have hsl:∀ W,(Instr.slice 9 (.string S) (some (.int .i64 (i:Nat))) (some (.int .i64 (p:Nat))) none).run Tryz.prog W = .ok (.string (S.extract i p)) W:=fun W=>by
             have h1:(0:Int)≤i∧(i:Int)≤p:=by omega
             have h2:(p:Int)≤S.size:=by omega
             simp [go_sem,h1,h2]
            obtain ⟨PC,hPC⟩:∃ PC,PC=S.extract i p:=⟨_,rfl⟩
            rw [←hPC] at hsl
            have hPt:PC=txt [x.toNat]:=by
             rw [hPC,HEX.out,hp,show i+1-i=1 by omega,drop_cons hix,hxn];rfl
            have hPs:PC.size≤10:=by rw [hPt,txt_size];simp
            have HT2:Hid (T++PC=txt (esc true (xs.take (i+1)))):=Lib.hid (by rw [hes,hT.out,hPt,txt_app])
            have HPP:=Lib.hid hp
            clear hes hE hPC hPt hxn hp
            go_wp2
            all_goals try (exfalso;omega)
            have hp:=HPP.out
            go_roundg (M-(i+1))
            case measure=>omega
            case rel=>exact ⟨rfl,i+1,_,by go_num,rfl,by omega,by omega,HT2⟩
    ·obtain rfl:i=M:=by omega
     have hiI:¬(i:Int)<S.size:=by omega
     have HF:Hid (T=txt (esc true xs)):=Lib.hid (by rw [hT.out,List.take_of_length_le (by rw [←HM.out];exact Nat.le_refl _)])
     go_wp2
     go_ret2
     exact ⟨by rw [←HF.out];rfl,HB2.out⟩
 ·have ha:alA charP xs=(k,false):=by unfold alA;rw [hal];rfl
  rw [ha] at KC
  rw [if_neg (by simp)]
  clear hal ha hbt hnb hnl hb hS hM
  go_enter Tryz.func19,Tryz.ntmps19
  go_wp2_with (go_at_call 16;(with_reducible refine KC.out.mono ?_);rintro e w2 ⟨rfl,hb2⟩;have HB2:=Lib.hid (HB1.out.trans (hb2.mono HB1.out.size));clear hb2)
  go_ret2
  exact ⟨rfl,HB2.out⟩
set_option maxHeartbeats 12800000 in
theorem texts_p1 (s0 B C T:ByteArray) (q has may z:Bool) (w:World) (n k:Nat) (NEW:World→World) (CAP:World→Nat)
  (h0:¬(2000:Int)<s0.size) (HT:Hid (∀ W,Below w.heap.size w W→TT W))
  (KA:Hid (Calls Tryz.prog 8 #[] w fun e w'=>e = .returned (.bool true)∧Below w.heap.size w w'))
  (K14:Hid (∀ W,TT W→Calls Tryz.prog 14 #[.string s0] W fun e w'=>e = .returned (.tuple #[.string ⟨#[]⟩,.bool false])∧Below W.heap.size W w'))
  (K15:Hid (∀ W,TT W→Calls Tryz.prog 15 #[.string s0,.bool false] W fun e w'=>e = .returned (.tuple #[.string B,.bool false])∧Below W.heap.size W w'))
  (hcv:∀ W,(convert 9 22 (.string s0)).run Tryz.prog W = .ok (.slice (some ⟨W.heap.size,0,none⟩) n (CAP W)) (NEW W))
  (K16:Hid (∀ W,TT W→Calls Tryz.prog 16 #[.slice (some ⟨W.heap.size,0,none⟩) n (CAP W)] (NEW W) fun e w'=>e = .returned (.tuple #[.int .i64 (k:Nat),.bool z])∧Below W.heap.size W w'))
  (K18:Hid (∀ W,TT W→Calls Tryz.prog 18 #[.string s0,.bool q] W fun e w'=>e = .returned (.tuple #[.string C,.bool has])∧Below W.heap.size W w'))
  (K19:Hid (∀ W,TT W→Calls Tryz.prog 19 #[.string s0,.bool q] W fun e w'=>e = .returned (.tuple #[.string C,.bool has])∧Below W.heap.size W w'))
  (K14b:Hid (∀ W,TT W→Calls Tryz.prog 14 #[.string C] W fun e w'=>e = .returned (.tuple #[.string T,.bool may])∧Below W.heap.size W w'))
  (hT:has=true→may=true∧T=s0) :
  Calls Tryz.prog 4 #[.string s0,.bool q] w fun e w'=>e = .returned (.bool true)∧Below w.heap.size w w':=by
 cases has with
 | true=>
  obtain ⟨rfl,rfl⟩:=hT rfl
  go_enter Tryz.func4,Tryz.ntmps4
  go_wp2_with (first
   | (go_at_call 8;(with_reducible refine KA.out.mono ?_);rintro e w1 ⟨rfl,hb⟩;have HB1:=Lib.hid hb;clear hb)
   | (go_at_call 14;(with_reducible refine (K14.out w1 (HT.out w1 HB1.out)).mono ?_);rintro e w2 ⟨rfl,hb⟩;have HB2:=Lib.hid (HB1.out.trans (hb.mono HB1.out.size));clear hb)
   | (go_at_call 15;(with_reducible refine (K15.out w2 (HT.out w2 HB2.out)).mono ?_);rintro e w3 ⟨rfl,hb⟩;have HB3:=Lib.hid (HB2.out.trans (hb.mono HB2.out.size));clear hb)
   | (go_at_call 16;(with_reducible refine (K16.out w3 (HT.out w3 HB3.out)).mono ?_);rintro e w4 ⟨rfl,hb⟩;have HB4:=Lib.hid (HB3.out.trans (hb.mono HB3.out.size));clear hb)
   | (go_at_call 18;(with_reducible refine (K18.out _ (HT.out _ HB4.out)).mono ?_);rintro e w5 ⟨rfl,hb⟩;have HB5:=Lib.hid (HB4.out.trans (hb.mono HB4.out.size));clear hb)
   | (go_at_call 19;(with_reducible refine (K19.out w5 (HT.out w5 HB5.out)).mono ?_);rintro e w6 ⟨rfl,hb⟩;have HB6:=Lib.hid (HB5.out.trans (hb.mono HB5.out.size));clear hb)
   | (go_at_call 14;(with_reducible refine (K14b.out w6 (HT.out w6 HB6.out)).mono ?_);rintro e w7 ⟨rfl,hb⟩;have HB7:=Lib.hid (HB6.out.trans (hb.mono HB6.out.size));clear hb))
  all_goals go_ret
  all_goals exact ⟨rfl,HB7.out⟩
 | false=>
  clear hT
  go_enter Tryz.func4,Tryz.ntmps4
  go_wp2_with (first
   | (go_at_call 8;(with_reducible refine KA.out.mono ?_);rintro e w1 ⟨rfl,hb⟩;have HB1:=Lib.hid hb;clear hb)
   | (go_at_call 14;(with_reducible refine (K14.out w1 (HT.out w1 HB1.out)).mono ?_);rintro e w2 ⟨rfl,hb⟩;have HB2:=Lib.hid (HB1.out.trans (hb.mono HB1.out.size));clear hb)
   | (go_at_call 15;(with_reducible refine (K15.out w2 (HT.out w2 HB2.out)).mono ?_);rintro e w3 ⟨rfl,hb⟩;have HB3:=Lib.hid (HB2.out.trans (hb.mono HB2.out.size));clear hb)
   | (go_at_call 16;(with_reducible refine (K16.out w3 (HT.out w3 HB3.out)).mono ?_);rintro e w4 ⟨rfl,hb⟩;have HB4:=Lib.hid (HB3.out.trans (hb.mono HB3.out.size));clear hb)
   | (go_at_call 18;(with_reducible refine (K18.out _ (HT.out _ HB4.out)).mono ?_);rintro e w5 ⟨rfl,hb⟩;have HB5:=Lib.hid (HB4.out.trans (hb.mono HB4.out.size));clear hb)
   | (go_at_call 19;(with_reducible refine (K19.out w5 (HT.out w5 HB5.out)).mono ?_);rintro e w6 ⟨rfl,hb⟩;have HB6:=Lib.hid (HB5.out.trans (hb.mono HB5.out.size));clear hb)
   | (go_at_call 14;(with_reducible refine (K14b.out w6 (HT.out w6 HB6.out)).mono ?_);rintro e w7 ⟨rfl,hb⟩;have HB7:=Lib.hid (HB6.out.trans (hb.mono HB6.out.size));clear hb))
  all_goals go_ret
  all_goals exact ⟨rfl,HB7.out⟩
set_option maxHeartbeats 12800000 in
theorem texts_p3 (s0 B C T:ByteArray) (q has may:Bool) (w:World) (n k:Nat) (NEW:World→World) (CAP:World→Nat)
  (h0:¬(2000:Int)<s0.size) (HT:Hid (∀ W,Below w.heap.size w W→TT W))
  (KA:Hid (Calls Tryz.prog 8 #[] w fun e w'=>e = .returned (.bool true)∧Below w.heap.size w w'))
  (K14:Hid (∀ W,TT W→Calls Tryz.prog 14 #[.string s0] W fun e w'=>e = .returned (.tuple #[.string ⟨#[]⟩,.bool false])∧Below W.heap.size W w'))
  (K15:Hid (∀ W,TT W→Calls Tryz.prog 15 #[.string s0,.bool false] W fun e w'=>e = .returned (.tuple #[.string B,.bool true])∧Below W.heap.size W w'))
  (hcv:∀ W,(convert 9 22 (.string s0)).run Tryz.prog W = .ok (.slice (some ⟨W.heap.size,0,none⟩) n (CAP W)) (NEW W))
  (K16:Hid (∀ W,TT W→Calls Tryz.prog 16 #[.slice (some ⟨W.heap.size,0,none⟩) n (CAP W)] (NEW W) fun e w'=>e = .returned (.tuple #[.int .i64 (k:Nat),.bool false])∧Below W.heap.size W w'))
  (K18:Hid (∀ W,TT W→Calls Tryz.prog 18 #[.string s0,.bool q] W fun e w'=>e = .returned (.tuple #[.string C,.bool has])∧Below W.heap.size W w'))
  (K19:Hid (∀ W,TT W→Calls Tryz.prog 19 #[.string s0,.bool q] W fun e w'=>e = .returned (.tuple #[.string C,.bool has])∧Below W.heap.size W w'))
  (K14b:Hid (∀ W,TT W→Calls Tryz.prog 14 #[.string C] W fun e w'=>e = .returned (.tuple #[.string T,.bool may])∧Below W.heap.size W w'))
  (hT:has=true→may=true∧T=s0) :
  Calls Tryz.prog 4 #[.string s0,.bool q] w fun e w'=>e = .returned (.bool true)∧Below w.heap.size w w':=by
 cases has with
 | true=>
  obtain ⟨rfl,rfl⟩:=hT rfl
  go_enter Tryz.func4,Tryz.ntmps4
  go_wp2_with (first
   | (go_at_call 8;(with_reducible refine KA.out.mono ?_);rintro e w1 ⟨rfl,hb⟩;have HB1:=Lib.hid hb;clear hb)
   | (go_at_call 14;(with_reducible refine (K14.out w1 (HT.out w1 HB1.out)).mono ?_);rintro e w2 ⟨rfl,hb⟩;have HB2:=Lib.hid (HB1.out.trans (hb.mono HB1.out.size));clear hb)
   | (go_at_call 15;(with_reducible refine (K15.out w2 (HT.out w2 HB2.out)).mono ?_);rintro e w3 ⟨rfl,hb⟩;have HB3:=Lib.hid (HB2.out.trans (hb.mono HB2.out.size));clear hb)
   | (go_at_call 16;(with_reducible refine (K16.out w3 (HT.out w3 HB3.out)).mono ?_);rintro e w4 ⟨rfl,hb⟩;have HB4:=Lib.hid (HB3.out.trans (hb.mono HB3.out.size));clear hb)
   | (go_at_call 18;(with_reducible refine (K18.out _ (HT.out _ HB4.out)).mono ?_);rintro e w5 ⟨rfl,hb⟩;have HB5:=Lib.hid (HB4.out.trans (hb.mono HB4.out.size));clear hb)
   | (go_at_call 19;(with_reducible refine (K19.out w5 (HT.out w5 HB5.out)).mono ?_);rintro e w6 ⟨rfl,hb⟩;have HB6:=Lib.hid (HB5.out.trans (hb.mono HB5.out.size));clear hb)
   | (go_at_call 14;(with_reducible refine (K14b.out w6 (HT.out w6 HB6.out)).mono ?_);rintro e w7 ⟨rfl,hb⟩;have HB7:=Lib.hid (HB6.out.trans (hb.mono HB6.out.size));clear hb))
  all_goals go_ret
  all_goals exact ⟨rfl,HB7.out⟩
 | false=>
  clear hT
  go_enter Tryz.func4,Tryz.ntmps4
  go_wp2_with (first
   | (go_at_call 8;(with_reducible refine KA.out.mono ?_);rintro e w1 ⟨rfl,hb⟩;have HB1:=Lib.hid hb;clear hb)
   | (go_at_call 14;(with_reducible refine (K14.out w1 (HT.out w1 HB1.out)).mono ?_);rintro e w2 ⟨rfl,hb⟩;have HB2:=Lib.hid (HB1.out.trans (hb.mono HB1.out.size));clear hb)
   | (go_at_call 15;(with_reducible refine (K15.out w2 (HT.out w2 HB2.out)).mono ?_);rintro e w3 ⟨rfl,hb⟩;have HB3:=Lib.hid (HB2.out.trans (hb.mono HB2.out.size));clear hb)
   | (go_at_call 16;(with_reducible refine (K16.out w3 (HT.out w3 HB3.out)).mono ?_);rintro e w4 ⟨rfl,hb⟩;have HB4:=Lib.hid (HB3.out.trans (hb.mono HB3.out.size));clear hb)
   | (go_at_call 18;(with_reducible refine (K18.out _ (HT.out _ HB4.out)).mono ?_);rintro e w5 ⟨rfl,hb⟩;have HB5:=Lib.hid (HB4.out.trans (hb.mono HB4.out.size));clear hb)
   | (go_at_call 19;(with_reducible refine (K19.out w5 (HT.out w5 HB5.out)).mono ?_);rintro e w6 ⟨rfl,hb⟩;have HB6:=Lib.hid (HB5.out.trans (hb.mono HB5.out.size));clear hb)
   | (go_at_call 14;(with_reducible refine (K14b.out w6 (HT.out w6 HB6.out)).mono ?_);rintro e w7 ⟨rfl,hb⟩;have HB7:=Lib.hid (HB6.out.trans (hb.mono HB6.out.size));clear hb))
  all_goals go_ret
  all_goals exact ⟨rfl,HB7.out⟩
set_option maxHeartbeats 12800000 in
theorem texts_p4 (s0 B C T:ByteArray) (q has may:Bool) (w:World) (n k:Nat) (NEW:World→World) (CAP:World→Nat)
  (h0:¬(2000:Int)<s0.size) (HT:Hid (∀ W,Below w.heap.size w W→TT W))
  (KA:Hid (Calls Tryz.prog 8 #[] w fun e w'=>e = .returned (.bool true)∧Below w.heap.size w w'))
  (K14:Hid (∀ W,TT W→Calls Tryz.prog 14 #[.string s0] W fun e w'=>e = .returned (.tuple #[.string ⟨#[]⟩,.bool false])∧Below W.heap.size W w'))
  (K15:Hid (∀ W,TT W→Calls Tryz.prog 15 #[.string s0,.bool false] W fun e w'=>e = .returned (.tuple #[.string B,.bool true])∧Below W.heap.size W w'))
  (hcv:∀ W,(convert 9 22 (.string s0)).run Tryz.prog W = .ok (.slice (some ⟨W.heap.size,0,none⟩) n (CAP W)) (NEW W))
  (K16:Hid (∀ W,TT W→Calls Tryz.prog 16 #[.slice (some ⟨W.heap.size,0,none⟩) n (CAP W)] (NEW W) fun e w'=>e = .returned (.tuple #[.int .i64 (k:Nat),.bool true])∧Below W.heap.size W w'))
  (K17b:Hid (∀ W,Calls Tryz.prog 17 #[.string s0,.string ⟨#[93,93,62]⟩] W fun e w'=>e = .returned (.bool true)∧w'=W))
  (K18:Hid (∀ W,TT W→Calls Tryz.prog 18 #[.string s0,.bool q] W fun e w'=>e = .returned (.tuple #[.string C,.bool has])∧Below W.heap.size W w'))
  (K19:Hid (∀ W,TT W→Calls Tryz.prog 19 #[.string s0,.bool q] W fun e w'=>e = .returned (.tuple #[.string C,.bool has])∧Below W.heap.size W w'))
  (K14b:Hid (∀ W,TT W→Calls Tryz.prog 14 #[.string C] W fun e w'=>e = .returned (.tuple #[.string T,.bool may])∧Below W.heap.size W w'))
  (hT:has=true→may=true∧T=s0) :
  Calls Tryz.prog 4 #[.string s0,.bool q] w fun e w'=>e = .returned (.bool true)∧Below w.heap.size w w':=by
 cases has with
 | true=>
  obtain ⟨rfl,rfl⟩:=hT rfl
  go_enter Tryz.func4,Tryz.ntmps4
  go_wp2_with (first
   | (go_at_call 8;(with_reducible refine KA.out.mono ?_);rintro e w1 ⟨rfl,hb⟩;have HB1:=Lib.hid hb;clear hb)
   | (go_at_call 14;(with_reducible refine (K14.out w1 (HT.out w1 HB1.out)).mono ?_);rintro e w2 ⟨rfl,hb⟩;have HB2:=Lib.hid (HB1.out.trans (hb.mono HB1.out.size));clear hb)
   | (go_at_call 15;(with_reducible refine (K15.out w2 (HT.out w2 HB2.out)).mono ?_);rintro e w3 ⟨rfl,hb⟩;have HB3:=Lib.hid (HB2.out.trans (hb.mono HB2.out.size));clear hb)
   | (go_at_call 16;(with_reducible refine (K16.out w3 (HT.out w3 HB3.out)).mono ?_);rintro e w4 ⟨rfl,hb⟩;have HB4:=Lib.hid (HB3.out.trans (hb.mono HB3.out.size));clear hb)
   | (go_at_call 17;(with_reducible refine (K17b.out _).mono ?_);rintro e wb ⟨rfl,rfl⟩)
   | (go_at_call 18;(with_reducible refine (K18.out _ (HT.out _ HB4.out)).mono ?_);rintro e w5 ⟨rfl,hb⟩;have HB5:=Lib.hid (HB4.out.trans (hb.mono HB4.out.size));clear hb)
   | (go_at_call 19;(with_reducible refine (K19.out w5 (HT.out w5 HB5.out)).mono ?_);rintro e w6 ⟨rfl,hb⟩;have HB6:=Lib.hid (HB5.out.trans (hb.mono HB5.out.size));clear hb)
   | (go_at_call 14;(with_reducible refine (K14b.out w6 (HT.out w6 HB6.out)).mono ?_);rintro e w7 ⟨rfl,hb⟩;have HB7:=Lib.hid (HB6.out.trans (hb.mono HB6.out.size));clear hb))
  all_goals go_ret
  all_goals exact ⟨rfl,HB7.out⟩
 | false=>
  clear hT
  go_enter Tryz.func4,Tryz.ntmps4
  go_wp2_with (first
   | (go_at_call 8;(with_reducible refine KA.out.mono ?_);rintro e w1 ⟨rfl,hb⟩;have HB1:=Lib.hid hb;clear hb)
   | (go_at_call 14;(with_reducible refine (K14.out w1 (HT.out w1 HB1.out)).mono ?_);rintro e w2 ⟨rfl,hb⟩;have HB2:=Lib.hid (HB1.out.trans (hb.mono HB1.out.size));clear hb)
   | (go_at_call 15;(with_reducible refine (K15.out w2 (HT.out w2 HB2.out)).mono ?_);rintro e w3 ⟨rfl,hb⟩;have HB3:=Lib.hid (HB2.out.trans (hb.mono HB2.out.size));clear hb)
   | (go_at_call 16;(with_reducible refine (K16.out w3 (HT.out w3 HB3.out)).mono ?_);rintro e w4 ⟨rfl,hb⟩;have HB4:=Lib.hid (HB3.out.trans (hb.mono HB3.out.size));clear hb)
   | (go_at_call 17;(with_reducible refine (K17b.out _).mono ?_);rintro e wb ⟨rfl,rfl⟩)
   | (go_at_call 18;(with_reducible refine (K18.out _ (HT.out _ HB4.out)).mono ?_);rintro e w5 ⟨rfl,hb⟩;have HB5:=Lib.hid (HB4.out.trans (hb.mono HB4.out.size));clear hb)
   | (go_at_call 19;(with_reducible refine (K19.out w5 (HT.out w5 HB5.out)).mono ?_);rintro e w6 ⟨rfl,hb⟩;have HB6:=Lib.hid (HB5.out.trans (hb.mono HB5.out.size));clear hb)
   | (go_at_call 14;(with_reducible refine (K14b.out w6 (HT.out w6 HB6.out)).mono ?_);rintro e w7 ⟨rfl,hb⟩;have HB7:=Lib.hid (HB6.out.trans (hb.mono HB6.out.size));clear hb))
  all_goals go_ret
  all_goals exact ⟨rfl,HB7.out⟩
set_option maxHeartbeats 12800000 in
theorem texts_p5 (s0 B C T:ByteArray) (q has may:Bool) (w:World) (n k:Nat) (NEW:World→World) (CAP:World→Nat)
  (h0:¬(2000:Int)<s0.size) (HT:Hid (∀ W,Below w.heap.size w W→TT W))
  (KA:Hid (Calls Tryz.prog 8 #[] w fun e w'=>e = .returned (.bool true)∧Below w.heap.size w w'))
  (K14:Hid (∀ W,TT W→Calls Tryz.prog 14 #[.string s0] W fun e w'=>e = .returned (.tuple #[.string ⟨#[]⟩,.bool false])∧Below W.heap.size W w'))
  (K15:Hid (∀ W,TT W→Calls Tryz.prog 15 #[.string s0,.bool false] W fun e w'=>e = .returned (.tuple #[.string B,.bool true])∧Below W.heap.size W w'))
  (hcv:∀ W,(convert 9 22 (.string s0)).run Tryz.prog W = .ok (.slice (some ⟨W.heap.size,0,none⟩) n (CAP W)) (NEW W))
  (K16:Hid (∀ W,TT W→Calls Tryz.prog 16 #[.slice (some ⟨W.heap.size,0,none⟩) n (CAP W)] (NEW W) fun e w'=>e = .returned (.tuple #[.int .i64 (k:Nat),.bool true])∧Below W.heap.size W w'))
  (K17b:Hid (∀ W,Calls Tryz.prog 17 #[.string s0,.string ⟨#[93,93,62]⟩] W fun e w'=>e = .returned (.bool false)∧w'=W))
  (K17c:Hid (∀ W,Calls Tryz.prog 17 #[.string s0,.string ⟨#[13]⟩] W fun e w'=>e = .returned (.bool true)∧w'=W))
  (K18:Hid (∀ W,TT W→Calls Tryz.prog 18 #[.string s0,.bool q] W fun e w'=>e = .returned (.tuple #[.string C,.bool has])∧Below W.heap.size W w'))
  (K19:Hid (∀ W,TT W→Calls Tryz.prog 19 #[.string s0,.bool q] W fun e w'=>e = .returned (.tuple #[.string C,.bool has])∧Below W.heap.size W w'))
  (K14b:Hid (∀ W,TT W→Calls Tryz.prog 14 #[.string C] W fun e w'=>e = .returned (.tuple #[.string T,.bool may])∧Below W.heap.size W w'))
  (hT:has=true→may=true∧T=s0) :
  Calls Tryz.prog 4 #[.string s0,.bool q] w fun e w'=>e = .returned (.bool true)∧Below w.heap.size w w':=by
 cases has with
 | true=>
  obtain ⟨rfl,rfl⟩:=hT rfl
  go_enter Tryz.func4,Tryz.ntmps4
  go_wp2_with (first
   | (go_at_call 8;(with_reducible refine KA.out.mono ?_);rintro e w1 ⟨rfl,hb⟩;have HB1:=Lib.hid hb;clear hb)
   | (go_at_call 14;(with_reducible refine (K14.out w1 (HT.out w1 HB1.out)).mono ?_);rintro e w2 ⟨rfl,hb⟩;have HB2:=Lib.hid (HB1.out.trans (hb.mono HB1.out.size));clear hb)
   | (go_at_call 15;(with_reducible refine (K15.out w2 (HT.out w2 HB2.out)).mono ?_);rintro e w3 ⟨rfl,hb⟩;have HB3:=Lib.hid (HB2.out.trans (hb.mono HB2.out.size));clear hb)
   | (go_at_call 16;(with_reducible refine (K16.out w3 (HT.out w3 HB3.out)).mono ?_);rintro e w4 ⟨rfl,hb⟩;have HB4:=Lib.hid (HB3.out.trans (hb.mono HB3.out.size));clear hb)
   | (go_at_call 17;(with_reducible refine (K17b.out _).mono ?_);rintro e wb ⟨rfl,rfl⟩)
   | (go_at_call 17;(with_reducible refine (K17c.out _).mono ?_);rintro e wc ⟨rfl,rfl⟩)
   | (go_at_call 18;(with_reducible refine (K18.out _ (HT.out _ HB4.out)).mono ?_);rintro e w5 ⟨rfl,hb⟩;have HB5:=Lib.hid (HB4.out.trans (hb.mono HB4.out.size));clear hb)
   | (go_at_call 19;(with_reducible refine (K19.out w5 (HT.out w5 HB5.out)).mono ?_);rintro e w6 ⟨rfl,hb⟩;have HB6:=Lib.hid (HB5.out.trans (hb.mono HB5.out.size));clear hb)
   | (go_at_call 14;(with_reducible refine (K14b.out w6 (HT.out w6 HB6.out)).mono ?_);rintro e w7 ⟨rfl,hb⟩;have HB7:=Lib.hid (HB6.out.trans (hb.mono HB6.out.size));clear hb))
  all_goals go_ret
  all_goals exact ⟨rfl,HB7.out⟩
 | false=>
  clear hT
  go_enter Tryz.func4,Tryz.ntmps4
  go_wp2_with (first
   | (go_at_call 8;(with_reducible refine KA.out.mono ?_);rintro e w1 ⟨rfl,hb⟩;have HB1:=Lib.hid hb;clear hb)
   | (go_at_call 14;(with_reducible refine (K14.out w1 (HT.out w1 HB1.out)).mono ?_);rintro e w2 ⟨rfl,hb⟩;have HB2:=Lib.hid (HB1.out.trans (hb.mono HB1.out.size));clear hb)
   | (go_at_call 15;(with_reducible refine (K15.out w2 (HT.out w2 HB2.out)).mono ?_);rintro e w3 ⟨rfl,hb⟩;have HB3:=Lib.hid (HB2.out.trans (hb.mono HB2.out.size));clear hb)
   | (go_at_call 16;(with_reducible refine (K16.out w3 (HT.out w3 HB3.out)).mono ?_);rintro e w4 ⟨rfl,hb⟩;have HB4:=Lib.hid (HB3.out.trans (hb.mono HB3.out.size));clear hb)
   | (go_at_call 17;(with_reducible refine (K17b.out _).mono ?_);rintro e wb ⟨rfl,rfl⟩)
   | (go_at_call 17;(with_reducible refine (K17c.out _).mono ?_);rintro e wc ⟨rfl,rfl⟩)
   | (go_at_call 18;(with_reducible refine (K18.out _ (HT.out _ HB4.out)).mono ?_);rintro e w5 ⟨rfl,hb⟩;have HB5:=Lib.hid (HB4.out.trans (hb.mono HB4.out.size));clear hb)
   | (go_at_call 19;(with_reducible refine (K19.out w5 (HT.out w5 HB5.out)).mono ?_);rintro e w6 ⟨rfl,hb⟩;have HB6:=Lib.hid (HB5.out.trans (hb.mono HB5.out.size));clear hb)
   | (go_at_call 14;(with_reducible refine (K14b.out w6 (HT.out w6 HB6.out)).mono ?_);rintro e w7 ⟨rfl,hb⟩;have HB7:=Lib.hid (HB6.out.trans (hb.mono HB6.out.size));clear hb))
  all_goals go_ret
  all_goals exact ⟨rfl,HB7.out⟩
set_option maxHeartbeats 12800000 in
theorem texts_p6 (s0 B C T:ByteArray) (q has may:Bool) (w:World) (n k:Nat) (NEW:World→World) (CAP:World→Nat)
  (h0:¬(2000:Int)<s0.size) (HT:Hid (∀ W,Below w.heap.size w W→TT W))
  (KA:Hid (Calls Tryz.prog 8 #[] w fun e w'=>e = .returned (.bool true)∧Below w.heap.size w w'))
  (K14:Hid (∀ W,TT W→Calls Tryz.prog 14 #[.string s0] W fun e w'=>e = .returned (.tuple #[.string B,.bool true])∧Below W.heap.size W w'))
  (K15:Hid (∀ W,TT W→Calls Tryz.prog 15 #[.string s0,.bool false] W fun e w'=>e = .returned (.tuple #[.string B,.bool true])∧Below W.heap.size W w'))
  (hcv:∀ W,(convert 9 22 (.string s0)).run Tryz.prog W = .ok (.slice (some ⟨W.heap.size,0,none⟩) n (CAP W)) (NEW W))
  (K16:Hid (∀ W,TT W→Calls Tryz.prog 16 #[.slice (some ⟨W.heap.size,0,none⟩) n (CAP W)] (NEW W) fun e w'=>e = .returned (.tuple #[.int .i64 (k:Nat),.bool true])∧Below W.heap.size W w'))
  (K17b:Hid (∀ W,Calls Tryz.prog 17 #[.string s0,.string ⟨#[93,93,62]⟩] W fun e w'=>e = .returned (.bool false)∧w'=W))
  (K17c:Hid (∀ W,Calls Tryz.prog 17 #[.string s0,.string ⟨#[13]⟩] W fun e w'=>e = .returned (.bool false)∧w'=W))
  (K18:Hid (∀ W,TT W→Calls Tryz.prog 18 #[.string s0,.bool q] W fun e w'=>e = .returned (.tuple #[.string C,.bool has])∧Below W.heap.size W w'))
  (K19:Hid (∀ W,TT W→Calls Tryz.prog 19 #[.string s0,.bool q] W fun e w'=>e = .returned (.tuple #[.string C,.bool has])∧Below W.heap.size W w'))
  (K14b:Hid (∀ W,TT W→Calls Tryz.prog 14 #[.string C] W fun e w'=>e = .returned (.tuple #[.string T,.bool may])∧Below W.heap.size W w'))
  (hT:has=true→may=true∧T=s0) :
  Calls Tryz.prog 4 #[.string s0,.bool q] w fun e w'=>e = .returned (.bool true)∧Below w.heap.size w w':=by
 cases has with
 | true=>
  obtain ⟨rfl,rfl⟩:=hT rfl
  go_enter Tryz.func4,Tryz.ntmps4
  go_wp2_with (first
   | (go_at_call 8;(with_reducible refine KA.out.mono ?_);rintro e w1 ⟨rfl,hb⟩;have HB1:=Lib.hid hb;clear hb)
   | (go_at_call 14;(with_reducible refine (K14.out w1 (HT.out w1 HB1.out)).mono ?_);rintro e w2 ⟨rfl,hb⟩;have HB2:=Lib.hid (HB1.out.trans (hb.mono HB1.out.size));clear hb)
   | (go_at_call 15;(with_reducible refine (K15.out w2 (HT.out w2 HB2.out)).mono ?_);rintro e w3 ⟨rfl,hb⟩;have HB3:=Lib.hid (HB2.out.trans (hb.mono HB2.out.size));clear hb)
   | (go_at_call 16;(with_reducible refine (K16.out w3 (HT.out w3 HB3.out)).mono ?_);rintro e w4 ⟨rfl,hb⟩;have HB4:=Lib.hid (HB3.out.trans (hb.mono HB3.out.size));clear hb)
   | (go_at_call 17;(with_reducible refine (K17b.out _).mono ?_);rintro e wb ⟨rfl,rfl⟩)
   | (go_at_call 17;(with_reducible refine (K17c.out _).mono ?_);rintro e wc ⟨rfl,rfl⟩)
   | (go_at_call 18;(with_reducible refine (K18.out _ (HT.out _ HB4.out)).mono ?_);rintro e w5 ⟨rfl,hb⟩;have HB5:=Lib.hid (HB4.out.trans (hb.mono HB4.out.size));clear hb)
   | (go_at_call 19;(with_reducible refine (K19.out w5 (HT.out w5 HB5.out)).mono ?_);rintro e w6 ⟨rfl,hb⟩;have HB6:=Lib.hid (HB5.out.trans (hb.mono HB5.out.size));clear hb)
   | (go_at_call 14;(with_reducible refine (K14b.out w6 (HT.out w6 HB6.out)).mono ?_);rintro e w7 ⟨rfl,hb⟩;have HB7:=Lib.hid (HB6.out.trans (hb.mono HB6.out.size));clear hb))
  all_goals go_ret
  all_goals exact ⟨rfl,HB7.out⟩
 | false=>
  clear hT
  go_enter Tryz.func4,Tryz.ntmps4
  go_wp2_with (first
   | (go_at_call 8;(with_reducible refine KA.out.mono ?_);rintro e w1 ⟨rfl,hb⟩;have HB1:=Lib.hid hb;clear hb)
   | (go_at_call 14;(with_reducible refine (K14.out w1 (HT.out w1 HB1.out)).mono ?_);rintro e w2 ⟨rfl,hb⟩;have HB2:=Lib.hid (HB1.out.trans (hb.mono HB1.out.size));clear hb)
   | (go_at_call 15;(with_reducible refine (K15.out w2 (HT.out w2 HB2.out)).mono ?_);rintro e w3 ⟨rfl,hb⟩;have HB3:=Lib.hid (HB2.out.trans (hb.mono HB2.out.size));clear hb)
   | (go_at_call 16;(with_reducible refine (K16.out w3 (HT.out w3 HB3.out)).mono ?_);rintro e w4 ⟨rfl,hb⟩;have HB4:=Lib.hid (HB3.out.trans (hb.mono HB3.out.size));clear hb)
   | (go_at_call 17;(with_reducible refine (K17b.out _).mono ?_);rintro e wb ⟨rfl,rfl⟩)
   | (go_at_call 17;(with_reducible refine (K17c.out _).mono ?_);rintro e wc ⟨rfl,rfl⟩)
   | (go_at_call 18;(with_reducible refine (K18.out _ (HT.out _ HB4.out)).mono ?_);rintro e w5 ⟨rfl,hb⟩;have HB5:=Lib.hid (HB4.out.trans (hb.mono HB4.out.size));clear hb)
   | (go_at_call 19;(with_reducible refine (K19.out w5 (HT.out w5 HB5.out)).mono ?_);rintro e w6 ⟨rfl,hb⟩;have HB6:=Lib.hid (HB5.out.trans (hb.mono HB5.out.size));clear hb)
   | (go_at_call 14;(with_reducible refine (K14b.out w6 (HT.out w6 HB6.out)).mono ?_);rintro e w7 ⟨rfl,hb⟩;have HB7:=Lib.hid (HB6.out.trans (hb.mono HB6.out.size));clear hb))
  all_goals go_ret
  all_goals exact ⟨rfl,HB7.out⟩
set_option maxHeartbeats 6400000 in
theorem texts_big (s0:ByteArray) (q:Bool) (w:World) (hT:TT w) (h:2000<s0.size) :
  Calls Tryz.prog 4 #[.string s0,.bool q] w fun e w'=>e = .returned (.bool true)∧Below w.heap.size w w':=by
 have KA:=Lib.hid (alive_any w hT)
 have e0:(2000:Int)<s0.size:=by omega
 clear hT h
 go_enter Tryz.func4,Tryz.ntmps4
 go_wp2_with (go_at_call 8;(with_reducible refine KA.out.mono ?_);rintro e w1 ⟨rfl,hb⟩;have HB1:=Lib.hid hb;clear hb)
 go_ret
 exact ⟨rfl,HB1.out⟩
def tdS:Option (List Nat)→ByteArray
 | some v=>txt v
 | none=>⟨#[]⟩
def tdB:Option (List Nat)→Bool
 | some _=>true
 | none=>false
theorem tdR_parts (o:Option (List Nat)):tdR o = .tuple #[.string (tdS o),.bool (tdB o)]:=by cases o <;> rfl
theorem check_str (s:ByteArray) (h:s.size≤1000000):∃ (n:Nat) (NEW:World→World) (CAP:World→Nat),(∀ W,(convert 9 22 (.string s)).run Tryz.prog W = .ok (.slice (some ⟨W.heap.size,0,none⟩) n (CAP W)) (NEW W))∧
  ∀ W,TT W→Calls Tryz.prog 16 #[.slice (some ⟨W.heap.size,0,none⟩) n (CAP W)] (NEW W) fun e w'=>e = .returned (.tuple #[.int .i64 ((alA charP (bts s)).1:Nat),.bool (alA charP (bts s)).2])∧Below W.heap.size W w':=by
 obtain ⟨NEW,CAP,hcvt,hnb,hnl⟩:=text_run s h
 refine ⟨s.size,NEW,CAP,hcvt,fun W _=>?_⟩
 have K:=rCheck_any (some ⟨W.heap.size,0,none⟩) (CAP W) (bts s) (NEW W) (hnl W) (by rw [bts_len];omega)
 rw [bts_len] at K
 refine K.mono ?_
 rintro e w' ⟨rfl,hb⟩
 exact ⟨rfl,(hnb W).trans (hb.mono (hnb W).size)⟩
theorem texts_all (s0:ByteArray) (q:Bool) (w:World) (hT:TT w) :
  Calls Tryz.prog 4 #[.string s0,.bool q] w fun e w'=>e = .returned (.bool true)∧Below w.heap.size w w':=by
 by_cases hbig:2000<s0.size
 ·exact texts_big s0 q w hT hbig
 have h0:¬(2000:Int)<s0.size:=by omega
 have l0:(bts s0).length≤2000:=by rw [bts_len];omega
 have KA:=Lib.hid (alive_any w hT)
 have HT:=Lib.hid fun (W:World) (hW:Below w.heap.size w W)=>hT.grow hW
 have K14:=fun W hW=>text_any (bts s0) s0 (txt_bts s0).symm (bts_bs s0) W (by omega) hW
 have K15:=fun W (_:TT W)=>rtold_any (bts s0) s0 (txt_bts s0).symm (bts_bs s0) false W (by omega)
 obtain ⟨n,NEW,CAP,hcv,K16⟩:=check_str s0 (by omega)
 have K17b:∀ W,Calls Tryz.prog 17 #[.string s0,.string ⟨#[93,93,62]⟩] W fun e w'=>e = .returned (.bool (ix [93,93,62] (bts s0)).isSome)∧w'=W:=fun W=>inside_any (bts s0) [93,93,62] s0 _ (txt_bts s0).symm rfl (bts_bs s0) (bs_l _ (by decide)) (by omega) (by decide) (by decide) W
 have K17c:∀ W,Calls Tryz.prog 17 #[.string s0,.string ⟨#[13]⟩] W fun e w'=>e = .returned (.bool (ix [13] (bts s0)).isSome)∧w'=W:=fun W=>inside_any (bts s0) [13] s0 _ (txt_bts s0).symm rfl (bts_bs s0) (bs_l _ (by decide)) (by omega) (by decide) (by decide) W
 obtain ⟨C,hs,HC,T,may,K14b,hTm⟩:∃ (C:ByteArray) (hs:Bool),(esA q (bts s0) = .tuple #[.string C,.bool hs])∧∃ (T:ByteArray) (may:Bool),(∀ W,TT W→Calls Tryz.prog 14 #[.string C] W fun e w'=>e = .returned (.tuple #[.string T,.bool may])∧Below W.heap.size W w')∧(hs=true→may=true∧T=s0):=by
  by_cases ha:al charP (bts s0) 0=none
  ·refine ⟨txt (esc q (bts s0)),true,by unfold esA;rw [if_pos ha],s0,true,fun W hW=>?_,fun _=>⟨rfl,rfl⟩⟩
   have e0:=esc_len q (bts s0)
   have K:=text_any (esc q (bts s0)) _ rfl (esc_bs (bts_bs s0)) W (by omega) hW
   rw [tx_esc (bts_bs s0) ha,tdR_parts] at K
   have:tdS (some (bts s0))=s0:=txt_bts s0
   rw [this] at K
   exact K
  ·refine ⟨⟨#[]⟩,false,by unfold esA;rw [if_neg ha],tdS (txP []),tdB (txP []),fun W hW=>?_,fun h=>by cases h⟩
   have K:=text_any [] ⟨#[]⟩ rfl Bs.nil W (by simp) hW
   rw [tdR_parts] at K
   exact K
 have K18:=fun W hW=>escape_any (bts s0) s0 (txt_bts s0).symm (bts_bs s0) q W (by omega) hW
 have K19:=fun W (_:TT W)=>rescape_any (bts s0) s0 (txt_bts s0).symm (bts_bs s0) q W (by omega)
 rw [HC] at K18 K19
 have htr:=tr_is false (bts s0)
 rw [fl_false] at htr
 have hal2:(alA charP (bts s0)).2=decide (al charP (bts s0) 0=none):=by
  unfold alA
  rcases al charP (bts s0) 0 with _ | k <;> rfl
 rw [tdR_parts] at K14 K15
 rcases ho:tr false (bts s0) with _ | v
 ·have htx:txP (bts s0)=none:=by
   unfold txP
   by_cases hc:al charP (bts s0) 0=none∧60∉bts s0∧13∉bts s0∧ix [93,93,62] (bts s0)=none
   ·rw [if_pos hc]
    rw [htr,if_neg hc.2.1] at ho
    exact ho
   ·rw [if_neg hc]
  rw [htx] at K14
  rw [ho] at K15
  exact texts_p1 s0 _ C T q hs may _ w n _ NEW CAP h0 HT KA (Lib.hid K14) (Lib.hid K15) hcv (Lib.hid K16) (Lib.hid K18) (Lib.hid K19) (Lib.hid K14b) hTm
 ·rw [ho] at K15
  have h60:60∉bts s0:=fun h=>by rw [htr,if_pos h] at ho;cases ho
  have htd:told (bts s0)=some v:=by rw [htr,if_neg h60] at ho;exact ho
  by_cases ha:al charP (bts s0) 0=none
  ·rw [hal2,decide_eq_true ha] at K16
   rcases hb:ix [93,93,62] (bts s0) with _ | i
   ·rw [hb] at K17b
    rcases hc:ix [13] (bts s0) with _ | j
    ·rw [hc] at K17c
     have htx:txP (bts s0)=some v:=by unfold txP;rw [if_pos ⟨ha,h60,ix1_none.1 hc,hb⟩];exact htd
     rw [htx] at K14
     exact texts_p6 s0 _ C T q hs may w n _ NEW CAP h0 HT KA (Lib.hid K14) (Lib.hid K15) hcv (Lib.hid K16) (Lib.hid K17b) (Lib.hid K17c) (Lib.hid K18) (Lib.hid K19) (Lib.hid K14b) hTm
    ·rw [hc] at K17c
     have htx:txP (bts s0)=none:=by
      unfold txP
      rw [if_neg]
      rintro ⟨_,_,h,_⟩
      rw [ix1_none.2 h] at hc;cases hc
     rw [htx] at K14
     exact texts_p5 s0 _ C T q hs may w n _ NEW CAP h0 HT KA (Lib.hid K14) (Lib.hid K15) hcv (Lib.hid K16) (Lib.hid K17b) (Lib.hid K17c) (Lib.hid K18) (Lib.hid K19) (Lib.hid K14b) hTm
   ·rw [hb] at K17b
    have htx:txP (bts s0)=none:=by
     unfold txP
     rw [if_neg]
     rintro ⟨_,_,_,h⟩
     rw [hb] at h;cases h
    rw [htx] at K14
    exact texts_p4 s0 _ C T q hs may w n _ NEW CAP h0 HT KA (Lib.hid K14) (Lib.hid K15) hcv (Lib.hid K16) (Lib.hid K17b) (Lib.hid K18) (Lib.hid K19) (Lib.hid K14b) hTm
  ·rw [hal2,decide_eq_false ha] at K16
   have htx:txP (bts s0)=none:=by
    unfold txP
    rw [if_neg]
    rintro ⟨h,_⟩
    exact ha h
   rw [htx] at K14
   exact texts_p3 s0 _ C T q hs may w n _ NEW CAP h0 HT KA (Lib.hid K14) (Lib.hid K15) hcv (Lib.hid K16) (Lib.hid K18) (Lib.hid K19) (Lib.hid K14b) hTm
structure Tv (W:World) (g i:Nat) (y:Tk × Nat) (sa:Option Addr) (sc:Nat):Prop where
 k:W.cell? ⟨g,i*6,none⟩=some (.int .i64 (y.1.k:Nat))
 n:W.cell? ⟨g,i*6+1,none⟩=some (.string (txt y.1.n))
 t:W.cell? ⟨g,i*6+2,none⟩=some (.string (txt y.1.t))
 a:W.cell? ⟨g,i*6+3,none⟩=some (.slice sa y.1.a.length sc)
 e:W.cell? ⟨g,i*6+4,none⟩=some (.bool y.1.e)
 p:W.cell? ⟨g,i*6+5,none⟩=some (.int .i64 (y.2:Nat))
theorem Tv.below {W W':World} {g i:Nat} {t:Tk × Nat} {sa:Option Addr} {sc:Nat} (h:Tv W g i t sa sc) (hb:Below W.heap.size W W'):Tv W' g i t sa sc:=by
 have key:∀ j v,W.cell? ⟨g,j,none⟩=some v→W'.cell? ⟨g,j,none⟩=some v:=fun j v hv=>(hb.cell (World.block_lt_of_cell? W _ hv)).trans hv
 exact ⟨key _ _ h.k,key _ _ h.n,key _ _ h.t,key _ _ h.a,key _ _ h.e,key _ _ h.p⟩
def TkV (W:World) (a:Option Addr) (n:Nat) (l:Tks0):Prop:=n=l.length∧(0<n→∃ g,a=some ⟨g,0,none⟩∧∀ W',Below W.heap.size W W'→∀ i,i<n→∃ sa sc,Tv W' g i (l.getD i tk0) sa sc)
theorem at_some' {α : Type} {l:List α} {i:Nat} (h:i<l.length):∃ x,l[i]? = some x:=⟨_,List.getElem?_eq_getElem h⟩
theorem Tks.tkV {W:World} {B:Nat} {a:Option Addr} {n c:Nat} {m:List Tkm} {l:Tks0} (h:Tks W B (.slice a n c) m) (hm:m.map Prod.fst=l):TkV W a n l:=by
 obtain ⟨h1,h2⟩:=h.at
 have hl:m.length=l.length:=by rw [←hm,List.length_map]
 refine ⟨by omega,fun h0=>?_⟩
 obtain ⟨g,hg,_,h6⟩:=h2 (fun e=>by rw [e] at h1;simp at h1;omega)
 refine ⟨g,hg,fun W' hW' i hi=>?_⟩
 obtain ⟨x,hx⟩:=at_some' (l:=m) (i:=i) (by omega)
 have t6:=h6 i x hx
 obtain ⟨sa,cc,hv,_⟩:=(h.av x (List.mem_of_getElem? hx)).1.at
 rw [map_getD hm i hx]
 have ha:=t6.a
 rw [hv] at ha
 exact ⟨sa,cc,(show Tv W g i x.1 sa cc from ⟨t6.k,t6.n,t6.t,ha,t6.e,t6.p⟩).below hW'⟩
theorem gen_w {c:Code} {Q:Exit→Act→World→Prop} {a:Act} {W:World} (h:∀ W',W'=W→c.wp Tryz.prog Q a W'):c.wp Tryz.prog Q a W:=h W rfl
theorem ScTo.some {r:Except (Nat × Nat) (List (Tk × Nat))} {w:World} {e:Ending} {w':World} (h:ScTo r w e w'):Below w.heap.size w w'∧∃ a n c p q,e = .returned (.tuple #[.slice a n c,.int .i64 p,.int .i64 q]):=by
 obtain ⟨hb,h2⟩:=h
 refine ⟨hb,?_⟩
 rcases r with ⟨a,er⟩ | l
 ·exact ⟨_,_,_,_,_,h2⟩
 ·obtain ⟨a,n,c,m,e1,_⟩:=h2
  exact ⟨_,_,_,_,_,e1⟩
theorem wr_zero {p:Nat} (h:p≤10000):IntKind.i64.wrap ((p:Int)+0)=(p:Int)∧(p:Int)+0=p∧wrap64 (p:Int)=(p:Int):=
 ⟨by rw [IntKind.wrap_i64];omega,by omega,by unfold wrap64;omega⟩
theorem wr_add {p q z:Nat} (h:p≤10000) (h2:q≤2000) (hz:z=p+q):IntKind.i64.wrap ((p:Int)+q)=(z:Int)∧(p:Int)+q=z∧wrap64 ((p:Int)+q)=(z:Int)∧wrap64 (z:Int)=(z:Int):=
 ⟨by rw [IntKind.wrap_i64];omega,by omega,by unfold wrap64;omega,by unfold wrap64;omega⟩
set_option maxHeartbeats 25600000 in
theorem rows_core (ga offa gb offb na nb ca cb:Nat) (xa xb:List Nat) (lx ly lz:Tks0) (nx ny nz x1:Nat) (T:ByteArray) (xv yv:Int) (w:World)
  (e1:¬(1500:Int)<na) (e2:¬(1500:Int)<nb) (hna:(0:Int)<na) (hnb:(0:Int)<nb) (hxv:xv≠239) (hyv:yv≠239) (hx1:nx=x1+1) (hny:0<ny) (hnz:nx+ny=nz) (hnzm:nz≤10000)
  (KA:Hid (Calls Tryz.prog 8 #[] w fun e w'=>e = .returned (.bool true)∧Below w.heap.size w w'))
  (HCV:Hid (∀ W,Below w.heap.size w W→(convert 22 9 (.slice (some ⟨ga,offa,none⟩) na ca)).run Tryz.prog W = .ok (.string T) W))
  (KI:Hid (∀ W,Calls Tryz.prog 17 #[.string T,.string ⟨#[13]⟩] W fun e w'=>e = .returned (.bool false)∧w'=W))
  (HA:Hid (∀ W,Below w.heap.size w W→W.cell? ⟨ga,offa,none⟩=some (.int .u8 xv)))
  (HB:Hid (∀ W,Below w.heap.size w W→W.cell? ⟨gb,offb,none⟩=some (.int .u8 yv)))
  (K10a:Hid (∀ W,Below w.heap.size w W→Calls Tryz.prog 10 #[.slice (some ⟨ga,offa,none⟩) na ca] W fun e w'=>Below w.heap.size w w'∧Below W.heap.size W w'∧∃ a c,e = .returned (.tuple #[.slice a nx c,.int .i64 0,.int .i64 0])∧TkV w' a nx lx))
  (K10b:Hid (∀ W,Below w.heap.size w W→Calls Tryz.prog 10 #[.slice (some ⟨gb,offb,none⟩) nb cb] W fun e w'=>Below w.heap.size w w'∧Below W.heap.size W w'∧∃ a c,e = .returned (.tuple #[.slice a ny c,.int .i64 0,.int .i64 0])∧TkV w' a ny ly))
  (K9:Hid (∀ W,Below w.heap.size w W→Calls Tryz.prog 9 #[.slice (some ⟨ga,offa,none⟩) na ca] W fun e w'=>Below w.heap.size w w'∧Below W.heap.size W w'∧∃ a c,e = .returned (.slice a na c)∧w'.ownsRow W.heap.size 5 1 (.slice a na c) na (u8s xa)))
  (HSb:Hid (∀ W,Below w.heap.size w W→CellsAt W (.slice (some ⟨gb,offb,none⟩) nb cb) nb (u8s xb)))
  (hxb:xb.length=nb)
  (K10z:Hid (∀ W,Below w.heap.size w W→∀ B a c,W.ownsRow B 5 1 (.slice a (na+nb) c) (na+nb) (u8s xa++u8s xb)→Calls Tryz.prog 10 #[.slice a (na+nb) c] W fun e w'=>Below w.heap.size w w'∧Below W.heap.size W w'∧∃ a c,e = .returned (.tuple #[.slice a nz c,.int .i64 0,.int .i64 0])∧TkV w' a nz lz))
  (HL:Hid (lz=lx++sh na ly∧nx=lx.length∧ny=ly.length))
  (HPX:Hid (∀ i,i<nx→(lx.getD i tk0).2≤10000)) (HPY:Hid (∀ i,i<ny→(ly.getD i tk0).2≤10000))
  (hk1:(lx.getD 0 tk0).1.k≠1) (hk2:(ly.getD 0 tk0).1.k≠1) (hk3:(lx.getD x1 tk0).1.k≠4) :
  Calls Tryz.prog 7 #[.slice (some ⟨ga,offa,none⟩) na ca,.slice (some ⟨gb,offb,none⟩) nb cb] w fun e w'=>e = .returned (.bool true)∧Below w.heap.size w w':=by
 have hxvb:(xv == 239)=false:=beq_eq_false_iff_ne.2 hxv
 have hyvb:(yv == 239)=false:=beq_eq_false_iff_ne.2 hyv
 have hx1I:(nx:Int)-1=x1:=by omega
 have hnxb:((nx:Int) == 0)=false:=beq_eq_false_iff_ne.2 (by omega)
 have hnyb:((ny:Int) == 0)=false:=beq_eq_false_iff_ne.2 (by omega)
 have hnzI:(nx:Int)+ny=nz:=by omega
 have hnx0:0<nx:=by omega
 have HNA:Hid (na≤2000):=Lib.hid (by omega)
 have hx1n:x1<nx:=by omega
 clear hx1
 go_enter Tryz.func7,Tryz.ntmps7
 go_upto_region 7 with (first
  | (go_at_call 8;(with_reducible refine KA.out.mono ?_);rintro e w1 ⟨rfl,hb⟩;have HB1:=Lib.hid hb;have hcv1:=HCV.out w1 hb;have d0:=HB.out w1 hb;clear hb)
  | (go_at_call 17;(with_reducible refine (KI.out _).mono ?_);rintro e w2 ⟨rfl,rfl⟩)
  | (go_at_call 10;(with_reducible refine (K10a.out _ HB1.out).mono ?_);rintro e w3 ⟨hb,_,a3,c3,rfl,ht⟩;have HB3:=Lib.hid hb;have HT3:=Lib.hid ht;clear hb ht)
  | (go_at_call 10;(with_reducible refine (K10b.out w3 HB3.out).mono ?_);rintro e w4 ⟨hb,hb2,a4,c4,rfl,ht⟩;have HB4:=Lib.hid hb;have HB34:=Lib.hid hb2;have HT4:=Lib.hid ht;clear hb hb2 ht))
 obtain ⟨gx,rfl,hcx⟩:=HT3.out.2 hnx0
 obtain ⟨gy,rfl,hcy⟩:=HT4.out.2 hny
 have HCX:=Lib.hid hcx
 have HCY:=Lib.hid hcy
 clear hcx hcy HT3 HT4
 obtain ⟨sa0,sc0,t0⟩:=HCX.out w4 HB34.out 0 hnx0
 obtain ⟨sa1,sc1,t1⟩:=HCX.out w4 HB34.out x1 hx1n
 obtain ⟨sa2,sc2,t2⟩:=HCY.out w4 (Below.refl _ _) 0 hny
 have k0:=t0.k
 have k1:=t1.k
 have k2:=t2.k
 generalize (lx.getD 0 tk0).1.k=q0 at k0 hk1
 generalize (lx.getD x1 tk0).1.k=q1 at k1 hk3
 generalize (ly.getD 0 tk0).1.k=q2 at k2 hk2
 rw [Nat.zero_mul] at k0 k2
 have q0b:((q0:Int) == 1)=false:=beq_eq_false_iff_ne.2 (by omega)
 have q1b:((q1:Int) == 4)=false:=beq_eq_false_iff_ne.2 (by omega)
 have q2b:((q2:Int) == 1)=false:=beq_eq_false_iff_ne.2 (by omega)
 have da:=HA.out w4 HB4.out
 clear t0 t1 t2
 go_upto_region 10 with (first
  | (go_at_call 9;(with_reducible refine (K9.out _ HB4.out).mono ?_);rintro e w5 ⟨hb,hb2,a5,c5,rfl,ho⟩;have HB5:=Lib.hid hb;have HB45:=Lib.hid hb2;have HO5:=Lib.hid ho;clear hb hb2 ho)
  | (at_builtin;refine wpList_append_x at22 rfl (.tmp 103) (.tmp 104) rfl w4.heap.size (.slice a5 na c5) (.slice (some ⟨gb,offb,none⟩) nb cb) na nb (u8s xa) (u8s xb) rfl rfl HO5.out (HSb.out w5 HB5.out) (by rw [u8s_len,Nat.mul_one,hxb]) (u8s_one _) HB45.out.size (by omega) (by omega) ?_;intro a6 c6 w6 hA;have HO6:=Lib.hid hA.own;have HB46:=Lib.hid (HB45.out.trans (hA.below HO5.out HB45.out.size));have HB6:=Lib.hid (HB4.out.trans (HB46.out.mono HB4.out.size));clear hA)
  | (go_at_call 10;(with_reducible refine (K10z.out _ HB6.out _ _ _ HO6.out).mono ?_);rintro e w7 ⟨hb,hb2,a7,c7,rfl,ht⟩;have HB7:=Lib.hid hb;have HB47:=Lib.hid (HB46.out.trans (hb2.mono HB46.out.size));have HT7:=Lib.hid ht;clear hb hb2 ht))
 go_upto_region 12 with fail
 obtain ⟨gz,rfl,hcz⟩:=HT7.out.2 (by omega)
 have HCZ:=Lib.hid hcz
 clear hcz HT7
 go_wp2
 go_loopg [14,15,16] nz (fun gh s14 _ _ wr=>∃ i:Nat,s14 = .int .i64 (i:Nat)∧nz-i≤gh∧i≤nz∧Hid (Below w7.heap.size w7 wr))
 case atStart=>exact ⟨0,rfl,by omega,by omega,Lib.hid (Below.refl _ _)⟩
 case round=>
  obtain ⟨i,rfl,hgh,hi,hbw⟩:=hrel
  have HB4r:=Lib.hid (HB47.out.trans (hbw.out.mono HB47.out.size))
  have HB3r:=Lib.hid (HB34.out.trans (HB4r.out.mono HB34.out.size))
  have HBr:=Lib.hid (HB7.out.trans (hbw.out.mono HB7.out.size))
  by_cases hlt:i<nz
  ·have hiI:(i:Int)<nz:=by omega
   by_cases hix:i<nx
   ·have hixI:(i:Int)<nx:=by omega
    have hlw:=lit_below wr (.cells #[.int .i64 0,.string ⟨#[]⟩,.string ⟨#[]⟩,.slice none 0 0,.bool false,.int .i64 0] 44)
    obtain ⟨xa',xc',tx⟩:=HCX.out _ (HB3r.out.trans (hlw.mono HB3r.out.size)) i hix
    obtain ⟨za',zc',tz⟩:=HCZ.out wr hbw.out i hlt
    have hzx:lz.getD i tk0=lx.getD i tk0:=by
     rw [HL.out.1,List.getD_eq_getElem?_getD,List.getElem?_append_left (by rw [←HL.out.2.1];exact hix),←List.getD_eq_getElem?_getD]
    rw [hzx] at tz
    have cx0:=tx.k
    have cx1:=tx.n
    have cx2:=tx.t
    have cx3:=tx.a
    have cx4:=tx.e
    have cx5:=tx.p
    have HTZ:=Lib.hid tz
    have hyp:=HPX.out i hix
    generalize lx.getD i tk0=y at *
    obtain ⟨⟨yk,yn,yt,ya,ye⟩,yp⟩:=y
    simp only at cx0 cx1 cx2 cx3 cx4 cx5
    have HYP:Hid (yp≤10000):=Lib.hid hyp
    clear hyp
    obtain ⟨s1,hs1⟩:∃ s1,s1=txt yn:=⟨_,rfl⟩
    obtain ⟨s2,hs2⟩:∃ s2,s2=txt yt:=⟨_,rfl⟩
    obtain ⟨al,hal⟩:∃ al,al=ya.length:=⟨_,rfl⟩
    have HS1:=Lib.hid hs1
    have HS2:=Lib.hid hs2
    have HAL:=Lib.hid hal
    rw [←hs1] at cx1
    rw [←hs2] at cx2
    rw [←hal] at cx3
    clear tx tz hzx hlw hs1 hs2 hal
    go_upto_region 21 with fail
    refine gen_w fun W2 hW2=>?_
    have hbw2:Below wr.heap.size wr W2:=by rw [hW2];exact lit_below wr _
    have HBW2:=Lib.hid hbw2
    have d0:W2.cell? ⟨wr.heap.size,0,none⟩=some (.int .i64 (yk:Nat)):=by rw [hW2,World.cell?_alloc_at _ _ _ _ rfl];rfl
    have d1:W2.cell? ⟨wr.heap.size,1,none⟩=some (.string s1):=by rw [hW2,World.cell?_alloc_at _ _ _ _ rfl];rfl
    have d2:W2.cell? ⟨wr.heap.size,2,none⟩=some (.string s2):=by rw [hW2,World.cell?_alloc_at _ _ _ _ rfl];rfl
    have d3:W2.cell? ⟨wr.heap.size,3,none⟩=some (.slice xa' al xc'):=by rw [hW2,World.cell?_alloc_at _ _ _ _ rfl];rfl
    have d4:W2.cell? ⟨wr.heap.size,4,none⟩=some (.bool ye):=by rw [hW2,World.cell?_alloc_at _ _ _ _ rfl];rfl
    have d5:W2.cell? ⟨wr.heap.size,5,none⟩=some (.int .i64 (yp:Nat)):=by rw [hW2,World.cell?_alloc_at _ _ _ _ rfl];rfl
    have tz2:=HTZ.out.below hbw2
    have z0:=tz2.k
    have z1:=tz2.n
    have z2:=tz2.t
    have z3:=tz2.a
    have z4:=tz2.e
    have z5:=tz2.p
    simp only at z0 z1 z2 z3 z4 z5
    rw [←HS1.out] at z1
    rw [←HS2.out] at z2
    rw [←HAL.out] at z3
    have b0:((yk:Int) != yk)=false:=by simp
    have b1:(s1.toList != s1.toList)=false:=by simp
    have b2:(s2.toList != s2.toList)=false:=by simp
    have b4:(ye != ye)=false:=by simp
    have b3:((al:Int) != al)=false:=by simp
    obtain ⟨hw5,hw6,hw7⟩:=wr_zero HYP.out
    have b5:((yp:Int) != yp)=false:=by simp
    clear tz2 hW2 hbw2 cx0 cx1 cx2 cx3 cx4 cx5
    go_quiet (fail)
    go_wp2
    go_roundg (nz-(i+1))
    case measure=>omega
    case rel=>exact ⟨i+1,by go_num,by omega,by omega,Lib.hid (below_drewN (hbw.out.trans (HBW2.out.mono hbw.out.size)) _)⟩
   ·obtain ⟨j,rfl⟩:∃ j,i=nx+j:=⟨i-nx,by omega⟩
    have hixI:¬((nx+j:Nat):Int)<nx:=by omega
    have hj:j<ny:=by omega
    have hzx:lz.getD (nx+j) tk0=((ly.getD j tk0).1,(ly.getD j tk0).2+na):=by
     rw [HL.out.1,List.getD_eq_getElem?_getD,List.getElem?_append_right (by rw [←HL.out.2.1];omega),←HL.out.2.1,Nat.add_sub_cancel_left]
     unfold sh
     rw [List.getElem?_map,getD_some (d:=tk0) (by rw [←HL.out.2.2];exact hj)]
     rfl
    have hlw:=lit_below wr (.cells #[.int .i64 0,.string ⟨#[]⟩,.string ⟨#[]⟩,.slice none 0 0,.bool false,.int .i64 0] 44)
    obtain ⟨xa',xc',tx⟩:=HCY.out _ (HB4r.out.trans (hlw.mono HB4r.out.size)) j hj
    obtain ⟨za',zc',tz⟩:=HCZ.out wr hbw.out (nx+j) hlt
    rw [hzx] at tz
    have cx0:=tx.k
    have cx1:=tx.n
    have cx2:=tx.t
    have cx3:=tx.a
    have cx4:=tx.e
    have cx5:=tx.p
    have HTZ:=Lib.hid tz
    have hyp:=HPY.out j hj
    generalize ly.getD j tk0=y at *
    obtain ⟨⟨yk,yn,yt,ya,ye⟩,yp⟩:=y
    simp only at cx0 cx1 cx2 cx3 cx4 cx5
    have HYP:Hid (yp≤10000):=Lib.hid hyp
    clear hyp
    obtain ⟨i,hii⟩:∃ i,i=nx+j:=⟨_,rfl⟩
    have HII:=Lib.hid hii
    rw [←hii] at HTZ tz hzx hixI hiI hgh hi hlt ⊢
    have hsub:(i:Int)-nx=j:=by omega
    have hsub2:IntKind.i64.wrap ((i:Int)-nx)=(j:Int):=by rw [hsub,IntKind.wrap_i64];omega
    have hix':¬i<nx:=by omega
    clear hii hix
    obtain ⟨s1,hs1⟩:∃ s1,s1=txt yn:=⟨_,rfl⟩
    obtain ⟨s2,hs2⟩:∃ s2,s2=txt yt:=⟨_,rfl⟩
    obtain ⟨al,hal⟩:∃ al,al=ya.length:=⟨_,rfl⟩
    have HS1:=Lib.hid hs1
    have HS2:=Lib.hid hs2
    have HAL:=Lib.hid hal
    rw [←hs1] at cx1
    rw [←hs2] at cx2
    rw [←hal] at cx3
    clear tx tz hzx hlw hs1 hs2 hal
    go_upto_region 21 with fail
    refine gen_w fun W2 hW2=>?_
    have hbw2:Below wr.heap.size wr W2:=by rw [hW2];exact lit_below wr _
    have HBW2:=Lib.hid hbw2
    have d0:W2.cell? ⟨wr.heap.size,0,none⟩=some (.int .i64 (yk:Nat)):=by rw [hW2,World.cell?_alloc_at _ _ _ _ rfl];rfl
    have d1:W2.cell? ⟨wr.heap.size,1,none⟩=some (.string s1):=by rw [hW2,World.cell?_alloc_at _ _ _ _ rfl];rfl
    have d2:W2.cell? ⟨wr.heap.size,2,none⟩=some (.string s2):=by rw [hW2,World.cell?_alloc_at _ _ _ _ rfl];rfl
    have d3:W2.cell? ⟨wr.heap.size,3,none⟩=some (.slice xa' al xc'):=by rw [hW2,World.cell?_alloc_at _ _ _ _ rfl];rfl
    have d4:W2.cell? ⟨wr.heap.size,4,none⟩=some (.bool ye):=by rw [hW2,World.cell?_alloc_at _ _ _ _ rfl];rfl
    have d5:W2.cell? ⟨wr.heap.size,5,none⟩=some (.int .i64 (yp:Nat)):=by rw [hW2,World.cell?_alloc_at _ _ _ _ rfl];rfl
    have tz2:=HTZ.out.below hbw2
    have z0:=tz2.k
    have z1:=tz2.n
    have z2:=tz2.t
    have z3:=tz2.a
    have z4:=tz2.e
    have z5:=tz2.p
    simp only at z0 z1 z2 z3 z4 z5
    rw [←HS1.out] at z1
    rw [←HS2.out] at z2
    rw [←HAL.out] at z3
    have b0:((yk:Int) != yk)=false:=by simp
    have b1:(s1.toList != s1.toList)=false:=by simp
    have b2:(s2.toList != s2.toList)=false:=by simp
    have b4:(ye != ye)=false:=by simp
    have b3:((al:Int) != al)=false:=by simp
    obtain ⟨zp,hzp⟩:∃ zp,zp=yp+na:=⟨_,rfl⟩
    rw [←hzp] at z5
    obtain ⟨hw5,hw6,hw7,hw8⟩:=wr_add HYP.out HNA.out hzp
    have b5:((zp:Int) != zp)=false:=by simp
    clear hzp
    clear tz2 hW2 hbw2 cx0 cx1 cx2 cx3 cx4 cx5
    go_quiet (fail)
    go_wp2
    go_roundg (nz-(i+1))
    case measure=>omega
    case rel=>exact ⟨i+1,by go_num,by omega,by omega,Lib.hid (below_drewN (hbw.out.trans (HBW2.out.mono hbw.out.size)) _)⟩
  ·obtain rfl:i=nz:=by omega
   have hiI:¬(i:Int)<i:=by omega
   go_wp2
   go_ret
   exact ⟨rfl,HBr.out⟩
end
end Go.Proofs.YtbogfailbgbdoaaGreatDoor.K
