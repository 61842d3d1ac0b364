/- Part 14. -/
import Derived.Test.YtbogfailbgbdoaaGreatDoorXB13
set_option linter.unusedVariables false
set_option linter.unusedSimpArgs false
namespace Go.Proofs.YtbogfailbgbdoaaGreatDoor.K
set_option maxRecDepth 100000
section
open Go.RowKit Go.Proofs.YtbogfailbgbdoaaGreatDoor U
def sgI:Option Nat→Int
 | none => -1
 | some v=>(v:Int)
theorem strip_one {L:List Nat} {b:Nat} (h1:1<L.length) (h:L.getD 0 0=48):numbered L b=numbered (L.drop 1) b:=by
 match L,h1 with
 | x::t,_=>
  have hx:x=48:=by simpa using h
  subst hx
  unfold numbered
  have e:(48::t).dropWhile (· == 48)=t.dropWhile (· == 48):=by rw [List.dropWhile_cons];rfl
  rw [e]
  rfl
theorem numbered_head {L:List Nat} {b:Nat} (h1:1≤L.length) (h:L.getD 0 0≠48):sgI (numbered L b)=if 7<L.length then -1 else sgI (chr (num b L 0)):=by
 match L,h1 with
 | x::t,_=>
  have hx:¬(x == 48)=true:=by simpa using h
  unfold numbered
  rw [List.dropWhile_cons,if_neg hx]
  by_cases h7:7<(x::t).length
  ·rw [if_pos (.inl h7),if_pos h7];rfl
  ·rw [if_neg (by simp only [reduceCtorEq,or_false];exact h7),if_neg h7]
theorem numbered_one {L:List Nat} {b:Nat} (h1:L.length=1) (hb:0<b):sgI (numbered L b)=if 7<L.length then -1 else sgI (chr (num b L 0)):=by
 match L,h1 with
 | [x],_=>
  by_cases hx:x=48
  ·subst hx
   rw [if_neg (by decide)]
   have:num b [48] 0=some 0:=by
    unfold num
    rw [if_neg (by show ¬b≤digit 48;rw [show digit 48=0 from rfl];omega)]
    simp [num,digit]
   rw [this]
   rfl
  ·exact numbered_head (by simp) (by simpa using hx)
theorem digit_same (c:Nat):(if 48≤c∧c≤57 then c-48 else if 97≤c∧c≤102 then c-97+10 else if 65≤c∧c≤70 then c-65+10 else 99)=K.digit c:=by
 unfold K.digit
 repeat' split
 all_goals omega
theorem digit_le (c:Nat):K.digit c≤99:=by
 unfold K.digit
 repeat' split
 all_goals omega
theorem pow7 {i v:Nat} (hi:i<7) (h:v<16^i):v<268435456:=by
 have:16^i≤16^7:=Nat.pow_le_pow_right (by decide) (by omega)
 have h7:16^7=268435456:=by decide
 omega
theorem wrap_two {m d:Nat} (hm:m≤5000000000) (hd:d≤99):Value.int .i64 (wrap64 (wrap64 (m:Int)+(d:Int))) = .int .i64 ((m+d:Nat):Int):=by
 congr 1
 unfold wrap64
 omega
theorem pow_step {i v d b:Nat} (hb:b≤16) (hd:d<b) (h:v<16^i):v*b+d<16^(i+1):=by
 have h1:v*b≤v*16:=Nat.mul_le_mul_left _ hb
 have h2:16^(i+1)=16^i*16:=Nat.pow_succ ..
 omega
set_option maxHeartbeats 12800000 in
theorem rsign_other (r:List Nat) (S:ByteArray) (hS:S=txt r) (hb:Bs r) (hl:r.length≤1000000) (w:World)
  (n0:r≠[108,116])
  (n1:r≠[103,116])
  (n2:r≠[97,109,112])
  (n3:r≠[113,117,111,116])
  (n4:r≠[97,112,111,115]) :
  Calls Tryz.prog 29 #[.string S] w fun e w'=>e = .returned (.int .i64 (sgI (signOf r)))∧Below w.heap.size w w':=by
 obtain ⟨RR,hRR⟩:∃ RR,RR=sgI (signOf r):=⟨_,rfl⟩
 rw [←hRR]
 unfold signOf at hRR
 rw [if_neg n0,if_neg n1,if_neg n2,if_neg n3,if_neg n4] at hRR
 have hne:∀ l:List Nat,Bs l→r≠l→(S.toList == u8L l)=false:=fun l hbl h=>by
  rw [beq_eq_false_iff_ne,hS,txt_toList]
  exact fun e=>h (u8L_inj hb hbl e)
 have m0:(S.toList == ([108,116]:List UInt8))=false:=hne [108,116] (bs_l _ (by decide)) n0
 have k0:¬S.toList=([108,116]:List UInt8):=beq_eq_false_iff_ne.1 m0
 have m1:(S.toList == ([103,116]:List UInt8))=false:=hne [103,116] (bs_l _ (by decide)) n1
 have k1:¬S.toList=([103,116]:List UInt8):=beq_eq_false_iff_ne.1 m1
 have m2:(S.toList == ([97,109,112]:List UInt8))=false:=hne [97,109,112] (bs_l _ (by decide)) n2
 have k2:¬S.toList=([97,109,112]:List UInt8):=beq_eq_false_iff_ne.1 m2
 have m3:(S.toList == ([113,117,111,116]:List UInt8))=false:=hne [113,117,111,116] (bs_l _ (by decide)) n3
 have k3:¬S.toList=([113,117,111,116]:List UInt8):=beq_eq_false_iff_ne.1 m3
 have m4:(S.toList == ([97,112,111,115]:List UInt8))=false:=hne [97,112,111,115] (bs_l _ (by decide)) n4
 have k4:¬S.toList=([97,112,111,115]:List UInt8):=beq_eq_false_iff_ne.1 m4
 have HB:=Lib.hid (lit_below w (.cells #[.string ⟨#[108,116]⟩,.string ⟨#[103,116]⟩,.string ⟨#[97,109,112]⟩,.string ⟨#[113,117,111,116]⟩,.string ⟨#[97,112,111,115]⟩] 9))
 obtain ⟨W,hW⟩:∃ W,W=w.alloc (.cells #[.string ⟨#[108,116]⟩,.string ⟨#[103,116]⟩,.string ⟨#[97,109,112]⟩,.string ⟨#[113,117,111,116]⟩,.string ⟨#[97,112,111,115]⟩] 9):=⟨_,rfl⟩
 have HC:=Lib.hid fun j (hj:j<5)=>show W.cell? ⟨w.heap.size,j,none⟩=(#[.string ⟨#[108,116]⟩,.string ⟨#[103,116]⟩,.string ⟨#[97,109,112]⟩,.string ⟨#[113,117,111,116]⟩,.string ⟨#[97,112,111,115]⟩]:Array Value)[j]? by rw [hW,World.cell?_alloc_at _ _ _ _ rfl]
 have HS:=Lib.hid hS
 have HBS:=Lib.hid hb
 have HR0:=Lib.hid hRR
 clear hS hb hRR hne n0 n1 n2 n3 n4
 go_enter Tryz.func29,Tryz.ntmps29
 go_wp2
 rw [←hW] at HB ⊢
 clear hW
 go_loopg [4] 5 (fun g s4 wr=>wr=W∧∃ i:Nat,s4 = .int .i64 (i:Nat)∧i+g=5)
 case atStart=>exact ⟨rfl,0,rfl,rfl⟩
 case round=>
  obtain ⟨rfl,i,rfl,hi⟩:=hrel
  have hi2:i=0∨i=1∨i=2∨i=3∨i=4∨i=5:=by omega
  rcases hi2 with rfl | rfl | rfl | rfl | rfl | rfl
  ·have hc:wr.cell? ⟨w.heap.size,0,none⟩=some (.string ⟨#[108,116]⟩):=HC.out 0 (by decide)
   go_wp2
   go_roundg 4
   case measure=>omega
   case rel=>exact ⟨rfl,1,rfl,rfl⟩
  ·have hc:wr.cell? ⟨w.heap.size,1,none⟩=some (.string ⟨#[103,116]⟩):=HC.out 1 (by decide)
   go_wp2
   go_roundg 3
   case measure=>omega
   case rel=>exact ⟨rfl,2,rfl,rfl⟩
  ·have hc:wr.cell? ⟨w.heap.size,2,none⟩=some (.string ⟨#[97,109,112]⟩):=HC.out 2 (by decide)
   go_wp2
   go_roundg 2
   case measure=>omega
   case rel=>exact ⟨rfl,3,rfl,rfl⟩
  ·have hc:wr.cell? ⟨w.heap.size,3,none⟩=some (.string ⟨#[113,117,111,116]⟩):=HC.out 3 (by decide)
   go_wp2
   go_roundg 1
   case measure=>omega
   case rel=>exact ⟨rfl,4,rfl,rfl⟩
  ·have hc:wr.cell? ⟨w.heap.size,4,none⟩=some (.string ⟨#[97,112,111,115]⟩):=HC.out 4 (by decide)
   go_wp2
   go_roundg 0
   case measure=>omega
   case rel=>exact ⟨rfl,5,rfl,rfl⟩
  ·clear m0 m1 m2 m3 m4 k0 k1 k2 k3 k4 HC
   rcases hr:r with _ | ⟨c0,t⟩
   ·have hS0:=HS.out
    rw [hr] at hS0
    have hS1:S=⟨#[]⟩:=hS0
    subst hS1
    have HF:Hid (RR = -1):=Lib.hid (by rw [HR0.out,hr];rfl)
    clear hS0 hr
    go_wp2
    go_ret
    exact ⟨by rw [HF.out];rfl,HB.out⟩
   ·have hSz:S.size=t.length+1:=by rw [HS.out,txt_size,hr];rfl
    have h0:0<S.size:=by omega
    have h0I:(0:Int)<S.size:=by omega
    have hSe:S.toList.isEmpty=false:=by rw [HS.out,hr,txt_toList];rfl
    obtain ⟨x,hx⟩:∃ x:UInt8,S[0]'h0=x:=⟨_,rfl⟩
    have HX:c0=x.toNat:=by
     have h1:S=txt r:=HS.out
     subst h1
     subst hx
     rw [txt_get r HBS.out 0 _,hr];rfl
    clear hSz
    by_cases h35:c0=35
    ·have h35b:((x.toNat:Int) != 35)=false:=by rw [←HX,h35];rfl
     have h35c:(x.toNat:Int)=35:=by omega
     have hsl:∀ W,(Instr.slice 9 (.string S) (some (.int .i64 1)) none none).run Tryz.prog W = .ok (.string (S.extract 1 S.size)) W:=fun W=>by
      have h2:(1:Int)≤S.size:=by omega
      simp [go_sem,h2]
     obtain ⟨S1,hS1⟩:∃ S1,S1=S.extract 1 S.size:=⟨_,rfl⟩
     have hE1:S.extract 1 S.size=S1:=hS1.symm
     clear hsl
     have hS1t:S1=txt t:=by rw [hS1,HS.out,txt_extract,txt_size,hr,List.take_of_length_le (by simp)];rfl
     have HS1t:=Lib.hid hS1t
     have HBt:Bs t:=fun z hz=>HBS.out z (by rw [hr];simp [hz])
     have htl:t.length≤1000000:=by rw [hr] at hl;simp at hl;omega
     subst h35
     have hR:=HR0.out
     rw [hr] at hR
     clear hS1 hS1t hr
     have HXX:=Lib.hid HX
     clear HX
     go_upto_region 11 with fail
     try rw [hE1]
     clear hE1 hx
     have hS1t:=HS1t.out
     rcases ht:t with _ | ⟨c1,u⟩
     ·rw [ht] at hS1t hR
      have hS2:S1=⟨#[]⟩:=hS1t
      subst hS2
      have HF:Hid (RR = -1):=Lib.hid (by rw [hR];rfl)
      clear hS1t HS1t ht hR
      go_wp2
      go_ret
      exact ⟨by rw [HF.out];rfl,HB.out⟩
     ·have hSz1:S1.size=u.length+1:=by rw [hS1t,txt_size,ht];rfl
      have h01:0<S1.size:=by omega
      have h0I1:(0:Int)<S1.size:=by omega
      have hSe1:S1.toList.isEmpty=false:=by rw [hS1t,ht,txt_toList];rfl
      obtain ⟨y,hy⟩:∃ y:UInt8,S1[0]'h01=y:=⟨_,rfl⟩
      have HY:c1=y.toNat:=by
       subst hS1t
       subst hy
       rw [txt_get t HBt 0 _,ht];rfl
      clear hSz1 hS1t
      by_cases h120:c1=120
      ·have h120b:((y.toNat:Int) == 120)=true:=by rw [←HY,h120];rfl
       have h120c:(y.toNat:Int)=120:=by omega
       have hsl2:∀ W,(Instr.slice 9 (.string S1) (some (.int .i64 1)) none none).run Tryz.prog W = .ok (.string (S1.extract 1 S1.size)) W:=fun W=>by
        have h2:(1:Int)≤S1.size:=by omega
        simp [go_sem,h2]
       obtain ⟨TX,hTX⟩:∃ TX,TX=S1.extract 1 S1.size:=⟨_,rfl⟩
       have hE2:S1.extract 1 S1.size=TX:=hTX.symm
       clear hsl2
       have hTXt:TX=txt u:=by rw [hTX,HS1t.out,txt_extract,txt_size,ht,List.take_of_length_le (by simp)];rfl
       have HBX:Hid (Bs u):=Lib.hid fun z hz=>HBt z (by rw [ht];simp [hz])
       have HL2:Hid (u.length≤1000000):=Lib.hid (by rw [ht] at htl;simp at htl;omega)
       subst h120
       rw [ht,if_pos (by simp [List.cons_prefix_cons])] at hR
       have hRX:RR=sgI (numbered u 16):=hR
       have HTX0:=Lib.hid hTXt
       have HRX0:=Lib.hid hRX
       have HT0:=Lib.hid ht
       clear hTX hTXt hRX hR ht HY
       go_upto_region 14 with fail
       try rw [hE2]
       clear hE2 hy
       have hTXt:=HTX0.out
       have hRX:=HRX0.out
       rcases hu:u with _ | ⟨c2,u2⟩
       ·rw [hu] at hTXt hRX
        have hT2:TX=⟨#[]⟩:=hTXt
        subst hT2
        have HF:Hid (RR = -1):=Lib.hid (by rw [hRX];rfl)
        clear hTXt hRX hu
        go_wp2
        go_ret
        exact ⟨by rw [HF.out];rfl,HB.out⟩
       ·have HL1:Hid (1≤u.length):=Lib.hid (by rw [hu];simp)
        have hTe:TX.toList.isEmpty=false:=by rw [hTXt,hu,txt_toList];rfl
        have HTX:=Lib.hid hTXt
        have HRX:=Lib.hid hRX
        clear hTXt hRX hu
        go_wp2
        go_loopg [0] u.length (fun g s0 wx=>wx=wr∧∃ (L:List Nat) (T:ByteArray),s0 = .string T∧Hid (T=txt L)∧Hid (Bs L)∧1≤L.length∧L.length≤g∧L.length≤1000000∧Hid (RR=sgI (numbered L 16)))
        case atStart=>exact ⟨rfl,u,TX,rfl,HTX,HBX,HL1.out,Nat.le_refl _,HL2.out,HRX⟩
        case round=>
         obtain ⟨rfl,L,T,rfl,hT,hbL,hl1,hlg,hl2,hrr⟩:=hrel
         have hTz:T.size=L.length:=by rw [hT.out,txt_size]
         have HTZ:=Lib.hid hTz
         have h0T:0<T.size:=by omega
         have h0I:(0:Int)<T.size:=by omega
         obtain ⟨x,hx⟩:∃ x:UInt8,T[0]'h0T=x:=⟨_,rfl⟩
         have HX:Hid (L.getD 0 0=x.toNat):=Lib.hid (by
          have:=hT.out
          subst this
          subst hx
          exact (txt_get L hbL.out 0 _).symm)
         have hx256:x.toNat<256:=x.toNat_lt
         by_cases h1:1<L.length
         ·have h1I:(1:Int)<T.size:=by omega
          have h1d:decide ((1:Int)<T.size)=true:=decide_eq_true h1I
          by_cases h48:x.toNat=48
          ·have h48I:(x.toNat:Int)=48:=by omega
           have h48b:((x.toNat:Int) == 48)=true:=by rw [h48I];rfl
           have HT2:Hid (T.extract 1 T.size=txt (L.drop 1)):=Lib.hid (by rw [hT.out,txt_extract,txt_size,List.take_of_length_le (by rw [List.length_drop];omega)])
           have HRR2:Hid (RR=sgI (numbered (L.drop 1) 16)):=Lib.hid (by
            rw [hrr.out,←strip_one h1 (by rw [HX.out,h48])])
           have hl3:1≤(L.drop 1).length∧(L.drop 1).length≤L.length-1:=by rw [List.length_drop];omega
           clear hTz
           go_wp2
           go_roundg (L.length-1)
           case measure=>omega
           case rel=>exact ⟨rfl,L.drop 1,_,rfl,HT2,Lib.hid (hbL.out.drop 1),hl3.1,hl3.2,by omega,HRR2⟩
          ·have h48I:¬(x.toNat:Int)=48:=by omega
           have h48b:((x.toNat:Int) == 48)=false:=beq_eq_false_iff_ne.2 h48I
           have HRF:Hid (RR=if 7<L.length then -1 else sgI (chr (num 16 L 0))):=Lib.hid (by
            rw [hrr.out,numbered_head (by omega) (by rw [HX.out];exact h48)])
           clear h1
           by_cases h7:7<L.length
           ·have h7I:(7:Int)<T.size:=by omega
            have HF:Hid (RR = -1):=Lib.hid (by rw [HRF.out,if_pos h7])
            clear hTz
            go_wp2
            go_ret
            exact ⟨by rw [HF.out];rfl,HB.out⟩
           ·have h7I:¬(7:Int)<T.size:=by omega
            have HF:Hid (RR=sgI (chr (num 16 L 0))):=Lib.hid (by rw [HRF.out,if_neg h7])
            clear hTz
            go_wp2
            clear hx HX HRF hrr
            have hTz:=HTZ.out
            go_loopg [6,7,8] L.length (fun g s6 s7 _ wx=>wx=wr∧∃ i v:Nat,s6 = .int .i64 (v:Nat)∧s7 = .int .i64 (i:Nat)∧L.length-i≤g∧i≤L.length∧Hid (v<16^i)∧Hid (RR=sgI (chr (num 16 (L.drop i) v))))
            case atStart=>exact ⟨rfl,0,0,rfl,rfl,by omega,by omega,Lib.hid (by decide),Lib.hid (by rw [HF.out,List.drop_zero])⟩
            case round=>
             obtain ⟨rfl,i,v,rfl,rfl,hg,hi,hv,hr⟩:=hrel
             by_cases hlt:i<L.length
             ·have hiT:i<T.size:=by omega
              have hiI:(i:Int)<T.size:=by omega
              obtain ⟨y,hy⟩:∃ y:UInt8,T[i]'hiT=y:=⟨_,rfl⟩
              have HY:Hid (L.getD i 0=y.toNat):=Lib.hid (by
               have:=hT.out
               subst this
               subst hy
               exact (txt_get L hbL.out i _).symm)
              clear hTz
              have KD:=Lib.hid fun W=>rdigit_any W y.toNat y.toNat_lt
              have hdg:=digit_same y.toNat
              rw [hdg] at KD
              have hst:=hr.out
              rw [drop_cons hlt,num,HY.out] at hst
              obtain ⟨d,hd⟩:∃ d,d=K.digit y.toNat:=⟨_,rfl⟩
              rw [←hd] at KD hst
              have hd99:d≤99:=by rw [hd];exact digit_le _
              by_cases hb:16≤d
              ·have hbI:(16:Int)≤d:=by omega
               rw [if_pos hb] at hst
               have HF2:Hid (RR = -1):=Lib.hid hst
               clear hst hd hdg
               go_wp2_with (go_at_call 60;(with_reducible refine (KD.out _).mono ?_);rintro e w2 ⟨rfl,rfl⟩)
               go_ret
               exact ⟨by rw [HF2.out];rfl,HB.out⟩
              ·have hbI:¬(16:Int)≤d:=by omega
               rw [if_neg hb] at hst
               have hv1:=pow7 (i:=i) (by omega) hv.out
               have hv2:=pow_step (i:=i) (d:=d) (b:=16) (by decide) (by omega) hv.out
               have hmul:IntKind.i64.wrap ((v:Int)*16)=((v*16:Nat):Int):=by rw [IntKind.wrap_i64];omega
               have hmul2:(v:Int)*16=((v*16:Nat):Int):=by omega
               obtain ⟨m,hm⟩:∃ m,m=v*16:=⟨_,rfl⟩
               rw [←hm] at hmul hmul2 hst hv2
               have hm1:m≤5000000000:=by omega
               have hadd:IntKind.i64.wrap ((m:Int)+d)=((m+d:Nat):Int):=by rw [IntKind.wrap_i64];omega
               have hadd2:(m:Int)+d=((m+d:Nat):Int):=by omega
               obtain ⟨u,hu⟩:∃ u,u=m+d:=⟨_,rfl⟩
               rw [←hu] at hadd hadd2 hst hv2
               have HWU:Hid (Value.int .i64 (wrap64 (wrap64 (m:Int)+(d:Int))) = .int .i64 (u:Int)):=Lib.hid (by rw [hu];exact wrap_two hm1 hd99)
               have HST:=Lib.hid hst
               have HV2:=Lib.hid hv2
               have hiB:i≤1000000:=by omega
               clear hst hd hdg hm1 hv1 hv2 hm hu hmul hadd
               go_wp2_with (go_at_call 60;(with_reducible refine (KD.out _).mono ?_);rintro e w2 ⟨rfl,rfl⟩)
               go_roundg (L.length-(i+1))
               case measure=>omega
               case rel=>exact ⟨rfl,i+1,u,HWU.out,rfl,by omega,by omega,HV2,HST⟩
             ·obtain rfl:i=L.length:=by omega
              have hst:=hr.out
              rw [List.drop_length,num] at hst
              have KC:=Lib.hid fun W=>(rChar_any (v:Int) W)
              rw [show wth charL (v:Int)=charP v from rfl] at KC
              unfold chr at hst
              have hiI:¬((L.length:Nat):Int)<T.size:=by omega
              clear hTz
              simp only at hst
              cases hc:charP v with
              | true=>
               rw [hc] at KC hst
               simp only [if_true] at hst
               have HST:Hid (RR=(v:Int)):=Lib.hid hst
               clear hst hc
               go_wp2_with (go_at_call 32;(with_reducible refine (KC.out _).mono ?_);rintro e w2 ⟨rfl,rfl⟩)
               go_ret
               exact ⟨by rw [HST.out];rfl,HB.out⟩
              | false=>
               rw [hc] at KC hst
               simp only [Bool.false_eq_true,if_false] at hst
               have HST:Hid (RR = -1):=Lib.hid hst
               clear hst hc
               go_wp2_with (go_at_call 32;(with_reducible refine (KC.out _).mono ?_);rintro e w2 ⟨rfl,rfl⟩)
               go_ret
               exact ⟨by rw [HST.out];rfl,HB.out⟩
         ·have h1I:¬(1:Int)<T.size:=by omega
          have h1d:decide ((1:Int)<T.size)=false:=decide_eq_false h1I
          have HRF:Hid (RR=if 7<L.length then -1 else sgI (chr (num 16 L 0))):=Lib.hid (by
           rw [hrr.out,numbered_one (by omega) (by decide)])
          clear h1
          by_cases h7:7<L.length
          ·have h7I:(7:Int)<T.size:=by omega
           have HF:Hid (RR = -1):=Lib.hid (by rw [HRF.out,if_pos h7])
           clear hTz
           go_wp2
           go_ret
           exact ⟨by rw [HF.out];rfl,HB.out⟩
          ·have h7I:¬(7:Int)<T.size:=by omega
           have HF:Hid (RR=sgI (chr (num 16 L 0))):=Lib.hid (by rw [HRF.out,if_neg h7])
           clear hTz
           go_wp2
           clear hx HX HRF hrr
           have hTz:=HTZ.out
           go_loopg [6,7,8] L.length (fun g s6 s7 _ wx=>wx=wr∧∃ i v:Nat,s6 = .int .i64 (v:Nat)∧s7 = .int .i64 (i:Nat)∧L.length-i≤g∧i≤L.length∧Hid (v<16^i)∧Hid (RR=sgI (chr (num 16 (L.drop i) v))))
           case atStart=>exact ⟨rfl,0,0,rfl,rfl,by omega,by omega,Lib.hid (by decide),Lib.hid (by rw [HF.out,List.drop_zero])⟩
           case round=>
            obtain ⟨rfl,i,v,rfl,rfl,hg,hi,hv,hr⟩:=hrel
            by_cases hlt:i<L.length
            ·have hiT:i<T.size:=by omega
             have hiI:(i:Int)<T.size:=by omega
             obtain ⟨y,hy⟩:∃ y:UInt8,T[i]'hiT=y:=⟨_,rfl⟩
             have HY:Hid (L.getD i 0=y.toNat):=Lib.hid (by
              have:=hT.out
              subst this
              subst hy
              exact (txt_get L hbL.out i _).symm)
             clear hTz
             have KD:=Lib.hid fun W=>rdigit_any W y.toNat y.toNat_lt
             have hdg:=digit_same y.toNat
             rw [hdg] at KD
             have hst:=hr.out
             rw [drop_cons hlt,num,HY.out] at hst
             obtain ⟨d,hd⟩:∃ d,d=K.digit y.toNat:=⟨_,rfl⟩
             rw [←hd] at KD hst
             have hd99:d≤99:=by rw [hd];exact digit_le _
             by_cases hb:16≤d
             ·have hbI:(16:Int)≤d:=by omega
              rw [if_pos hb] at hst
              have HF2:Hid (RR = -1):=Lib.hid hst
              clear hst hd hdg
              go_wp2_with (go_at_call 60;(with_reducible refine (KD.out _).mono ?_);rintro e w2 ⟨rfl,rfl⟩)
              go_ret
              exact ⟨by rw [HF2.out];rfl,HB.out⟩
             ·have hbI:¬(16:Int)≤d:=by omega
              rw [if_neg hb] at hst
              have hv1:=pow7 (i:=i) (by omega) hv.out
              have hv2:=pow_step (i:=i) (d:=d) (b:=16) (by decide) (by omega) hv.out
              have hmul:IntKind.i64.wrap ((v:Int)*16)=((v*16:Nat):Int):=by rw [IntKind.wrap_i64];omega
              have hmul2:(v:Int)*16=((v*16:Nat):Int):=by omega
              obtain ⟨m,hm⟩:∃ m,m=v*16:=⟨_,rfl⟩
              rw [←hm] at hmul hmul2 hst hv2
              have hm1:m≤5000000000:=by omega
              have hadd:IntKind.i64.wrap ((m:Int)+d)=((m+d:Nat):Int):=by rw [IntKind.wrap_i64];omega
              have hadd2:(m:Int)+d=((m+d:Nat):Int):=by omega
              obtain ⟨u,hu⟩:∃ u,u=m+d:=⟨_,rfl⟩
              rw [←hu] at hadd hadd2 hst hv2
              have HWU:Hid (Value.int .i64 (wrap64 (wrap64 (m:Int)+(d:Int))) = .int .i64 (u:Int)):=Lib.hid (by rw [hu];exact wrap_two hm1 hd99)
              have HST:=Lib.hid hst
              have HV2:=Lib.hid hv2
              have hiB:i≤1000000:=by omega
              clear hst hd hdg hm1 hv1 hv2 hm hu hmul hadd
              go_wp2_with (go_at_call 60;(with_reducible refine (KD.out _).mono ?_);rintro e w2 ⟨rfl,rfl⟩)
              go_roundg (L.length-(i+1))
              case measure=>omega
              case rel=>exact ⟨rfl,i+1,u,HWU.out,rfl,by omega,by omega,HV2,HST⟩
            ·obtain rfl:i=L.length:=by omega
             have hst:=hr.out
             rw [List.drop_length,num] at hst
             have KC:=Lib.hid fun W=>(rChar_any (v:Int) W)
             rw [show wth charL (v:Int)=charP v from rfl] at KC
             unfold chr at hst
             have hiI:¬((L.length:Nat):Int)<T.size:=by omega
             clear hTz
             simp only at hst
             cases hc:charP v with
             | true=>
              rw [hc] at KC hst
              simp only [if_true] at hst
              have HST:Hid (RR=(v:Int)):=Lib.hid hst
              clear hst hc
              go_wp2_with (go_at_call 32;(with_reducible refine (KC.out _).mono ?_);rintro e w2 ⟨rfl,rfl⟩)
              go_ret
              exact ⟨by rw [HST.out];rfl,HB.out⟩
             | false=>
              rw [hc] at KC hst
              simp only [Bool.false_eq_true,if_false] at hst
              have HST:Hid (RR = -1):=Lib.hid hst
              clear hst hc
              go_wp2_with (go_at_call 32;(with_reducible refine (KC.out _).mono ?_);rintro e w2 ⟨rfl,rfl⟩)
              go_ret
              exact ⟨by rw [HST.out];rfl,HB.out⟩
      ·have h120b:((y.toNat:Int) == 120)=false:=beq_eq_false_iff_ne.2 (by omega)
       have h120c:¬(y.toNat:Int)=120:=by omega
       have HBX:Hid (Bs t):=Lib.hid HBt
       have HL2:Hid (t.length≤1000000):=Lib.hid htl
       have HL1:Hid (1≤t.length):=Lib.hid (by rw [ht];simp)
       rw [if_neg (by rw [ht];intro e;exact h120 (List.cons_prefix_cons.1 (List.cons_prefix_cons.1 e).2).1.symm),if_pos ⟨t,rfl⟩] at hR
       have HRX:Hid (RR=sgI (numbered t 10)):=Lib.hid hR
       obtain ⟨TX,hTX⟩:∃ TX,TX=S1:=⟨_,rfl⟩
       have HTX:Hid (TX=txt t):=Lib.hid (by rw [hTX];exact HS1t.out)
       subst hTX
       clear hR ht HY
       go_wp2
       go_loopg [0] t.length (fun g s0 wx=>wx=wr∧∃ (L:List Nat) (T:ByteArray),s0 = .string T∧Hid (T=txt L)∧Hid (Bs L)∧1≤L.length∧L.length≤g∧L.length≤1000000∧Hid (RR=sgI (numbered L 10)))
       case atStart=>exact ⟨rfl,t,TX,rfl,HTX,HBX,HL1.out,Nat.le_refl _,HL2.out,HRX⟩
       case round=>
        obtain ⟨rfl,L,T,rfl,hT,hbL,hl1,hlg,hl2,hrr⟩:=hrel
        have hTz:T.size=L.length:=by rw [hT.out,txt_size]
        have HTZ:=Lib.hid hTz
        have h0T:0<T.size:=by omega
        have h0I:(0:Int)<T.size:=by omega
        obtain ⟨x,hx⟩:∃ x:UInt8,T[0]'h0T=x:=⟨_,rfl⟩
        have HX:Hid (L.getD 0 0=x.toNat):=Lib.hid (by
         have:=hT.out
         subst this
         subst hx
         exact (txt_get L hbL.out 0 _).symm)
        have hx256:x.toNat<256:=x.toNat_lt
        by_cases h1:1<L.length
        ·have h1I:(1:Int)<T.size:=by omega
         have h1d:decide ((1:Int)<T.size)=true:=decide_eq_true h1I
         by_cases h48:x.toNat=48
         ·have h48I:(x.toNat:Int)=48:=by omega
          have h48b:((x.toNat:Int) == 48)=true:=by rw [h48I];rfl
          have HT2:Hid (T.extract 1 T.size=txt (L.drop 1)):=Lib.hid (by rw [hT.out,txt_extract,txt_size,List.take_of_length_le (by rw [List.length_drop];omega)])
          have HRR2:Hid (RR=sgI (numbered (L.drop 1) 10)):=Lib.hid (by
           rw [hrr.out,←strip_one h1 (by rw [HX.out,h48])])
          have hl3:1≤(L.drop 1).length∧(L.drop 1).length≤L.length-1:=by rw [List.length_drop];omega
          clear hTz
          go_wp2
          go_roundg (L.length-1)
          case measure=>omega
          case rel=>exact ⟨rfl,L.drop 1,_,rfl,HT2,Lib.hid (hbL.out.drop 1),hl3.1,hl3.2,by omega,HRR2⟩
         ·have h48I:¬(x.toNat:Int)=48:=by omega
          have h48b:((x.toNat:Int) == 48)=false:=beq_eq_false_iff_ne.2 h48I
          have HRF:Hid (RR=if 7<L.length then -1 else sgI (chr (num 10 L 0))):=Lib.hid (by
           rw [hrr.out,numbered_head (by omega) (by rw [HX.out];exact h48)])
          clear h1
          by_cases h7:7<L.length
          ·have h7I:(7:Int)<T.size:=by omega
           have HF:Hid (RR = -1):=Lib.hid (by rw [HRF.out,if_pos h7])
           clear hTz
           go_wp2
           go_ret
           exact ⟨by rw [HF.out];rfl,HB.out⟩
          ·have h7I:¬(7:Int)<T.size:=by omega
           have HF:Hid (RR=sgI (chr (num 10 L 0))):=Lib.hid (by rw [HRF.out,if_neg h7])
           clear hTz
           go_wp2
           clear hx HX HRF hrr
           have hTz:=HTZ.out
           go_loopg [6,7,8] L.length (fun g s6 s7 _ wx=>wx=wr∧∃ i v:Nat,s6 = .int .i64 (v:Nat)∧s7 = .int .i64 (i:Nat)∧L.length-i≤g∧i≤L.length∧Hid (v<16^i)∧Hid (RR=sgI (chr (num 10 (L.drop i) v))))
           case atStart=>exact ⟨rfl,0,0,rfl,rfl,by omega,by omega,Lib.hid (by decide),Lib.hid (by rw [HF.out,List.drop_zero])⟩
           case round=>
            obtain ⟨rfl,i,v,rfl,rfl,hg,hi,hv,hr⟩:=hrel
            by_cases hlt:i<L.length
            ·have hiT:i<T.size:=by omega
             have hiI:(i:Int)<T.size:=by omega
             obtain ⟨y,hy⟩:∃ y:UInt8,T[i]'hiT=y:=⟨_,rfl⟩
             have HY:Hid (L.getD i 0=y.toNat):=Lib.hid (by
              have:=hT.out
              subst this
              subst hy
              exact (txt_get L hbL.out i _).symm)
             clear hTz
             have KD:=Lib.hid fun W=>rdigit_any W y.toNat y.toNat_lt
             have hdg:=digit_same y.toNat
             rw [hdg] at KD
             have hst:=hr.out
             rw [drop_cons hlt,num,HY.out] at hst
             obtain ⟨d,hd⟩:∃ d,d=K.digit y.toNat:=⟨_,rfl⟩
             rw [←hd] at KD hst
             have hd99:d≤99:=by rw [hd];exact digit_le _
             by_cases hb:10≤d
             ·have hbI:(10:Int)≤d:=by omega
              rw [if_pos hb] at hst
              have HF2:Hid (RR = -1):=Lib.hid hst
              clear hst hd hdg
              go_wp2_with (go_at_call 60;(with_reducible refine (KD.out _).mono ?_);rintro e w2 ⟨rfl,rfl⟩)
              go_ret
              exact ⟨by rw [HF2.out];rfl,HB.out⟩
             ·have hbI:¬(10:Int)≤d:=by omega
              rw [if_neg hb] at hst
              have hv1:=pow7 (i:=i) (by omega) hv.out
              have hv2:=pow_step (i:=i) (d:=d) (b:=10) (by decide) (by omega) hv.out
              have hmul:IntKind.i64.wrap ((v:Int)*10)=((v*10:Nat):Int):=by rw [IntKind.wrap_i64];omega
              have hmul2:(v:Int)*10=((v*10:Nat):Int):=by omega
              obtain ⟨m,hm⟩:∃ m,m=v*10:=⟨_,rfl⟩
              rw [←hm] at hmul hmul2 hst hv2
              have hm1:m≤5000000000:=by omega
              have hadd:IntKind.i64.wrap ((m:Int)+d)=((m+d:Nat):Int):=by rw [IntKind.wrap_i64];omega
              have hadd2:(m:Int)+d=((m+d:Nat):Int):=by omega
              obtain ⟨u,hu⟩:∃ u,u=m+d:=⟨_,rfl⟩
              rw [←hu] at hadd hadd2 hst hv2
              have HWU:Hid (Value.int .i64 (wrap64 (wrap64 (m:Int)+(d:Int))) = .int .i64 (u:Int)):=Lib.hid (by rw [hu];exact wrap_two hm1 hd99)
              have HST:=Lib.hid hst
              have HV2:=Lib.hid hv2
              have hiB:i≤1000000:=by omega
              clear hst hd hdg hm1 hv1 hv2 hm hu hmul hadd
              go_wp2_with (go_at_call 60;(with_reducible refine (KD.out _).mono ?_);rintro e w2 ⟨rfl,rfl⟩)
              go_roundg (L.length-(i+1))
              case measure=>omega
              case rel=>exact ⟨rfl,i+1,u,HWU.out,rfl,by omega,by omega,HV2,HST⟩
            ·obtain rfl:i=L.length:=by omega
             have hst:=hr.out
             rw [List.drop_length,num] at hst
             have KC:=Lib.hid fun W=>(rChar_any (v:Int) W)
             rw [show wth charL (v:Int)=charP v from rfl] at KC
             unfold chr at hst
             have hiI:¬((L.length:Nat):Int)<T.size:=by omega
             clear hTz
             simp only at hst
             cases hc:charP v with
             | true=>
              rw [hc] at KC hst
              simp only [if_true] at hst
              have HST:Hid (RR=(v:Int)):=Lib.hid hst
              clear hst hc
              go_wp2_with (go_at_call 32;(with_reducible refine (KC.out _).mono ?_);rintro e w2 ⟨rfl,rfl⟩)
              go_ret
              exact ⟨by rw [HST.out];rfl,HB.out⟩
             | false=>
              rw [hc] at KC hst
              simp only [Bool.false_eq_true,if_false] at hst
              have HST:Hid (RR = -1):=Lib.hid hst
              clear hst hc
              go_wp2_with (go_at_call 32;(with_reducible refine (KC.out _).mono ?_);rintro e w2 ⟨rfl,rfl⟩)
              go_ret
              exact ⟨by rw [HST.out];rfl,HB.out⟩
        ·have h1I:¬(1:Int)<T.size:=by omega
         have h1d:decide ((1:Int)<T.size)=false:=decide_eq_false h1I
         have HRF:Hid (RR=if 7<L.length then -1 else sgI (chr (num 10 L 0))):=Lib.hid (by
          rw [hrr.out,numbered_one (by omega) (by decide)])
         clear h1
         by_cases h7:7<L.length
         ·have h7I:(7:Int)<T.size:=by omega
          have HF:Hid (RR = -1):=Lib.hid (by rw [HRF.out,if_pos h7])
          clear hTz
          go_wp2
          go_ret
          exact ⟨by rw [HF.out];rfl,HB.out⟩
         ·have h7I:¬(7:Int)<T.size:=by omega
          have HF:Hid (RR=sgI (chr (num 10 L 0))):=Lib.hid (by rw [HRF.out,if_neg h7])
          clear hTz
          go_wp2
          clear hx HX HRF hrr
          have hTz:=HTZ.out
          go_loopg [6,7,8] L.length (fun g s6 s7 _ wx=>wx=wr∧∃ i v:Nat,s6 = .int .i64 (v:Nat)∧s7 = .int .i64 (i:Nat)∧L.length-i≤g∧i≤L.length∧Hid (v<16^i)∧Hid (RR=sgI (chr (num 10 (L.drop i) v))))
          case atStart=>exact ⟨rfl,0,0,rfl,rfl,by omega,by omega,Lib.hid (by decide),Lib.hid (by rw [HF.out,List.drop_zero])⟩
          case round=>
           obtain ⟨rfl,i,v,rfl,rfl,hg,hi,hv,hr⟩:=hrel
           by_cases hlt:i<L.length
           ·have hiT:i<T.size:=by omega
            have hiI:(i:Int)<T.size:=by omega
            obtain ⟨y,hy⟩:∃ y:UInt8,T[i]'hiT=y:=⟨_,rfl⟩
            have HY:Hid (L.getD i 0=y.toNat):=Lib.hid (by
             have:=hT.out
             subst this
             subst hy
             exact (txt_get L hbL.out i _).symm)
            clear hTz
            have KD:=Lib.hid fun W=>rdigit_any W y.toNat y.toNat_lt
            have hdg:=digit_same y.toNat
            rw [hdg] at KD
            have hst:=hr.out
            rw [drop_cons hlt,num,HY.out] at hst
            obtain ⟨d,hd⟩:∃ d,d=K.digit y.toNat:=⟨_,rfl⟩
            rw [←hd] at KD hst
            have hd99:d≤99:=by rw [hd];exact digit_le _
            by_cases hb:10≤d
            ·have hbI:(10:Int)≤d:=by omega
             rw [if_pos hb] at hst
             have HF2:Hid (RR = -1):=Lib.hid hst
             clear hst hd hdg
             go_wp2_with (go_at_call 60;(with_reducible refine (KD.out _).mono ?_);rintro e w2 ⟨rfl,rfl⟩)
             go_ret
             exact ⟨by rw [HF2.out];rfl,HB.out⟩
            ·have hbI:¬(10:Int)≤d:=by omega
             rw [if_neg hb] at hst
             have hv1:=pow7 (i:=i) (by omega) hv.out
             have hv2:=pow_step (i:=i) (d:=d) (b:=10) (by decide) (by omega) hv.out
             have hmul:IntKind.i64.wrap ((v:Int)*10)=((v*10:Nat):Int):=by rw [IntKind.wrap_i64];omega
             have hmul2:(v:Int)*10=((v*10:Nat):Int):=by omega
             obtain ⟨m,hm⟩:∃ m,m=v*10:=⟨_,rfl⟩
             rw [←hm] at hmul hmul2 hst hv2
             have hm1:m≤5000000000:=by omega
             have hadd:IntKind.i64.wrap ((m:Int)+d)=((m+d:Nat):Int):=by rw [IntKind.wrap_i64];omega
             have hadd2:(m:Int)+d=((m+d:Nat):Int):=by omega
             obtain ⟨u,hu⟩:∃ u,u=m+d:=⟨_,rfl⟩
             rw [←hu] at hadd hadd2 hst hv2
             have HWU:Hid (Value.int .i64 (wrap64 (wrap64 (m:Int)+(d:Int))) = .int .i64 (u:Int)):=Lib.hid (by rw [hu];exact wrap_two hm1 hd99)
             have HST:=Lib.hid hst
             have HV2:=Lib.hid hv2
             have hiB:i≤1000000:=by omega
             clear hst hd hdg hm1 hv1 hv2 hm hu hmul hadd
             go_wp2_with (go_at_call 60;(with_reducible refine (KD.out _).mono ?_);rintro e w2 ⟨rfl,rfl⟩)
             go_roundg (L.length-(i+1))
             case measure=>omega
             case rel=>exact ⟨rfl,i+1,u,HWU.out,rfl,by omega,by omega,HV2,HST⟩
           ·obtain rfl:i=L.length:=by omega
            have hst:=hr.out
            rw [List.drop_length,num] at hst
            have KC:=Lib.hid fun W=>(rChar_any (v:Int) W)
            rw [show wth charL (v:Int)=charP v from rfl] at KC
            unfold chr at hst
            have hiI:¬((L.length:Nat):Int)<T.size:=by omega
            clear hTz
            simp only at hst
            cases hc:charP v with
            | true=>
             rw [hc] at KC hst
             simp only [if_true] at hst
             have HST:Hid (RR=(v:Int)):=Lib.hid hst
             clear hst hc
             go_wp2_with (go_at_call 32;(with_reducible refine (KC.out _).mono ?_);rintro e w2 ⟨rfl,rfl⟩)
             go_ret
             exact ⟨by rw [HST.out];rfl,HB.out⟩
            | false=>
             rw [hc] at KC hst
             simp only [Bool.false_eq_true,if_false] at hst
             have HST:Hid (RR = -1):=Lib.hid hst
             clear hst hc
             go_wp2_with (go_at_call 32;(with_reducible refine (KC.out _).mono ?_);rintro e w2 ⟨rfl,rfl⟩)
             go_ret
             exact ⟨by rw [HST.out];rfl,HB.out⟩
    ·have h35b:((x.toNat:Int) != 35)=true:=bne_iff_ne.2 (by omega)
     have h35c:¬(x.toNat:Int)=35:=by omega
     have HF:Hid (RR = -1):=Lib.hid (by
      rw [HR0.out,hr,if_neg (fun e=>h35 (List.cons_prefix_cons.1 e).1.symm),if_neg (fun e=>h35 (List.cons_prefix_cons.1 e).1.symm)]
      rfl)
     clear hr HX
     go_wp2
     go_ret
     exact ⟨by rw [HF.out];rfl,HB.out⟩
theorem rsign_any (r:List Nat) (S:ByteArray) (hS:S=txt r) (hb:Bs r) (hl:r.length≤1000000) (w:World) :
  Calls Tryz.prog 29 #[.string S] w fun e w'=>e = .returned (.int .i64 (sgI (signOf r)))∧Below w.heap.size w w':=by
 by_cases n0:r=[108,116]
 ·subst n0;subst hS;exact rsign_name0 w
 by_cases n1:r=[103,116]
 ·subst n1;subst hS;exact rsign_name1 w
 by_cases n2:r=[97,109,112]
 ·subst n2;subst hS;exact rsign_name2 w
 by_cases n3:r=[113,117,111,116]
 ·subst n3;subst hS;exact rsign_name3 w
 by_cases n4:r=[97,112,111,115]
 ·subst n4;subst hS;exact rsign_name4 w
 exact rsign_other r S hS hb hl w n0 n1 n2 n3 n4
theorem tr_at (b:Bool) {L:List Nat} {i:Nat} (h:i<L.length):tr b (L.drop i)=if L.getD i 0=60 then none else if L.getD i 0=38 then (match ix [59] (L.drop (i+1)) with
   | none=>none
   | some j=>match signOf ((L.drop (i+1)).take j) with
    | none=>none
    | some v=>(tr b (L.drop (i+1+(j+1)))).map (enc v ++ ·)) else (tr b (L.drop (i+1))).map (fl1 b (L.getD i 0) :: ·):=by
 rw [drop_cons h,tr_cons]
 cases ix [59] (L.drop (i+1)) with
 | none=>rfl
 | some j=>
  simp only
  rw [List.drop_drop]
  rfl
theorem push_own {w wr w2:World} {a a2:Option Addr} {n c' c2:Nat} {acc:List Nat} {y:Nat} (hn:n=acc.length) (how:wr.ownsRow w.heap.size 5 1 (.slice a n c') n (u8s acc)) (hbw:Below w.heap.size w wr)
  (hA:Apd (wr.alloc (.cells #[.int .u8 (y:Nat)] 5)) w.heap.size 5 1 (.slice a n c') (n+1) (u8s acc++[.int .u8 (y:Nat)]) (.slice a2 (n+1) c2) w2) :
  w2.ownsRow w.heap.size 5 1 (.slice a2 (acc++[y]).length c2) (acc++[y]).length (u8s (acc++[y]))∧Below w.heap.size w w2:=by
 have hl:(acc++[y]).length=n+1:=by rw [List.length_append,hn];rfl
 have h1:=hA.own
 rw [show ([Value.int .u8 (y:Nat)]:List Value)=u8s [y] from rfl,u8s_app] at h1
 rw [hl]
 exact ⟨h1,hbw.trans ((hA.alloc.below how hbw.size))⟩
theorem push_many {w wr w2:World} {a a2:Option Addr} {n c' c2 m:Nat} {acc ys:List Nat} (hn:n=acc.length) (hm:m=ys.length) (how:wr.ownsRow w.heap.size 5 1 (.slice a n c') n (u8s acc)) (hbw:Below w.heap.size w wr)
  (hA:Apd wr w.heap.size 5 1 (.slice a n c') (n+m) (u8s acc++u8s ys) (.slice a2 (n+m) c2) w2) :
  w2.ownsRow w.heap.size 5 1 (.slice a2 (acc++ys).length c2) (acc++ys).length (u8s (acc++ys))∧Below w.heap.size w w2:=by
 have hl:(acc++ys).length=n+m:=by rw [List.length_append,hn,hm]
 have h1:=hA.own
 rw [u8s_app] at h1
 rw [hl]
 exact ⟨h1,hbw.trans (hA.below how hbw.size)⟩
theorem fl1_bs {b:Bool} {c:Nat} (h:c<256):fl1 b c<256:=by unfold fl1;split <;> omega
theorem no_semi {L:List Nat} {i e:Nat} (hie:i≤e) (he:e<L.length) (h:L.getD e 0≠59) (hno:59∉(L.drop i).take (e-i)):59∉(L.drop i).take (e+1-i):=by
 rw [show e+1-i=(e-i)+1 by omega,get_take _ _ (by rw [List.length_drop];omega)]
 intro hm
 rcases List.mem_append.1 hm with hm | hm
 ·exact hno hm
 ·rw [List.mem_singleton] at hm
  apply h
  rw [hm]
  simp only [List.getD_eq_getElem?_getD,List.getElem?_drop]
  rw [show i+(e-i)=e by omega]
theorem ix_semi {L:List Nat} {i e:Nat} (hie:i<e) (he:e<L.length) (h:L.getD e 0=59) (hno:59∉(L.drop i).take (e-i)):ix [59] (L.drop (i+1))=some (e-(i+1)):=by
 have e1:L.drop (i+1)=(L.drop (i+1)).take (e-(i+1))++59::L.drop (e+1):=by
  conv=>lhs;rw [←List.take_append_drop (e-(i+1)) (L.drop (i+1))]
  rw [List.drop_drop,show i+1+(e-(i+1))=e by omega,drop_cons he,h]
 have hn2:59∉(L.drop (i+1)).take (e-(i+1)):=fun hm=>hno (by
  rw [drop_cons (by omega),show e-i=(e-(i+1))+1 by omega,List.take_succ_cons]
  exact List.mem_cons_of_mem _ hm)
 rw [e1,ix1_app hn2,List.length_take,List.length_drop]
 congr 1
 omega
set_option maxHeartbeats 25600000 in
theorem rtold_any (xs:List Nat) (S:ByteArray) (hS:S=txt xs) (hb:Bs xs) (b:Bool) (w:World) (hl:xs.length≤1000000) :
  Calls Tryz.prog 15 #[.string S,.bool b] w fun e w'=>e = .returned (tdR (tr b xs))∧Below w.heap.size w w':=by
 obtain ⟨R,hR⟩:∃ R,R=tr b xs:=⟨_,rfl⟩
 rw [←hR]
 have HR:=Lib.hid hR
 obtain ⟨N,hN⟩:∃ N,N=xs.length:=⟨_,rfl⟩
 have HN:=Lib.hid hN
 have hSN:S.size=N:=by rw [hS,txt_size,hN]
 have HBS:=Lib.hid hb
 have HS:=Lib.hid hS
 have HEX:=Lib.hid fun i j=>txt_extract xs i j
 rw [←hS] at HEX
 have HGET:Hid (∀ i (h:i<S.size),((S[i]'h).toNat)=xs.getD i 0):=Lib.hid fun i h=>by subst hS;exact txt_get xs hb i _
 have HO0:=Lib.hid (own_empty w 5 1)
 have HB0:=Lib.hid (lit_below w (.cells #[] 5))
 have HSN:=Lib.hid hSN
 rw [←hN] at hl
 clear hR hN hS hb
 go_enter Tryz.func15,Tryz.ntmps15
 go_wp2
 go_loopw [6,7,8,9,10] (fun v6 v7 _ _ _ wr=>∃ (i:Nat) (a:Option Addr) (c':Nat) (acc:List Nat),i≤N∧v7 = .int .i64 (i:Nat)∧v6 = .slice a acc.length c'∧acc.length≤4*i∧Hid (Bs acc)∧Hid (R=(tr b (xs.drop i)).map (acc ++ ·))∧Hid (wr.ownsRow w.heap.size 5 1 (.slice a acc.length c') acc.length (u8s acc))∧Hid (Below w.heap.size w wr)) (fun _ v7 _ _ _ _=>N-(intOf v7).toNat)
 case atStart=>exact ⟨0,_,0,[],Nat.zero_le _,rfl,rfl,Nat.zero_le _,Lib.hid Bs.nil,Lib.hid (by rw [HR.out];simp),HO0,HB0⟩
 case round=>
  clear HO0 HB0
  obtain ⟨i,a,c',acc,hi,rfl,rfl,hac,hab,hrel,hown,hbw⟩:=hrel
  obtain ⟨n,hn⟩:∃ n,n=acc.length:=⟨_,rfl⟩
  by_cases hlt:i<N
  ·have hiS:i<S.size:=by omega
   have hiI:(i:Int)<S.size:=by omega
   have hix:i<xs.length:=by rw [←HN.out];exact hlt
   obtain ⟨x,hx⟩:∃ x:UInt8,S[i]'hiS=x:=⟨_,rfl⟩
   have hxn:xs.getD i 0=x.toNat:=by rw [←hx];exact (HGET.out i hiS).symm
   have hst:=hrel.out
   rw [tr_at b hix,hxn] at hst
   have hx256:=x.toNat_lt
   by_cases c60:x.toNat=60
   ·have c60I:(x.toNat:Int)=60:=by omega
    have c60b:((x.toNat:Int) == 60)=true:=by rw [c60I];rfl
    rw [if_pos c60] at hst
    have HF:Hid (R=none):=Lib.hid hst
    clear hst hxn hn hSN
    go_wp2
    go_ret2
    exact ⟨by rw [HF.out];rfl,hbw.out⟩
   ·have c60I:¬(x.toNat:Int)=60:=by omega
    have c60b:((x.toNat:Int) == 60)=false:=beq_eq_false_iff_ne.2 c60I
    rw [if_neg c60] at hst
    by_cases c38:x.toNat=38
    ·have c38I:(x.toNat:Int)=38:=by omega
     have c38b:((x.toNat:Int) != 38)=false:=by rw [c38I];rfl
     rw [if_pos c38] at hst
     have HST:=Lib.hid hst
     have HXN:=Lib.hid hxn
     have HN2:=Lib.hid hn
     have HOW:Hid (wr.ownsRow w.heap.size 5 1 (.slice a n c') n (u8s acc)):=Lib.hid (by rw [hn];exact hown.out)
     rw [←hn] at hac ⊢
     clear hst hxn hn hSN hown
     go_wp2
     go_loopg [9] N (fun g s9 wx=>wx=wr∧∃ e:Nat,s9 = .int .i64 (e:Nat)∧N-e≤g∧i≤e∧e≤N∧Hid (59∉(xs.drop i).take (e-i)))
     case atStart=>exact ⟨rfl,i,rfl,by omega,Nat.le_refl _,by omega,Lib.hid (by simp)⟩
     case round=>
      obtain ⟨rfl,e,rfl,hg,hie,heN,hno⟩:=hrel
      by_cases hel:e<N
      ·have heS:e<S.size:=by rw [HSN.out];exact hel
       have heI:(e:Int)<S.size:=by omega
       obtain ⟨y,hy⟩:∃ y:UInt8,S[e]'heS=y:=⟨_,rfl⟩
       have hyn:xs.getD e 0=y.toNat:=by rw [←hy];exact (HGET.out e heS).symm
       have hed:decide ((e:Int)<S.size)=true:=decide_eq_true heI
       by_cases c59:y.toNat=59
       ·have c59I:(y.toNat:Int)=59:=by omega
        have c59b:((y.toNat:Int) != 59)=false:=by rw [c59I];rfl
        have hei:i<e:=by
         by_cases h:i=e
         ·exfalso;subst h;rw [HXN.out] at hyn;omega
         ·omega
        have heq:((e:Int) == S.size)=false:=beq_eq_false_iff_ne.2 (by omega)
        have heq2:¬(e:Int)=S.size:=by omega
        have hix2:ix [59] (xs.drop (i+1))=some (e-(i+1)):=ix_semi hei (by rw [←HN.out];exact hel) (by rw [hyn,c59]) hno.out
        have hst:=HST.out
        rw [hix2] at hst
        simp only at hst
        obtain ⟨p,hp⟩:∃ p,p=i+1:=⟨_,rfl⟩
        have hsum:(i:Int)+1=p:=by omega
        have hpe:p≤e:=by omega
        have hsl:∀ W,(Instr.slice 9 (.string S) (some (.int .i64 (p:Nat))) (some (.int .i64 (e:Nat))) none).run Tryz.prog W = .ok (.string (S.extract p e)) W:=fun W=>by
         have h1:(0:Int)≤p∧(p:Int)≤e:=by omega
         have h2:(e:Int)≤S.size:=by omega
         simp [go_sem,h1,h2]
        have hcut:S.extract p e=txt ((xs.drop (i+1)).take (e-(i+1))):=by rw [HEX.out,hp]
        obtain ⟨M,hM⟩:∃ M,M=(xs.drop (i+1)).take (e-(i+1)):=⟨_,rfl⟩
        rw [←hM] at hcut hst
        have hMb:Bs M:=by rw [hM];exact (HBS.out.drop _).take _
        have hMl:M.length≤1000000:=by rw [hM,List.length_take,List.length_drop,←HN.out];omega
        obtain ⟨T1,hT1⟩:∃ T1,T1=S.extract p e:=⟨_,rfl⟩
        rw [←hT1] at hsl
        have KS:=Lib.hid fun W=>rsign_any M T1 (hT1.trans hcut) hMb hMl W
        rw [show i+1+(e-(i+1)+1)=e+1 by omega] at hst
        have HIE:=Lib.hid hei
        rcases hsg:signOf M with _ | v
        ·rw [hsg] at hst KS
         have HF:Hid (R=none):=Lib.hid hst
         have KS:Hid (∀ W,Calls Tryz.prog 29 #[.string T1] W fun e w'=>e = .returned (.int .i64 (-1))∧Below W.heap.size W w'):=KS
         clear hst hsg hix2 hM hcut hT1 hyn hp hMl hMb
         go_wp2_with (go_at_call 29;(with_reducible refine (KS.out _).mono ?_);rintro e w3 ⟨rfl,hb⟩;have HB3:=Lib.hid (hbw.out.trans (hb.mono hbw.out.size));clear hb)
         go_ret2
         exact ⟨by rw [HF.out];rfl,HB3.out⟩
        ·rw [hsg] at hst KS
         have hvs:=charP_sign (signOf_char hsg)
         have hve:=enc_le v
         have hvm:=hvs.1
         have HST2:Hid (R=(tr b (xs.drop (e+1))).map ((acc++enc v) ++ ·)):=Lib.hid (by rw [hst];cases tr b (xs.drop (e+1)) <;> simp)
         have HACC:Hid (Bs (acc++enc v)):=Lib.hid (hab.out.app (enc_bs hvs))
         have KS:Hid (∀ W,Calls Tryz.prog 29 #[.string T1] W fun e w'=>e = .returned (.int .i64 (v:Nat))∧Below W.heap.size W w'):=KS
         have KB:=Lib.hid fun W=>rBytes_any v hvs W
         obtain ⟨m,hm⟩:∃ m,m=(enc v).length:=⟨_,rfl⟩
         unfold SlTo at KB
         rw [←hm] at hve
         have HM:=Lib.hid hm
         have HEB:=Lib.hid (enc_bs hvs)
         have KB:Hid (∀ W,Calls Tryz.prog 30 #[.int .i64 (v:Nat)] W fun e w'=>∃ ao c,e = .returned (.slice ao m c)∧CellsAt w' (.slice ao m c) m (u8s (enc v))∧Below W.heap.size W w'):=Lib.hid fun W=>(KB.out W).mono fun e w' ⟨ao,c,h1,h2,h3⟩=>⟨ao,c,by rw [hm];exact h1,by rw [hm];exact h2.cells,h3⟩
         have hvI:¬(v:Int)<0:=by omega
         have hel2:e+1≤N:=by omega
         clear hst hsg hix2 hM hcut hT1 hyn hp hMl hMb hm hvs hvm
         go_wp2_with (first
          | (go_at_call 29;(with_reducible refine (KS.out _).mono ?_);rintro e3 w3 ⟨rfl,hb⟩;have HB3:=Lib.hid (hbw.out.trans (hb.mono hbw.out.size));have HO3:=Lib.hid (ownsRow_below HOW.out hb);clear hb)
          | (go_at_call 30;(with_reducible refine (KB.out _).mono ?_);rintro e4 w4 ⟨a4,c4,rfl,hcl,hb⟩;have HB4:=Lib.hid (HB3.out.trans (hb.mono HB3.out.size));have HO4:=Lib.hid (ownsRow_below HO3.out hb);have HCL:=Lib.hid hcl;clear hb hcl)
          | (at_builtin;refine wpList_append_x at22 rfl (.tmp 63) (.tmp 65) rfl w.heap.size (.slice a n c') (.slice a4 m c4) n m (u8s acc) (u8s (enc v)) rfl rfl HO4.out HCL.out (by rw [u8s_len,Nat.mul_one,HM.out]) (u8s_one _) HB4.out.size (by omega) (by omega) ?_;intro a5 c5 w5 hA;have HA:=Lib.hid hA;clear hA))
         have HP:=push_many HN2.out HM.out HO4.out HB4.out HA.out
         have hl2:(acc++enc v).length=n+m:=by rw [List.length_append,←HN2.out,←HM.out]
         refine ⟨⟨e+1,a5,c5,acc++enc v,hel2,by go_num,by rw [hl2],by rw [hl2];omega,HACC,HST2,Lib.hid HP.1,Lib.hid HP.2⟩,?_⟩
         simp [intOf];omega
       ·have c59I:¬(y.toNat:Int)=59:=by omega
        have c59b:((y.toNat:Int) != 59)=true:=bne_iff_ne.2 c59I
        have HNO2:Hid (59∉(xs.drop i).take (e+1-i)):=Lib.hid (no_semi hie (by rw [←HN.out];exact hel) (by rw [hyn];exact c59) hno.out)
        clear hyn
        go_wp2
        go_roundg (N-(e+1))
        case measure=>omega
        case rel=>exact ⟨rfl,e+1,by go_num,by omega,by omega,by omega,HNO2⟩
      ·obtain rfl:e=N:=by omega
       have heI:¬(e:Int)<S.size:=by rw [HSN.out];omega
       have hed:decide ((e:Int)<S.size)=false:=decide_eq_false heI
       have heq:((e:Int) == S.size)=true:=by rw [HSN.out];simp
       have heq2:(e:Int)=S.size:=by rw [HSN.out]
       have hix2:ix [59] (xs.drop (i+1))=none:=ix1_none.2 fun hm=>hno.out (by
        rw [List.take_of_length_le (by rw [List.length_drop,←HN.out];omega),drop_cons (by rw [←HN.out];exact hlt)]
        exact List.mem_cons_of_mem _ hm)
       have hst:=HST.out
       rw [hix2] at hst
       have HF:Hid (R=none):=Lib.hid hst
       clear hst hix2
       go_wp2
       go_ret2
       exact ⟨by rw [HF.out];rfl,hbw.out⟩
    ·have c38I:¬(x.toNat:Int)=38:=by omega
     have c38b:((x.toNat:Int) != 38)=true:=bne_iff_ne.2 c38I
     rw [if_neg c38] at hst
     have hfb:=fl1_bs (b:=b) hx256
     obtain ⟨y,hy⟩:∃ y,y=fl1 b x.toNat:=⟨_,rfl⟩
     rw [←hy] at hst hfb
     have HACC:Hid (Bs (acc++[y])):=Lib.hid (hab.out.app (fun z hz=>by rw [List.mem_singleton] at hz;omega))
     have HST:Hid (R=(tr b (xs.drop (i+1))).map ((acc++[y]) ++ ·)):=Lib.hid (by rw [hst];cases tr b (xs.drop (i+1)) <;> simp)
     have hlen:(acc++[y]).length=n+1:=by rw [List.length_append,hn];rfl
     have HOW:Hid (wr.ownsRow w.heap.size 5 1 (.slice a n c') n (u8s acc)):=Lib.hid (by rw [hn];exact hown.out)
     have HBZ:=Lib.hid hbw.out.size
     rw [←hn] at hac ⊢
     have HN2:=Lib.hid hn
     clear hst hxn hn hown
     have HLEN:=Lib.hid hlen
     clear hlen hSN
     cases hbb:b with
     | false=>
      have hyx:y=x.toNat:=by rw [hy,hbb];rfl
      subst hyx
      rw [hbb] at HST
      clear hy hbb
      go_wp2_with (at_builtin;refine wpList_append_x at22 rfl (.tmp 32) (.tmp 34) rfl w.heap.size (.slice a n c') (.slice (some ⟨wr.heap.size,0,none⟩) 1 1) n 1 (u8s acc) [.int .u8 (x.toNat:Nat)] rfl rfl (ownsRow_below HOW.out (lit_below wr _)) (cells_one _ _ _) rfl (by intro u hu;rw [List.mem_singleton] at hu;subst hu;rfl) (by rw [alloc_size];have:=HBZ.out;omega) (by omega) (by omega) ?_;intro a2 c2 w2 hA;have HA:=Lib.hid hA;clear hA)
      have HP:=push_own (y:=x.toNat) HN2.out HOW.out hbw.out HA.out
      refine ⟨⟨i+1,a2,c2,acc++[x.toNat],by omega,by go_num,by rw [HLEN.out],by rw [HLEN.out];omega,HACC,HST,Lib.hid HP.1,Lib.hid HP.2⟩,?_⟩
      simp [intOf];omega
     | true=>
      rw [hbb] at HST
      by_cases c9:x.toNat=9
      ·have hyx:y=32:=by rw [hy,hbb,c9];rfl
       subst hyx
       have c9I:(x.toNat:Int)=9:=by omega
       have c9b:((x.toNat:Int) == 9)=true:=by rw [c9I];rfl
       clear hy hbb
       go_wp2_with (at_builtin;refine wpList_append_x at22 rfl (.tmp 32) (.tmp 34) rfl w.heap.size (.slice a n c') (.slice (some ⟨wr.heap.size,0,none⟩) 1 1) n 1 (u8s acc) [.int .u8 32] rfl rfl (ownsRow_below HOW.out (lit_below wr _)) (cells_one _ _ _) rfl (by intro u hu;rw [List.mem_singleton] at hu;subst hu;rfl) (by rw [alloc_size];have:=HBZ.out;omega) (by omega) (by omega) ?_;intro a2 c2 w2 hA;have HA:=Lib.hid hA;clear hA)
       have HP:=push_own (y:=32) HN2.out HOW.out hbw.out HA.out
       refine ⟨⟨i+1,a2,c2,acc++[32],by omega,by go_num,by rw [HLEN.out],by rw [HLEN.out];omega,HACC,HST,Lib.hid HP.1,Lib.hid HP.2⟩,?_⟩
       simp [intOf];omega
      ·have c9I:¬(x.toNat:Int)=9:=by omega
       have c9b:((x.toNat:Int) == 9)=false:=beq_eq_false_iff_ne.2 c9I
       by_cases c10:x.toNat=10
       ·have hyx:y=32:=by rw [hy,hbb,c10];rfl
        subst hyx
        have c10I:(x.toNat:Int)=10:=by omega
        have c10b:((x.toNat:Int) == 10)=true:=by rw [c10I];rfl
        clear hy hbb
        go_wp2_with (at_builtin;refine wpList_append_x at22 rfl (.tmp 32) (.tmp 34) rfl w.heap.size (.slice a n c') (.slice (some ⟨wr.heap.size,0,none⟩) 1 1) n 1 (u8s acc) [.int .u8 32] rfl rfl (ownsRow_below HOW.out (lit_below wr _)) (cells_one _ _ _) rfl (by intro u hu;rw [List.mem_singleton] at hu;subst hu;rfl) (by rw [alloc_size];have:=HBZ.out;omega) (by omega) (by omega) ?_;intro a2 c2 w2 hA;have HA:=Lib.hid hA;clear hA)
        have HP:=push_own (y:=32) HN2.out HOW.out hbw.out HA.out
        refine ⟨⟨i+1,a2,c2,acc++[32],by omega,by go_num,by rw [HLEN.out],by rw [HLEN.out];omega,HACC,HST,Lib.hid HP.1,Lib.hid HP.2⟩,?_⟩
        simp [intOf];omega
       ·have c10I:¬(x.toNat:Int)=10:=by omega
        have c10b:((x.toNat:Int) == 10)=false:=beq_eq_false_iff_ne.2 c10I
        have hyx:y=x.toNat:=by rw [hy,hbb];unfold fl1;rw [if_neg (by rintro ⟨_,h | h⟩;exact c9 h;exact c10 h)]
        subst hyx
        clear hy hbb
        go_wp2_with (at_builtin;refine wpList_append_x at22 rfl (.tmp 32) (.tmp 34) rfl w.heap.size (.slice a n c') (.slice (some ⟨wr.heap.size,0,none⟩) 1 1) n 1 (u8s acc) [.int .u8 (x.toNat:Nat)] rfl rfl (ownsRow_below HOW.out (lit_below wr _)) (cells_one _ _ _) rfl (by intro u hu;rw [List.mem_singleton] at hu;subst hu;rfl) (by rw [alloc_size];have:=HBZ.out;omega) (by omega) (by omega) ?_;intro a2 c2 w2 hA;have HA:=Lib.hid hA;clear hA)
        have HP:=push_own (y:=x.toNat) HN2.out HOW.out hbw.out HA.out
        refine ⟨⟨i+1,a2,c2,acc++[x.toNat],by omega,by go_num,by rw [HLEN.out],by rw [HLEN.out];omega,HACC,HST,Lib.hid HP.1,Lib.hid HP.2⟩,?_⟩
        simp [intOf];omega
  ·obtain rfl:i=N:=by omega
   have hst:=hrel.out
   rw [List.drop_eq_nil_of_le (by rw [←HN.out];exact Nat.le_refl _)] at hst
   have HF:Hid (R=some acc):=Lib.hid (by rw [hst];show (some []:Option (List Nat)).map _=_;simp)
   have hcv:=conv_txt (own_sl hown.out hab.out)
   have hiI:¬(i:Int)<S.size:=by omega
   rw [←hn] at hcv ⊢
   obtain ⟨TA,hTA⟩:∃ TA,TA=txt acc:=⟨_,rfl⟩
   rw [←hTA] at hcv
   have HTA:=Lib.hid hTA
   clear hst hn hSN hTA
   go_wp2
   go_ret2
   exact ⟨by rw [HF.out,HTA.out];rfl,hbw.out⟩
def Rq (w:World) (p:Nat) (xs:List Nat) (k fr er:Nat):Prop:=∃ pl,Rp w p xs k fr er pl∧(er≠0→pl=fr)
theorem Rq.below {w w':World} {p:Nat} {xs:List Nat} {k fr er:Nat} (h:Rq w p xs k fr er) (hb:Below w.heap.size w w'):Rq w' p xs k fr er:=by
 obtain ⟨pl,h1,h2⟩:=h
 exact ⟨pl,h1.below hb,h2⟩
theorem Rq.le {w:World} {p:Nat} {xs:List Nat} {k fr er:Nat} (h:Rq w p xs k fr er):k≤xs.length:=by obtain ⟨pl,h1,h2⟩:=h;exact h1.le
theorem Rq.len {w:World} {p:Nat} {xs:List Nat} {k fr er:Nat} (h:Rq w p xs k fr er):xs.length≤1000000:=by obtain ⟨pl,h1,h2⟩:=h;exact h1.len
theorem Rq.bs {w:World} {p:Nat} {xs:List Nat} {k fr er:Nat} (h:Rq w p xs k fr er):Bs xs:=by obtain ⟨pl,h1,h2⟩:=h;exact h1.bs
theorem Rq.c0 {w:World} {p:Nat} {xs:List Nat} {k fr er:Nat} (h:Rq w p xs k fr er):w.cell? ⟨p,0,none⟩=some (.string (txt xs)):=by obtain ⟨pl,h1,h2⟩:=h;exact h1.c0
theorem Rq.c1 {w:World} {p:Nat} {xs:List Nat} {k fr er:Nat} (h:Rq w p xs k fr er):w.cell? ⟨p,1,none⟩=some (.int .i64 (k:Nat)):=by obtain ⟨pl,h1,h2⟩:=h;exact h1.c1
theorem Rq.c2 {w:World} {p:Nat} {xs:List Nat} {k fr er:Nat} (h:Rq w p xs k fr er):w.cell? ⟨p,2,none⟩=some (.int .i64 (fr:Nat)):=by obtain ⟨pl,h1,h2⟩:=h;exact h1.c2
theorem Rq.c3 {w:World} {p:Nat} {xs:List Nat} {k fr er:Nat} (h:Rq w p xs k fr er):w.cell? ⟨p,3,none⟩=some (.int .i64 (er:Nat)):=by obtain ⟨pl,h1,h2⟩:=h;exact h1.c3
theorem Rq.set1 {w:World} {p:Nat} {xs:List Nat} {k fr er:Nat} (h:Rq w p xs k fr er) (k':Nat) (hk:k'≤xs.length):Rq (w.setCell ⟨p,1,none⟩ (.int .i64 (k':Nat))) p xs k' fr er:=by
 obtain ⟨pl,h1,h2⟩:=h
 exact ⟨pl,h1.set1 k' hk,h2⟩
theorem Rq.drew {w:World} {p:Nat} {xs:List Nat} {k fr er:Nat} (h:Rq w p xs k fr er) (q:Nat):Rq (w.drewN q) p xs k fr er:=h.below (below_drewN (Below.refl _ w) q)
def Rs (p:Nat) (xs:List Nat) (fr:Nat) (v:Value) (k er:Nat) (w:World) (e:Ending) (w':World):Prop:=
 e = .returned v∧Touch (fun i=>i=p) w w'∧Rq w' p xs k fr er
section
variable (w:World) (p:Nat) (xs:List Nat) (k fr er:Nat)
theorem qfail (x:Nat) (h:Rq w p xs k fr er) :
  Calls Tryz.prog 49 #[.pointer (some ⟨p,0,none⟩),.int .i64 (x:Nat)] w (Rs p xs fr (.tuple #[]) k (if er=0 then x else er) w):=by
 obtain ⟨pl,h1,h2⟩:=h
 refine (rfail_any w p xs k fr er pl x h1).mono ?_
 rintro e w' ⟨rfl,ht,hr⟩
 refine ⟨rfl,ht,_,hr,fun h3=>?_⟩
 by_cases he:er=0
 ·rw [if_pos he]
 ·rw [if_neg he];exact h2 he
theorem qhas (s:List Nat) (T:ByteArray) (hT:T=txt s) (hs:Bs s) (hl:s.length≤1000) (h:Rq w p xs k fr er) :
  Calls Tryz.prog 46 #[.pointer (some ⟨p,0,none⟩),.string T] w (Rs p xs fr (.bool (decide (er=0∧s <+: xs.drop k))) (if er=0∧s <+: xs.drop k then k+s.length else k) er w):=by
 obtain ⟨pl,h1,h2⟩:=h
 refine (rhas_any w p xs k fr er pl s T hT hs hl h1).mono ?_
 rintro e w' ⟨he,ht,hr⟩
 exact ⟨he,ht,_,hr,h2⟩
theorem qneed (s:List Nat) (T:ByteArray) (hT:T=txt s) (hs:Bs s) (hl:s.length≤1000) (h:Rq w p xs k fr er) :
  Calls Tryz.prog 52 #[.pointer (some ⟨p,0,none⟩),.string T] w (Rs p xs fr (.tuple #[]) (if er=0∧s <+: xs.drop k then k+s.length else k) (if er=0∧¬s <+: xs.drop k then 22 else er) w):=by
 obtain ⟨pl,h1,h2⟩:=h
 refine (rneed_any w p xs k fr er pl s T hT hs hl h1).mono ?_
 rintro e w' ⟨he,ht,hr⟩
 refine ⟨he,ht,_,hr,fun h3=>?_⟩
 by_cases hc:er=0∧¬s <+: xs.drop k
 ·rw [if_pos hc]
 ·rw [if_neg hc] at h3 ⊢;exact h2 h3
theorem qblanks (h:Rq w p xs k fr er) :
  Calls Tryz.prog 50 #[.pointer (some ⟨p,0,none⟩)] w (Rs p xs fr (.int .i64 ((if er=0 then sk blaP (xs.drop k) else 0:Nat):Int)) (k+(if er=0 then sk blaP (xs.drop k) else 0)) er w):=by
 obtain ⟨pl,h1,h2⟩:=h
 refine (rblanks_any w p xs k fr er pl h1).mono ?_
 rintro e w' ⟨he,ht,hr⟩
 exact ⟨he,ht,_,hr,h2⟩
def unR (s L:List Nat) (er:Nat):List Nat × Nat × Nat:=if er=0 then (match ix s L with
 | some i=>(L.take i,i+s.length,0)
 | none=>([],0,22)) else ([],0,er)
theorem quntil (s:List Nat) (T:ByteArray) (hT:T=txt s) (hs:Bs s) (hl:s.length≤1000) (hs0:0<s.length) (h:Rq w p xs k fr er) :
  Calls Tryz.prog 51 #[.pointer (some ⟨p,0,none⟩),.string T] w (Rs p xs fr (.string (txt (unR s (xs.drop k) er).1)) (k+(unR s (xs.drop k) er).2.1) (unR s (xs.drop k) er).2.2 w):=by
 obtain ⟨pl,h1,h2⟩:=h
 unfold unR
 by_cases he:er=0
 ·subst he
  rw [if_pos rfl]
  refine (runtil_any w p xs k fr pl s T hT hs hl hs0 h1).mono ?_
  rintro e w' ⟨ht,hr⟩
  rcases hi:ix s (xs.drop k) with _ | i
  ·rw [hi] at hr
   exact ⟨hr.1,ht,_,hr.2,fun _=>rfl⟩
  ·rw [hi] at hr
   have e:=Nat.add_assoc k i s.length
   exact ⟨hr.1,ht,_,e ▸ hr.2,h2⟩
 ·rw [if_neg he]
  refine (runtil_err w p xs k fr er pl he T (by rw [hT,txt_size];exact hl) h1).mono ?_
  rintro e w' ⟨h3,ht,hr⟩
  exact ⟨h3,ht,_,hr,h2⟩
end
def wdR (L:List Nat) (er:Nat):List Nat × Nat × Nat:=if er=0 then (match nmP L with
 | .ok n=>(L.take n,n,0)
 | .error e=>([],0,e)) else ([],0,er)
def nmR (L:List Nat) (er:Nat):List Nat × Nat × Nat:=
 if (wdR L er).2.2=0∧[58] <+: L.drop (wdR L er).2.1 then
  ((wdR L er).1++58::(wdR (L.drop ((wdR L er).2.1+1)) 0).1,(wdR L er).2.1+1+(wdR (L.drop ((wdR L er).2.1+1)) 0).2.1,(wdR (L.drop ((wdR L er).2.1+1)) 0).2.2)
 else wdR L er
theorem nmP_22 {L:List Nat} {e:Nat} (h:nmP L = .error e):e=22:=by
 unfold nmP at h
 split at h
 ·cases h
 ·injection h with h;exact h.symm
theorem qnP_22 {L:List Nat} {e:Nat} (h:qnP L = .error e):e=22:=by
 unfold qnP at h
 split at h
 ·rename_i e1 h1
  injection h with h
  rw [←h];exact nmP_22 h1
 ·split at h
  ·split at h
   ·rename_i e1 h1
    injection h with h
    rw [←h];exact nmP_22 h1
   ·cases h
  ·cases h
theorem nmR_ok {L:List Nat} {n:Nat} (h:qnP L = .ok n):nmR L 0=(L.take n,n,0):=by
 unfold qnP at h
 unfold nmR wdR
 rcases h1:nmP L with e | i
 ·rw [h1] at h;cases h
 ·rw [h1] at h
  simp only at h
  by_cases hc:[58] <+: L.drop i
  ·rw [if_pos hc] at h
   rcases h2:nmP (L.drop (i+1)) with e | m
   ·rw [h2] at h;cases h
   ·rw [h2] at h
    injection h with h
    subst h
    simp only [if_true,hc,true_and,h2]
    rw [take_colon hc]
  ·rw [if_neg hc] at h
   injection h with h
   subst h
   simp [hc]
theorem nmR_err {L:List Nat} {e:Nat} (h:qnP L = .error e):(nmR L 0).2.2=22:=by
 unfold qnP at h
 unfold nmR wdR
 rcases h1:nmP L with e | i
 ·have:=nmP_22 h1
  subst this
  simp
 ·rw [h1] at h
  simp only at h
  by_cases hc:[58] <+: L.drop i
  ·rw [if_pos hc] at h
   rcases h2:nmP (L.drop (i+1)) with e | m
   ·have:=nmP_22 h2
    subst this
    simp [hc,h2]
   ·rw [h2] at h;cases h
  ·rw [if_neg hc] at h;cases h
theorem nmR_e {L:List Nat} {er:Nat} (he:er≠0):nmR L er=([],0,er):=by
 unfold nmR wdR
 simp [he]
end
end Go.Proofs.YtbogfailbgbdoaaGreatDoor.K
