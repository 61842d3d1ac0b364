/- Part 16. -/
import Derived.Lib.LaidU8
import Derived.Lib.TrimU
import Derived.Lib.TrimUEq
import Derived.Scope
import Derived.Test.YtbogfailbgbdoaaGreatDoorXB15
set_option linter.unusedVariables false
set_option linter.unusedSimpArgs false
namespace Go.Proofs.YtbogfailbgbdoaaGreatDoor.K
set_option maxRecDepth 100000
section
open Go.RowKit Go.Proofs.YtbogfailbgbdoaaGreatDoor U
theorem decode_own (s:ByteArray) (i:Nat) (h:i<s.size) (hx:128≤(s[i]'h).toNat):∀ j b,i≤j→j<i+(Utf8.decode s i).2→s.data.toList[j]? = some b→128≤b.toNat:=by
 intro j b h1 h2 hb
 have h0:s.data.toList[i]? = some (s[i]'h):=Lib.data_getElem? s i h
 rw [Lib.decode_N] at h2
 have g:∀ k c,s.data.toList[i+k]? = some c→(s.data.toList.getD (i+k) 0).toNat=c.toNat:=fun k c hc=>by
  rw [List.getD_eq_getElem?_getD,hc];rfl
 have g0:=g 0 _ h0
 rw [Nat.add_zero] at g0
 obtain ⟨k,rfl⟩:∃ k,j=i+k:=⟨j-i,by omega⟩
 have gk:=g k b hb
 rcases U.shape (s.data.toList.length-i) (s.data.toList.getD i 0).toNat (s.data.toList.getD (i+1) 0).toNat (s.data.toList.getD (i+2) 0).toNat (s.data.toList.getD (i+3) 0).toNat with ⟨c,e⟩ | ⟨c1,c2,c3,cv,e⟩ | ⟨c1,c2,c3,c4,cv,cs,e⟩ | ⟨c1,c2,c3,c4,c5,cv,cs,e⟩ | e
 ·omega
 ·rw [e] at h2
  simp only at h2
  have:k=0∨k=1:=by omega
  rcases this with rfl | rfl
  ·rw [Nat.add_zero] at gk;omega
  ·omega
 ·rw [e] at h2
  simp only at h2
  have:k=0∨k=1∨k=2:=by omega
  rcases this with rfl | rfl | rfl
  ·rw [Nat.add_zero] at gk;omega
  ·omega
  ·omega
 ·rw [e] at h2
  simp only at h2
  have:k=0∨k=1∨k=2∨k=3:=by omega
  rcases this with rfl | rfl | rfl | rfl
  ·rw [Nat.add_zero] at gk;omega
  ·omega
  ·omega
  ·omega
 ·rw [e] at h2
  simp only at h2
  have:k=0:=by omega
  subst this
  rw [Nat.add_zero] at gk;omega
theorem decode_fits (s:ByteArray) (i:Nat) (h:i<s.size):i+(Utf8.decode s i).2≤s.size:=by
 have hl:s.data.toList.length=s.size:=rfl
 rw [Lib.decode_N]
 rcases U.shape (s.data.toList.length-i) (s.data.toList.getD i 0).toNat (s.data.toList.getD (i+1) 0).toNat (s.data.toList.getD (i+2) 0).toNat (s.data.toList.getD (i+3) 0).toNat with ⟨c,e⟩ | ⟨c1,c2,c3,cv,e⟩ | ⟨c1,c2,c3,c4,cv,cs,e⟩ | ⟨c1,c2,c3,c4,c5,cv,cs,e⟩ | e
 all_goals (rw [e];simp only;omega)
theorem iterAt_h {w:World} {k:Nat} {s:ByteArray} {p:Nat} (hk:w.heap[k]? = some (.stringIter s p)) (q:Nat):(w.iterAt k s q).heap[k]? = some (.stringIter s q):=Lib.iterAt_heap w k s p q hk
theorem iter_below (w:World) (s:ByteArray) (i:Nat):Below w.heap.size w (w.iter s i):=⟨rfl,rfl,rfl,by simp [World.iter],fun k hk=>Lib.alloc_old w _ k hk⟩
def RBool (e:Ending):Prop:=∃ z:Bool,e = .returned (.bool z)
theorem valid_some (r:Int) (w:World):Calls Tryz.prog 106 #[.int .i32 r] w fun e w'=>RBool e∧w'=w:=by
 go_enter Tryz.func106,Tryz.ntmps106
 go_wp2
 all_goals go_ret
 all_goals exact ⟨⟨_,rfl⟩,rfl⟩
theorem encode_high (r:Nat) (h1:128≤r):(∃ a b,Utf8.encode (r:Int)=⟨#[a,b]⟩∧128≤b.toNat)∨(∃ a b c,Utf8.encode (r:Int)=⟨#[a,b,c]⟩)∨(∃ a b c d,Utf8.encode (r:Int)=⟨#[a,b,c,d]⟩):=by
 unfold Utf8.encode
 simp only
 have hc:128≤(if Utf8.valid (r:Int)=true then (r:Int).toNat else Utf8.runeError):=by
  split
  ·omega
  ·unfold Utf8.runeError;omega
 generalize (if Utf8.valid (r:Int)=true then (r:Int).toNat else Utf8.runeError)=c at hc
 rw [if_neg (by omega)]
 split
 ·refine .inl ⟨_,_,rfl,?_⟩
  simp
  omega
 split
 ·exact .inr (.inl ⟨_,_,_,rfl⟩)
 ·exact .inr (.inr ⟨_,_,_,_,rfl⟩)
set_option maxHeartbeats 3200000 in
theorem indexRune_high (r:Nat) (h1:128≤r) (h2:r≤1114111) (w:World) :
  Calls Tryz.prog 79 #[.string ⟨#[60,13]⟩,.int .i32 (r:Nat)] w fun e w'=>e = .returned (.int .i64 (-1))∧Below w.heap.size w w':=by
 have g1:¬((r:Int)<128):=by omega
 by_cases hr:r=65533
 ·subst hr
  go_enter Tryz.func79,Tryz.ntmps79
  go_wp2
  go_loopg [5,6] 2 (fun g _ _ wx=>∃ i,i+g=2∧wx=w.iter ⟨#[60,13]⟩ i)
  case atStart=>exact ⟨0,rfl,rfl⟩
  case round=>
   obtain ⟨i,hig,rfl⟩:=hrel
   have hi3:i=0∨i=1∨i=2:=by omega
   rcases hi3 with rfl | rfl | rfl
   ·have hnx:=fun ty=>run_next_ascii (P:=Tryz.prog) w ⟨#[60,13]⟩ 0 ty (by decide) (by decide)
    go_wp2
    go_roundg 1
    case measure=>omega
    case rel=>exact ⟨1,rfl,rfl⟩
   ·have hnx:=fun ty=>run_next_ascii (P:=Tryz.prog) w ⟨#[60,13]⟩ 1 ty (by decide) (by decide)
    go_wp2
    go_roundg 0
    case measure=>omega
    case rel=>exact ⟨2,rfl,rfl⟩
   ·have hnx:=fun ty=>run_next_end (P:=Tryz.prog) w ⟨#[60,13]⟩ 2 ty (by decide)
    go_wp2
    go_ret
    exact ⟨rfl,iter_below w _ _⟩
 ·have e1:((r:Int) == 65533)=false:=beq_eq_false_iff_ne.2 (by omega)
  have e2:¬(r:Int)=65533:=by omega
  have hconv:∀ W,(convert 21 9 (.int .i32 (r:Nat))).run Tryz.prog W = .ok (.string (Utf8.encode (r:Int))) W:=fun W=>by
   first
    | kernel_rfl
    | (simp [convert,go_sem,Tryz.underlying21,Tryz.underlying9];done)
  have HCV:=Lib.hid hconv
  have HI:Hid (∀ (W:World) (x:Nat),x≠13→x<256→Calls Tryz.prog 105 #[.string ⟨#[]⟩,.int .u8 (x:Nat)] W fun e w'=>e = .returned (.int .i64 (-1))∧w'=W):=Lib.hid fun W x hx hx2=>by
   refine (Any.strings_IndexByte (ρ := siany_ren) { siany with } ⟨#[]⟩ (x:Int) W).mono ?_
   rintro e w' ⟨rfl,rfl⟩
   exact ⟨rfl,rfl⟩
  clear hconv
  go_enter Tryz.func79,Tryz.ntmps79
  go_wp2_with (go_at_call 106;refine (valid_some _ _).mono ?_;rintro e w' ⟨⟨z,rfl⟩,rfl⟩;cases z)
  ·go_ret
   exact ⟨rfl,Below.refl _ _⟩
  ·refine wp_scope_straight ?_
   rcases encode_high r h1 with ⟨a,b,hE,hb⟩ | ⟨a,b,c,hE⟩ | ⟨a,b,c,d,hE⟩
   ·have hcv:=HCV.out
    rw [hE] at hcv
    have hb13:b.toNat≠13:=by omega
    have hbne:((13:Int) != (b.toNat:Int))=true:=bne_iff_ne.2 (by omega)
    have hbn2:¬(13:Int)=(b.toNat:Int):=by omega
    have hb256:=b.toNat_lt
    have HI2:=Lib.hid fun W=>HI.out W b.toNat hb13 hb256
    have hsl:∀ W,(Instr.slice 9 (.string ⟨#[60,13]⟩) (some (.int .i64 2)) none none).run Tryz.prog W = .ok (.string ⟨#[]⟩) W:=fun W=>by
     first
      | kernel_rfl
      | (simp [go_sem];done)
    have hwr2:IntKind.i64.wrap 2=2:=by decide
    have hq1:(((({ data := #[60,13] }:ByteArray)[1]'(by decide)).toNat:Int) != ((({ data := #[a,b] }:ByteArray)[1]'(by simp [ByteArray.size])).toNat:Int))=true:=hbne
    have hq2:¬((({ data := #[60,13] }:ByteArray)[1]'(by decide)).toNat:Int)=((({ data := #[a,b] }:ByteArray)[1]'(by simp [ByteArray.size])).toNat:Int):=hbn2
    clear h2 hr e1 e2 HI HCV hb256 hE h1
    go_wp2
    go_loopg [9,10] 0 (fun _ s9 _ wx=>wx=w'∧s9 = .int .i64 1)
    case atStart=>exact ⟨rfl,rfl⟩
    case round=>
     obtain ⟨rfl,rfl⟩:=hrel
     go_upto_region 6 with fail
     refine wp_scope_straight ?_
     go_upto_region 6 with fail
     go_quiet (fail)
     go_upto_region 7 with fail
     go_quiet ((go_at_call 105;refine (HI2.out _).mono ?_;rintro e w2 ⟨rfl,rfl⟩;exact ⟨rfl,_,rfl⟩))
     go_wp2
     simp only [Exit.noGoto,Exit.inBlock,Exit.then]
     go_ret
     exact ⟨rfl,below_drewN (Below.refl _ _) _⟩
   ·have hcv:=HCV.out
    rw [hE] at hcv
    go_wp2
    go_loopg [9,10] 0 (fun _ s9 _ wx=>wx=w'∧s9 = .int .i64 2)
    case atStart=>exact ⟨rfl,rfl⟩
    case round=>
     obtain ⟨rfl,rfl⟩:=hrel
     go_wp2
     simp only [Exit.noGoto,Exit.inBlock]
     go_ret
     exact ⟨rfl,Below.refl _ _⟩
   ·have hcv:=HCV.out
    rw [hE] at hcv
    go_wp2
    go_loopg [9,10] 0 (fun _ s9 _ wx=>wx=w'∧s9 = .int .i64 3)
    case atStart=>exact ⟨rfl,rfl⟩
    case round=>
     obtain ⟨rfl,rfl⟩:=hrel
     go_wp2
     simp only [Exit.noGoto,Exit.inBlock]
     go_ret
     exact ⟨rfl,Below.refl _ _⟩
set_option maxHeartbeats 3200000 in
theorem indexAny_short (S:ByteArray) (h8:S.size≤8) (w:World) :
  Calls Tryz.prog 55 #[.string S,.string ⟨#[60,13]⟩] w fun e w'=>e = .returned (.int .i64 (Lib.indexAny S.data.toList [60,13]))∧Below w.heap.size w w':=by
 have h8z:decide ((8:Int)<(S.size:Int))=false:=decide_eq_false (by omega)
 have H80:Hid (∀ W,Calls Tryz.prog 80 #[.int .i64 (S.size:Nat)] W fun e w'=>e = .returned (.bool false)∧w'=W):=Lib.hid fun W=>by
  go_enter Tryz.func80,Tryz.ntmps80
  go_wp2
  go_ret
  exact ⟨rfl,rfl⟩
 have HNO:=Lib.hid (fun (W:World) (r:Nat) (h1:128≤r) (h2:r≤1114111)=>indexRune_high r h1 h2 W)
 have HLO:Hid (∀ (W:World) (x:UInt8),x.toNat<128→Calls Tryz.prog 79 #[.string ⟨#[60,13]⟩,.int .i32 (x.toNat:Nat)] W fun e w'=>e = .returned (.int .i64 (Lib.indexByte [60,13] x))∧w'=W):=Lib.hid fun W x hx=>by
  refine (Any.strings_IndexRune_ascii (ρ := siany_ren) { siany with } ⟨#[60,13]⟩ (x.toNat:Int) W (by omega) (by omega)).mono ?_
  rintro e w' ⟨rfl,rfl⟩
  refine ⟨?_,rfl⟩
  simp
 have hlen:S.data.toList.length=S.size:=rfl
 go_enter Tryz.func55,Tryz.ntmps55
 go_wp2_with (go_at_call 80;(with_reducible refine (H80.out _).mono ?_);rintro e w' ⟨rfl,rfl⟩)
 go_loopg [9,10] S.size (fun g _ _ wx=>∃ i:Nat,i≤S.size∧S.size-i≤g∧wx.heap[w'.heap.size]? = some (.stringIter S i)∧Hid (Below w'.heap.size w' wx)∧Hid (Lib.NoAny S.data.toList [60,13] i))
 case atStart=>exact ⟨0,by omega,by omega,World.iter_heap _ _ _,Lib.hid (iter_below _ _ _),Lib.hid (Lib.NoAny.zero _ _)⟩
 case round=>
  obtain ⟨i,hi,hg,hk,hbw,hno⟩:=hrel
  by_cases hlt:i<S.size
  ·obtain ⟨x,hx⟩:∃ x:UInt8,S[i]'hlt=x:=⟨_,rfl⟩
   have hxl:S.data.toList[i]? = some x:=by rw [←hx];exact Lib.data_getElem? S i hlt
   by_cases hx8:x.toNat<128
   ·have hnx:=fun ty=>Lib.run_next_ascii_at (P:=Tryz.prog) wr w'.heap.size S i ty hk hlt (by rw [hx];exact hx8)
    rw [hx] at hnx
    have HH:=Lib.hid (iterAt_h hk (i+1))
    have HB:=Lib.hid (Lib.below_iterAt hbw.out (k:=w'.heap.size) (Nat.le_refl _) S (i+1))
    obtain ⟨w2,hw2⟩:∃ w2,w2=wr.iterAt w'.heap.size S (i+1):=⟨_,rfl⟩
    rw [←hw2] at hnx HH HB
    clear hw2
    have hcon:=Lib.contains_iff_indexByte [60,13] x
    have HX:=Lib.hid hxl
    cases hin:([60,13]:List UInt8).contains x
    ·rw [hin] at hcon
     have hlt0:¬((0:Int)≤Lib.indexByte [60,13] x):=of_decide_eq_false hcon.symm
     have HNN:=Lib.hid (hno.out.succ hxl hin)
     have HCL:=Lib.hid (HLO.out w2 x hx8)
     generalize Lib.indexByte [60,13] x=q at hlt0 HCL
     clear hcon hin hx hxl hk
     go_wp2_with (go_at_call 79;(with_reducible refine HCL.out.mono ?_);rintro e w3 ⟨rfl,rfl⟩)
     go_roundg (S.size-(i+1))
     case measure=>omega
     case rel=>exact ⟨i+1,by omega,by omega,HH.out,HB,HNN⟩
    ·rw [hin] at hcon
     have hge0:((0:Int)≤Lib.indexByte [60,13] x):=of_decide_eq_true hcon.symm
     have HRES:=Lib.hid (Lib.indexAny_hit hno.out hxl hin)
     have HCL:=Lib.hid (HLO.out w2 x hx8)
     generalize Lib.indexByte [60,13] x=q at hge0 HCL
     clear hcon hin hx hxl hk
     go_wp2_with (go_at_call 79;(with_reducible refine HCL.out.mono ?_);rintro e w3 ⟨rfl,rfl⟩)
     go_ret
     exact ⟨by rw [HRES.out];rfl,HB.out⟩
   ·have hhi:128≤(S[i]'hlt).toNat:=by rw [hx];omega
    have hnx:=fun ty=>Lib.run_next_any_at (P:=Tryz.prog) wr w'.heap.size S i ty hk hlt
    have hr1:=(decode_high S i hlt hhi).1
    have hr2:=Lib.rune_le S i
    have hr3:=Lib.width_pos S i
    have hr4:=decode_fits S i hlt
    have hown:=decode_own S i hlt hhi
    have hNN:Lib.NoAny S.data.toList [60,13] (i+(Utf8.decode S i).2):=fun j b hj hb=>by
     by_cases h1:j<i
     ·exact hno.out j b h1 hb
     ·have h2:=hown j b (by omega) hj hb
      have e1:b≠60:=fun e=>by subst e;revert h2;decide
      have e2:b≠13:=fun e=>by subst e;revert h2;decide
      simp [e1,e2]
    have HNN:=Lib.hid hNN
    generalize (Utf8.decode S i).2=n at hnx hr3 hr4 HNN
    obtain ⟨r,hr⟩:∃ r,r=(Utf8.decode S i).1:=⟨_,rfl⟩
    rw [←hr] at hnx hr1 hr2
    have HCL:=Lib.hid fun W=>HNO.out W r hr1 hr2
    have HH:=Lib.hid (iterAt_h hk (i+n))
    have HB:=Lib.hid (Lib.below_iterAt hbw.out (k:=w'.heap.size) (Nat.le_refl _) S (i+n))
    obtain ⟨w2,hw2⟩:∃ w2,w2=wr.iterAt w'.heap.size S (i+n):=⟨_,rfl⟩
    rw [←hw2] at hnx HH HB
    clear hw2 hr hown hNN hr1 hr2 hx hxl hk hhi
    go_wp2_with (go_at_call 79;(with_reducible refine (HCL.out _).mono ?_);rintro e w3 ⟨rfl,hb3⟩;have HB3:=Lib.hid (HB.out.trans (hb3.mono HB.out.size));have HH3:=Lib.hid ((hb3.block w'.heap.size (Array.getElem?_eq_some_iff.1 HH.out).1).trans HH.out);clear hb3)
    go_roundg (S.size-(i+n))
    case measure=>omega
    case rel=>exact ⟨i+n,by omega,by omega,HH3.out,HB3,HNN⟩
  ·obtain rfl:i=S.size:=by omega
   have hnx:=fun ty=>Lib.run_next_end_at (P:=Tryz.prog) wr w'.heap.size S S.size ty hk (by omega)
   have HRES:=Lib.hid (Lib.indexAny_none (s:=S.data.toList) (chars:=[60,13]) (by rw [hlen];exact hno.out))
   go_wp2
   go_ret
   exact ⟨by rw [HRES.out];rfl,hbw.out⟩
theorem indexAny_iff (cs:List UInt8):∀ l:List UInt8,(0≤Lib.indexAny l cs)↔∃ b∈l,cs.contains b=true
 | []=>by simp [Lib.indexAny]
 | b::l=>by
  have ih:=indexAny_iff cs l
  have hge:=Lib.indexAny_ge cs l
  unfold Lib.indexAny
  by_cases h:cs.contains b=true
  ·rw [if_pos h]
   exact ⟨fun _=>⟨b,by simp,h⟩,fun _=>Int.le_refl _⟩
  ·rw [if_neg h]
   by_cases h1:(Lib.indexAny l cs == -1)=true
   ·rw [if_pos h1]
    have h2:Lib.indexAny l cs = -1:=by simpa using h1
    constructor
    ·intro h3;omega
    ·rintro ⟨c,hc,hcc⟩
     rcases List.mem_cons.1 hc with rfl | hc
     ·exact absurd hcc h
     ·have:=ih.2 ⟨c,hc,hcc⟩
      omega
   ·rw [if_neg h1]
    have h2:Lib.indexAny l cs ≠ -1:=by simpa using h1
    constructor
    ·intro _
     obtain ⟨c,hc,hcc⟩:=ih.1 (by omega)
     exact ⟨c,List.mem_cons_of_mem _ hc,hcc⟩
    ·intro _;omega
theorem indexAny_all (S:ByteArray) (hl:S.size≤1000000) (w:World) :
  Calls Tryz.prog 55 #[.string S,.string ⟨#[60,13]⟩] w fun e w'=>e = .returned (.int .i64 (Lib.indexAny S.data.toList [60,13]))∧Below w.heap.size w w':=by
 by_cases h8:S.size≤8
 ·exact indexAny_short S h8 w
 ·refine (Any.strings_IndexAny_long (ρ := siany_ren) siany (fun w=>by kernel_rfl) (by kernel_rfl) S ⟨#[60,13]⟩ w (by decide) (by omega) (by omega) (by decide) (fun j b hj=>?_)).mono ?_
  ·have:b∈([60,13]:List UInt8):=List.mem_of_getElem? hj
   simp at this
   rcases this with rfl | rfl <;> decide
  ·rintro e w' ⟨rfl,rfl⟩
   exact ⟨rfl,((Below.refl w.heap.size w).alloc (Nat.le_refl _) _).alloc (by rw [alloc_size];omega) _⟩
set_option maxHeartbeats 1600000 in
theorem containsAny_any (xs:List Nat) (S:ByteArray) (hS:S=txt xs) (hb:Bs xs) (hl:xs.length≤1000000) (w:World) :
  Calls Tryz.prog 26 #[.string S,.string ⟨#[60,13]⟩] w fun e w'=>e = .returned (.bool (decide (60∈xs∨13∈xs)))∧Below w.heap.size w w':=by
 have K:=Lib.hid (indexAny_all S (by rw [hS,txt_size];exact hl) w)
 have hd:decide (0≤Lib.indexAny S.data.toList [60,13])=decide (60∈xs∨13∈xs):=by
  rw [decide_eq_decide,indexAny_iff,hS,txt_list]
  constructor
  ·rintro ⟨b,hbm,hc⟩
   obtain ⟨x,hx,rfl⟩:=List.mem_map.1 hbm
   have h256:=hb x hx
   simp only [List.contains_cons,List.contains_nil,Bool.or_false,Bool.or_eq_true,beq_iff_eq] at hc
   rcases hc with hc | hc
   ·left
    have:x=60:=ofNat_inj h256 (by decide) hc
    rw [←this];exact hx
   ·right
    have:x=13:=ofNat_inj h256 (by decide) hc
    rw [←this];exact hx
  ·rintro (h | h)
   ·exact ⟨UInt8.ofNat 60,List.mem_map_of_mem h,by decide⟩
   ·exact ⟨UInt8.ofNat 13,List.mem_map_of_mem h,by decide⟩
 generalize Lib.indexAny S.data.toList [60,13]=q at K hd
 generalize decide (60∈xs∨13∈xs)=z at hd ⊢
 clear hS hb hl
 have HD:=Lib.hid hd
 clear hd
 go_enter Tryz.func26,Tryz.ntmps26
 go_wp2_with (go_at_call 55;(with_reducible refine K.out.mono ?_);rintro e w1 ⟨rfl,hb1⟩;have HB1:=Lib.hid hb1;clear hb1)
 go_ret
 refine ⟨?_,HB1.out⟩
 rw [←HD.out]
 rfl
theorem contains_raw (xs:List Nat) (S:ByteArray) (hS:S=txt xs) (hb:Bs xs) (hl:xs.length≤1000000) (w:World) (hT:TU w) :
  Calls Tryz.prog 27 #[.string S,.string ⟨#[93,93,62]⟩] w fun e w'=>e = .returned (.bool (ix [93,93,62] xs).isSome)∧w'=w:=by
 obtain ⟨m,hm⟩:=hT.len
 refine (Any.strings_Contains scon S ⟨#[93,93,62]⟩ m w (by rw [hS,txt_size];omega) hm).mono ?_
 rintro e w' ⟨rfl,rfl⟩
 refine ⟨?_,rfl⟩
 have e1:=ix_lib (s:=[93,93,62]) (L:=xs) (fun x hx=>by simp at hx;omega) hb
 unfold Lib.contains
 rw [hS,txt_list,show (⟨#[93,93,62]⟩:ByteArray).data.toList=u8L [93,93,62] from rfl,e1]
 rcases hi:ix [93,93,62] xs with _ | i
 ·rfl
 ·rw [show ixI (some i)=(i:Int) from rfl,decide_eq_true (by omega)];rfl
set_option maxHeartbeats 3200000 in
theorem text_any (xs:List Nat) (S:ByteArray) (hS:S=txt xs) (hb:Bs xs) (w:World) (hl:xs.length≤1000000) (hT:TT w) :
  Calls Tryz.prog 14 #[.string S] w fun e w'=>e = .returned (tdR (txP xs))∧Below w.heap.size w w':=by
 have hz:S.size=xs.length:=by rw [hS];exact txt_size xs
 have hbt:bts S=xs:=by rw [hS];exact bts_txt hb
 obtain ⟨NEW,CAP,hcvt,hnb,hnl⟩:=text_run S (by omega)
 rw [hbt] at hnl
 obtain ⟨N,hN⟩:∃ N,N=xs.length:=⟨_,rfl⟩
 rw [hz,←hN] at hcvt
 have KC:Hid (Calls Tryz.prog 21 #[.slice (some ⟨w.heap.size,0,none⟩) N (CAP w)] (NEW w) fun e w'=>e = .returned (.tuple #[.int .i64 ((alA charP xs).1:Nat),.bool (alA charP xs).2])∧Below (NEW w).heap.size (NEW w) w'):=
  Lib.hid (by rw [hN];exact Check_any (some ⟨w.heap.size,0,none⟩) (CAP w) xs (NEW w) (hnl w) (by omega) (hT.tu.grow (hnb w)))
 have HB1:=Lib.hid (hnb w)
 have HTT:Hid (∀ W,Below w.heap.size w W→TT W):=Lib.hid fun W hW=>hT.grow hW
 have K26:=Lib.hid fun W=>containsAny_any xs S hS hb hl W
 have K27:=Lib.hid fun W (hW:TT W)=>contains_raw xs S hS hb hl W hW.tu
 have K28:=Lib.hid fun W (hW:TT W)=>told_any xs S hS hb W hl hW
 obtain ⟨R,hR⟩:∃ R,R=txP xs:=⟨_,rfl⟩
 rw [←hR]
 unfold txP at hR
 rcases hal:al charP xs 0 with _ | k
 ·have ha:alA charP xs=(0,true):=by unfold alA;rw [hal];rfl
  rw [ha] at KC
  rw [hal] at hR
  by_cases h1:60∈xs∨13∈xs
  ·have HR:Hid (R=none):=Lib.hid (by rw [hR,if_neg];rintro ⟨_,h2,h3,_⟩;rcases h1 with h1 | h1;exact h2 h1;exact h3 h1)
   rw [decide_eq_true h1] at K26
   clear hal ha hz hbt hnb hnl hb hT hS hN hl hR K27 K28 h1
   go_enter Tryz.func14,Tryz.ntmps14
   go_wp2_with (first
    | (go_at_call 21;(with_reducible refine KC.out.mono ?_);rintro e w2 ⟨rfl,hb2⟩;have HB2:=Lib.hid (HB1.out.trans (hb2.mono HB1.out.size));clear hb2)
    | (go_at_call 26;(with_reducible refine (K26.out w2).mono ?_);rintro e w3 ⟨rfl,hb3⟩;have HB3:=Lib.hid (HB2.out.trans (hb3.mono HB2.out.size));clear hb3))
   go_ret2
   exact ⟨by rw [HR.out];rfl,HB3.out⟩
  ·rw [decide_eq_false h1] at K26
   rcases hix:ix [93,93,62] xs with _ | i
   ·rw [hix] at K27 hR
    have HR:Hid (R=told xs):=Lib.hid (by rw [hR,if_pos ⟨rfl,fun h=>h1 (.inl h),fun h=>h1 (.inr h),rfl⟩])
    rw [←HR.out] at K28
    clear hal ha hz hbt hnb hnl hb hT hS hN hl hR h1 hix
    have K27:Hid (∀ W,TT W→Calls Tryz.prog 27 #[.string S,.string ⟨#[93,93,62]⟩] W fun e w'=>e = .returned (.bool false)∧w'=W):=K27
    rcases hr:R with _ | v
    ·rw [hr] at K28
     unfold tdR at K28
     simp only at K28
     clear hr HR
     go_enter Tryz.func14,Tryz.ntmps14
     go_wp2_with (first
      | (go_at_call 21;(with_reducible refine KC.out.mono ?_);rintro e w2 ⟨rfl,hb2⟩;have HB2:=Lib.hid (HB1.out.trans (hb2.mono HB1.out.size));clear hb2)
      | (go_at_call 26;(with_reducible refine (K26.out w2).mono ?_);rintro e w3 ⟨rfl,hb3⟩;have HB3:=Lib.hid (HB2.out.trans (hb3.mono HB2.out.size));clear hb3)
      | (go_at_call 27;(with_reducible refine (K27.out w3 (HTT.out w3 HB3.out)).mono ?_);rintro e w4 ⟨rfl,rfl⟩)
      | (go_at_call 28;(with_reducible refine (K28.out _ (HTT.out _ HB3.out)).mono ?_);rintro e w5 ⟨rfl,hb5⟩;have HB5:=Lib.hid (HB3.out.trans (hb5.mono HB3.out.size));clear hb5))
     go_ret2
     exact ⟨rfl,HB5.out⟩
    ·rw [hr] at K28
     unfold tdR at K28
     simp only at K28
     clear hr HR
     go_enter Tryz.func14,Tryz.ntmps14
     go_wp2_with (first
      | (go_at_call 21;(with_reducible refine KC.out.mono ?_);rintro e w2 ⟨rfl,hb2⟩;have HB2:=Lib.hid (HB1.out.trans (hb2.mono HB1.out.size));clear hb2)
      | (go_at_call 26;(with_reducible refine (K26.out w2).mono ?_);rintro e w3 ⟨rfl,hb3⟩;have HB3:=Lib.hid (HB2.out.trans (hb3.mono HB2.out.size));clear hb3)
      | (go_at_call 27;(with_reducible refine (K27.out w3 (HTT.out w3 HB3.out)).mono ?_);rintro e w4 ⟨rfl,rfl⟩)
      | (go_at_call 28;(with_reducible refine (K28.out _ (HTT.out _ HB3.out)).mono ?_);rintro e w5 ⟨rfl,hb5⟩;have HB5:=Lib.hid (HB3.out.trans (hb5.mono HB3.out.size));clear hb5))
     go_ret2
     exact ⟨rfl,HB5.out⟩
   ·rw [hix] at K27 hR
    have HR:Hid (R=none):=Lib.hid (by rw [hR,if_neg];rintro ⟨_,_,_,h⟩;cases h)
    have K27:Hid (∀ W,TT W→Calls Tryz.prog 27 #[.string S,.string ⟨#[93,93,62]⟩] W fun e w'=>e = .returned (.bool true)∧w'=W):=K27
    clear hal ha hz hbt hnb hnl hb hT hS hN hl hR h1 hix K28
    go_enter Tryz.func14,Tryz.ntmps14
    go_wp2_with (first
     | (go_at_call 21;(with_reducible refine KC.out.mono ?_);rintro e w2 ⟨rfl,hb2⟩;have HB2:=Lib.hid (HB1.out.trans (hb2.mono HB1.out.size));clear hb2)
     | (go_at_call 26;(with_reducible refine (K26.out w2).mono ?_);rintro e w3 ⟨rfl,hb3⟩;have HB3:=Lib.hid (HB2.out.trans (hb3.mono HB2.out.size));clear hb3)
     | (go_at_call 27;(with_reducible refine (K27.out w3 (HTT.out w3 HB3.out)).mono ?_);rintro e w4 ⟨rfl,rfl⟩))
    go_ret2
    exact ⟨by rw [HR.out];rfl,HB3.out⟩
 ·have ha:alA charP xs=(k,false):=by unfold alA;rw [hal];rfl
  rw [ha] at KC
  have HR:Hid (R=none):=Lib.hid (by rw [hR,hal,if_neg];rintro ⟨h,_⟩;cases h)
  clear hal ha hz hbt hnb hnl hb hT hS hN hl hR K26 K27 K28
  go_enter Tryz.func14,Tryz.ntmps14
  go_wp2_with (go_at_call 21;(with_reducible refine KC.out.mono ?_);rintro e w2 ⟨rfl,hb2⟩;have HB2:=Lib.hid (HB1.out.trans (hb2.mono HB1.out.size));clear hb2)
  go_ret2
  exact ⟨by rw [HR.out];rfl,HB2.out⟩
def Bw (b R:Nat) (p:Value) (L:List Nat) (w:World):Prop:=b<R∧∃ v,w.heap[b]? = some (.cells #[p,v] 68 (0,0))∧w.ownsRow R 5 1 v L.length (u8s L)
def Bw1 (b R:Nat) (L:List Nat) (w:World):Prop:=Bw b R (.pointer (some ⟨b,0,none⟩)) L w
def Bwo (b R:Nat) (L:List Nat) (w:World):Prop:=Bw b R (.pointer none) L w∨Bw1 b R L w
theorem Bw1.o {b R:Nat} {L:List Nat} {w:World} (h:Bw1 b R L w):Bwo b R L w := .inr h
theorem Bw.bu {b R:Nat} {p:Value} {L:List Nat} {w:World} (h:Bw b R p L w):Lib.BuilderAt 68 5 b b p (u8s L) w:=by
 obtain ⟨hb,v,h1,h2⟩:=h
 exact ⟨Nat.le_refl _,v,h1,by rw [u8s_len];exact own_base h2 (by omega),fun e=>by have:=(h2.lt b e).1;omega⟩
theorem Bwo.bu {b R:Nat} {L:List Nat} {w:World} (h:Bwo b R L w):Bu b b L w:=by
 rcases h with h | h
 ·exact .inl h.bu
 ·exact .inr h.bu
theorem Bw.touch {b R:Nat} {p:Value} {L:List Nat} {w w':World} {S:Nat→Prop} (h:Bw b R p L w) (ht:Touch S w w') (hS:∀ k,S k→k≠b∧k<R):Bw b R p L w':=by
 obtain ⟨hb,v,h1,h2⟩:=h
 refine ⟨hb,v,(ht.block b (Array.getElem?_eq_some_iff.1 h1).1 fun e=>(hS b e).1 rfl).trans h1,ownsRow_touch h2 ht fun k hk e=>?_⟩
 have:=(h2.lt k hk).1
 have:=(hS k e).2
 omega
theorem Bwo.below {b R:Nat} {L:List Nat} {w w':World} (h:Bwo b R L w) (hb:Below w.heap.size w w'):Bwo b R L w':=by
 have ht:Touch (fun _=>False) w w':=Touch.of_below hb
 rcases h with h | h
 ·exact .inl (Bw.touch h ht fun _ e=>e.elim)
 ·exact .inr (Bw.touch h ht fun _ e=>e.elim)
theorem Bwo.fresh (w:World) (R:Nat) (hR:w.heap.size<R):Bwo w.heap.size R [] (w.alloc (.cells #[.pointer none,.slice none 0 0] 68)):=
 .inl ⟨hR,.slice none 0 0,heap_alloc_new w _,World.ownsRow_nil _ _ _ _⟩
theorem Bw.put {b R:Nat} {p v v':Value} {L:List Nat} {w:World} (hb:b<R) (h1:w.heap[b]? = some (.cells #[p,v] 68 (0,0))) (h2:w.ownsRow R 5 1 v' L.length (u8s L)):Bw b R p L (w.setCell ⟨b,1,none⟩ v'):=by
 refine ⟨hb,v',?_,?_⟩
 ·simp [World.setCell,Array.getElem?_modify,h1]
 ·exact ownsRow_touch h2 (S:=fun k=>k=b) ((Touch.refl _ w).setCell ⟨b,1,none⟩ v' (.inl rfl)) fun k hk e=>by have:=(h2.lt k hk).1;omega
abbrev BT (b R:Nat):Nat→Prop:=fun k=>k=b∨R≤k
theorem copyCheck_r (b R:Nat) (L:List Nat) (w:World) (h:Bwo b R L w) :
  Calls Tryz.prog 63 #[.pointer (some ⟨b,0,none⟩)] w fun e w'=>e = .returned (.tuple #[])∧Bw1 b R L w'∧Touch (BT b R) w w':=by
 rcases h with h | h
 ·have hbu:=h.bu
  refine (copyCheck_fresh b w hbu.cell0 hbu.shape hbu.frozen0).mono ?_
  rintro e w' ⟨rfl,rfl⟩
  have ht:Touch (fun k=>k=b) w (w.setCell ⟨b,0,none⟩ (.pointer (some ⟨b,0,none⟩))):=(Touch.refl _ w).setCell ⟨b,0,none⟩ _ (.inl rfl)
  refine ⟨rfl,?_,ht.mono fun k e => .inl e⟩
  obtain ⟨hb,v,h1,h2⟩:=h
  refine ⟨hb,v,?_,?_⟩
  ·simp [World.setCell,Array.getElem?_modify,h1]
  ·exact ownsRow_touch h2 ht fun k hk e=>by have:=(h2.lt k hk).1;omega
 ·refine (copyCheck_used b w h.bu.cell0).mono ?_
  rintro e w' ⟨rfl,rfl⟩
  exact ⟨rfl,h,Touch.refl _ _⟩
set_option maxHeartbeats 1600000 in
theorem writeString_r (b R:Nat) (L s:List Nat) (S:ByteArray) (hS:S=txt s) (w:World) (hs:Bs s) (h:Bwo b R L w) (hlen:L.length+s.length≤100000000) (hR:R≤w.heap.size) :
  Calls Tryz.prog 34 #[.pointer (some ⟨b,0,none⟩),.string S] w fun e w'=>(∃ r,e = .returned r)∧Bw1 b R (L++s) w'∧Touch (BT b R) w w':=by
 subst hS
 obtain ⟨i0,hi,hz0,hz1,hz2⟩:=info_parts xbld.infoByte
 have K:=Lib.hid (copyCheck_r b R L w h)
 have hcs:=strCells_txt s hs
 have hz:=txt_size s
 clear h
 go_enter Tryz.func34,Tryz.ntmps34
 go_wp2_with (go_at_call 63;(with_reducible refine K.out.mono ?_))
 rintro e w1 ⟨rfl,h1,hb1⟩
 obtain ⟨hB,v,hbk,hown⟩:=h1
 have c0:w1.cell? ⟨b,0,none⟩=some (.pointer (some ⟨b,0,none⟩)):=by rw [Lib.cell_of_heap hbk];rfl
 have c1:w1.cell? ⟨b,1,none⟩=some v:=by rw [Lib.cell_of_heap hbk];rfl
 go_wp2_with (at_builtin;refine Lib.wpList_append_own_string _ rfl _ _ 22 9 rfl R 5 i0 Tryz.underlying22 Tryz.underlying9 hi hz0 hz1 hz2 _ _ _ rfl hown (txt s) rfl ?c3 ?c4 ?c5 ?_)
 case c3=>rw [hz];unfold maxLen;omega
 case c4=>rw [hz];omega
 case c5=>have:=hb1.size;omega
 intro v' w2 hown' hgrow _
 have hlt:b<w1.heap.size:=(Array.getElem?_eq_some_iff.1 hbk).1
 have hb2:w2.heap[b]? = some (.cells #[.pointer (some ⟨b,0,none⟩),v] 68 (0,0)):=by
  rw [hgrow.block b hlt (fun e=>by have:=(hown.lt b e.symm).1;omega)]
  exact hbk
 have d0:w2.cell? ⟨b,0,none⟩=some (.pointer (some ⟨b,0,none⟩)):=by rw [Lib.cell_of_heap hb2];rfl
 have d1:w2.cell? ⟨b,1,none⟩=some v:=by rw [Lib.cell_of_heap hb2];rfl
 have f1:w2.frozen? ⟨b,1,none⟩=false:=Lib.frozen_of_heap hb2 1
 obtain ⟨ao,cap,rfl⟩:=own_shape' hown'
 rw [u8s_app] at hown'
 have ht2:=hb1.grown hgrow (fun k hk => .inl (.inr (hown.lt k hk).1))
 go_wp2
 go_ret2
 refine ⟨⟨_,rfl⟩,Bw.put hB hb2 (L:=L++s) (by rw [List.length_append];exact hown'),ht2.setCell ⟨b,1,none⟩ _ (.inl (.inl rfl))⟩
set_option maxHeartbeats 1600000 in
theorem writeByte_r (b R:Nat) (L:List Nat) (x:Nat) (w:World) (h:Bwo b R L w) (hlen:L.length+1≤100000000) (hR:R≤w.heap.size) :
  Calls Tryz.prog 35 #[.pointer (some ⟨b,0,none⟩),.int .u8 (x:Nat)] w fun e w'=>(∃ r,e = .returned r)∧Bw1 b R (L++[x]) w'∧Touch (BT b R) w w':=by
 obtain ⟨i0,hi,hz0,hz1,hz2⟩:=info_parts xbld.infoByte
 have K:=Lib.hid (copyCheck_r b R L w h)
 clear h
 go_enter Tryz.func35,Tryz.ntmps35
 go_wp2_with (go_at_call 63;(with_reducible refine K.out.mono ?_))
 rintro e w1 ⟨rfl,h1,hb1⟩
 obtain ⟨hB,v,hbk,hown⟩:=h1
 have c0:w1.cell? ⟨b,0,none⟩=some (.pointer (some ⟨b,0,none⟩)):=by rw [Lib.cell_of_heap hbk];rfl
 have c1:w1.cell? ⟨b,1,none⟩=some v:=by rw [Lib.cell_of_heap hbk];rfl
 have hsz:=hb1.size
 have hown2:=ownsRow_below hown (lit_below w1 (.cells #[.int .u8 (x:Nat)] 5))
 go_wp2_with (at_builtin;refine wpList_append_x at22 rfl (.tmp 11) (.tmp 13) rfl R v (.slice (some ⟨w1.heap.size,0,none⟩) 1 1) L.length 1 (u8s L) [.int .u8 (x:Nat)] rfl rfl hown2 (cells_one _ _ _) rfl (by intro u hu;rw [List.mem_singleton] at hu;subst hu;rfl) (by rw [alloc_size];omega) (by omega) (by omega) ?_)
 intro ao cap w2 hA
 have hlt:b<w1.heap.size:=(Array.getElem?_eq_some_iff.1 hbk).1
 have hb1':(w1.alloc (.cells #[.int .u8 (x:Nat)] 5)).heap[b]? = some (.cells #[.pointer (some ⟨b,0,none⟩),v] 68 (0,0)):=((lit_below w1 _).block b hlt).trans hbk
 have hb2:w2.heap[b]? = some (.cells #[.pointer (some ⟨b,0,none⟩),v] 68 (0,0)):=(hA.touch.block b (by rw [alloc_size];omega) (fun e=>by have:=(hown.lt b e).1;omega)).trans hb1'
 have d0:w2.cell? ⟨b,0,none⟩=some (.pointer (some ⟨b,0,none⟩)):=by rw [Lib.cell_of_heap hb2];rfl
 have d1:w2.cell? ⟨b,1,none⟩=some v:=by rw [Lib.cell_of_heap hb2];rfl
 have f1:w2.frozen? ⟨b,1,none⟩=false:=Lib.frozen_of_heap hb2 1
 have hown':=hA.own
 rw [show ([Value.int .u8 (x:Nat)]:List Value)=u8s [x] from rfl,u8s_app] at hown'
 have hBl:Touch (BT b R) w1 w2:=hA.alloc.touch.mono fun k hk => .inr (hown.lt k hk).1
 clear hA
 go_wp2
 go_ret
 refine ⟨⟨_,rfl⟩,Bw.put hB hb2 (L:=L++[x]) (by rw [List.length_append];exact hown'),(hb1.trans hBl).setCell ⟨b,1,none⟩ _ (.inl (.inl rfl))⟩
def esR (q:Bool) (c:Nat):List Nat:=
 if c=38 then [38,97,109,112,59] else if c=60 then [38,108,116,59] else if c=62 then [38,103,116,59] else if c=13 then [38,35,49,51,59]
 else if q=true∧c=34 then [38,113,117,111,116,59] else if q=true∧c=9 then [38,35,57,59] else if q=true∧c=10 then [38,35,49,48,59] else []
theorem esc1_esR (q:Bool) (c:Nat):esc1 q c=if esR q c=[] then [c] else esR q c:=by
 unfold esc1 esR
 repeat' split
 all_goals first
  | rfl
  | (exfalso;simp_all)
theorem escaped_any (q:Bool) (c:Nat) (hc:c<256) (w:World) :
  Calls Tryz.prog 33 #[.int .u8 (c:Nat),.bool q] w fun e w'=>e = .returned (.string (txt (esR q c)))∧w'=w:=by
 obtain ⟨R,hR⟩:∃ R,R=txt (esR q c):=⟨_,rfl⟩
 rw [←hR]
 have HR:=Lib.hid hR
 clear hR
 cases q
 all_goals (
  go_enter Tryz.func33,Tryz.ntmps33
  go_wp2
  all_goals go_ret
  all_goals (refine ⟨?_,rfl⟩;rw [HR.out];unfold esR)
  all_goals (repeat' split)
  all_goals first
   | rfl
   | (exfalso;omega)
   | (exfalso;simp_all;done)
   | (exfalso;simp_all;omega))
def esA (q:Bool) (s:List Nat):Value:=if al charP s 0=none then .tuple #[.string (txt (esc q s)),.bool true] else .tuple #[.string ⟨#[]⟩,.bool false]
theorem esc_take (q:Bool) {L:List Nat} {j:Nat} (h:j<L.length):esc q (L.take (j+1))=esc q (L.take j)++esc1 q (L.getD j 0):=by
 have e:L.getD j 0=L[j]:=by simp [List.getD,h]
 rw [take_next L j h,esc_app,esc_cons,esc_nil,List.append_nil,e]
theorem sl_bt {w5 W:World} {g cp b R:Nat} {xs:List Nat} (hs:Sl w5 (some ⟨g,0,none⟩) cp xs) (hW:Touch (BT b R) w5 W) (hgb:g≠b) (hR:R=w5.heap.size):Sl W (some ⟨g,0,none⟩) cp xs:=by
 refine ⟨hs.src.touch hW fun b' off e hne hbt=>?_,hs.le,hs.big,hs.nil,hs.bs⟩
 injection e with e
 injection e with e1 e2
 subst e1
 rcases hs.src with h0 | ⟨b2,off2,e2,hc⟩
 ·exact hne h0
 ·injection e2 with e2
  injection e2 with e3 e4
  have h1:=hc 0 (List.length_pos_iff.2 hne)
  rw [←e3] at h1
  have:=World.block_lt_of_cell? _ _ h1
  simp only at this
  rcases hbt with hbt | hbt
  ·exact hgb hbt
  ·omega
set_option maxHeartbeats 6400000 in
theorem escape_any (xs:List Nat) (S:ByteArray) (hS:S=txt xs) (hb:Bs xs) (q:Bool) (w:World) (hl:xs.length≤1000000) (hT:TT w) :
  Calls Tryz.prog 18 #[.string S,.bool q] w fun e w'=>e = .returned (esA q xs)∧Below w.heap.size w w':=by
 have hz:S.size=xs.length:=by rw [hS];exact txt_size xs
 have hbt:bts S=xs:=by rw [hS];exact bts_txt hb
 obtain ⟨NEW,CAP,hcvt,hnb,hnl⟩:=text_run S (by omega)
 rw [hbt] at hnl
 obtain ⟨N,hN⟩:∃ N,N=xs.length:=⟨_,rfl⟩
 have HN:=Lib.hid hN
 rw [hz,←hN] at hcvt
 have KC:Hid (Calls Tryz.prog 21 #[.slice (some ⟨w.heap.size,0,none⟩) N (CAP w)] (NEW w) fun e w'=>e = .returned (.tuple #[.int .i64 ((alA charP xs).1:Nat),.bool (alA charP xs).2])∧Below (NEW w).heap.size (NEW w) w'):=
  Lib.hid (by rw [hN];exact Check_any (some ⟨w.heap.size,0,none⟩) (CAP w) xs (NEW w) (hnl w) (by omega) (hT.tu.grow (hnb w)))
 have HB1:=Lib.hid (hnb w)
 have HNB:=Lib.hid hnb
 have HNL:=Lib.hid hnl
 have HBS:=Lib.hid hb
 have HL:N≤1000000:=by omega
 unfold esA
 rcases hal:al charP xs 0 with _ | k
 ·have ha:alA charP xs=(0,true):=by unfold alA;rw [hal];rfl
  rw [ha] at KC
  rw [if_pos rfl]
  obtain ⟨RR,hRR⟩:∃ RR,RR=txt (esc q xs):=⟨_,rfl⟩
  rw [←hRR]
  have HRR:=Lib.hid hRR
  clear hal ha hz hbt hnb hnl hb hT hS hN hRR hl
  go_enter Tryz.func18,Tryz.ntmps18
  go_wp2_with (go_at_call 21;(with_reducible refine KC.out.mono ?_);rintro e w2 ⟨rfl,hb2⟩;have HB2:=Lib.hid (HB1.out.trans (hb2.mono HB1.out.size));clear hb2)
  have hlit:=lit_below w2 (.cells #[.pointer none,.slice none 0 0] 68)
  obtain ⟨w3,hw3⟩:∃ w3,w3=w2.alloc (.cells #[.pointer none,.slice none 0 0] 68):=⟨_,rfl⟩
  rw [←hw3] at hlit ⊢
  have hz3:w3.heap.size=w2.heap.size+1:=by rw [hw3,alloc_size]
  obtain ⟨b,hb⟩:∃ b,b=w2.heap.size:=⟨_,rfl⟩
  obtain ⟨g,hg⟩:∃ g,g=w3.heap.size:=⟨_,rfl⟩
  obtain ⟨cp,hcp⟩:∃ cp,cp=CAP w3:=⟨_,rfl⟩
  obtain ⟨w5,hw5⟩:∃ w5,w5=NEW w3:=⟨_,rfl⟩
  obtain ⟨R,hR⟩:∃ R,R=w5.heap.size:=⟨_,rfl⟩
  have hb5:=HNB.out w3
  have hs5:=HNL.out w3
  rw [←hw5] at hb5 hs5
  rw [←hg,←hcp] at hs5
  have hb5R:R=w5.heap.size:=hR
  have hbR:b<R:=by have:=hb5.size;omega
  have HSL:Hid (∀ W,Touch (BT b R) w5 W→Sl W (some ⟨g,0,none⟩) cp xs):=Lib.hid fun W hW=>sl_bt hs5 hW (by omega) hR
  have HBW0:Hid (Bwo b R [] w5):=Lib.hid (by
   have h0:=Bwo.fresh w2 R (by omega)
   rw [←hw3,←hb] at h0
   exact h0.below hb5)
  have HBel:Hid (∀ W,Touch (BT b R) w5 W→Below w.heap.size w W):=Lib.hid fun W hW=>by
   have hs2:=HB2.out.size
   refine ((HB2.out.trans (hlit.mono hs2)).trans (hb5.mono (by omega))).trans (hW.below (by have:=hb5.size;omega) fun k hk=>?_)
   rcases hk with hk | hk <;> omega
  have HBG:Hid (b<g):=Lib.hid (by omega)
  have HRs:Hid (∀ W,Touch (BT b R) w5 W→R≤W.heap.size):=Lib.hid fun W hW=>by rw [hR];exact hW.size
  have HBR:Hid (b<R):=Lib.hid hbR
  have HBwb:Hid (w.heap.size≤b):=Lib.hid (by rw [hb];exact HB2.out.size)
  have eg:w2.heap.size+1=g:=by rw [hg,hz3]
  have eb:w2.heap.size=b:=hb.symm
  have ec:CAP w3=cp:=hcp.symm
  have ew:NEW w3=w5:=hw5.symm
  have hcv:=hcvt w3
  have EG:=Lib.hid eg
  have EB:=Lib.hid eb
  have EC:=Lib.hid ec
  have EW:=Lib.hid ew
  rw [hz3] at hcv
  clear hcvt hb5 hs5 hR hb5R hbR hlit hw3 hz3 hb hg hcp hw5 eg eb ec ew
  go_wp2
  rw [EG.out,EB.out,EC.out,EW.out]
  clear hcv
  go_loopw [23] (fun vi wr=>∃ j:Nat,j≤N∧vi = .int .i64 (j:Nat)∧Hid (Bwo b R (esc q (xs.take j)) wr)∧Hid (Touch (BT b R) w5 wr)) (fun vi _=>N-(intOf vi).toNat)
  case atStart=>exact ⟨0,Nat.zero_le _,rfl,HBW0,Lib.hid (Touch.refl _ _)⟩
  case round=>
   obtain ⟨j,hj,rfl,hbw,htw⟩:=hrel
   have HRW:=Lib.hid (HRs.out wr htw.out)
   by_cases hlt:j<N
   ·have hji:(j:Int)<N:=by omega
    have hjx:j<xs.length:=by rw [←HN.out];exact hlt
    have hcell:=(HSL.out wr htw.out).cell j hjx
    rw [Nat.zero_add] at hcell
    have hx:=HBS.out.at j
    have hes:=esc_take q hjx
    have hel:=esc_len q (xs.take j)
    rw [List.length_take] at hel
    obtain ⟨x,hxx⟩:∃ x,x=xs.getD j 0:=⟨_,rfl⟩
    rw [←hxx] at hcell hes hx
    rw [esc1_esR] at hes
    have KE:=Lib.hid fun W=>escaped_any q x hx W
    have HBE:Bs (esR q x):=by
     have h1:=esc1_bs (q:=q) hx
     rw [esc1_esR] at h1
     by_cases he:esR q x=[]
     ·rw [he];exact Bs.nil
     ·rw [if_neg he] at h1;exact h1
    have hrl:=(esc1_len q x).1
    rw [esc1_esR] at hrl
    generalize esR q x=E at KE hes HBE hrl
    generalize esc q (xs.take j)=A at hes hel hbw
    have hAl:A.length≤6000000:=by omega
    by_cases hE:E=[]
    ·subst hE
     rw [if_pos rfl] at hes
     have HES:=Lib.hid hes
     have KE:Hid (∀ W,Calls Tryz.prog 33 #[.int .u8 (x:Nat),.bool q] W fun e w'=>e = .returned (.string ⟨#[]⟩)∧w'=W):=KE
     have KW:=Lib.hid fun (W:World) (hW:W=wr)=>writeByte_r b R A x W (by rw [hW];exact hbw.out) (by omega) (by rw [hW];exact HRW.out)
     clear hes hxx hel HBE hrl
     go_wp2_with (first
      | (go_at_call 33;(with_reducible refine (KE.out _).mono ?_);rintro e w6 ⟨rfl,rfl⟩)
      | (go_at_call 35;(with_reducible refine (KW.out _ rfl).mono ?_);rintro e w7 ⟨⟨r7,rfl⟩,h7,ht7⟩;have HB7:=Lib.hid h7.o;have HT7:=Lib.hid (htw.out.trans ht7);clear h7 ht7))
     refine ⟨⟨j+1,by omega,by go_num,?_,HT7⟩,?_⟩
     ·rw [HES.out];exact HB7
     ·simp [intOf];omega
    ·rw [if_neg hE] at hes hrl
     have HES:=Lib.hid hes
     obtain ⟨T,hT⟩:∃ T,T=txt E:=⟨_,rfl⟩
     rw [←hT] at KE
     have hTn:T.toList≠[]:=by rw [hT,ByteArray.toList_eq,txt_list];intro e;apply hE;simpa [u8L] using e
     have hTe:T.toList.isEmpty=false:=by
      cases hq:T.toList with
      | nil=>exact absurd hq hTn
      | cons _ _=>rfl
     have KW:=Lib.hid fun (W:World) (hW:W=wr)=>writeString_r b R A E T hT W HBE (by rw [hW];exact hbw.out) (by omega) (by rw [hW];exact HRW.out)
     clear hes hxx hel HBE hrl hT hE
     go_wp2_with (first
      | (go_at_call 33;(with_reducible refine (KE.out _).mono ?_);rintro e w6 ⟨rfl,rfl⟩)
      | (go_at_call 34;(with_reducible refine (KW.out _ rfl).mono ?_);rintro e w7 ⟨⟨r7,rfl⟩,h7,ht7⟩;have HB7:=Lib.hid h7.o;have HT7:=Lib.hid (htw.out.trans ht7);clear h7 ht7))
     refine ⟨⟨j+1,by omega,by go_num,?_,HT7⟩,?_⟩
     ·rw [HES.out];exact HB7
     ·simp [intOf];omega
   ·obtain rfl:j=N:=by omega
    have hbu:=hbw.out.bu
    have htk:xs.take j=xs:=List.take_of_length_le (by rw [HN.out];exact Nat.le_refl _)
    rw [htk] at hbu
    have hbz:b≤wr.heap.size:=by have:=HRW.out;have:=HBR.out;omega
    have KS:=Lib.hid (string_any b b (esc q xs) wr (esc_bs HBS.out) hbu hbz)
    rw [←HRR.out] at KS
    have HBW:=Lib.hid (HBel.out wr htw.out)
    clear htk hbu
    go_wp2_with (go_at_call 36;(with_reducible refine KS.out.mono ?_);rintro e w8 ⟨rfl,hb8⟩;have HB8:=Lib.hid hb8;clear hb8)
    go_ret2
    exact ⟨rfl,HBW.out.trans (HB8.out.mono HBwb.out)⟩
 ·have ha:alA charP xs=(k,false):=by unfold alA;rw [hal];rfl
  rw [ha] at KC
  rw [if_neg (by simp)]
  clear hal ha hz hbt hnb hnl hb hT hS hN hl
  go_enter Tryz.func18,Tryz.ntmps18
  go_wp2_with (go_at_call 21;(with_reducible refine KC.out.mono ?_);rintro e w2 ⟨rfl,hb2⟩;have HB2:=Lib.hid (HB1.out.trans (hb2.mono HB1.out.size));clear hb2)
  go_ret2
  exact ⟨rfl,HB2.out⟩
end
end Go.Proofs.YtbogfailbgbdoaaGreatDoor.K
