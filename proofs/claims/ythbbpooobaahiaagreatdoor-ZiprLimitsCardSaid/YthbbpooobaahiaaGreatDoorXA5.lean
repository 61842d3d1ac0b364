/- Part 5. -/
import Derived.Shelf.Slices.Clone
import Derived.Test.YthbbpooobaahiaaGreatDoorXA3
namespace Go.Proofs.YthbbpooobaahiaaGreatDoor.Cu
set_option maxRecDepth 100000
section
open Go.RowKit
theorem or_i64 (a b:Nat) (ha:a<9223372036854775808) (hb:b<9223372036854775808):bits BinOp.or IntKind.i64 (a:Int) (b:Int)=((a ||| b:Nat):Int):=by
 have hx:a ||| b<2^63:=Nat.or_lt_two_pow (by omega) (by omega)
 have h1:(BitVec.ofInt 64 (a:Int)).toNat=a:=by
  rw [BitVec.ofInt_natCast,BitVec.toNat_ofNat];exact Nat.mod_eq_of_lt (by omega)
 have h2:(BitVec.ofInt 64 (b:Int)).toNat=b:=by
  rw [BitVec.ofInt_natCast,BitVec.toNat_ofNat];exact Nat.mod_eq_of_lt (by omega)
 show IntKind.i64.wrap ((BitVec.ofInt 64 (a:Int) ||| BitVec.ofInt 64 (b:Int)).toNat:Int)=_
 rw [BitVec.toNat_or,h1,h2,IntKind.wrap_i64]
 omega
theorem take_next (l:List Nat) (k:Nat) (h:k<l.length):l.take (k+1)=l.take k++[l.getD k 0]:=by
 rw [List.take_add_one]
 simp [List.getD,h]
theorem num_step {xs:List Nat} {k x z:Nat} (hb:Bs xs) (hk:k<xs.length) (hl:xs.length≤4) (hx:x=xs.getD k 0) (hz:z=num (xs.take k)) :
  bits BinOp.or IntKind.i64 (z:Int) (wrap64 ((x:Int)*2^(8*k)))=((num (xs.take (k+1)):Nat):Int):=by
 have h1:z<256^k:=by
  have:=num_lt (hb.take k)
  rw [List.length_take,Nat.min_eq_left (by omega)] at this
  omega
 have h2:x<256:=by rw [hx];exact hb.at k
 rw [take_next xs k hk,num_app,←hx,←hz,List.length_take,Nat.min_eq_left (by omega)]
 have e256:(256:Nat)^k=2^(8*k):=by rw [Nat.pow_mul]
 have h3:num [x]=x:=by simp [num]
 rw [h3]
 have h4:x*2^(8*k)<4294967296∧256^k*x<4294967296∧z<4294967296:=by
  have p1:2^(8*k)≤2^24:=Nat.pow_le_pow_right (by omega) (by omega)
  have p2:(2:Nat)^24=16777216:=by decide
  rw [p2] at p1
  rw [e256] at ⊢
  rw [e256] at h1
  have p3:x*2^(8*k)≤255*16777216:=Nat.mul_le_mul (by omega) p1
  have p4:=Nat.mul_comm (2^(8*k)) x
  omega
 have h5:wrap64 ((x:Int)*2^(8*k))=((x*2^(8*k):Nat):Int):=by
  have:(x:Int)*2^(8*k)=((x*2^(8*k):Nat):Int):=by simp
  rw [this]
  unfold wrap64
  omega
 have q0:x*2^(8*k)<4294967296:=h4.1
 have q1:z<9223372036854775808:=Nat.lt_trans h4.2.2 (by decide)
 have q2:x*2^(8*k)<9223372036854775808:=Nat.lt_trans q0 (by decide)
 rw [e256] at h1
 have q4:=Nat.two_pow_add_eq_or_of_lt (i:=8*k) h1 x
 rw [h5,or_i64 _ _ q1 q2,e256]
 congr 1
 rw [Nat.or_comm,Nat.mul_comm x,←q4,Nat.add_comm]
set_option maxHeartbeats 400000 in
theorem number_any (ao:Option Addr) (c:Nat) (xs:List Nat) (w:World) (h:Sl w ao c xs) (hl:xs.length≤4) :
  Calls Tryz.prog 92 #[.slice ao xs.length c] w fun e w'=>e = .returned (.int .i64 (num xs:Nat))∧w=w':=by
 have HS:=Lib.hid h
 clear h
 go_enter Tryz.func92,Tryz.ntmps92
 go_wp2
 go_loop [3,8] (fun vn vi=>∃ k:Nat,k≤xs.length∧vi = .int .i64 k∧vn = .int .i64 (num (xs.take k):Nat)) (fun _ vi=>xs.length-(intOf vi).toNat)
 case atStart=>exact ⟨0,Nat.zero_le _,rfl,rfl⟩
 case round=>
  obtain ⟨k,hk,rfl,rfl⟩:=hrel
  by_cases hlt:k<xs.length
  ·have hkk:(k:Int)<xs.length:=by omega
   rcases HS.out.src with h0 | ⟨b,off,rfl,hc⟩
   ·rw [h0] at hlt;simp at hlt
   ·have hcell:=hc k hlt
    have hb:=HS.out.bs.at k
    clear hc
    obtain ⟨x,hx⟩:∃ x,x=xs.getD k 0:=⟨_,rfl⟩
    rw [←hx] at hcell hb
    have HX:=Lib.hid hx
    clear hx
    obtain ⟨z,hz⟩:∃ z,z=num (xs.take k):=⟨_,rfl⟩
    rw [←hz]
    have HN:=Lib.hid (num_step HS.out.bs hlt hl HX.out hz)
    clear hz
    go_wp2
    go_round
    case rel=>exact ⟨k+1,by omega,by go_num,by rw [HN.out]⟩
    case measure=>simp [intOf];omega
  ·have hk':k=xs.length:=by omega
   subst hk'
   rw [List.take_length]
   go_wp2
   go_ret
   exact ⟨rfl,rfl⟩
theorem clone_nil (c:Nat) (w:World) (n:Nat) :
  Calls Tryz.prog 71 #[.slice none n c] w fun e w'=>e = .returned (.slice none 0 0)∧w=w':=by
 have q22:∀ (w:World) (a:Option Addr) (n c n' c':Nat),(binOp .eql 22 (.slice a n c) (.slice none n' c')).run Tryz.prog w = .ok (.bool a.isNone) w:=fun w a n c n' c'=>Lib.run_eql_slice_nil w _ _ a n c n' c' Tryz.underlying22
 go_enter Tryz.func71,Tryz.ntmps71
 go_wp2
 go_ret
 exact ⟨rfl,rfl⟩
def Fresh (B:Nat) (w':World) (ao:Option Addr) (c:Nat) (xs:List Nat):Prop:=Sl w' ao c xs∧∀ ad,ao=some ad→B≤ad.block
def Cloned (xs:List Nat) (w:World) (e:Ending) (w':World):Prop:=∃ ao c,e = .returned (.slice ao xs.length c)∧Fresh w.heap.size w' ao c xs∧Below w.heap.size w w'
theorem clone_some (ad:Addr) (c:Nat) (xs:List Nat) (w:World) (h:Sl w (some ad) c xs) (hm:xs.length≤1000000000) :
  Calls Tryz.prog 71 #[.slice (some ad) xs.length c] w (Cloned xs w):=by
 have q22:∀ (w:World) (a:Option Addr) (n c n' c':Nat),(binOp .eql 22 (.slice a n c) (.slice none n' c')).run Tryz.prog w = .ok (.bool a.isNone) w:=fun w a n c n' c'=>Lib.run_eql_slice_nil w _ _ a n c n' c' Tryz.underlying22
 have HS:=Lib.hid (h.below ((Below.refl _ w).alloc (Nat.le_refl _) (.cells #[] 5)))
 have hbs:=h.bs
 clear h
 go_enter Tryz.func71,Tryz.ntmps71
 go_wp2_with (at_builtin;refine wpList_append_x at22 rfl (.tmp 5) (.tmp 6) rfl w.heap.size (.slice (some ⟨w.heap.size,0,none⟩) 0 0) (.slice (some ad) xs.length c) 0 xs.length [] (u8s xs) rfl rfl (own_empty w 5 1) HS.out.cells (by rw [u8s_len,Nat.mul_one]) (u8s_one xs) (by simp) (by omega) (by omega) ?c2)
 case c2=>
 intro ao c' w' hA
 have hA':Apd (w.alloc (.cells #[] 5)) w.heap.size 5 1 (.slice (some ⟨w.heap.size,0,none⟩) 0 0) xs.length (u8s xs) (.slice ao xs.length c') w':=by simpa using hA
 have hb:Below w.heap.size w w':=((Below.refl _ w).alloc (Nat.le_refl _) _).trans (hA'.below (own_empty w 5 1) (by simp))
 have hf:Fresh w.heap.size w' ao c' xs:=⟨own_sl hA'.own hbs,fun a ha=>by
  subst ha
  exact (hA'.own.lt a.block rfl).1⟩
 clear hA hA' HS
 go_wp2
 go_ret
 exact ⟨ao,c',rfl,hf,hb⟩
theorem clone_any (ao:Option Addr) (c:Nat) (xs:List Nat) (w:World) (h:Sl w ao c xs) (hm:xs.length≤1000000000) :
  Calls Tryz.prog 71 #[.slice ao xs.length c] w (Cloned xs w):=by
 cases ao with
 | none=>
  have h0:=h.nil rfl
  have h1:=h.le
  have hx:xs=[]:=List.eq_nil_of_length_eq_zero (by omega)
  subst hx
  exact (clone_nil c w 0).mono fun e w' ⟨he,hw⟩=>by subst hw;exact ⟨none,0,he,⟨Sl.none_ w,fun _ h=>by cases h⟩,Below.refl _ _⟩
 | some ad=>exact clone_some ad c xs w h hm
theorem shr_step (n:Int) (k:Nat):(n/2^(8*k))%256=n/256^k%256:=by
 rw [Int.pow_mul];rfl
theorem cells_one (w:World) (e:TypeId) (u:Value):CellsAt (w.alloc (.cells #[u] e)) (.slice (some ⟨w.heap.size,0,none⟩) 1 1) 1 [u]:=by
 refine .inr ⟨_,_,rfl,fun j v hv=>?_⟩
 have hj:j=0:=by
  have:=(List.getElem?_eq_some_iff.1 hv).1
  simp at this;omega
 subst hj
 rw [Addr.add_lit,World.cell?_alloc_at _ _ _ _ rfl]
 simpa using hv
def PutN (base:Nat) (v:Value) (xs:List Nat) (w:World) (e:Ending) (w':World):Prop:=∃ ao c,e = .returned (.slice ao xs.length c)∧Apd w base 5 1 v xs.length (u8s xs) (.slice ao xs.length c) w'
set_option maxHeartbeats 800000 in
theorem putn_any (n:Int) (size:Nat) (hsz:size≤4) (va:Option Addr) (vc:Nat) (base:Nat) (xs:List Nat) (w:World) (hown:w.ownsRow base 5 1 (.slice va xs.length vc) xs.length (u8s xs)) (hb:base≤w.heap.size) (hl:xs.length≤1000000000) :
  Calls Tryz.prog 64 #[.slice va xs.length vc,.int .i64 n,.int .i64 size] w (PutN base (.slice va xs.length vc) (xs++le n size) w):=by
 have HO:=Lib.hid hown
 clear hown
 obtain ⟨v,hv⟩:∃ v,v=Value.slice va xs.length vc:=⟨_,rfl⟩
 have HV:=Lib.hid hv
 rw [←hv]
 rw [←hv] at HO
 clear hv
 go_enter Tryz.func64,Tryz.ntmps64
 go_wp2
 go_loopw [0,9] (fun vv vi wr=>∃ (k:Nat) (ao:Option Addr) (c:Nat),k≤size∧vi = .int .i64 k∧vv = .slice ao (xs.length+k) c∧Apd w base 5 1 v (xs.length+k) (u8s (xs++le n k)) (.slice ao (xs.length+k) c) wr) (fun _ vi _=>size-(intOf vi).toNat)
 case atStart=>exact ⟨0,va,vc,Nat.zero_le _,rfl,HV.out,by
  have e:xs++le n 0=xs:=by simp [le]
  rw [e,Nat.add_zero,←HV.out]
  exact ⟨HO.out,Touch.refl _ _,fun k hk => .inl hk⟩⟩
 case round=>
  obtain ⟨k,ao,c,hk,rfl,rfl,hA⟩:=hrel
  have HA:=Lib.hid hA
  clear hA
  by_cases hlt:k<size
  ·have hkk:(k:Int)<size:=by omega
   go_wp2_with (at_builtin;refine wpList_append_x at22 rfl (.tmp 12) (.tmp 18) rfl base (.slice ao (xs.length+k) c) _ (xs.length+k) 1 (u8s (xs++le n k)) _ rfl rfl (ownsRow_below HA.out.own ((Below.refl _ _).alloc (Nat.le_refl _) _)) (cells_one _ _ _) rfl (by intro u hu;rw [List.mem_singleton] at hu;subst hu;rfl) (by have:=HA.out.touch.size;simp;omega) (by omega) (by omega) ?c2)
   case c2=>
   intro ao2 c2 w2 hA2
   have hA3:Apd wr base 5 1 (.slice ao (xs.length+k) c) (xs.length+(k+1)) (u8s (xs++le n (k+1))) (.slice ao2 (xs.length+(k+1)) c2) w2:=by
    have h3:=hA2.alloc
    rw [←Nat.add_assoc]
    have e:u8s (xs++le n (k+1))=u8s (xs++le n k)++[Value.int IntKind.u8 (n/256^k%256)]:=by
     have h0:0≤n/256^k%256:=Int.emod_nonneg _ (by omega)
     rw [le,←List.append_assoc,←u8s_app]
     simp [u8s,Int.toNat_of_nonneg h0]
    rw [e]
    rw [shr_step] at h3
    exact h3
   have HA3:=Lib.hid (HA.out.trans hA3)
   clear hA2 hA3
   rw [Nat.add_assoc]
   go_wp2
   go_roundw
   case rel=>exact ⟨k+1,ao2,c2,by omega,by go_num,rfl,HA3.out⟩
   case measure=>simp [intOf];omega
  ·have hk':k=size:=by omega
   subst hk'
   have hl:(xs++le n k).length=xs.length+k:=by rw [List.length_append,le_len]
   have hP:PutN base v (xs++le n k) w (.returned (.slice ao (xs.length+k) c)) wr:=⟨ao,c,by rw [hl],by rw [hl];exact HA.out⟩
   have HP:=Lib.hid hP
   clear hP hl
   go_wp2
   go_ret
   exact HP.out
theorem win_lt {xs:List Nat} (hb:Bs xs) (f n:Nat) (h:n≤4):num ((xs.drop f).take n)<4294967296:=by
 have h1:=num_lt ((hb.drop f).take n)
 have h2:((xs.drop f).take n).length≤4:=by rw [List.length_take];omega
 have h3:256^((xs.drop f).take n).length≤256^4:=Nat.pow_le_pow_right (by omega) h2
 have h4:(256:Nat)^4=4294967296:=by decide
 omega
theorem within_okI (ao:Option Addr) (len c at_ k:Nat) (K:Int) (hK:K=k) (w:World) (hc:len≤c) (hm:c≤maxLen) (h:at_+k≤len) :
  Calls Tryz.prog 91 #[.slice ao len c,.int .i64 at_,.int .i64 K] w fun e w'=>e = .returned (.tuple #[.slice (cutA ao c at_) k (c-at_),.bool true])∧w=w':=by
 subst hK;exact within_ok ao len c at_ k w hc hm h
set_option maxHeartbeats 400000 in
theorem u16_ok (ao:Option Addr) (c:Nat) (xs:List Nat) (at_:Nat) (w:World) (h:Sl w ao c xs) (hle:at_+2≤xs.length) :
  Calls Tryz.prog 66 #[.slice ao xs.length c,.int .i64 at_] w fun e w'=>e = .returned (.tuple #[.int .i64 (num ((xs.drop at_).take 2):Nat),.bool true])∧w=w':=by
 have K1:=Lib.hid (within_okI ao xs.length c at_ 2 2 rfl w h.le h.big hle)
 have K2:=number_any _ _ _ w (h.cut' at_ 2 hle) (by rw [win_len hle];omega)
 rw [win_len hle] at K2
 have K2:=Lib.hid K2
 obtain ⟨A,hA⟩:∃ A,A=cutA ao c at_:=⟨_,rfl⟩
 obtain ⟨z,hz⟩:∃ z,z=num ((xs.drop at_).take 2):=⟨_,rfl⟩
 rw [←hA] at K1 K2
 rw [←hz] at K2 ⊢
 clear hA hz h
 go_enter Tryz.func66,Tryz.ntmps66
 go_wp2_with (first
  | (go_at_call 91;(with_reducible refine K1.out.mono ?_);rintro e w' ⟨rfl,rfl⟩)
  | (go_at_call 92;(with_reducible refine K2.out.mono ?_);rintro e w' ⟨rfl,rfl⟩))
 go_ret2
 exact ⟨rfl,rfl⟩
set_option maxHeartbeats 400000 in
theorem u32_ok (ao:Option Addr) (c:Nat) (xs:List Nat) (at_:Nat) (w:World) (h:Sl w ao c xs) (hle:at_+4≤xs.length) :
  Calls Tryz.prog 65 #[.slice ao xs.length c,.int .i64 at_] w fun e w'=>e = .returned (.tuple #[.int .i64 (num ((xs.drop at_).take 4):Nat),.bool true])∧w=w':=by
 have K1:=Lib.hid (within_okI ao xs.length c at_ 4 4 rfl w h.le h.big hle)
 have K2:=number_any _ _ _ w (h.cut' at_ 4 hle) (by rw [win_len hle];omega)
 rw [win_len hle] at K2
 have K2:=Lib.hid K2
 obtain ⟨A,hA⟩:∃ A,A=cutA ao c at_:=⟨_,rfl⟩
 obtain ⟨z,hz⟩:∃ z,z=num ((xs.drop at_).take 4):=⟨_,rfl⟩
 rw [←hA] at K1 K2
 rw [←hz] at K2 ⊢
 clear hA hz h
 go_enter Tryz.func65,Tryz.ntmps65
 go_wp2_with (first
  | (go_at_call 91;(with_reducible refine K1.out.mono ?_);rintro e w' ⟨rfl,rfl⟩)
  | (go_at_call 92;(with_reducible refine K2.out.mono ?_);rintro e w' ⟨rfl,rfl⟩))
 go_ret2
 exact ⟨rfl,rfl⟩
theorem number_nil (w:World):Calls Tryz.prog 92 #[.slice none 0 0] w fun e w'=>e = .returned (.int .i64 0)∧w=w':=number_any none 0 [] w (Sl.none_ w) (by simp)
set_option maxHeartbeats 400000 in
theorem u32_no (ao:Option Addr) (c len:Nat) (at_:Int) (w:World) (hm:len≤maxLen) (h:at_<0∨(len:Int)-4<at_) :
  Calls Tryz.prog 65 #[.slice ao len c,.int .i64 at_] w fun e w'=>e = .returned (.tuple #[.int .i64 0,.bool false])∧w=w':=by
 have K1:=Lib.hid (within_no ao len c at_ 4 w hm (by omega))
 have K2:=Lib.hid (number_nil w)
 clear hm h
 go_enter Tryz.func65,Tryz.ntmps65
 go_wp2_with (first
  | (go_at_call 91;(with_reducible refine K1.out.mono ?_);rintro e w' ⟨rfl,rfl⟩)
  | (go_at_call 92;(with_reducible refine K2.out.mono ?_);rintro e w' ⟨rfl,rfl⟩))
 go_ret2
 exact ⟨rfl,rfl⟩
def CutOk (ys:List Nat) (w:World) (e:Ending) (w':World):Prop:=∃ ao c,e = .returned (.tuple #[.slice ao ys.length c,.bool true])∧Fresh w.heap.size w' ao c ys∧Below w.heap.size w w'
set_option maxHeartbeats 400000 in
theorem cut_ok (ao:Option Addr) (c:Nat) (xs:List Nat) (at_ n:Nat) (w:World) (h:Sl w ao c xs) (hle:at_+n≤xs.length) (hm:xs.length≤1000000000) :
  Calls Tryz.prog 73 #[.slice ao xs.length c,.int .i64 at_,.int .i64 n] w (CutOk ((xs.drop at_).take n) w):=by
 have K1:=within_ok ao xs.length c at_ n w h.le h.big hle
 have hl:=win_len hle
 have K2:=clone_any _ _ _ w (h.cut' at_ n hle) (by rw [hl];omega)
 obtain ⟨ys,hys⟩:∃ ys,ys=(xs.drop at_).take n:=⟨_,rfl⟩
 rw [←hys] at K2 hl ⊢
 subst hl
 have K1:=Lib.hid K1
 have K2:=Lib.hid K2
 obtain ⟨A,hA⟩:∃ A,A=cutA ao c at_:=⟨_,rfl⟩
 rw [←hA] at K1 K2
 clear hA hys h
 go_enter Tryz.func73,Tryz.ntmps73
 go_wp2_with (first
  | (go_at_call 91;(with_reducible refine K1.out.mono ?_);rintro e w' ⟨rfl,rfl⟩)
  | (go_at_call 71;(with_reducible refine K2.out.mono ?_);rintro e w2 ⟨ao2,c2,rfl,hF,hb2⟩;have HP:Hid (CutOk ys w (.returned (.tuple #[.slice ao2 ys.length c2,.bool true])) w2):=Lib.hid ⟨ao2,c2,rfl,hF,hb2⟩;clear hF hb2))
 go_ret2
 exact HP.out
set_option maxHeartbeats 400000 in
theorem cut_no (ao:Option Addr) (c len:Nat) (at_ n:Int) (w:World) (hm:len≤maxLen) (h:at_<0∨(len:Int)<at_∨n<0∨(len:Int)-at_<n) :
  Calls Tryz.prog 73 #[.slice ao len c,.int .i64 at_,.int .i64 n] w fun e w'=>e = .returned (.tuple #[.slice none 0 0,.bool false])∧w=w':=by
 have K1:=Lib.hid (within_no ao len c at_ n w hm h)
 have K2:=Lib.hid (clone_nil 0 w 0)
 clear hm h
 go_enter Tryz.func73,Tryz.ntmps73
 go_wp2_with (first
  | (go_at_call 91;(with_reducible refine K1.out.mono ?_);rintro e w' ⟨rfl,rfl⟩)
  | (go_at_call 71;(with_reducible refine K2.out.mono ?_);rintro e w' ⟨rfl,rfl⟩))
 go_ret2
 exact ⟨rfl,rfl⟩
def KSrc (w:World) (ao:Option Addr) (ks:List Int):Prop:=
 ks=[]∨∃ b off,ao=some ⟨b,off,none⟩∧∀ j,j<ks.length→w.cell? ⟨b,off+j,none⟩=some (.int .i64 (ks.getD j 0))
theorem KSrc.below {w w':World} {ao:Option Addr} {ks:List Int} (h:KSrc w ao ks) (hb:Below w.heap.size w w'):KSrc w' ao ks:=by
 rcases h with h | ⟨b,off,rfl,hc⟩
 ·exact .inl h
 ·exact .inr ⟨b,off,rfl,fun j hj=>by
   have:=hc j hj
   exact (hb.cell (World.block_lt_of_cell? w _ this)).trans this⟩
def cnt (ks:List Int):Nat:=(ks.filter fun k=>k == 2).length
theorem cnt_snoc (l:List Int) (k:Int):cnt (l++[k])=cnt l+if k=2 then 1 else 0:=by
 unfold cnt
 rw [List.filter_append,List.length_append]
 by_cases h:k=2 <;> simp [h]
theorem cnt_le (l:List Int):cnt l≤l.length:=List.length_filter_le _ _
theorem ktake_next (l:List Int) (k:Nat) (h:k<l.length):l.take (k+1)=l.take k++[l.getD k 0]:=by
 rw [List.take_add_one]
 simp [List.getD,h]
theorem cnt_step {ks:List Int} {k:Nat} (h:k<ks.length):cnt (ks.take (k+1))=cnt (ks.take k)+if ks.getD k 0=2 then 1 else 0:=by
 rw [ktake_next ks k h,cnt_snoc]
set_option maxHeartbeats 400000 in
theorem count_any (ao:Option Addr) (c:Nat) (ks:List Int) (w:World) (h:KSrc w ao ks) (hm:ks.length≤1000000) :
  Calls Tryz.prog 93 #[.slice ao ks.length c] w fun e w'=>e = .returned (.int .i64 (cnt ks:Nat))∧w=w':=by
 have HS:=Lib.hid h
 clear h
 go_enter Tryz.func93,Tryz.ntmps93
 go_wp2
 go_loop [3,8] (fun vn vi=>∃ k:Nat,k≤ks.length∧vi = .int .i64 k∧vn = .int .i64 (cnt (ks.take k):Nat)) (fun _ vi=>ks.length-(intOf vi).toNat)
 case atStart=>exact ⟨0,Nat.zero_le _,rfl,rfl⟩
 case round=>
  obtain ⟨k,hk,rfl,rfl⟩:=hrel
  by_cases hlt:k<ks.length
  ·have hkk:(k:Int)<ks.length:=by omega
   have hcl:cnt (ks.take k)≤1000000:=by
    have:=cnt_le (ks.take k)
    rw [List.length_take] at this
    omega
   have HN:=Lib.hid (cnt_step hlt)
   rcases HS.out with h0 | ⟨b,off,rfl,hc⟩
   ·rw [h0] at hlt;simp at hlt
   have hcell:=hc k hlt
   clear hc
   obtain ⟨x,hx⟩:∃ x,x=ks.getD k 0:=⟨_,rfl⟩
   obtain ⟨z,hz⟩:∃ z,z=cnt (ks.take k):=⟨_,rfl⟩
   rw [←hx] at hcell HN
   rw [←hz] at hcl HN ⊢
   clear hx hz
   by_cases h2:x=2
   ·subst h2
    go_wp2
    go_round
    case rel=>exact ⟨k+1,by omega,by go_num,by rw [HN.out,if_pos rfl];go_num⟩
    case measure=>simp [intOf];omega
   ·have HX:=Lib.hid h2
    go_wp2
    go_round
    case rel=>exact ⟨k+1,by omega,by go_num,by rw [HN.out,if_neg HX.out];go_num⟩
    case measure=>simp [intOf];omega
  ·have hk':k=ks.length:=by omega
   subst hk'
   rw [List.take_length]
   obtain ⟨z,hz⟩:∃ z,z=cnt ks:=⟨_,rfl⟩
   have HZ:=Lib.hid hz
   rw [←hz]
   clear hz
   go_wp2
   go_ret
   rw [←HZ.out]
   exact ⟨rfl,rfl⟩
def isN (k:Int):Bool:=k == 0 || k == 1
theorem isN_yes {k:Int} (h:isN k=true):k=0∨k=1:=by simpa [isN] using h
theorem isnum_any (k:Int) (w:World):Calls Tryz.prog 115 #[.int .i64 k] w fun e w'=>e = .returned (.bool (isN k))∧w=w':=by
 have h:Calls Tryz.prog 115 #[.int .i64 k] w fun e w'=>e = .returned (.bool (k == 0 || k == 1))∧w=w':=by
  go_enter Tryz.func115,Tryz.ntmps115
  go_wp2
  all_goals go_ret
  all_goals first | exact ⟨rfl,rfl⟩ | (have hk:k=0:=(by assumption);exact ⟨(by rw [hk];rfl),rfl⟩)
 exact h
structure Fd where
 k:Int
 n:Nat
 b:List Nat
structure Fe where
 f:Fd
 ao:Option Addr
 c:Nat
def Fe.cells (x:Fe):List Value:=[.int .i64 x.f.k,.int .i64 (x.f.n:Nat),.slice x.ao x.f.b.length x.c]
def fcells (l:List Fe):List Value:=l.flatMap Fe.cells
theorem fcells_app (a b:List Fe):fcells (a++b)=fcells a++fcells b:=by simp [fcells]
theorem fcells_one (x:Fe):fcells [x]=x.cells:=by simp [fcells]
theorem fcells_at:∀ (l:List Fe) (i j:Nat) (x:Fe),l[i]? = some x→j<3→(fcells l)[i*3+j]? = x.cells[j]?
 | [],i,j,x,h,_=>by simp at h
 | y::r,0,j,x,h,hj=>by
  simp only [List.getElem?_cons_zero,Option.some.injEq] at h
  subst h
  rw [fcells,List.flatMap_cons,Nat.zero_mul,Nat.zero_add,List.getElem?_append_left (by simp [Fe.cells];omega)]
 | y::r,i+1,j,x,h,hj=>by
  rw [fcells,List.flatMap_cons,List.getElem?_append_right (by simp [Fe.cells];omega)]
  have:=fcells_at r i j x (by simpa using h) hj
  rw [fcells] at this
  rw [←this]
  congr 1
  simp [Fe.cells];omega
def Fs (w:World) (ao:Option Addr) (l:List Fe):Prop:=
 (∀ x∈l,Sl w x.ao x.c x.f.b)∧(l=[]∨∃ g,ao=some ⟨g,0,none⟩∧∀ j u,(fcells l)[j]? = some u→w.cell? ⟨g,j,none⟩=some u)
theorem Fs.below {w w':World} {ao:Option Addr} {l:List Fe} (h:Fs w ao l) (hb:Below w.heap.size w w'):Fs w' ao l:=by
 refine ⟨fun x hx=>(h.1 x hx).below hb,?_⟩
 rcases h.2 with h | ⟨g,rfl,hc⟩
 ·exact .inl h
 ·exact .inr ⟨g,rfl,fun j u hu=>by
   have:=hc j u hu
   exact (hb.cell (World.block_lt_of_cell? w _ this)).trans this⟩
structure FAt (w:World) (g i:Nat) (x:Fe):Prop where
 c0:w.cell? ⟨g,i*3,none⟩=some (.int .i64 x.f.k)
 c1:w.cell? ⟨g,i*3+1,none⟩=some (.int .i64 (x.f.n:Nat))
 c2:w.cell? ⟨g,i*3+2,none⟩=some (.slice x.ao x.f.b.length x.c)
 sl:Sl w x.ao x.c x.f.b
theorem Fs.get {w:World} {ao:Option Addr} {l:List Fe} (h:Fs w ao l) {i:Nat} {x:Fe} (hx:l[i]? = some x):∃ g,ao=some ⟨g,0,none⟩∧FAt w g i x:=by
 rcases h.2 with h0 | ⟨g,rfl,hc⟩
 ·rw [h0] at hx;simp at hx
 ·exact ⟨g,rfl,hc _ _ (by have:=fcells_at l i 0 x hx (by omega);exact this),hc _ _ (by have:=fcells_at l i 1 x hx (by omega);exact this),hc _ _ (by have:=fcells_at l i 2 x hx (by omega);exact this),h.1 x (List.mem_of_getElem? hx)⟩
structure FOwn (w:World) (base e:Nat) (v:Value) (l:List Fe):Prop where
 own:w.ownsRow base e 3 v l.length (fcells l)
 sl:∀ x∈l,Sl w x.ao x.c x.f.b
 apart:∀ x∈l,x.f.b≠[]→∀ ad,x.ao=some ad→v.ownBlock≠some ad.block
theorem FOwn.below {w w':World} {base e:Nat} {v:Value} {l:List Fe} (h:FOwn w base e v l) (hb:Below w.heap.size w w'):FOwn w' base e v l:=
 ⟨ownsRow_below h.own hb,fun x hx=>(h.sl x hx).below hb,h.apart⟩
theorem FOwn.nil (w:World) (base e:Nat):FOwn w base e (.slice none 0 0) []:=⟨World.ownsRow_nil _ _ _ _,(fun x h=>by cases h),(fun x h=>by cases h)⟩
theorem FOwn.fs {w:World} {base e:Nat} {ao:Option Addr} {c:Nat} {l:List Fe} (h:FOwn w base e (.slice ao l.length c) l):Fs w ao l:=by
 refine ⟨h.sl,?_⟩
 by_cases h0:l=[]
 ·exact .inl h0
 ·right
  obtain ⟨g,cap,hv,_,hlt⟩:=h.own.form (List.length_pos_iff.2 h0)
  have hA:ao=some ⟨g,0,none⟩:=by injection hv
  subst hA
  refine ⟨g,rfl,fun j u hu=>?_⟩
  have:=h.own.cells (g:=g) rfl j u hu
  rwa [Addr.add_lit,Nat.zero_add] at this
theorem Sl.block_lt {w:World} {ao:Option Addr} {c:Nat} {xs:List Nat} (h:Sl w ao c xs) (hx:xs≠[]):∀ ad,ao=some ad→ad.block<w.heap.size:=by
 intro ad e
 rcases h.src with h0 | ⟨b,off,rfl,hc⟩
 ·exact absurd h0 hx
 ·obtain rfl:=Option.some.inj e
  exact World.block_lt_of_cell? w _ (hc 0 (List.length_pos_iff.2 hx))
theorem Sl.touch {S:Nat→Prop} {w w':World} {ao:Option Addr} {c:Nat} {xs:List Nat} (h:Sl w ao c xs) (ht:Touch S w w') (hs:xs≠[]→∀ ad,ao=some ad→¬S ad.block):Sl w' ao c xs:=
 ⟨h.src.touch ht fun _ _ e hx=>hs hx _ e,h.le,h.big,h.nil,h.bs⟩
theorem FOwn.app {w w':World} {base e:Nat} {v v':Value} {l:List Fe} {x:Fe} (h:FOwn w base e v l) (hx:Sl w x.ao x.c x.f.b) (hap:x.f.b≠[]→∀ ad,x.ao=some ad→v.ownBlock≠some ad.block)
  (hA:Apd w base e 3 v (l.length+1) (fcells l++x.cells) v' w'):FOwn w' base e v' (l++[x]):=by
 have hall:∀ y∈l++[x],Sl w y.ao y.c y.f.b∧(y.f.b≠[]→∀ ad,y.ao=some ad→v.ownBlock≠some ad.block):=by
  intro y hy
  rcases List.mem_append.1 hy with hy | hy
  ·exact ⟨h.sl y hy,h.apart y hy⟩
  ·rw [List.mem_singleton] at hy;subst hy;exact ⟨hx,hap⟩
 refine ⟨?_,fun y hy=>?_,fun y hy hne ad had hc=>?_⟩
 ·rw [List.length_append,fcells_app,fcells_one];exact hA.own
 ·exact (hall y hy).1.touch hA.touch (hall y hy).2
 ·rcases hA.row _ hc with h1 | h1
  ·exact (hall y hy).2 hne ad had h1
  ·have:=(hall y hy).1.block_lt hne ad had
   omega
set_option maxHeartbeats 800000 in
theorem told_ok (ao:Option Addr) (c:Nat) (l:List Fe) (back i:Nat) (x:Fe) (hi:i+back=l.length) (hx:l[i]? = some x) (w:World) (h:Fs w ao l) (hm:l.length≤1000000) :
  Calls Tryz.prog 114 #[.slice ao l.length c,.int .i64 back] w fun e w'=>e = .returned (.tuple #[.int .i64 (x.f.n:Nat),.bool (isN x.f.k)])∧Below w.heap.size w w':=by
 obtain ⟨g,rfl,hF⟩:=h.get hx
 obtain ⟨L,hL⟩:∃ L,L=l.length:=⟨_,rfl⟩
 rw [←hL] at hi hm ⊢
 have c0:=hF.c0
 have c1:=hF.c1
 have c2:=hF.c2
 have hil:i<L:=by
  have:=(List.getElem?_eq_some_iff.1 hx).1
  omega
 clear hF hx h hL
 obtain ⟨k,hk⟩:∃ k,k=x.f.k:=⟨_,rfl⟩
 obtain ⟨n,hn⟩:∃ n,n=x.f.n:=⟨_,rfl⟩
 obtain ⟨bl,hbl⟩:∃ bl,bl=x.f.b.length:=⟨_,rfl⟩
 rw [←hk] at c0 ⊢
 rw [←hn] at c1 ⊢
 rw [←hbl] at c2
 clear hk hn hbl
 obtain rfl:back=L-i:=by omega
 have hidx:(L:Int)-((L-i:Nat):Int)=(i:Int):=by omega
 have hlt:¬((L:Int)<((L-i:Nat):Int)):=by omega
 have hii:(i:Int)<(L:Int):=by omega
 obtain ⟨B,hB⟩:∃ B,B=L-i:=⟨_,rfl⟩
 rw [←hB] at hidx hlt ⊢
 have hB1:1≤B:=by omega
 clear hi hB
 go_enter Tryz.func114,Tryz.ntmps114
 go_wp2_with fail
 go_quiet ((go_at_call 115;exact Calls.quiet_of_same ((isnum_any _ _).mono fun e w' ⟨he,hw⟩=>⟨he,hw.symm⟩)))
 go_wp2
 go_ret2
 exact ⟨rfl,below_drewN (((Below.refl _ _).alloc (Nat.le_refl _) _)) _⟩
def Blk (w:World) (g:Nat) (t:TypeId) (cs:Array Value):Prop:=w.heap[g]? = some (.cells cs t (0,0))
theorem Blk.lt {w:World} {g:Nat} {t:TypeId} {cs:Array Value} (h:Blk w g t cs):g<w.heap.size:=by
 rcases Nat.lt_or_ge g w.heap.size with hlt | hge
 ·exact hlt
 ·rw [Blk,Array.getElem?_eq_none hge] at h;cases h
theorem Blk.cell {w:World} {g:Nat} {t:TypeId} {cs:Array Value} (h:Blk w g t cs) (i:Nat):w.cell? ⟨g,i,none⟩=cs[i]? := cell_of_row w g i cs t (0,0) h
theorem Blk.free {w:World} {g:Nat} {t:TypeId} {cs:Array Value} (h:Blk w g t cs) (i:Nat):w.frozen? ⟨g,i,none⟩=false:=by
 rw [Blk] at h
 simp [World.frozen?,h]
theorem Blk.made (w:World) (t:TypeId) (cs:Array Value):Blk (w.alloc (.cells cs t)) w.heap.size t cs:=by
 show (w.heap.push _)[w.heap.size]? = _
 simp
theorem Blk.below {w w':World} {g:Nat} {t:TypeId} {cs:Array Value} (h:Blk w g t cs) (hb:Below w.heap.size w w'):Blk w' g t cs:=(hb.block g h.lt).trans h
theorem told_no (ao:Option Addr) (c L back:Nat) (h:L<back) (w:World) :
  Calls Tryz.prog 114 #[.slice ao L c,.int .i64 back] w fun e w'=>e = .returned (.tuple #[.int .i64 0,.bool false])∧w=w':=by
 have h':(L:Int)<back:=by omega
 go_enter Tryz.func114,Tryz.ntmps114
 go_wp2
 go_ret2
 exact ⟨rfl,rfl⟩
def szf (k left:Int) (l:List Fd) (back:Nat):Int × Bool:=
 if k=0 then (2,true) else if k=1 then (4,true) else if k=2 then (if l.length<back then (0,false) else match l[l.length-back]? with
  | some f=>((f.n:Int),isN f.k)
  | none=>(0,false)) else if k=3 then (left,true) else (0,false)
theorem size_0 (l:List Fe) (k left:Int) (ao:Option Addr) (c back:Nat) (w:World) (hk:k≠2) :
  Calls Tryz.prog 94 #[.int .i64 k,.int .i64 left,.slice ao l.length c,.int .i64 back] w fun e w'=>e = .returned (.tuple #[.int .i64 (szf k left (l.map (·.f)) back).1,.bool (szf k left (l.map (·.f)) back).2])∧w=w':=by
 by_cases h0:k=0
 ·subst h0
  have H:szf 0 left (l.map (·.f)) back=(2,true):=by simp [szf]
  rw [H]
  clear H
  go_enter Tryz.func94,Tryz.ntmps94
  go_wp2
  go_ret2
  exact ⟨rfl,rfl⟩
 by_cases h1:k=1
 ·subst h1
  have H:szf 1 left (l.map (·.f)) back=(4,true):=by simp [szf]
  rw [H]
  clear H
  go_enter Tryz.func94,Tryz.ntmps94
  go_wp2
  go_ret2
  exact ⟨rfl,rfl⟩
 by_cases h3:k=3
 ·subst h3
  have H:szf 3 left (l.map (·.f)) back=(left,true):=by simp [szf]
  rw [H]
  clear H
  go_enter Tryz.func94,Tryz.ntmps94
  go_wp2
  go_ret2
  exact ⟨rfl,rfl⟩
 have H:szf k left (l.map (·.f)) back=(0,false):=by simp [szf,h0,h1,hk,h3]
 rw [H]
 clear H
 go_enter Tryz.func94,Tryz.ntmps94
 go_wp2
 go_ret2
 exact ⟨rfl,rfl⟩
theorem size_2 (l:List Fe) (left:Int) (ao:Option Addr) (c back:Nat) (hb:1≤back) (w:World) (h:Fs w ao l) (hm:l.length≤1000000) :
  Calls Tryz.prog 94 #[.int .i64 2,.int .i64 left,.slice ao l.length c,.int .i64 back] w fun e w'=>e = .returned (.tuple #[.int .i64 (szf 2 left (l.map (·.f)) back).1,.bool (szf 2 left (l.map (·.f)) back).2])∧Below w.heap.size w w':=by
 by_cases hlt:l.length<back
 ·have H:szf 2 left (l.map (·.f)) back=(0,false):=by simp [szf,hlt]
  rw [H]
  have K:=Lib.hid (told_no ao c l.length back hlt w)
  clear H h
  go_enter Tryz.func94,Tryz.ntmps94
  go_wp2_with (go_at_call 114;(with_reducible refine K.out.mono ?_);rintro e w' ⟨rfl,rfl⟩)
  go_ret2
  exact ⟨rfl,Below.refl _ _⟩
 ·have hlen:l.length-back<l.length:=by omega
  have hx:l[l.length-back]? = some l[l.length-back]:=List.getElem?_eq_getElem hlen
  have H:szf 2 left (l.map (·.f)) back=((l[l.length-back].f.n:Int),isN l[l.length-back].f.k):=by
   have:(l.map (·.f))[(l.map (·.f)).length-back]? = some l[l.length-back].f:=by rw [List.length_map,List.getElem?_map,hx];rfl
   unfold szf
   rw [if_neg (by omega),if_neg (by omega),if_pos rfl,if_neg (by rw [List.length_map];exact hlt),this]
  rw [H]
  have K:=told_ok ao c l back (l.length-back) l[l.length-back] (by omega) hx w h hm
  obtain ⟨n,hn⟩:∃ n,n=l[l.length-back].f.n:=⟨_,rfl⟩
  obtain ⟨v,hv⟩:∃ v,v=isN l[l.length-back].f.k:=⟨_,rfl⟩
  rw [←hn,←hv] at K ⊢
  have K:=Lib.hid K
  clear H h hn hv hx hlt
  go_enter Tryz.func94,Tryz.ntmps94
  go_wp2_with (go_at_call 114;(with_reducible refine K.out.mono ?_);rintro e w' ⟨rfl,hb1⟩;have HB:=Lib.hid hb1;clear hb1)
  go_ret2
  exact ⟨rfl,HB.out⟩
theorem size_any (l:List Fe) (k left:Int) (ao:Option Addr) (c back:Nat) (hb:k=2→1≤back) (w:World) (h:Fs w ao l) (hm:l.length≤1000000) (z:Int) (ok:Bool) (hz:szf k left (l.map (·.f)) back=(z,ok)) :
  Calls Tryz.prog 94 #[.int .i64 k,.int .i64 left,.slice ao l.length c,.int .i64 back] w fun e w'=>e = .returned (.tuple #[.int .i64 z,.bool ok])∧Below w.heap.size w w':=by
 by_cases hk:k=2
 ·subst hk
  have K:=size_2 l left ao c back (hb rfl) w h hm
  rw [hz] at K
  exact K
 ·have K:=size_0 l k left ao c back w hk
  rw [hz] at K
  exact K.mono fun e w' ⟨he,hw⟩=>⟨he,hw ▸ Below.refl _ _⟩
theorem made_num (k:Int) (hk:isN k=true) (ao:Option Addr) (c:Nat) (xs:List Nat) (w:World) (h:Sl w ao c xs) (hl:xs.length≤4) :
  Calls Tryz.prog 95 #[.int .i64 k,.slice ao xs.length c] w fun e w'=>e = .returned (.agg #[.int .i64 k,.int .i64 (num xs:Nat),.slice none 0 0])∧Below w.heap.size w w':=by
 have K1:=Lib.hid fun W=>isnum_any k W
 rw [hk] at K1
 have K2:=Lib.hid fun (W:World) (hb:Below w.heap.size w W)=>number_any ao c xs W (h.below hb) hl
 obtain ⟨z,hz⟩:∃ z,z=num xs:=⟨_,rfl⟩
 rw [←hz] at K2 ⊢
 have HB0:=Lib.hid ((Below.refl w.heap.size w).alloc (Nat.le_refl _) (.cells #[.int .i64 0,.int .i64 0,.slice none 0 0] 84))
 clear h hz hk
 go_enter Tryz.func95,Tryz.ntmps95
 go_wp2_with (first
  | (go_at_call 115;(with_reducible refine (K1.out _).mono ?_);rintro e w' ⟨rfl,rfl⟩)
  | (go_at_call 92;(with_reducible refine (K2.out _ HB0.out).mono ?_);rintro e w' ⟨rfl,rfl⟩))
 refine bodyPost_ret (v := .agg #[.int .i64 k,.int .i64 (z:Nat),.slice none 0 0]) (by simp [results,Tryz.results95,go_sem]) rfl ⟨rfl,?_⟩
 exact (Below.refl _ _).alloc (Nat.le_refl _) _
def MadeB (k:Int) (xs:List Nat) (w:World) (e:Ending) (w':World):Prop:=∃ ao c,e = .returned (.agg #[.int .i64 k,.int .i64 0,.slice ao xs.length c])∧Fresh w.heap.size w' ao c xs∧Below w.heap.size w w'
theorem made_bytes (k:Int) (hk:isN k=false) (ao:Option Addr) (c:Nat) (xs:List Nat) (w:World) (h:Sl w ao c xs) (hl:xs.length≤1000000000) :
  Calls Tryz.prog 95 #[.int .i64 k,.slice ao xs.length c] w (MadeB k xs w):=by
 have K1:=Lib.hid fun W=>isnum_any k W
 rw [hk] at K1
 have K2:=Lib.hid fun (W:World) (hb:Below w.heap.size w W)=>clone_any ao c xs W (h.below hb) hl
 have HB0:=Lib.hid ((Below.refl w.heap.size w).alloc (Nat.le_refl _) (.cells #[.int .i64 0,.int .i64 0,.slice none 0 0] 84))
 clear h hk
 go_enter Tryz.func95,Tryz.ntmps95
 go_wp2_with (first
  | (go_at_call 115;(with_reducible refine (K1.out _).mono ?_);rintro e w' ⟨rfl,rfl⟩)
  | (go_at_call 71;(with_reducible refine (K2.out _ HB0.out).mono ?_);rintro e w2 ⟨ao2,c2,rfl,hF,hb2⟩;have HF:=Lib.hid hF;have HB2:=Lib.hid (HB0.out.trans (hb2.mono (by simp)));have hk:=(Blk.made w 84 #[.int .i64 0,.int .i64 0,.slice none 0 0]).below hb2;have k0:=hk.cell 0;have k1:=hk.cell 1;have k2:=hk.cell 2;have f0:=hk.free 0;have f1:=hk.free 1;have f2:=hk.free 2;clear hF hb2 hk))
 obtain ⟨g,hg⟩:∃ g,g=w.heap.size:=⟨_,rfl⟩
 have HT:Hid (Fresh w.heap.size (((w2.setCell ⟨w.heap.size,0,none⟩ (.int .i64 k)).setCell ⟨w.heap.size,1,none⟩ (.int .i64 0)).setCell ⟨w.heap.size,2,none⟩ (.slice ao2 xs.length c2)) ao2 c2 xs):=Lib.hid (by
  obtain ⟨h1,h2⟩:=HF.out
  simp at h2
  refine ⟨h1.touch ((((Touch.refl (fun k=>k=w.heap.size) w2).setCell _ _ (.inl rfl)).setCell _ _ (.inl rfl)).setCell _ _ (.inl rfl)) fun _ ad ha hs=>?_,fun ad ha=>?_⟩
  ·have:=h2 ad ha;omega
  ·have:=h2 ad ha;omega)
 refine bodyPost_ret (v := .agg #[.int .i64 k,.int .i64 0,.slice ao2 xs.length c2]) (by simp [results,Tryz.results95,go_sem,k0,k1,k2]) rfl ⟨ao2,c2,rfl,HT.out,?_⟩
 exact (((HB2.out.setCell (Nat.le_refl _) _).setCell (Nat.le_refl _) _).setCell (Nat.le_refl _) _)
def win (xs:List Nat) (at_ n:Nat):List Nat:=(xs.drop at_).take n
def fld (k:Int) (xs:List Nat) (at_ n:Nat):Fd:=if isN k then ⟨k,num (win xs at_ n),[]⟩ else ⟨k,0,win xs at_ n⟩
def stp (xs:List Nat) (back:Nat) (k:Int) (at_:Nat) (l:List Fd):Option (Fd × Nat):=
 let r:=szf k ((xs.length:Int)-at_) l back
 if r.2=true∧at_+r.1.toNat≤xs.length then some (fld k xs at_ r.1.toNat,at_+r.1.toNat) else none
def run (xs:List Nat) (back:Nat):List Int→Nat→List Fd→Option (List Fd × Nat)
 | [],at_,l=>some (l,at_)
 | k::ks,at_,l=>match stp xs back k at_ l with
  | none=>none
  | some (f,at')=>run xs back ks at' (l++[f])
theorem szf_nonneg (k left:Int) (l:List Fd) (back:Nat) (hl:0≤left):0≤(szf k left l back).1:=by
 unfold szf
 split
 ·simp
 ·split
  ·simp
  ·split
   ·split
    ·simp
    ·split <;> simp
   ·split
    ·exact hl
    ·simp
theorem run_drop {xs:List Nat} {back:Nat} {ks:List Int} {i at_:Nat} {l:List Fd} (hi:i<ks.length) :
  run xs back (ks.drop i) at_ l=match stp xs back (ks.getD i 0) at_ l with
   | none=>none
   | some (f,at')=>run xs back (ks.drop (i+1)) at' (l++[f]):=by
 rw [List.drop_eq_getElem_cons hi]
 simp [run,List.getD,hi]
theorem run_done {xs:List Nat} {back:Nat} {ks:List Int} {i at_:Nat} {l:List Fd} (hi:ks.length≤i):run xs back (ks.drop i) at_ l=some (l,at_):=by
 rw [List.drop_of_length_le hi];rfl
def ReadPost (o:Option (List Fd × Nat)) (w:World) (e:Ending) (w':World):Prop:=
 match o with
 | none=>e = .returned (.tuple #[.slice none 0 0,.int .i64 0,.bool false])∧Below w.heap.size w w'
 | some (fds,en)=>∃ (lo:Option Addr) (lc:Nat) (l:List Fe),l.map (·.f)=fds∧e = .returned (.tuple #[.slice lo l.length lc,.int .i64 (en:Nat),.bool true])∧Fs w' lo l∧Below w.heap.size w w'
theorem cells_fe (w:World) (e:TypeId) (x:Fe):CellsAt (w.alloc (.cells #[.int .i64 x.f.k,.int .i64 (x.f.n:Nat),.slice x.ao x.f.b.length x.c] e)) (.slice (some ⟨w.heap.size,0,none⟩) 1 1) 1 x.cells:=by
 refine .inr ⟨_,_,rfl,fun j u hu=>?_⟩
 rw [Addr.add_lit,World.cell?_alloc_at _ _ _ _ rfl]
 simpa [Fe.cells] using hu
theorem fe_one (x:Fe):∀ u∈x.cells,u.oneCell'=true:=by
 intro u hu
 simp [Fe.cells] at hu
 rcases hu with rfl | rfl | rfl <;> rfl
theorem read_out (ao:Option Addr) (c L:Nat) (at_:Int) (ka:Option Addr) (kn kc:Nat) (h:at_<0∨(L:Int)<at_) (w:World) :
  Calls Tryz.prog 67 #[.slice ao L c,.int .i64 at_,.slice ka kn kc] w fun e w'=>e = .returned (.tuple #[.slice none 0 0,.int .i64 0,.bool false])∧w=w':=by
 by_cases h1:at_<0
 ·go_enter Tryz.func67,Tryz.ntmps67
  go_wp2
  refine bodyPost_ret (v := .tuple #[.slice none 0 0,.int .i64 0,.bool false]) (by simp [results,Tryz.results67,go_sem]) rfl ⟨rfl,rfl⟩
 ·have h2:(L:Int)<at_:=by omega
  go_enter Tryz.func67,Tryz.ntmps67
  go_wp2
  refine bodyPost_ret (v := .tuple #[.slice none 0 0,.int .i64 0,.bool false]) (by simp [results,Tryz.results67,go_sem]) rfl ⟨rfl,rfl⟩
theorem isN_fld {k:Int} (h:isN k=true) (xs:List Nat) (a n:Nat):fld k xs a n=⟨k,num (win xs a n),[]⟩:=by simp [fld,h]
theorem notN_fld {k:Int} (h:isN k=false) (xs:List Nat) (a n:Nat):fld k xs a n=⟨k,0,win xs a n⟩:=by simp [fld,h]
theorem szf_isN {k left:Int} {l:List Fd} {back:Nat} (h:isN k=true):(szf k left l back).1≤4:=by
 rcases isN_yes h with rfl | rfl <;> simp [szf]
set_option maxHeartbeats 3200000 in
set_option maxRecDepth 100000 in
theorem read_any (ao:Option Addr) (c:Nat) (xs:List Nat) (at0:Nat) (ka:Option Addr) (kc:Nat) (ks:List Int) (w:World) (h:Sl w ao c xs) (hk:KSrc w ka ks) (hat:at0≤xs.length) (hm:xs.length≤100000000) (hkm:ks.length≤1000) (R:Option (List Fd × Nat)) (hR:run xs (cnt ks) ks at0 []=R) :
  Calls Tryz.prog 67 #[.slice ao xs.length c,.int .i64 at0,.slice ka ks.length kc] w (ReadPost R w):=by
 have HS:=Lib.hid h
 have HK:=Lib.hid hk
 have K0:=Lib.hid (count_any ka kc ks w hk (by omega))
 have hcl:=cnt_le ks
 obtain ⟨back,hback⟩:∃ b,b=cnt ks:=⟨_,rfl⟩
 rw [←hback] at hR K0 hcl
 have HBK:=Lib.hid hback
 have HR:=Lib.hid hR
 have hatn:¬((xs.length:Int)<at0):=by omega
 clear h hk hR hback
 go_enter Tryz.func67,Tryz.ntmps67
 go_wp2_with (go_at_call 93;(with_reducible refine K0.out.mono ?_);rintro e w' ⟨rfl,rfl⟩)
 go_loopw [1,10,29] (fun va vl vi wr=>∃ (i at_:Nat) (l:List Fe) (lo:Option Addr) (lc:Nat),i≤ks.length∧vi = .int .i64 i∧va = .int .i64 at_∧at_≤xs.length∧vl = .slice lo i lc∧Hid (l.length=i)∧FOwn wr w.heap.size 84 (.slice lo i lc) l∧Below w.heap.size w wr∧Hid (run xs back (ks.drop i) at_ (l.map (·.f))=R)) (fun _ _ vi _=>ks.length-(intOf vi).toNat)
 case atStart=>exact ⟨0,at0,[],none,0,Nat.zero_le _,rfl,rfl,hat,rfl,rfl,FOwn.nil _ _ _,Below.refl _ _,HR⟩
 case round=>
  obtain ⟨i,at_,l,lo,lc,hi,rfl,rfl,hat_,rfl,hlen,hown,hbel,hrun⟩:=hrel
  have HO:=Lib.hid hown
  have HB:=Lib.hid hbel
  clear hown hbel
  by_cases hlt:i<ks.length
  ·have hii:(i:Int)<ks.length:=by omega
   have HKr:=Lib.hid (HK.out.below HB.out)
   rcases HKr.out with h0 | ⟨kb,ko,hka,hkc⟩
   ·rw [h0] at hlt;simp at hlt
   subst hka
   have hkcell:=hkc i hlt
   have HSr:=Lib.hid (HS.out.below HB.out)
   have hFs:Fs wr lo l:=by
    have:=HO.out
    rw [←hlen.out] at this
    exact this.fs
   have HF:=Lib.hid hFs
   have HRD:=Lib.hid (run_drop (xs:=xs) (back:=back) (at_:=at_) (l:=l.map (·.f)) hlt)
   have hb2:ks.getD i 0=2→1≤back:=fun h2=>by
    rw [HBK.out]
    have hmem:ks.getD i 0∈ks.filter fun k=>k == 2:=by
     rw [List.mem_filter]
     exact ⟨by rw [List.getD,List.getElem?_eq_getElem hlt];exact List.getElem_mem _,by show (ks.getD i 0 == 2)=true;rw [h2];rfl⟩
    exact List.length_pos_of_mem hmem
   obtain ⟨k,hk⟩:∃ k,k=ks.getD i 0:=⟨_,rfl⟩
   rw [←hk] at hkcell hb2 HRD
   clear hk hkc hFs
   have hnn:=szf_nonneg k ((xs.length:Int)-at_) (l.map (·.f)) back (by omega)
   obtain ⟨z,ok,hz⟩:∃ z ok,szf k ((xs.length:Int)-at_) (l.map (·.f)) back=(z,ok):=⟨_,_,rfl⟩
   rw [hz] at hnn
   obtain ⟨n,hn⟩:=Int.eq_ofNat_of_zero_le hnn
   simp only at hn
   subst hn
   have K1:=Lib.hid (size_any l k ((xs.length:Int)-at_) lo lc back hb2 wr HF.out (by have:=hlen.out;omega) (n:Int) ok hz)
   rw [hlen.out] at K1
   have hstp:stp xs back k at_ (l.map (·.f))=if ok=true∧at_+n≤xs.length then some (fld k xs at_ n,at_+n) else none:=by
    unfold stp
    rw [hz]
    simp
   have hisN:isN k=true→n≤4:=fun h=>by
    have:=szf_isN (left:=(xs.length:Int)-at_) (l:=l.map (·.f)) (back:=back) h
    rw [hz] at this
    simp at this
    omega
   rw [hstp] at HRD
   clear hz hstp hb2 hnn
   have hd:Hid (∀ W,Below wr.heap.size wr W→Below w.heap.size w W):=Lib.hid fun W hW=>HB.out.trans (hW.mono HB.out.size)
   by_cases hfit:at_+n≤xs.length
   ·have K2:=Lib.hid fun (W:World)=>within_ok ao xs.length c at_ n W HS.out.le HS.out.big hfit
    have hwl:=win_len hfit
    cases ok with
    | false=>
     have hres:R=none:=by rw [←hrun.out,HRD.out];simp
     subst hres
     clear hrun HRD hisN
     obtain ⟨A,hA⟩:∃ A,A=cutA ao c at_:=⟨_,rfl⟩
     rw [←hA] at K2
     clear hA
     go_wp2_with (first
      | (go_at_call 94;(with_reducible refine K1.out.mono ?_);rintro e w1 ⟨rfl,hb1⟩;have HB1:=Lib.hid (hd.out w1 hb1);clear hb1)
      | (go_at_call 91;(with_reducible refine (K2.out _).mono ?_);rintro e w' ⟨rfl,rfl⟩))
     all_goals
      refine bodyPost_ret (v := .tuple #[.slice none 0 0,.int .i64 0,.bool false]) (by simp [results,Tryz.results67,go_sem]) rfl ⟨rfl,HB1.out⟩
    | true=>
     have HRN:Hid (run xs back (ks.drop (i+1)) (at_+n) (l.map (·.f)++[fld k xs at_ n])=R):=Lib.hid (by
      rw [←hrun.out,HRD.out];simp [hfit])
     have hcut:=hwl
     obtain ⟨ys,hys⟩:∃ ys,ys=win xs at_ n:=⟨_,rfl⟩
     have hyl:ys.length=n:=by rw [hys];exact hwl
     have HC:Hid (∀ W,Below wr.heap.size wr W→Sl W (cutA ao c at_) (c-at_) ys):=Lib.hid fun W hW=>by
      rw [hys];exact ((HSr.out.below hW).cut' at_ n hfit)
     obtain ⟨A,hA⟩:∃ A,A=cutA ao c at_:=⟨_,rfl⟩
     rw [←hA] at K2 HC
     have HO1:Hid (∀ W,Below wr.heap.size wr W→W.ownsRow w.heap.size 84 3 (.slice lo i lc) i (fcells l)):=Lib.hid fun W hW=>by
      have:=(HO.out.below hW).own
      rw [hlen.out] at this
      exact this
     clear hA hrun HRD hcut hwl
     by_cases hkn:isN k=true
     ·have hn4:=hisN hkn
      rw [isN_fld hkn,←hys] at HRN
      have K3:=fun (W:World) (hW:Below wr.heap.size wr W)=>made_num k hkn A (c-at_) ys W (HC.out W hW) (by omega)
      rw [hyl] at K3
      obtain ⟨z,hz⟩:∃ z,z=num ys:=⟨_,rfl⟩
      rw [←hz] at K3 HRN
      have K3:=Lib.hid K3
      clear hz hys hyl hisN hkn
      go_wp2_with (first
       | (go_at_call 94;(with_reducible refine K1.out.mono ?_);rintro e w1 ⟨rfl,hb1⟩;have HB1:=Lib.hid hb1;clear hb1)
       | (go_at_call 91;(with_reducible refine (K2.out _).mono ?_);rintro e w' ⟨rfl,rfl⟩)
       | (go_at_call 95;(with_reducible refine (K3.out _ HB1.out).mono ?_);rintro e w3 ⟨rfl,hb3⟩;have HB3:=Lib.hid (HB1.out.trans (hb3.mono HB1.out.size));clear hb3)
       | (at_builtin;refine wpList_append_x at37 rfl (.tmp 57) (.tmp 61) rfl w.heap.size (.slice lo i lc) _ i 1 (fcells l) (Fe.cells ⟨⟨k,z,[]⟩,none,0⟩) rfl rfl (ownsRow_below (HO1.out _ HB3.out) ((Below.refl _ _).alloc (Nat.le_refl _) _)) (cells_fe _ 84 ⟨⟨k,z,[]⟩,none,0⟩) rfl (fe_one _) (by have:=HB.out.size;have:=HB3.out.size;simp;omega) (by omega) (by omega) ?c2))
      case c2=>
      intro ao5 c5 w5 hA5
      have hA6:=hA5.alloc
      have hO5:FOwn w5 w.heap.size 84 (.slice ao5 (i+1) c5) (l++[⟨⟨k,z,[]⟩,none,0⟩]):=(HO.out.below HB3.out).app (Sl.none_ _) (fun hne=>absurd rfl hne) (by rw [hlen.out];exact hA6)
      have HO5:=Lib.hid hO5
      have HB5:=Lib.hid ((hd.out _ HB3.out).trans (hA6.below (HO1.out _ HB3.out) (by have:=HB.out.size;have:=HB3.out.size;omega)))
      clear hA5 hA6 hO5
      go_wp2
      go_roundw
      case rel=>exact ⟨i+1,at_+n,l++[⟨⟨k,z,[]⟩,none,0⟩],ao5,c5,by omega,by go_num,by go_num,hfit,rfl,Lib.hid (by rw [List.length_append,hlen.out];rfl),HO5.out,HB5.out,Lib.hid (by rw [List.map_append];exact HRN.out)⟩
      case measure=>simp [intOf];omega
     ·have hkn':isN k=false:=by simpa using hkn
      rw [notN_fld hkn',←hys] at HRN
      have K3:=fun (W:World) (hW:Below wr.heap.size wr W)=>made_bytes k hkn' A (c-at_) ys W (HC.out W hW) (by omega)
      rw [hyl] at K3
      have K3:=Lib.hid K3
      clear hys hyl hisN hkn hkn'
      go_wp2_with (first
       | (go_at_call 94;(with_reducible refine K1.out.mono ?_);rintro e w1 ⟨rfl,hb1⟩;have HB1:=Lib.hid hb1;clear hb1)
       | (go_at_call 91;(with_reducible refine (K2.out _).mono ?_);rintro e w' ⟨rfl,rfl⟩)
       | (go_at_call 95;(with_reducible refine (K3.out _ HB1.out).mono ?_);rintro e w3 ⟨ao3,c3,rfl,hF3,hb3⟩;have HF3:=Lib.hid hF3;have HB3:=Lib.hid (HB1.out.trans (hb3.mono HB1.out.size));clear hb3 hF3)
       | (at_builtin;refine wpList_append_x at37 rfl (.tmp 57) (.tmp 61) rfl w.heap.size (.slice lo i lc) _ i 1 (fcells l) (Fe.cells ⟨⟨k,0,ys⟩,ao3,c3⟩) rfl rfl (ownsRow_below (HO1.out _ HB3.out) ((Below.refl _ _).alloc (Nat.le_refl _) _)) (cells_fe _ 84 ⟨⟨k,0,ys⟩,ao3,c3⟩) rfl (fe_one _) (by have:=HB.out.size;have:=HB3.out.size;simp;omega) (by omega) (by omega) ?c2))
      case c2=>
      intro ao5 c5 w5 hA5
      have hA6:=hA5.alloc
      have hO5:FOwn w5 w.heap.size 84 (.slice ao5 (i+1) c5) (l++[⟨⟨k,0,ys⟩,ao3,c3⟩]):=(HO.out.below HB3.out).app HF3.out.1 (fun _ ad had hc=>by
       have h1:=HF3.out.2 ad had
       have h2:=(HO1.out _ (Below.refl _ _)).lt _ hc
       have h3:=HB1.out.size
       omega) (by rw [hlen.out];exact hA6)
      have HO5:=Lib.hid hO5
      have HB5:=Lib.hid ((hd.out _ HB3.out).trans (hA6.below (HO1.out _ HB3.out) (by have:=HB.out.size;have:=HB3.out.size;omega)))
      clear hA5 hA6 hO5
      go_wp2
      go_roundw
      case rel=>exact ⟨i+1,at_+n,l++[⟨⟨k,0,ys⟩,ao3,c3⟩],ao5,c5,by omega,by go_num,by go_num,hfit,rfl,Lib.hid (by rw [List.length_append,hlen.out];rfl),HO5.out,HB5.out,Lib.hid (by rw [List.map_append];exact HRN.out)⟩
      case measure=>simp [intOf];omega
   ·have hres:R=none:=by rw [←hrun.out,HRD.out];simp [hfit]
    subst hres
    have K2:=Lib.hid fun (W:World)=>within_no ao xs.length c at_ n W (by have:=HS.out.le;have:=HS.out.big;omega) (by omega)
    clear hrun HRD hisN
    go_wp2_with (first
     | (go_at_call 94;(with_reducible refine K1.out.mono ?_);rintro e w1 ⟨rfl,hb1⟩;have HB1:=Lib.hid (hd.out w1 hb1);clear hb1)
     | (go_at_call 91;(with_reducible refine (K2.out _).mono ?_);rintro e w' ⟨rfl,rfl⟩))
    all_goals
     refine bodyPost_ret (v := .tuple #[.slice none 0 0,.int .i64 0,.bool false]) (by simp [results,Tryz.results67,go_sem]) rfl ⟨rfl,HB1.out⟩
  ·have hil:i=ks.length:=by omega
   have hres:R=some (l.map (·.f),at_):=by rw [←hrun.out,run_done (by omega)]
   subst hres
   have HP:Hid (ReadPost (some (l.map (·.f),at_)) w (.returned (.tuple #[.slice lo i lc,.int .i64 at_,.bool true])) wr):=Lib.hid (by
    have:=HO.out
    rw [←hlen.out] at this ⊢
    exact ⟨lo,lc,l,rfl,rfl,this.fs,HB.out⟩)
   clear hrun
   go_wp2
   refine bodyPost_ret (v := .tuple #[.slice lo i lc,.int .i64 at_,.bool true]) (by simp [results,Tryz.results67,go_sem]) rfl HP.out
end
end Go.Proofs.YthbbpooobaahiaaGreatDoor.Cu
namespace Go.Proofs.YthbbpooobaahiaaGreatDoor.Zz
set_option maxRecDepth 100000
section
open Go.RowKit
def kw (k:Int):Nat:=if k=0 then 2 else 4
def kt:List Int→Nat
 | []=>0
 | k::r=>kw k+kt r
def nsAt (xs:List Nat):List Int→Nat→List Nat
 | [],_=>[]
 | k::r,p=>Cu.num ((xs.drop p).take (kw k))::nsAt xs r (p+kw k)
theorem nsAt_len (xs:List Nat):∀ ks p,(nsAt xs ks p).length=ks.length
 | [],_=>rfl
 | k::r,p=>by rw [nsAt,List.length_cons,nsAt_len xs r,List.length_cons]
def Ks (ks:List Int):Prop:=∀ k∈ks,k=0∨k=1
def fds (xs:List Nat):List Int→Nat→List Cu.Fd
 | [],_=>[]
 | k::r,p=>⟨k,Cu.num ((xs.drop p).take (kw k)),[]⟩::fds xs r (p+kw k)
theorem fds_n (xs:List Nat):∀ ks p,(fds xs ks p).map (·.n)=nsAt xs ks p
 | [],_=>rfl
 | k::r,p=>by rw [fds,nsAt,List.map_cons,fds_n xs r]
theorem stp_kw {xs:List Nat} {back:Nat} {k:Int} (hk:k=0∨k=1) (p:Nat) (l:List Cu.Fd) :
  Cu.stp xs back k p l=if p+kw k≤xs.length then some (⟨k,Cu.num ((xs.drop p).take (kw k)),[]⟩,p+kw k) else none:=by
 rcases hk with rfl | rfl <;> simp [Cu.stp,Cu.szf,Cu.fld,Cu.isN,Cu.win,kw]
theorem run_kw {xs:List Nat} {back:Nat}:∀ (ks:List Int) (p:Nat) (l:List Cu.Fd),Ks ks→p≤xs.length→
  Cu.run xs back ks p l=if p+kt ks≤xs.length then some (l++fds xs ks p,p+kt ks) else none
 | [],p,l,_,hp=>by
  rw [Cu.run,if_pos (by simpa [kt] using hp)]
  simp [fds,kt]
 | k::r,p,l,hk,hp=>by
  rw [Cu.run,stp_kw (hk k (List.mem_cons_self ..))]
  by_cases h:p+kw k≤xs.length
  ·rw [if_pos h]
   simp only []
   rw [run_kw r (p+kw k) _ (fun x hx=>hk x (List.mem_cons_of_mem _ hx)) h,kt,←Nat.add_assoc]
   by_cases h2:p+kw k+kt r≤xs.length
   ·rw [if_pos h2,if_pos h2,fds];simp
   ·rw [if_neg h2,if_neg h2]
  ·rw [if_neg h,if_neg (by rw [kt];omega)]
def Ns (w:World) (g:Nat) (l:List Nat):Prop:=∀ j (h:j<l.length),w.cell? ⟨g,j,none⟩=some (.int .i64 (l[j]:Nat))
theorem _root_.Go.Proofs.YthbbpooobaahiaaGreatDoor.Touch.nb {a b:World} (h:Touch (fun _=>False) a b):Below a.heap.size a b:=h.below (Nat.le_refl _) fun _ h=>h.elim
def nsC (l:List Nat) (i:Nat):Nat→Value:=fun j => .int .i64 ((if j<i then l.getD j 0 else 0:Nat):Int)
theorem nsC_zero (l:List Nat) (n:Nat):va (n*1) (fun i=>(Value.int IntKind.i64 0).cells[i%(Value.int IntKind.i64 0).cells.size]!)=va n (nsC l 0):=by
 rw [Nat.mul_one]
 refine va_congr fun i _=>?_
 simp [nsC,Value.cells,Nat.mod_one]
theorem nsC_set (l:List Nat) (n i:Nat):(va n (nsC l i)).setIfInBounds i (.int .i64 (l.getD i 0:Nat))=va n (nsC l (i+1)):=by
 rw [va_set]
 refine va_congr fun j _=>?_
 unfold nsC
 by_cases h:j=i
 ·subst h;simp
 ·rw [if_neg h]
  by_cases h2:j<i
  ·rw [if_pos h2,if_pos (by omega)]
  ·rw [if_neg h2,if_neg (by omega)]
theorem nsC_all {w:World} {g:Nat} {l:List Nat} (h:Blk w g 3 (va l.length (nsC l l.length))):Ns w g l:=fun j hj=>by
 rw [h.cell,va_at _ _ _ hj]
 simp [nsC,hj,List.getD]
set_option maxHeartbeats 1600000 in
theorem numbers_ok (ao:Option Addr) (c:Nat) (xs:List Nat) (at_:Nat) (ka:Option Addr) (kc:Nat) (ks:List Int) (w:World) (h:Cu.Sl w ao c xs) (hk:Cu.KSrc w ka ks) (hks:Ks ks) (hm:xs.length≤1000000) (hkm:ks.length≤100) (hat:at_+kt ks≤xs.length) :
  Calls Tryz.prog 45 #[.slice ao xs.length c,.int .i64 at_,.slice ka ks.length kc] w fun e w'=>Below w.heap.size w w'∧∃ g,e = .returned (.tuple #[.slice (some ⟨g,0,none⟩) ks.length ks.length,.bool true])∧w.heap.size≤g∧Ns w' g (nsAt xs ks at_):=by
 have K1:=Cu.read_any ao c xs at_ ka kc ks w h hk (by omega) (by omega) (by omega) _ rfl
 rw [run_kw ks at_ [] hks (by omega),if_pos hat,List.nil_append] at K1
 have K1:=Lib.hid K1
 obtain ⟨N,hN⟩:∃ N,N=nsAt xs ks at_:=⟨_,rfl⟩
 have hfn:=fds_n xs ks at_
 rw [←hN] at hfn ⊢
 have hNl:N.length=ks.length:=by rw [hN,nsAt_len]
 obtain ⟨F,hF⟩:∃ F,F=fds xs ks at_:=⟨_,rfl⟩
 rw [←hF] at K1 hfn
 have HFN:=Lib.hid hfn
 obtain ⟨n,hn⟩:∃ n,n=ks.length:=⟨_,rfl⟩
 rw [←hn] at hNl hkm K1 ⊢
 have HNL:=Lib.hid hNl
 clear h hk hks hN hF hn hfn hNl
 go_enter Tryz.func45,Tryz.ntmps45
 go_wp2_with fail
 refine K1.out.mono ?_
 rintro e w1 ⟨lo,lc,l,hl,rfl,hFs,hb1⟩
 have hll:l.length=n:=by
  rw [←HNL.out,←HFN.out,←hl];simp
 rw [hll]
 have HL:=Lib.hid hl
 have HLL:=Lib.hid hll
 have HFs:=Lib.hid hFs
 have HB1:=Lib.hid hb1
 clear hl hll hFs hb1
 go_wp2_with (refine wpList_make_z rfl 88 (.tmp 23) (.tmp 23) rfl 3 (.int .i64 0) 1 8 n Tryz.underlying88 (by kernel_rfl) .i64 .i64 _ _ rfl rfl rfl rfl (by omega) (by omega) ?_;intro W hbk htk hsk;rw [nsC_zero N n] at hbk;have HBK:=Lib.hid hbk;have HTK:=Lib.hid htk;clear hbk htk hsk)
 obtain ⟨g,hg⟩:∃ g,g=w1.heap.size:=⟨_,rfl⟩
 rw [←hg] at HBK ⊢
 have HG:=Lib.hid (show w.heap.size≤g by rw [hg];exact HB1.out.size)
 have HBW:=Lib.hid (HB1.out.trans ((HTK.out.nb).mono HB1.out.size))
 have HGE:=Lib.hid hg
 have HT0:=Lib.hid ((HTK.out.mono fun _ h=>h.elim:Touch (fun k=>k=g) w1 W))
 clear hg HB1 HTK K1
 go_loopw [27] (fun vi wr=>∃ i:Nat,i≤n∧vi = .int .i64 i∧Blk wr g 3 (va n (nsC N i))∧Below w.heap.size w wr∧Touch (fun k=>k=g) w1 wr) (fun vi _=>n-(intOf vi).toNat)
 case atStart=>exact ⟨0,Nat.zero_le _,rfl,HBK.out,HBW.out,HT0.out⟩
 case round=>
  obtain ⟨i,hi,rfl,hbk,hbel,hfs⟩:=hrel
  have HBK2:=Lib.hid hbk
  have HB:=Lib.hid hbel
  have HT3:=Lib.hid hfs
  clear hbk hbel hfs HBK HBW HT0
  by_cases hlt:i<n
  ·have hii:(i:Int)<n:=by omega
   have hil:i<l.length:=by rw [HLL.out];exact hlt
   have hx:l[i]? = some l[i]:=List.getElem?_eq_getElem hil
   obtain ⟨gl,rfl,hF⟩:=HFs.out.get hx
   have hv:((l[i].f.n:Nat):Int)=(N.getD i 0:Nat):=by
    rw [←HFN.out,←HL.out]
    simp [List.getD,hil]
   have hgl1:gl<w1.heap.size:=World.block_lt_of_cell? w1 _ hF.c0
   have hsame:wr.heap[gl]? = w1.heap[gl]? := HT3.out.block gl hgl1 (by have:=HGE.out;omega)
   have c0:=(World.cell?_of_block (a:=⟨gl,i*3,none⟩) hsame).trans hF.c0
   have c1:=(World.cell?_of_block (a:=⟨gl,i*3+1,none⟩) hsame).trans hF.c1
   have c2:=(World.cell?_of_block (a:=⟨gl,i*3+2,none⟩) hsame).trans hF.c2
   rw [hv] at c1
   obtain ⟨x0,hx0⟩:∃ x,x=l[i].f.k:=⟨_,rfl⟩
   obtain ⟨p2,hp2⟩:∃ x,x=l[i].ao:=⟨_,rfl⟩
   obtain ⟨q2,hq2⟩:∃ x,x=l[i].f.b.length:=⟨_,rfl⟩
   obtain ⟨r2,hr2⟩:∃ x,x=l[i].c:=⟨_,rfl⟩
   obtain ⟨z,hz⟩:∃ z,z=N.getD i 0:=⟨_,rfl⟩
   rw [←hx0] at c0
   rw [←hp2,←hq2,←hr2] at c2
   rw [←hz] at c1
   have hgl:gl<wr.heap.size:=World.block_lt_of_cell? wr _ c0
   have hgw:=HBK2.out.lt
   have HA:=Lib.hid ((Below.refl wr.heap.size wr).alloc (Nat.le_refl _) (.cells #[.int .i64 x0,.int .i64 (z:Nat),.slice p2 q2 r2] 84))
   have HBA:=Lib.hid (HBK2.out.below HA.out)
   have hf:=HBA.out.free i
   have hca:(wr.alloc (.cells #[.int .i64 x0,.int .i64 (z:Nat),.slice p2 q2 r2] 84)).cell? ⟨g,i,none⟩=some (nsC N i i):=by rw [HBA.out.cell,va_at _ _ _ hlt]
   have HS0:Hid (Blk (wr.setCell ⟨g,i,none⟩ (.int .i64 (z:Nat))) g 3 (va n (nsC N (i+1)))):=Lib.hid (by
    rw [hz,←nsC_set];exact HBK2.out.setCell i _)
   have HST:=Lib.hid (HS0.out.touch ((Touch.refl (fun _=>False) (wr.setCell ⟨g,i,none⟩ (.int .i64 (z:Nat)))).alloc (.cells #[.int .i64 x0,.int .i64 (z:Nat),.slice p2 q2 r2] 84)) fun h=>h)
   have HBT:=Lib.hid ((((Touch.of_below HB.out:Touch (fun k=>w.heap.size≤k) w wr).setCell ⟨g,i,none⟩ (.int .i64 (z:Nat)) (.inr HG.out)).trans ((Touch.refl _ _).alloc (.cells #[.int .i64 x0,.int .i64 (z:Nat),.slice p2 q2 r2] 84))).below (Nat.le_refl _) fun _ h=>h)
   have HFT:=Lib.hid ((HT3.out.setCell ⟨g,i,none⟩ (.int .i64 (z:Nat)) (.inl rfl)).trans ((Touch.refl _ _).alloc (.cells #[.int .i64 x0,.int .i64 (z:Nat),.slice p2 q2 r2] 84)))
   clear hx hv hx0 hp2 hq2 hr2 hz hF hsame hgl1
   go_wp2
   go_roundw
   case rel=>exact ⟨i+1,by omega,by go_num,HST.out,HBT.out,HFT.out⟩
   case measure=>simp [intOf];omega
  ·have hin:i=n:=by omega
   subst hin
   have HN:Hid (Ns wr g N):=Lib.hid (nsC_all (by rw [HNL.out];exact HBK2.out))
   have hni:¬(i:Int)<i:=by omega
   go_wp2
   go_ret2
   exact ⟨HB.out,g,rfl,HG.out,HN.out⟩
theorem read_none (ao:Option Addr) (c:Nat) (xs:List Nat) (at_:Int) (ka:Option Addr) (kc:Nat) (ks:List Int) (w:World) (h:Cu.Sl w ao c xs) (hk:Cu.KSrc w ka ks) (hks:Ks ks) (hm:xs.length≤1000000) (hkm:ks.length≤100) (hat:¬(0≤at_∧at_+kt ks≤xs.length)) :
  Calls Tryz.prog 67 #[.slice ao xs.length c,.int .i64 at_,.slice ka ks.length kc] w fun e w'=>e = .returned (.tuple #[.slice none 0 0,.int .i64 0,.bool false])∧Below w.heap.size w w':=by
 by_cases h1:at_<0∨(xs.length:Int)<at_
 ·refine (Cu.read_out ao c xs.length at_ ka ks.length kc h1 w).mono ?_
  rintro e w' ⟨rfl,rfl⟩
  exact ⟨rfl,Below.refl _ _⟩
 ·obtain ⟨p,rfl⟩:=Int.eq_ofNat_of_zero_le (show 0≤at_ by omega)
  have K1:=Cu.read_any ao c xs p ka kc ks w h hk (by omega) (by omega) (by omega) _ rfl
  rw [run_kw ks p [] hks (by omega),if_neg (by omega)] at K1
  exact K1
set_option maxHeartbeats 800000 in
theorem numbers_no (ao:Option Addr) (c:Nat) (xs:List Nat) (at_:Int) (ka:Option Addr) (kc:Nat) (ks:List Int) (w:World) (h:Cu.Sl w ao c xs) (hk:Cu.KSrc w ka ks) (hks:Ks ks) (hm:xs.length≤1000000) (hkm:ks.length≤100) (hat:¬(0≤at_∧at_+kt ks≤xs.length)) :
  Calls Tryz.prog 45 #[.slice ao xs.length c,.int .i64 at_,.slice ka ks.length kc] w fun e w'=>Below w.heap.size w w'∧∃ g,e = .returned (.tuple #[.slice (some ⟨g,0,none⟩) 0 0,.bool false]):=by
 have K1:=Lib.hid (read_none ao c xs at_ ka kc ks w h hk hks hm hkm hat)
 clear h hk hks hat
 go_enter Tryz.func45,Tryz.ntmps45
 go_wp2_with fail
 refine K1.out.mono ?_
 rintro e w1 ⟨rfl,hb1⟩
 have HB1:=Lib.hid hb1
 clear hb1
 go_wp2_with (refine wpList_make_z rfl 88 (.tmp 23) (.tmp 23) rfl 3 (.int .i64 0) 1 8 0 Tryz.underlying88 (by kernel_rfl) .i64 .i64 _ _ rfl rfl rfl rfl (by omega) (by omega) ?_;intro W hbk htk hsk;have HTK:=Lib.hid htk;clear hbk htk hsk)
 have HBW:=Lib.hid (HB1.out.trans ((HTK.out.nb).mono HB1.out.size))
 obtain ⟨g,hg⟩:∃ g,g=w1.heap.size:=⟨_,rfl⟩
 rw [←hg]
 go_loopw [27] (fun vi wr=>vi = .int .i64 0∧Below w.heap.size w wr) (fun vi _=>0)
 case atStart=>exact ⟨rfl,HBW.out⟩
 case round=>
  obtain ⟨rfl,hbel⟩:=hrel
  have HB:=Lib.hid hbel
  clear hbel
  go_wp2
  go_ret2
  exact ⟨HB.out,g,rfl⟩
theorem ksrc_lit {w:World} {g:Nat} {ks:List Int} {t:TypeId} (h:Blk w g t (ks.map (Value.int .i64)).toArray):Cu.KSrc w (some ⟨g,0,none⟩) ks:=by
 refine .inr ⟨g,0,rfl,fun j hj=>?_⟩
 rw [h.cell]
 simp [List.getD,hj]
end
end Go.Proofs.YthbbpooobaahiaaGreatDoor.Zz
