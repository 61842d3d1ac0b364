/- Part 20. -/
import Derived.Test.YtacpfpghokcdlaaGreatDoorXB19
open Go.Proofs.Tryz
namespace Go.Proofs.YtacpfpghokcdlaaGreatDoor
set_option maxRecDepth 100000
section
open Go.Lib renaming hid → J
open Go.RowKit
section
variable {B p:Nat}{rv:Value}{bs:List Nat}{lim nb er:Nat}{w:World}{ov:Value}{s:Sta}
theorem zK (h:QS B p rv bs lim nb 0 w ov s) (x:Nat) (hx:x≤15) :
  Calls prog 31 #[.pointer (some ⟨p,0,none⟩),.int .i64 (x:Nat)] w fun e w'=>e=.returned (.tuple #[])∧QS B p rv bs lim nb x w' ov s∧Qv p w ov w' ov:=by
 have c4:=h.cells.c4;have f4:=h.cells.f4;have H:=J (h.setErr x hx);clear h;go_enter func31,ntmps31;go_wp2;go_end0;exact ⟨rfl,H.out⟩
theorem Kr (h:QS B p rv bs lim nb er w ov s) (her:er≠0) (x:Int) :
  Calls prog 31 #[.pointer (some ⟨p,0,none⟩),.int .i64 x] w fun e w'=>e=.returned (.tuple #[])∧w=w':=by
 have c4:=h.cells.c4;have d:((er:Int) == 0)=false:=by simp;omega
 clear h;go_enter func31,ntmps31;go_wp2;go_end0;exact ⟨rfl,rfl⟩
theorem ziP (bs:List Nat) (a:Nat):pk bs a 0=0:=by unfold pk;simp [Nat.mod_one]
theorem zhZ (bs:List Nat) (a i:Nat):pk bs a (i+1)=pk bs a i+num bs/2^(a+i)%2*2^i:=by
 unfold pk;rw [Nat.mod_pow_succ,Nat.div_div_eq_div_mul,←Nat.pow_add,Nat.mul_comm]
theorem jq (h:QS B p rv bs lim nb er w ov s) (her:er≠0) (n:Int) :
  Calls prog 25 #[.pointer (some ⟨p,0,none⟩),.int .i64 n] w fun e w'=>e=.returned (.int .i64 0)∧∃ q,w'=w.drewN q:=by
 have c4:=h.cells.c4;have d:((er:Int) != 0)=true:=by simp;omega
 have HF:=J fun q=>(h.drewN q).1
 clear h;go_enter func25,ntmps25;go_wp2;go_quiet (fail)
 go_wp2_with fail
 refine (Kr (HF.out _) her 15).mono ?_;rintro e w3 ⟨rfl,rfl⟩;go_wp2;go_ret;exact ⟨rfl,_,rfl⟩
set_option maxHeartbeats 1600000 in
theorem x7 (h:QS B p rv bs lim nb 0 w ov s) (n:Nat) (hn:n≤16) :
  Calls prog 25 #[.pointer (some ⟨p,0,none⟩),.int .i64 n] w (QTo B p rv bs lim nb w ov nv (.int .i64 0) (rdN bs n s)):=by
 have c0:=h.cells.c0;have c1:=h.cells.c1;have c4:=h.cells.c4;have f1:=h.cells.f1;obtain ⟨ro,rc,rfl⟩:=h.rshape;obtain ⟨L,hL⟩:=exq (8*bs.length);obtain ⟨A,hA⟩:=exq (s.at_);have hLb:L≤16000:=by have:=h.len;omega
 have hin:A≤L:=by have:=h.in_;omega
 rw [←hL] at c0;rw [←hA] at c1;have H:=J h;have HL:=J hL;have HA:=J hA;by_cases hle:A+n≤L
 ·have hr:rdN bs n s=.ok (pk bs A n) { s with at_:=A+n }:=by unfold rdN;rw [if_pos (by omega),hA]
  have HR:=J hr;have d1:decide ((L:Int)<A+n)=false:=by simp;omega
  have d2:decide (L<A+n)=false:=by simp;omega
  have HB:=J fun k (hk:k<L)=>h.bit k (by omega)
  have HS:=J fun q=>(h.drewN q).1.setAt (A+n) (by omega) (by omega) (x:=(A:Int)+n) (by simp)
  have HM:=J fun q=>(h.drewN q).2
  have HP:=J (fun i=>zhZ bs A i);rw [←hL] at HB;clear h hL hA hr;go_enter func25,ntmps25;go_wp2;go_quiet (fail)
  go_wp2;go_loopw [5,6] (fun v5 v6 wr=>∃ i q:Nat,i≤n∧v5=.int .i64 (pk bs A i:Nat)∧v6=.int .i64 (i:Nat)∧wr=w.drewN q) (fun _ v6 _=>n-(intOf v6).toNat)
  case atStart=>exact ⟨0,_,Nat.zero_le _,by rw [ziP];rfl,rfl,rfl⟩
  case round=>
   obtain ⟨i,q,hi,rfl,rfl,rfl⟩:=hrel;have hV:=vX bs A i;have hV2:pk bs A i<65536:=Nat.lt_of_lt_of_le hV (Nat.le_trans (Nat.pow_le_pow_right (by omega) (Nat.le_trans hi hn)) (by decide:2^16≤65536));by_cases hlt:i<n
   ·have hlt':(i:Int)<n:=by omega
    obtain ⟨b1,cc,he,_,g1⟩:=HB.out (A+i) (by omega);simp only [Value.slice.injEq] at he;obtain ⟨rfl,_,rfl⟩:=he;have hps:=HP.out i;obtain ⟨x,hx⟩:=exq (num bs/2^(A+i)%2);obtain ⟨V,hVe⟩:=exq (pk bs A i);have hx2:x≤1:=by rw [hx];omega
    obtain ⟨y,hy⟩:∃ y,x*2^i=y:=⟨_,rfl⟩;have hy2:y≤65536:=by
     rw [←hy];exact Nat.le_trans (Nat.mul_le_mul hx2 (Nat.pow_le_pow_right (by omega) (Nat.le_trans hi hn))) (by decide)
    rw [←hx,←hVe,hy] at hps;rw [←hx] at g1;rw [←hVe] at hV2 ⊢;have HPS:=J hps;have q3:(x:Int)*2^i=y:=by rw [←hy];simp
    have e1:IntKind.i64.wrap ((A:Int)+i)=(A:Int)+i:=by rw [IntKind.wrap_i64];omega
    have e2:(0:Int)≤(A:Int)+i:=by omega
    have e3:((A:Int)+i).toNat=A+i:=by omega
    have e4:(A:Int)+i<L:=by omega
    clear hx hVe hy hV hps;go_wp2;go_quiet (fail)
    go_wp2;go_roundw;case rel=>exact ⟨i+1,_,by omega,by rw [HPS.out];go_num,by go_num,rfl⟩
    case measure=>simp [intOf];omega
   ·have hi':i=n:=by omega
    subst hi';obtain ⟨V,hVe⟩:=exq (pk bs A i);have HV:=J hVe.symm;rw [←hVe] at hV2 ⊢;clear hVe hV hlt;go_wp2;go_ret;refine QTo.ok (enc:=nv) (by rw [HR.out,HV.out]) (HS.out q).1 ((HM.out q).trans (HS.out q).2)
 ·have hr:rdN bs n s=.bad 15:=by unfold rdN;rw [if_neg (by omega)]
  have HR:=J hr;have d1:(L:Int)<A+n:=by omega
  have HS:=J fun q=>h.drewN q
  clear h hL hA hr hle;go_enter func25,ntmps25;go_wp2;go_quiet (fail)
  go_wp2_with fail
  refine (zK (HS.out _).1 15 (by omega)).mono ?_;rintro e w3 ⟨rfl,h3,m3⟩;have H3:=J h3;have M3:=J m3;clear h3 m3;go_wp2;go_ret;exact QTo.bad HR.out H3.out ((HS.out _).2.trans M3.out)
theorem vT (h:QS B p rv bs lim nb 0 w ov s) (c:Nat) (hc:c<256) (hr:s.out.length<lim) :
  Calls prog 41 #[.pointer (some ⟨p,0,none⟩),.int .u8 (c:Nat)] w fun e w'=>e=.returned (.tuple #[])∧∃ ov',QS B p rv bs lim nb 0 w' ov' { s with out:=s.out++[c] }∧Qv p w ov w' ov':=by
 have c2:=h.cells.c2;have c3:=h.cells.c3;have c4:=h.cells.c4;obtain ⟨ao,cc,rfl⟩:=h.shape;obtain ⟨xs,hxs⟩:=exq (s.out);have hl:=h.lim_;have d1:decide ((lim:Int)≤s.out.length)=false:=by simp;omega
 have d2:decide (lim≤s.out.length)=false:=by simp;omega
 rw [←hxs] at c2 d1 d2 hr;have hj1:(xs++[c]).length≤lim:=by rw [List.length_append,List.length_singleton];omega
 have hbV:Bs (xs++[c]):=by rw [hxs];exact yZ h.bytes hc
 have HX:=J h;have HXS:=J hxs;clear h hxs;go_enter func41,ntmps41;go_wp2;go_quiet (fail)
 obtain ⟨h1,m1⟩:=HX.out.drewN nq;generalize w.drewN nq=W at h1 m1 ⊢;have c2':=h1.cells.c2;have c4':=h1.cells.c4;rw [←HXS.out] at c2';have HOWN:Hid (W.ownsRow B 5 1 (.slice ao xs.length cc) xs.length (u8s xs)):=J (by rw [HXS.out];exact h1.own);have hB:=h1.size;have X:=J h1;have M:=J m1;clear h1 m1 c2 c3 c4;go_wp2_with (refine zx rfl (.tmp 25) (.tmp 27) rfl B (.slice ao xs.length cc) (.slice (some ⟨W.heap.size,0,none⟩) 1 1) xs [c] rfl rfl (World.ownsRow.alloc (w:=W) HOWN.out _) (yq W c rfl) (by simp;omega) (by simp;omega) ?_;intro ao2 cc2 w5 hA;obtain ⟨r1,r2,r3,r4⟩:=X.out.mid (by rw [←HXS.out];exact hA) hj1 hbV;rw [List.length_append,List.length_singleton] at r3 r4;rw [←HXS.out] at r1;have R3:=J r3;have R4:=J r4;clear r3 r4 hA);go_end0;refine ⟨rfl,_,?_,M.out.trans R4.out⟩;rw [←HXS.out];exact R3.out
theorem zi3 (h:QS B p rv bs lim nb 0 w ov s) (c:Int) (hr:lim≤s.out.length) :
  Calls prog 41 #[.pointer (some ⟨p,0,none⟩),.int .u8 c] w fun e w'=>e=.returned (.tuple #[])∧QS B p rv bs lim nb 14 w' ov s∧Qv p w ov w' ov:=by
 have c2:=h.cells.c2;have c3:=h.cells.c3;obtain ⟨ao,cc,rfl⟩:=h.shape;have hl:=h.lim_;have ho:=h.out;obtain ⟨n,hn⟩:=exq (s.out.length);have d1:(lim:Int)≤n:=by omega
 have X:=J fun q=>(h.drewN q).1
 have M:=J fun q=>(h.drewN q).2
 rw [←hn] at X M c2 hr ho ⊢;clear h hn;go_enter func41,ntmps41;go_wp2;go_quiet (fail)
 go_wp2_with fail
 refine (zK (X.out _) 14 (by omega)).mono ?_;rintro e w3 ⟨rfl,h3,m3⟩;have c4:=h3.cells.c4;have H3:=J h3;have M3:=J m3;clear h3 m3;go_wp2;go_end0;exact ⟨rfl,H3.out,(M.out _).trans M3.out⟩
def nx (ls:List Nat):Res Nat→Value
 | .ok y _ => .tuple #[.int .i64 (y:Nat),.int .i64 (ln ls y:Nat),.int .i64 0]
 | .bad er => .tuple #[.int .i64 0,.int .i64 0,.int .i64 (er:Nat)]
theorem zfN {ls:List Nat}{W:World}{e:Ending}{w':World}(H:Ok ls) (hb:Bs bs) (hat:s.at_≤8*bs.length) (h:zca ls (qj bs (8*bs.length)) s.at_ W e w'):e=.returned (nx ls (rdS bs ls s))∧∃ q,w'=W.drewN q:=by
 obtain ⟨h,hq⟩:=h;refine ⟨?_,hq⟩;clear hq;rw [qQ] at h;have hA:=uf bs s.at_;rcases h with ⟨y,n,hn,h0,hf,hle,rfl⟩ | ⟨hno,hor,rfl⟩ | ⟨hany,hlt,rfl⟩
 ·have hbeg:=zfl H rfl hat (by omega) hf (by omega)
  have hne:¬s.at_=8*bs.length:=by omega
  rw [J6 hne (kq H hbeg),if_pos (by omega)];simp [nx,hn]
 ·have:rdS bs ls s=.bad 15:=by
   by_cases he:s.at_=8*bs.length
   ·unfold rdS;rw [if_pos he]
   ·have hor':qP ls (qj bs (8*bs.length)) s.at_ ls.length=true:=hor.resolve_right (by omega)
    obtain ⟨t,ht,ht0,htf⟩:=(KJ _ _ _ _).1 hor';have hlong:=hno t ht ht0 htf;rw [qQ] at hlong;have hroom:=zdI H hb rfl hat ht0 htf hlong;rcases vL (p:=0) H hA with ⟨y,hbeg,_⟩ | ⟨hro,_⟩
    ·have hfy:=UK H rfl hat hbeg
     have hly:=hno y (jA hbeg.1) hbeg.1 hfy;rw [qQ] at hly;rw [J6 he (kq H hbeg),if_neg (by omega)]
    ·omega
  rw [this];rfl
 ·have:rdS bs ls s=.bad 10:=by
   refine zgF (by omega) ?_;cases hfb:yH ls (ahead bs s.at_) with
   | none=>rfl
   | some y=>
    have hbeg:=jR hfb;have hfy:=UK H rfl hat hbeg;rw [(KJ _ _ _ _).2 ⟨y,jA hbeg.1,hbeg.1,hfy⟩] at hany;cases hany
  rw [this];rfl
theorem Xb {ls:List Nat}{er:Nat}(hr:rdS bs ls s=.bad er):er=15∨er=10:=by
 unfold rdS at hr;split at hr
 ·cases hr;exact .inl rfl
 ·split at hr
  ·cases hr;exact .inr rfl
  ·split at hr
   ·cases hr
   ·cases hr;exact .inl rfl
theorem zgZ (h:QS B p rv bs lim nb er w ov s) (her:er≠0) (v:Value) :
  Calls prog 43 #[.pointer (some ⟨p,0,none⟩),v] w fun e w'=>e=.returned (.int .i64 0)∧w=w':=by
 have c4:=h.cells.c4;have d:((er:Int) != 0)=true:=by simp;omega
 clear h;go_enter func43,ntmps43;go_wp2;go_ret;exact ⟨rfl,rfl⟩
set_option maxHeartbeats 1600000 in
theorem JC {pc:Nat}{ls:List Nat}(h:QS B p rv bs lim nb 0 w ov s) (hc:Cod w p ov pc ls) (H:Ok ls) :
  Calls prog 43 #[.pointer (some ⟨p,0,none⟩),.pointer (some ⟨pc,0,none⟩)] w (QTo B p rv bs lim nb w ov nv (.int .i64 0) (rdS bs ls s)):=by
 have c0:=h.cells.c0;have c1:=h.cells.c1;have c4:=h.cells.c4;have f1:=h.cells.f1;have hLb:s.at_≤16000:=by have:=h.len;have:=h.in_;omega
 have hin:=h.in_;obtain ⟨ro,rc,rfl⟩:=h.rshape;have HN:Hid (∀ n,Calls prog 65 #[.pointer (some ⟨pc,0,none⟩),.slice ro (8*bs.length) rc,.int .i64 (s.at_:Nat)] (w.drewN n) fun e w'=>e=.returned (nx ls (rdS bs ls s))∧∃ q,w'=(w.drewN n).drewN q):=J fun n=>by
  obtain ⟨hq,mq⟩:=h.drewN n;have hl:(qj bs (8*bs.length)).length=8*bs.length:=qQ _ _;have hrow:(w.drewN n).ownsRow B 5 1 (.slice ro (qj bs (8*bs.length)).length rc) (qj bs (8*bs.length)).length (u8s (qj bs (8*bs.length))):=by rw [hl];exact hq.row
  have k:=zc1 pc ls ro rc (qj bs (8*bs.length)) s.at_ (w.drewN n) (hc _ mq.touch) (zi.own hrow) H.len (fun y=>z6 H y) (by rw [hl];have:=h.len;omega) (by rw [hl];exact h.in_);rw [hl] at k;exact k.mono fun e w' hk=>zfN H h.bsb h.in_ hk
 have HX:=J h;obtain ⟨L,hL⟩:=exq (8*bs.length);obtain ⟨A,hA⟩:=exq (s.at_);have HL:=J hL;have HA:=J hA;rw [←hL] at c0 HN hin;rw [←hA] at c1 HN hLb hin;cases hr:rdS bs ls s with
 | bad er=>
  rw [hr] at HN;have her:=Xb hr;have d1:((er:Int) != 0)=true:=by simp;omega
  have HE:=J her;simp only [nx] at HN;clear h hc hr her hL hA;go_enter func43,ntmps43;go_wp2;go_quiet ((go_at_call 65;exact Calls.quiet_of (HN.out _)))
  go_wp2_with fail
  refine (zK (HX.out.drewN _).1 er (by have:=HE.out;omega)).mono ?_;rintro e w3 ⟨rfl,h3,m3⟩;have H3:=J h3;have M3:=J m3;clear h3 m3;go_wp2;go_ret;exact QTo.bad rfl H3.out ((HX.out.drewN _).2.trans M3.out)
 | ok y t=>
  rw [hr] at HN;obtain ⟨_,k1,k2,k3⟩:=xU hr;simp only [nx] at HN;obtain ⟨m,hm⟩:=exq (ln ls y);rw [←hm] at HN k1 k2 k3;have hm2:m≤15:=by rw [hm];exact z6 H y
  have HK:=J k3;have hk2:A+m≤L:=by omega
  have HK2:=J k2;have hy:y<320:=by
   have:=jA (ls:=ls) (s:=y) (by omega);have:=H.len;omega
  clear h hc hr hL hA k1 k2 k3 hm;go_enter func43,ntmps43;go_wp2;go_quiet ((go_at_call 65;exact Calls.quiet_of (HN.out _)))
  go_wp2;go_ret;have k:=fun q=>(HX.out.drewN q).1.setAt (s.at_+m) (Nat.le_add_right _ _) HK2.out (x:=(A:Int)+m) (by rw [HA.out];simp)
  exact QTo.ok (enc:=nv) rfl (by rw [HK.out];exact (k _).1) ((HX.out.drewN _).2.trans (k _).2)
end
theorem zdY (l:List Nat) (i:Nat) (h:i<l.length):l.take (i+1)=l.take i++[l.getD i 0]:=by
 rw [List.take_succ_eq_append_getElem h,List.getD_eq_getElem?_getD,List.getElem?_eq_getElem h];rfl
theorem zhD {bs:List Nat}(hb:Bs bs) (j:Nat):pk bs (8*j) 8=bs.getD j 0:=by
 unfold pk;rw [jr hb,xr]
section
variable {B p:Nat}{rv:Value}{bs:List Nat}{lim nb er:Nat}{w:World}{ov:Value}{s:Sta}
theorem QF.drewN {w0:World}{ov0:Value}(h:QS B p rv bs lim nb er w ov s∧Qv p w0 ov0 w ov) (q:Nat):QS B p rv bs lim nb er (w.drewN q) ov s∧Qv p w0 ov0 (w.drewN q) ov:=
 ⟨(h.1.drewN q).1,h.2.trans (h.1.drewN q).2⟩
set_option maxHeartbeats 6400000 in
theorem XV (h:QS B p rv bs lim nb 0 w ov s) :
  Calls prog 26 #[.pointer (some ⟨p,0,none⟩)] w (QTo B p rv bs lim nb w ov uv (.tuple #[]) (stored bs lim s)):=by
 obtain ⟨R,hR⟩:=exq (stored bs lim s);rw [←hR];unfold stored at hR;have HR:=J hR.symm;have hin:=h.in_;have hu1:=zaH s.at_;have hu2:=vB hin;have hu3:up8 s.at_%8=0:=by unfold up8;omega
 have hu4:up8 s.at_<s.at_+8:=by unfold up8;omega
 obtain ⟨U,hU⟩:=exq (up8 s.at_);obtain ⟨A,hA⟩:=exq (s.at_);rw [←hU] at hu1 hu2 hu3 hu4 HR;rw [←hA] at hu1 hu4;have hLb:U≤16000:=by have:=h.len;omega
 have H0:Hid (QS B p rv bs lim nb 0 w ov { s with at_:=A }∧Qv p w ov w ov):=J ⟨by rw [hA];exact h,Qv.refl _ _ _⟩;have HU:=J hu2;clear h hR hU hA hin hu2;go_enter func26,ntmps26;go_wp2;go_loopg [] (U-A) (fun gm wr=>∃ m,A≤m∧m≤U∧U-m≤gm∧Hid (QS B p rv bs lim nb 0 wr ov { s with at_:=m }∧Qv p w ov wr ov))
 case atStart=>exact ⟨A,Nat.le_refl _,hu1,Nat.le_refl _,H0⟩
 case round=>
  clear H0;obtain ⟨m,hm1,hm2,hgm,HX⟩:=hrel;have c1:=HX.out.1.cells.c1;have f1:=HX.out.1.cells.f1;simp only at c1;by_cases hmod:m%8=0
  ·have hmU:m=U:=by omega
   have d1:((m:Int)%8 != 0)=false:=by simp;omega
   have d2:(((m%8:Nat):Int) != 0)=false:=by simp;omega
   have HN:=J (x7 HX.out.1 16 (by omega));rw [hmU] at HN HX;clear hmod hmU f1;go_wp2_with fail
   refine HN.out.mono ?_;rintro e w1 h1;have hR:=HR.out;cases hr1:rdN bs 16 { s with at_:=U } with
   | bad er=>
    rw [hr1] at h1 hR;obtain ⟨rfl,ov1,s1,h1,m1⟩:=h1;have her:er=15:=by unfold rdN at hr1;split at hr1;cases hr1;cases hr1;rfl
    subst her;have HF0:=J h1;have MF0:=J (HX.out.2.trans m1);have HRF:=J hR.symm;clear hr1 hR h1 m1 c1 d1 d2 HX HN;go_wp2_with fail
    refine (jq HF0.out (by omega) 16).mono ?_;rintro e w2 ⟨rfl,q,hw2⟩;have HF:=J (show QS B p rv bs lim nb 15 w2 ov1 s1 from by rw [hw2];exact (HF0.out.drewN q).1);have MF:=J (show Qv p w ov w2 ov1 from by rw [hw2];exact MF0.out.trans (HF0.out.drewN q).2);clear hw2 HF0 MF0;obtain ⟨W,hW⟩:=exq (w2);rw [←hW] at HF MF ⊢;clear hW;have c4:=HF.out.cells.c4;go_wp2;go_quiet (fail)
    go_wp2;go_quiet (fail)
    go_wp2;go_loopg [4] 1 (fun _gm v4 wr=>v4=.int .i64 0∧Hid (QS B p rv bs lim nb 15 wr ov1 s1∧Qv p w ov wr ov1))
    case atStart=>exact ⟨rfl,J (QF.drewN (QF.drewN ⟨HF.out,MF.out⟩ _) _)⟩
    case round=>
     obtain ⟨rfl,HY⟩:=hrel;have c4:=HY.out.1.cells.c4;go_wp2;go_end0;exact QTo.bad HRF.out HY.out.1 HY.out.2
   | ok n s1=>
    rw [hr1] at h1 hR;obtain ⟨rfl,ov1,h1,m1⟩:=h1;rw [Res.bind_ok] at hR;have hn:=qE hr1;obtain ⟨k1,k2,k3⟩:=xn hr1;have hn6:n<65536:=hn;have hat1:s1.at_=U+16:=by rw [k3]
    have H1:=J h1;have M1:=J (HX.out.2.trans m1);have HR1:=J hR;have HN2:=J (x7 h1 16 (by omega));clear hr1 hR h1 m1 c1 d1 d2 HX HN hn k1 k2 k3 HR;go_wp2_with fail
    refine HN2.out.mono ?_;rintro e w2 h2;have hR:=HR1.out;cases hr2:rdN bs 16 s1 with
    | bad er=>
     rw [hr2] at h2 hR;obtain ⟨rfl,ov2,s2,h2,m2⟩:=h2;have her:er=15:=by unfold rdN at hr2;split at hr2;cases hr2;cases hr2;rfl
     subst her;have HF:=J h2;have MF:=J (M1.out.trans m2);have HRF:=J hR.symm;have c4:=h2.cells.c4;clear hr2 hR h2 m2 HN2 H1 M1 HR1;obtain ⟨W,hW⟩:=exq (w2);rw [←hW] at HF MF c4 ⊢;clear hW;go_wp2;go_quiet (fail)
     go_wp2;go_quiet (fail)
     go_wp2;go_loopg [4] 1 (fun _gm v4 wr=>v4=.int .i64 0∧Hid (QS B p rv bs lim nb 15 wr ov2 s2∧Qv p w ov wr ov2))
     case atStart=>exact ⟨rfl,J (QF.drewN (QF.drewN ⟨HF.out,MF.out⟩ _) _)⟩
     case round=>
      obtain ⟨rfl,HY⟩:=hrel;have c4:=HY.out.1.cells.c4;by_cases hn0:n=0
      ·subst hn0
       go_wp2;go_end0;exact QTo.bad HRF.out HY.out.1 HY.out.2
      ·have hn1:(0:Int)<n:=by omega
       clear hn0;go_wp2;go_end0;exact QTo.bad HRF.out HY.out.1 HY.out.2
    | ok m2 s2=>
     rw [hr2] at h2 hR;obtain ⟨rfl,ov2,h2,m2'⟩:=h2;rw [Res.bind_ok] at hR;have hm:=qE hr2;obtain ⟨k1,k2,k3⟩:=xn hr2;have hm6:m2<65536:=hm;have hat2:s2.at_=U+32:=by rw [k3];show s1.at_+16=_;omega
     have H2:=J h2;have M2:=J (M1.out.trans m2');have c4:=h2.cells.c4;have c0:=h2.cells.c0;have c1:=h2.cells.c1;have c2:=h2.cells.c2;have c3:=h2.cells.c3;have hin2:=h2.in_;have hlim:=h2.lim_;have hout:=h2.out;obtain ⟨ao,ca,rfl⟩:=h2.shape;obtain ⟨ro,rc,rfl⟩:=h2.rshape;clear hr2 h2 m2' HN2 H1 M1 HR1 hm k1 k2 k3;by_cases hs:m2≠65535-n
     ·rw [if_pos hs] at hR
      have HRF:=J hR.symm;have d3:((n:Int)+m2 != 65535)=true:=by simp;omega
      clear hR hs c0 c1 c2 c3;go_wp2_with fail
      refine (zK H2.out 10 (by omega)).mono ?_;rintro e W ⟨rfl,h3,m3⟩;have HF:=J h3;have MF:=J (M2.out.trans m3);have c4:=h3.cells.c4;clear h3 m3 H2 M2 d3;go_wp2;go_quiet (fail)
      go_wp2;go_quiet (fail)
      go_wp2;go_loopg [4] 1 (fun _gm v4 wr=>v4=.int .i64 0∧Hid (QS B p (.slice ro (8*bs.length) rc) bs lim nb 10 wr (.slice ao s2.out.length ca) s2∧Qv p w ov wr (.slice ao s2.out.length ca)))
      case atStart=>exact ⟨rfl,J (QF.drewN (QF.drewN ⟨HF.out,MF.out⟩ _) _)⟩
      case round=>
       obtain ⟨rfl,HY⟩:=hrel;have c4:=HY.out.1.cells.c4;by_cases hn0:n=0
       ·subst hn0
        go_wp2;go_end0;exact QTo.bad HRF.out HY.out.1 HY.out.2
       ·have hn1:(0:Int)<n:=by omega
        clear hn0;go_wp2;go_end0;exact QTo.bad HRF.out HY.out.1 HY.out.2
     ·rw [if_neg hs] at hR
      have d3:((n:Int)+m2 != 65535)=false:=by simp;omega
      obtain ⟨L,hL⟩:=exq (8*bs.length);obtain ⟨o,ho⟩:=exq (s2.out.length);rw [←hL] at c0 hin2;rw [←ho] at c2 hout;rw [hat2] at c1 hin2;have HO:=J ho;have HL:=J hL;have HAT:=J hat2;clear hs hat1 hat2;by_cases ht:L<U+32+8*n
      ·rw [if_pos (show 8*bs.length<s2.at_+8*n by rw [HAT.out];omega)] at hR
       have HRF:=J hR.symm;have d5:((L:Int)<U+32+8*n):=by omega
       clear hR hL ho ht;go_wp2;go_quiet (fail)
       go_wp2_with fail
       refine (zK (H2.out.drewN _).1 15 (by omega)).mono ?_;rintro e W ⟨rfl,h3,m3⟩;have HF:=J h3;have MF:=J ((M2.out.trans (H2.out.drewN _).2).trans m3);have c4:=h3.cells.c4;clear h3 m3 H2 M2 d3 d5 c0 c1 c2 c3;go_wp2;go_quiet (fail)
       go_wp2;go_loopg [4] 1 (fun _gm v4 wr=>v4=.int .i64 0∧Hid (QS B p (.slice ro (8*bs.length) rc) bs lim nb 15 wr (.slice ao s2.out.length ca) s2∧Qv p w ov wr (.slice ao s2.out.length ca)))
       case atStart=>exact ⟨rfl,J (QF.drewN ⟨HF.out,MF.out⟩ _)⟩
       case round=>
        obtain ⟨rfl,HY⟩:=hrel;have c4:=HY.out.1.cells.c4;by_cases hn0:n=0
        ·subst hn0
         go_wp2;go_end0;exact QTo.bad HRF.out HY.out.1 HY.out.2
        ·have hn1:(0:Int)<n:=by omega
         clear hn0;go_wp2;go_end0;exact QTo.bad HRF.out HY.out.1 HY.out.2
      ·rw [if_neg (show ¬8*bs.length<s2.at_+8*n by rw [HAT.out];omega)] at hR
       have d5:decide ((L:Int)<U+32+8*n)=false:=by simp;omega
       have d6:decide (L<U+32+8*n)=false:=by simp;omega
       have e7:IntKind.i64.wrap ((lim:Int)-o)=((lim-o:Nat):Int):=by rw [IntKind.wrap_i64];omega
       obtain ⟨dl,hdl⟩:=exq (lim-o);rw [←hdl] at e7;have e8:(lim:Int)-o=dl:=by omega
       by_cases hfull:dl<n
       ·rw [if_pos (show lim<s2.out.length+n by rw [←HO.out];omega)] at hR
        have HRF:=J hR.symm;have d7:((dl:Int)<n):=by omega
        clear hR hL ho ht hdl;go_wp2;go_quiet (fail)
        go_wp2;go_quiet (fail)
        go_wp2_with fail
        refine (zK (H2.out.drewN _).1 14 (by omega)).mono ?_;rintro e W ⟨rfl,h3,m3⟩;have HF:=J h3;have MF:=J ((M2.out.trans (H2.out.drewN _).2).trans m3);have c4:=h3.cells.c4;clear h3 m3 H2 M2 d3 d5 d6 d7 c0 c1 c2 c3 e7 e8;go_wp2;go_loopg [4] 1 (fun _gm v4 wr=>v4=.int .i64 0∧Hid (QS B p (.slice ro (8*bs.length) rc) bs lim nb 14 wr (.slice ao s2.out.length ca) s2∧Qv p w ov wr (.slice ao s2.out.length ca)))
        case atStart=>exact ⟨rfl,J ⟨HF.out,MF.out⟩⟩
        case round=>
         obtain ⟨rfl,HY⟩:=hrel;have c4:=HY.out.1.cells.c4;by_cases hn0:n=0
         ·subst hn0
          go_wp2;go_end0;exact QTo.bad HRF.out HY.out.1 HY.out.2
         ·have hn1:(0:Int)<n:=by omega
          clear hn0;go_wp2;go_end0;exact QTo.bad HRF.out HY.out.1 HY.out.2
       ·rw [if_neg (show ¬lim<s2.out.length+n by rw [←HO.out];omega)] at hR
        have d7:decide ((dl:Int)<n)=false:=by simp;omega
        have d8:decide (dl<n)=false:=by simp;omega
        have HR2:=J hR.symm;have hU8:U+32+8*n≤L:=by omega
        have hroom:o+n≤lim:=by omega
        obtain ⟨j,hj⟩:=exq (s2.at_/8);have hj8:8*j=U+32:=by rw [hj,HAT.out];omega
        rw [←hj] at HR2;have hjL:j+n≤bs.length:=by omega
        have HJL:=J hjL;have HJ8:=J hj8;have HRM:=J hroom;have hsteps:=H2.out.steps;have hstb:s2.steps≤100000:=by omega
        have HST:=J hsteps;have hnL:n≤2000:=by have:=H2.out.len;omega
        clear hR hL ho ht hdl hj hj8 hjL hfull hU8;go_wp2;go_quiet (fail)
        go_wp2;go_quiet (fail)
        go_wp2;obtain ⟨W,hW⟩:=exq (w2);rw [←hW] at H2 M2 ⊢;clear hW c0 c1 c2 c3 c4 e7 e8 d3 d5 d6 d7 d8;have HS0:Hid (QS B p (.slice ro (8*bs.length) rc) bs lim nb 0 W (.slice ao s2.out.length ca) { s2 with at_:=s2.at_+8*0,out:=s2.out++(bs.drop j).take 0,steps:=s2.steps+0 }∧Qv p w ov W (.slice ao s2.out.length ca)):=
         J ⟨by simpa using H2.out,M2.out⟩
        go_loopg [4] n (fun gm v4 wr=>∃ i:Nat,i≤n∧n-i≤gm∧v4=.int .i64 (i:Nat)∧Hid (∃ ov',QS B p (.slice ro (8*bs.length) rc) bs lim nb 0 wr ov' { s2 with at_:=s2.at_+8*i,out:=s2.out++(bs.drop j).take i,steps:=s2.steps+i }∧Qv p w ov wr ov'))
        case atStart=>exact ⟨0,Nat.zero_le _,Nat.le_refl _,rfl,J ⟨_,QF.drewN (QF.drewN HS0.out _) _⟩⟩
        case round=>
         clear HS0 H2 M2;obtain ⟨i,hi,hgm,rfl,HX⟩:=hrel;obtain ⟨ovi,hxi,mxi⟩:=HX.out;have X:=J hxi;have MX:=J mxi;have c4:=hxi.cells.c4;by_cases hlt:i<n
         ·have hlt':(i:Int)<n:=by omega
          have hrd:rdN bs 8 { s2 with at_:=s2.at_+8*i,out:=s2.out++(bs.drop j).take i,steps:=s2.steps+i } = .ok (bs.getD (j+i) 0) { s2 with at_:=s2.at_+8*(i+1),out:=s2.out++(bs.drop j).take i,steps:=s2.steps+i }:=by
           unfold rdN;rw [if_pos (by show s2.at_+8*i+8≤_;rw [HAT.out];have:=HJL.out;have:=HJ8.out;omega)];show Res.ok (pk bs (s2.at_+8*i) 8) _=_;have k1:s2.at_+8*i=8*(j+i):=by rw [HAT.out];have:=HJ8.out;omega
           have k2:s2.at_+8*(i+1)=8*(j+i)+8:=by rw [HAT.out];have:=HJ8.out;omega
           rw [k1,k2,zhD hxi.bsb]
          have HN:=J (x7 hxi 8 (by omega));rw [hrd] at HN;have hc:=yR hxi.bsb (j+i);obtain ⟨c,hce⟩:=exq (bs.getD (j+i) 0);rw [←hce] at HN hc;have e9:IntKind.u8.wrap (c:Int)=c:=by rw [IntKind.wrap_u8'];omega
          have HC:=J hce;clear hxi mxi hrd hce HX;go_wp2_with fail
          refine HN.out.mono ?_;rintro e w4 ⟨rfl,ov4,h4,m4⟩;have HP:=J (vT h4 c hc (by
           show (s2.out++(bs.drop j).take i).length<lim;have:=HRM.out;rw [HO.out] at this;have h5:((bs.drop j).take i).length≤i:=List.length_take_le _ _;rw [List.length_append];omega))
          have M4:=J (MX.out.trans m4);clear h4 m4 HN c4;go_wp2_with fail
          refine HP.out.mono ?_;rintro e w5 ⟨rfl,ov5,h5,m5⟩;have h6:=h5.setSteps (s2.steps+i+1) (by show s2.steps+i+1≤s2.at_+8*(i+1);have:=HST.out;omega) (x:=((s2.steps+i:Nat):Int)+1) (by simp);have c5:=h5.cells.c5;have f5:=h5.cells.f5;simp only at c5;have H6:=J h6;have M5:=J (M4.out.trans m5);clear h6 h5 m5 HP M4 hc;go_wp2;go_roundg (n-(i+1))
          case measure=>omega
          case rel=>
           refine ⟨i+1,by omega,Nat.le_refl _,by simp,J ⟨_,?_,M5.out.trans H6.out.2⟩⟩;have:=H6.out.1;rw [zdY _ i (by rw [List.length_drop];have:=HJL.out;omega),show (bs.drop j).getD i 0=c by rw [HC.out];simp [List.getD],←List.append_assoc];exact this
         ·obtain rfl:i=n:=by omega
          clear hxi mxi;go_wp2;go_end0;exact QTo.ok (enc:=uv) HR2.out X.out MX.out
  ·have d1:((m:Int)%8 != 0)=true:=by simp;omega
   have d2:(((m%8:Nat):Int) != 0)=true:=by simp;omega
   have hlt:m<U:=by
    rcases Nat.lt_or_ge m U with h | h
    ·exact h
    ·exact absurd (show m%8=0 by rw [show m=U by omega];exact hu3) hmod
   have h6:=HX.out.1.setAt (m+1) (by show m≤m+1;omega) (by have:=HU.out;omega) (x:=(m:Int)+1) (by simp);have H6:=J h6;have M6:=J HX.out.2;clear h6 HX hmod;go_wp2;go_roundg (U-(m+1))
   case measure=>omega
   case rel=>exact ⟨m+1,by omega,by omega,Nat.le_refl _,J ⟨H6.out.1,M6.out.trans H6.out.2⟩⟩
end
section
variable {B p:Nat}{rv:Value}{bs:List Nat}{lim nb er:Nat}{w:World}{ov:Value}{s:Sta}
theorem JM {n:Nat}{er:Nat}(h:rdN bs n s=.bad er):er=15:=by
 unfold rdN at h;split at h
 ·cases h
 ·cases h;rfl
theorem zfJ {y:Nat}{x:Nat × Nat}(h:lenOf y=some x):1≤x.1:=by
 unfold lenOf at h;split at h
 ·cases h
 ·split at h
  ·cases h;decide
  ·split at h
   ·cases h;show 1≤y-254;omega
   ·cases h;show 1≤3+_;omega
theorem zj0 (W:World):Calls prog 67 #[.int .i64 0] W fun e w'=>e=.returned (.tuple #[.int .i64 1,.int .i64 0,.bool true])∧W=w':=yf 0 W
set_option maxHeartbeats 6400000 in
theorem zbs {pc:Nat}{ol:List Nat}(h:QS B p rv bs lim nb 0 w ov s) (hc:Cod w p ov pc ol) (Hol:Ok ol) (y:Nat) :
  Calls prog 44 #[.pointer (some ⟨p,0,none⟩),.int .i64 (y:Nat),.pointer (some ⟨pc,0,none⟩)] w (QTo B p rv bs lim nb w ov uv (.tuple #[]) (again bs lim ol y s)):=by
 obtain ⟨R,hR⟩:=exq (again bs lim ol y s);rw [←hR];unfold again at hR;have HL:=J fun W=>Ur y W
 have X0:=J h;have HO:=J Hol;cases hL:lenOf y with
 | none=>
  simp only [hL,tells] at HL;rw [hL] at hR;have HRF:=J hR;clear h hc hL hR Hol;go_enter func44,ntmps44;go_wp2_with fail
  refine (HL.out _).mono ?_;rintro e w0 ⟨rfl,rfl⟩;go_wp2_with fail
  refine (zK X0.out 10 (by omega)).mono ?_;rintro e w1 ⟨rfl,h1,m1⟩;have H1:=J h1;have M1:=J m1;clear h1 m1;go_wp2;go_end0;exact QTo.bad HRF.out H1.out M1.out
 | some x=>
  obtain ⟨xa,xb⟩:=x;have hx:=zag hL;have hx1:=zfJ hL;simp only at hx hx1;simp only [hL,tells] at HL;rw [hL] at hR;unfold grown at hR;simp only at hR;have HR:=J hR;have HN:=J (x7 h xb hx.2);have HC:=J hc;have hxa:(1:Int)≤xa:=by omega
  clear hL hR h hc Hol;go_enter func44,ntmps44;go_wp2_with fail
  refine (HL.out _).mono ?_;rintro e w0 ⟨rfl,rfl⟩;go_wp2_with fail
  refine HN.out.mono ?_;rintro e w1 h1;have hR:=HR.out;cases hr1:rdN bs xb s with
  | bad er=>
   rw [hr1] at h1 hR;obtain rfl:=JM hr1;obtain ⟨rfl,ov1,s1,h1,m1⟩:=h1;have HF0:=J h1;have MF0:=J m1;have HRF:=J hR;clear hr1 hR h1 m1 HN HR HL;go_wp2_with fail
   refine (zgZ HF0.out (by omega) _).mono ?_;rintro e w8 ⟨rfl,rfl⟩;go_wp2_with fail
   refine (zj0 _).mono ?_;rintro e w8 ⟨rfl,rfl⟩;go_wp2_with fail
   refine (jq HF0.out (by omega) 0).mono ?_;rintro e w9 ⟨rfl,q,hw9⟩;have HF:=J (show QS B p rv bs lim nb 15 w9 ov1 s1 from by rw [hw9];exact (HF0.out.drewN q).1);have MF:=J (show Qv p w ov w9 ov1 from by rw [hw9];exact MF0.out.trans (HF0.out.drewN q).2);clear hw9 HF0 MF0;obtain ⟨W,hW⟩:=exq (w9);rw [←hW] at HF MF ⊢;clear hW;have c4:=HF.out.cells.c4;go_wp2;go_quiet (fail)
   go_wp2;go_loopg [13] 1 (fun _gm v13 wr=>v13=.int .i64 0∧Hid ((∃ s',QS B p rv bs lim nb 15 wr ov1 s')∧Qv p w ov wr ov1))
   case atStart=>exact ⟨rfl,J ⟨⟨_,(HF.out.drewN _).1⟩,MF.out.trans (HF.out.drewN _).2⟩⟩
   case round=>
    obtain ⟨rfl,HY⟩:=hrel;obtain ⟨sy,hy⟩:=HY.out.1;have c4:=hy.cells.c4;have HZ:=J hy;clear hy;go_wp2;go_end0;exact QTo.bad HRF.out HZ.out HY.out.2
  | ok v s1=>
   rw [hr1] at h1 hR;obtain ⟨rfl,ov1,h1,m1⟩:=h1;have hv:v<65536:=Nat.lt_of_lt_of_le (qE hr1) (Nat.le_trans (Nat.pow_le_pow_right (by omega) hx.2) (by decide:2^16≤65536));rw [Res.bind_ok,Res.bind_ok] at hR;have HR1:=J hR;obtain ⟨n,hn⟩:=exq (xa+v);have e1:(xa:Int)+v=n:=by omega
   have hn1:(0:Int)<n:=by omega
   have hnb:n≤100000:=by omega
   have HNN:=J hn;have M1:=J m1;have C1:=J (HC.out.on m1);have HS:=J (JC h1 C1.out HO.out);rw [←hn] at HR1;clear hr1 hR h1 m1 HN HR HL hn;go_wp2_with fail
   refine HS.out.mono ?_;rintro e w2 h2;have hR:=HR1.out;cases hr2:rdS bs ol s1 with
   | bad er=>
    rw [hr2] at h2 hR;have her:=Xb hr2;obtain ⟨rfl,ov2,s2,h2,m2⟩:=h2;have HF0:=J h2;have MF0:=J (M1.out.trans m2);have HRF:=J hR;have dE:((er:Int) == 0)=false:=by simp;omega
    clear hr2 hR h2 m2 HS HR1;go_wp2_with fail
    refine (zj0 _).mono ?_;rintro e w8 ⟨rfl,rfl⟩;go_wp2_with fail
    refine (jq HF0.out (by omega) 0).mono ?_;rintro e w9 ⟨rfl,q,hw9⟩;have HF:=J (show QS B p rv bs lim nb er w9 ov2 s2 from by rw [hw9];exact (HF0.out.drewN q).1);have MF:=J (show Qv p w ov w9 ov2 from by rw [hw9];exact MF0.out.trans (HF0.out.drewN q).2);clear hw9 HF0 MF0;obtain ⟨W,hW⟩:=exq (w9);rw [←hW] at HF MF ⊢;clear hW;have c4:=HF.out.cells.c4;go_wp2;go_quiet (fail)
    go_wp2;go_loopg [13] 1 (fun _gm v13 wr=>v13=.int .i64 0∧Hid ((∃ s',QS B p rv bs lim nb er wr ov2 s')∧Qv p w ov wr ov2))
    case atStart=>exact ⟨rfl,J ⟨⟨_,(HF.out.drewN _).1⟩,MF.out.trans (HF.out.drewN _).2⟩⟩
    case round=>
     obtain ⟨rfl,HY⟩:=hrel;obtain ⟨sy,hy⟩:=HY.out.1;have c4:=hy.cells.c4;have HZ:=J hy;clear hy;go_wp2;go_end0;exact QTo.bad HRF.out HZ.out HY.out.2
   | ok d s2=>
    rw [hr2] at h2 hR;obtain ⟨rfl,ov2,h2,m2⟩:=h2;rw [Res.bind_ok] at hR;have HD:=J fun W=>yf d W
    have M2:=J (M1.out.trans m2);have X2:=J h2;clear hr2 h2 m2 HS HR1 M1 C1;cases hD:xu d with
    | none=>
     simp only [hD,tells] at HD;rw [hD] at hR;have HRF:=J hR;clear hD hR;go_wp2_with fail
     refine (HD.out _).mono ?_;rintro e w8 ⟨rfl,rfl⟩;go_wp2_with fail
     refine (zK X2.out 10 (by omega)).mono ?_;rintro e w3 ⟨rfl,h3,m3⟩;have HF0:=J h3;have MF0:=J (M2.out.trans m3);clear h3 m3 HD;go_wp2_with fail
     refine (jq HF0.out (by omega) 0).mono ?_;rintro e w9 ⟨rfl,q,hw9⟩;have HF:=J (show QS B p rv bs lim nb 10 w9 ov2 s2 from by rw [hw9];exact (HF0.out.drewN q).1);have MF:=J (show Qv p w ov w9 ov2 from by rw [hw9];exact MF0.out.trans (HF0.out.drewN q).2);clear hw9 HF0 MF0;obtain ⟨W,hW⟩:=exq (w9);rw [←hW] at HF MF ⊢;clear hW;have c4:=HF.out.cells.c4;go_wp2;go_quiet (fail)
     go_wp2;go_loopg [13] 1 (fun _gm v13 wr=>v13=.int .i64 0∧Hid ((∃ s',QS B p rv bs lim nb 10 wr ov2 s')∧Qv p w ov wr ov2))
     case atStart=>exact ⟨rfl,J ⟨⟨_,(HF.out.drewN _).1⟩,MF.out.trans (HF.out.drewN _).2⟩⟩
     case round=>
      obtain ⟨rfl,HY⟩:=hrel;obtain ⟨sy,hy⟩:=HY.out.1;have c4:=hy.cells.c4;have HZ:=J hy;clear hy;go_wp2;go_end0;exact QTo.bad HRF.out HZ.out HY.out.2
    | some z=>
     obtain ⟨za,zb⟩:=z;have hz:=Uh hD;simp only at hz;simp only [hD,tells] at HD;rw [hD] at hR;simp only at hR;have HR2:=J hR;have HN3:=J (x7 X2.out zb hz.2.2);clear hD hR;go_wp2_with fail
     refine (HD.out _).mono ?_;rintro e w8 ⟨rfl,rfl⟩;go_wp2_with fail
     refine HN3.out.mono ?_;rintro e w3 h3;have hR:=HR2.out;cases hr3:rdN bs zb s2 with
     | bad er=>
      rw [hr3] at h3 hR;obtain rfl:=JM hr3;obtain ⟨rfl,ov3,s3,h3,m3⟩:=h3;have HF:=J h3;have MF:=J (M2.out.trans m3);have HRF:=J hR;have c4:=h3.cells.c4;clear hr3 hR h3 m3 HN3 HR2 HD;obtain ⟨W,hW⟩:=exq (w3);rw [←hW] at HF MF c4 ⊢;clear hW;go_wp2;go_quiet (fail)
      go_wp2;go_loopg [13] 1 (fun _gm v13 wr=>v13=.int .i64 0∧Hid ((∃ s',QS B p rv bs lim nb 15 wr ov3 s')∧Qv p w ov wr ov3))
      case atStart=>exact ⟨rfl,J ⟨⟨_,(HF.out.drewN _).1⟩,MF.out.trans (HF.out.drewN _).2⟩⟩
      case round=>
       obtain ⟨rfl,HY⟩:=hrel;obtain ⟨sy,hy⟩:=HY.out.1;have c4:=hy.cells.c4;have HZ:=J hy;clear hy;go_wp2;go_end0;exact QTo.bad HRF.out HZ.out HY.out.2
     | ok v3 s3=>
      rw [hr3] at h3 hR;obtain ⟨rfl,ov3,h3,m3⟩:=h3;have hv3:v3<65536:=Nat.lt_of_lt_of_le (qE hr3) (Nat.le_trans (Nat.pow_le_pow_right (by omega) hz.2.2) (by decide:2^16≤65536));rw [Res.bind_ok,Res.bind_ok] at hR;obtain ⟨far,hfar⟩:=exq (za+v3);have e3:(za:Int)+v3=far:=by omega
      have hfb:1≤far∧far≤200000:=by omega
      rw [←hfar] at hR;have M3:=J (M2.out.trans m3);have X3:=J h3;have c4:=h3.cells.c4;have c2:=h3.cells.c2;have c3:=h3.cells.c3;have hout:=h3.out;have hlim:=h3.lim_;obtain ⟨ao,cap,rfl⟩:=h3.shape;obtain ⟨o,ho⟩:=exq (s3.out.length);rw [←ho] at c2 hout;have HO3:=J ho;clear hr3 h3 m3 HN3 HR2 HD M2 X2 hfar;by_cases hf:o<far
      ·rw [if_pos (show s3.out.length<far by omega)] at hR
       have HRF:=J hR;have d1:(o:Int)<far:=by omega
       clear hR hf ho;go_wp2_with fail
       refine (zK X3.out 10 (by omega)).mono ?_;rintro e W ⟨rfl,h4,m4⟩;have HF:=J h4;have MF:=J (M3.out.trans m4);have c4:=h4.cells.c4;clear h4 m4 X3 M3 d1 c2 c3;go_wp2;go_quiet (fail)
       go_wp2;go_loopg [13] 1 (fun _gm v13 wr=>v13=.int .i64 0∧Hid ((∃ s',QS B p rv bs lim nb 10 wr (.slice ao s3.out.length cap) s')∧Qv p w ov wr (.slice ao s3.out.length cap)))
       case atStart=>exact ⟨rfl,J ⟨⟨_,(HF.out.drewN _).1⟩,MF.out.trans (HF.out.drewN _).2⟩⟩
       case round=>
        obtain ⟨rfl,HY⟩:=hrel;obtain ⟨sy,hy⟩:=HY.out.1;have c4:=hy.cells.c4;have HZ:=J hy;clear hy;go_wp2;go_end0;exact QTo.bad HRF.out HZ.out HY.out.2
      ·rw [if_neg (show ¬s3.out.length<far by omega)] at hR
       have d1:decide ((o:Int)<far)=false:=by simp;omega
       have d2:decide (o<far)=false:=by simp;omega
       have e7:IntKind.i64.wrap ((lim:Int)-o)=((lim-o:Nat):Int):=by rw [IntKind.wrap_i64];omega
       obtain ⟨dl,hdl⟩:=exq (lim-o);rw [←hdl] at e7;have e8:(lim:Int)-o=dl:=by omega
       have hfo:far≤o:=by omega
       have hob:o≤2000000:=by omega
       by_cases hfull:dl<n
       ·rw [if_pos (show lim<s3.out.length+n by omega)] at hR
        have HRF:=J hR;have d7:(dl:Int)<n:=by omega
        clear hR hf ho hdl hfull;go_wp2;go_quiet (fail)
        go_wp2_with fail
        refine (zK (X3.out.drewN _).1 14 (by omega)).mono ?_;rintro e W ⟨rfl,h4,m4⟩;have HF:=J h4;have MF:=J ((M3.out.trans (X3.out.drewN _).2).trans m4);have c4:=h4.cells.c4;clear h4 m4 X3 M3 d1 d2 d7 c2 c3 e7 e8;go_wp2;go_loopg [13] 1 (fun _gm v13 wr=>v13=.int .i64 0∧Hid ((∃ s',QS B p rv bs lim nb 14 wr (.slice ao s3.out.length cap) s')∧Qv p w ov wr (.slice ao s3.out.length cap)))
        case atStart=>exact ⟨rfl,J ⟨⟨_,HF.out⟩,MF.out⟩⟩
        case round=>
         obtain ⟨rfl,HY⟩:=hrel;obtain ⟨sy,hy⟩:=HY.out.1;have c4:=hy.cells.c4;have HZ:=J hy;clear hy;go_wp2;go_end0;exact QTo.bad HRF.out HZ.out HY.out.2
       ·rw [if_neg (show ¬lim<s3.out.length+n by omega)] at hR
        have d7:decide ((dl:Int)<n)=false:=by simp;omega
        have d8:decide (dl<n)=false:=by simp;omega
        have HR3:=J hR;have hroom:o+n≤lim:=by omega
        have HRM:=J hroom;clear hR hf ho hdl hfull hroom;go_wp2;go_quiet (fail)
        go_wp2;obtain ⟨W,hW⟩:=exq (w3);rw [←hW] at X3 M3 ⊢;clear hW c2 c3 c4 e7 e8 d1 d2 d7 d8;have HS0:Hid (QS B p rv bs lim nb 0 W (.slice ao s3.out.length cap) { s3 with out:=back far 0 s3.out }∧Qv p w ov W (.slice ao s3.out.length cap)):=
         J ⟨X3.out,M3.out⟩
        clear X3 M3;go_loopg [13] n (fun gm v13 wr=>∃ i:Nat,i≤n∧n-i≤gm∧v13=.int .i64 (i:Nat)∧Hid (∃ ov',QS B p rv bs lim nb 0 wr ov' { s3 with out:=back far i s3.out }∧Qv p w ov wr ov'))
        case atStart=>exact ⟨0,Nat.zero_le _,Nat.le_refl _,rfl,J ⟨_,QF.drewN HS0.out _⟩⟩
        case round=>
         clear HS0;obtain ⟨i,hi,hgm,rfl,HX⟩:=hrel;obtain ⟨ovi,hxi,mxi⟩:=HX.out;have X:=J hxi;have MX:=J mxi;have c4:=hxi.cells.c4;by_cases hlt:i<n
         ·have hlt':(i:Int)<n:=by omega
          have hlen:(back far i s3.out).length=o+i:=by rw [xw,HO3.out]
          obtain ⟨g1,cap1,hov,_,hcell⟩:=hxi.byte (o+i-far) (by show _<(back far i s3.out).length;rw [hlen];omega);simp only at hov hcell;rw [hlen] at hov;obtain rfl:=hov;have c2:=hxi.cells.c2;have hc256:=yR hxi.bytes (o+i-far);simp only at hc256;obtain ⟨c,hce⟩:=exq ((back far i s3.out).getD (o+i-far) 0);rw [←hce] at hcell hc256;obtain ⟨m,hm⟩:=exq (o+i);rw [←hm] at c2 hcell hlen hce hxi mxi X MX;obtain ⟨k,hk⟩:=exq (m-far);rw [←hk] at hcell hce;have e5:IntKind.i64.wrap ((m:Int)-far)=(k:Int):=by rw [IntKind.wrap_i64];omega
          have hkm:k<m:=by omega
          have hkm':(k:Int)<m:=by omega
          obtain ⟨hq,mq⟩:=hxi.drew;have HP:=J (vT hq c hc256 (by show (back far i s3.out).length<lim;rw [hlen];have:=HRM.out;omega));have MQ:=J (MX.out.trans mq);have HCE:Hid (back far (i+1) s3.out=back far i s3.out++[c]):=J (by rw [jC,hlen,hce,hk]);clear hxi mxi hq mq hce hlen HX hk hm;go_wp2_with fail
          go_still_tail 14,(by kernel_rfl)
          change wpList _ _ _ _ _ wr.drew;go_wp2_with fail
          refine HP.out.mono ?_;rintro e w5 ⟨rfl,ov5,h5,m5⟩;have H5:=J h5;have M5:=J (MQ.out.trans m5);clear h5 m5 HP MQ c4 c2 hcell;go_wp2;go_roundg (n-(i+1))
          case measure=>omega
          case rel=>
           refine ⟨i+1,by omega,Nat.le_refl _,by simp,J ⟨_,?_,M5.out⟩⟩;rw [HCE.out];exact H5.out
         ·obtain rfl:i=n:=by omega
          clear hxi mxi;go_wp2;go_end0;exact QTo.ok (enc:=uv) HR3.out X.out MX.out
end
section
variable {B p:Nat}{rv:Value}{bs:List Nat}{lim nb er:Nat}{w:World}{ov:Value}{s:Sta}
inductive Sq (B p:Nat) (rv:Value) (bs:List Nat) (lim nb:Nat) (w:World) (ov:Value) (p1 p2:Nat) (fl ol:List Nat) (R:Res Unit) (gm:Nat) (wr:World) (ov':Value):Prop where
 | go (s':Sta) (q:QS B p rv bs lim nb 0 wr ov' s') (m:Qv p w ov wr ov') (r:xF bs lim fl ol s'=R) (c1:Cod wr p ov' p1 fl) (c2:Cod wr p ov' p2 ol) (g:8*bs.length+1-s'.at_≤gm)
 | bad (er:Nat) (s':Sta) (q:QS B p rv bs lim nb er wr ov' s') (m:Qv p w ov wr ov') (r:R=.bad er) (h:er≠0)
set_option maxHeartbeats 3200000 in
theorem y4 {p1 p2:Nat}{fl ol:List Nat}(h:QS B p rv bs lim nb 0 w ov s) (hc1:Cod w p ov p1 fl) (hc2:Cod w p ov p2 ol) (H1:Ok fl) (H2:Ok ol) :
  Calls prog 29 #[.pointer (some ⟨p,0,none⟩),.pointer (some ⟨p1,0,none⟩),.pointer (some ⟨p2,0,none⟩)] w (QTo B p rv bs lim nb w ov uv (.tuple #[]) (xF bs lim fl ol s)):=by
 obtain ⟨R,hR⟩:=exq (xF bs lim fl ol s);rw [←hR];have K1:=J H1;have K2:=J H2;have H0:Hid (Sq B p rv bs lim nb w ov p1 p2 fl ol R (8*bs.length+1) w ov):=J (.go s h (Qv.refl _ _ _) hR.symm hc1 hc2 (by omega));clear h hc1 hc2 H1 H2 hR;go_enter func29,ntmps29;go_wp2;go_loopg [] (8*bs.length+1) (fun gm wr=>∃ ov',Hid (Sq B p rv bs lim nb w ov p1 p2 fl ol R gm wr ov'))
 case atStart=>exact ⟨ov,H0⟩
 case round=>
  clear H0;obtain ⟨ov1,HX⟩:=hrel;cases HX.out with
  | bad er s1 q m r her=>
   have c4:=q.cells.c4;have d:((er:Int) == 0)=false:=by simp;omega
   have Q:=J q;have M:=J m;have HR:=J r;clear q m r her HX;go_wp2;go_end0;exact QTo.bad HR.out Q.out M.out
  | go s1 q m r c1 c2 g=>
   have c4:=q.cells.c4;have hin:=q.in_;have hst:=q.steps;have HS:=J (JC q c1 K1.out);have M:=J m;have C1:=J c1;have C2:=J c2;have HR:=J r;have hlb:s1.at_≤16000:=by have:=q.len;omega
   clear q m r c1 c2 HX;go_wp2_with fail
   refine HS.out.mono ?_;rintro e w2 h2;have hR:=HR.out;rw [yG hin] at hR;cases hr1:rdS bs fl s1 with
   | bad er=>
    rw [hr1] at h2 hR;have her:=Xb hr1;obtain ⟨rfl,ov2,s2,h2,m2⟩:=h2;have d:((er:Int) == 0)=false:=by simp;omega
    have d':((er:Int) != 0)=true:=by simp;omega
    have c4:=h2.cells.c4;have Q:=J h2;have M2:=J (M.out.trans m2);have HR1:=J hR.symm;clear hr1 hR h2 m2 her HS;go_wp2;go_end0;exact QTo.bad HR1.out Q.out M2.out
   | ok y s2=>
    rw [hr1] at h2 hR;obtain ⟨rfl,ov2,h2,m2⟩:=h2;obtain ⟨_,k1,k2,k3⟩:=xU hr1;have hs2:s2.steps+1≤s2.at_:=by rw [k3];show s1.steps+1≤s1.at_+ln fl y;omega
    have hat:s1.at_<s2.at_:=by rw [k3];show s1.at_<s1.at_+ln fl y;omega
    have hy:y<320:=by
     have:=jA (ls:=fl) (s:=y) (by omega);have:=K1.out.len;omega
    have hi2:=h2.in_;have hstb:s2.steps≤100000:=by have:=h2.steps;have:=h2.len;omega
    have c4:=h2.cells.c4;have c5:=h2.cells.c5;have f5:=h2.cells.f5;have h3:=fun (x:Int) (hx:x=((s2.steps+1:Nat):Int))=>h2.setSteps (s2.steps+1) hs2 (x:=x) hx
    have hq3:=h3 ((s2.steps:Int)+1) (by simp);have Q3:=J hq3.1;have M3:=J ((M.out.trans m2).trans hq3.2);have D1:=J ((C1.out.on m2).on hq3.2);have D2:=J ((C2.out.on m2).on hq3.2);clear k1 k2 k3 hr1 h3 hq3 h2 m2 HS C1 C2 M;rw [Res.bind_ok] at hR;by_cases hy1:y<256
    ·rw [if_pos hy1] at hR
     have hy2:(y:Int)<256:=by omega
     have e8:IntKind.u8.wrap (y:Int)=y:=by rw [IntKind.wrap_u8'];omega
     by_cases hf:lim<s2.out.length+1
     ·rw [if_pos hf] at hR
      have HR1:=J hR.symm;have HP:=J (zi3 Q3.out (y:Int) (by show lim≤s2.out.length;omega));clear hR hf HR;go_wp2_with fail
      refine HP.out.mono ?_;rintro e w4 ⟨rfl,h4,m4⟩;have Q4:=J h4;have M4:=J (M3.out.trans m4);clear h4 m4 HP;go_wp2;go_roundg 0
      case measure=>omega
      case rel=>exact ⟨_,J (.bad 14 _ Q4.out M4.out HR1.out (by omega))⟩
     ·rw [if_neg hf] at hR
      have HR1:=J hR;have HP:=J (vT Q3.out y hy1 (by show s2.out.length<lim;omega));clear hR hf HR;go_wp2_with fail
      refine HP.out.mono ?_;rintro e w4 ⟨rfl,ov4,h4,m4⟩;have Q4:=J h4;have M4:=J (M3.out.trans m4);have E1:=J (D1.out.on m4);have E2:=J (D2.out.on m4);clear h4 m4 HP D1 D2;go_wp2;go_roundg (8*bs.length+1-s2.at_)
      case measure=>omega
      case rel=>exact ⟨_,J (.go _ Q4.out M4.out HR1.out E1.out E2.out (Nat.le_refl _))⟩
    ·rw [if_neg hy1] at hR
     by_cases hy2:y=256
     ·subst hy2
      rw [if_pos rfl] at hR;have HR1:=J hR.symm;clear hR HR hy1;go_wp2;go_end0;exact QTo.ok (enc:=uv) HR1.out Q3.out M3.out
     ·rw [if_neg hy2] at hR
      have HR1:=J hR;have d1:¬(y:Int)<256:=by omega
      have d2:((y:Int) == 256)=false:=by simp;omega
      have HC:=J (zbs Q3.out D2.out K2.out y);clear hR HR hy1 hy2;go_wp2_with fail
      refine HC.out.mono ?_;rintro e w4 h4;have hR:=HR1.out;cases hr2:again bs lim ol y { s2 with steps:=s2.steps+1 } with
      | bad er=>
       rw [hr2] at h4 hR;obtain ⟨rfl,ov4,s4,h4,m4⟩:=h4;have her:=UM ol y { s2 with steps:=s2.steps+1 } er hi2 hr2;have HR2:=J hR.symm;have HE:=J her;have Q4:=J h4;have M4:=J (M3.out.trans m4);clear hr2 hR h4 m4 her HC;go_wp2;go_roundg 0
       case measure=>omega
       case rel=>exact ⟨_,J (.bad er _ Q4.out M4.out HR2.out HE.out)⟩
      | ok u s4=>
       rw [hr2] at h4 hR;obtain ⟨rfl,ov4,h4,m4⟩:=h4;have HR2:=J hR;have hle:=(JO (lim:=lim) ol y { s2 with steps:=s2.steps+1 } _ _ hi2 hr2).at_;have hle':s2.at_≤s4.at_:=hle;have Q4:=J h4;have M4:=J (M3.out.trans m4);have E1:=J (D1.out.on m4);have E2:=J (D2.out.on m4);clear hr2 hR h4 m4 hle HC D1 D2;go_wp2;go_roundg (8*bs.length+1-s4.at_)
       case measure=>omega
       case rel=>exact ⟨_,J (.go _ Q4.out M4.out HR2.out E1.out E2.out (Nat.le_refl _))⟩
end
theorem Qa (ao:Option Addr) (c:Nat) (zs:List Int) (w:World) (h:IS w ao zs) (hv:Vd zs) :
  Calls prog 42 #[.slice ao zs.length c] w fun e w'=>e=.returned (.tuple #[.int .i64 (room (nat zs):Nat),.bool true])∧w=w':=
 (zdN ao c zs w h).mono fun _ _ k=>⟨k.2.1 hv,k.1⟩
theorem zc7 (ao:Option Addr) (c:Nat) (zs:List Int) (w:World) (h:IS w ao zs) (hv:Vd zs) (hm:32768<room (nat zs)) :
  Calls prog 28 #[.slice ao zs.length c] w fun e w'=>e=.returned (.tuple #[.pointer none,.int .i64 10])∧w=w':=by
 have HI:=J h;have HV:=J hv;have hm':(32768:Int)<(room (nat zs):Nat):=by omega
 clear h hv;go_enter func28,ntmps28;go_wp2_with (go_at_call 42;(refine (Qa ao c zs _ HI.out HV.out).mono ?_);rintro e w1 ⟨rfl,rfl⟩);go_ret2
 exact ⟨rfl,rfl⟩
def done (ls:List Nat) (l s t:Nat):List Nat:=if ln ls t<l∨(ln ls t=l∧t<s) then cb ls t else []
theorem zcL {ls:List Nat}{t:Nat}(h:ln ls t=0):cb ls t=[]:=by simp [cb,h]
theorem zaT (ls:List Nat):done ls 1 0=fun _=>[]:=by
 funext t
 unfold done;split
 ·rename_i h
  exact zcL (by omega)
 ·rfl
theorem zdq (ls:List Nat) (l N:Nat) (h:ls.length≤N) (t:Nat):done ls (l+1) 0 t=done ls l N t:=by
 unfold done;by_cases h1:ln ls t<l
 ·rw [if_pos (by omega),if_pos (by omega)]
 ·by_cases h2:ln ls t=l
  ·by_cases h3:t<N
   ·rw [if_pos (by omega),if_pos (by omega)]
   ·have h0:ln ls t=0:=by unfold ln;simp [List.getD,show ls.length≤t by omega]
    rw [if_pos (by omega),if_neg (by omega),zcL h0]
  ·rw [if_neg (by omega),if_neg (by omega)]
theorem zdE {ls:List Nat}{l s:Nat}(h:ln ls s≠l):done ls l (s+1)=done ls l s:=by
 funext t
 unfold done;by_cases e:t=s
 ·subst e;simp [h]
 ·by_cases h2:t<s
  ·simp [h2,show t<s+1 by omega]
  ·simp [h2,show ¬t<s+1 by omega]
theorem zc5 {ls:List Nat}{l s:Nat}(h:ln ls s=l):done ls l (s+1)=fun t=>if t=s then cb ls s else done ls l s t:=by
 funext t
 unfold done;by_cases e:t=s
 ·subst e;rw [if_pos rfl,if_pos (by omega)]
 ·rw [if_neg e]
  by_cases h2:t<s
  ·simp [h2,show t<s+1 by omega]
  ·simp [h2,show ¬t<s+1 by omega]
theorem zjh {ls:List Nat}{l s:Nat}(h:ln ls s=l):done ls l s s=[]:=by
 unfold done;rw [if_neg (by omega)]
theorem zfQ {ls:List Nat}(H:Ok ls):done ls 16 0=cb ls:=by
 funext t
 unfold done;have:=z6 H t;rw [if_pos (by omega)]
theorem Kv {ls:List Nat}{s l:Nat}(hs:s<ls.length):(ls.take (s+1)).count l=(ls.take s).count l+if ln ls s=l then 1 else 0:=by
 rw [qw hs,List.count_append,List.count_singleton];by_cases h:ln ls s=l <;> simp [h]
theorem sz (n:Nat):va (n*1) (fun i=>(Value.slice none 0 0).cells[i%(Value.slice none 0 0).cells.size]!)=va n (fun _ => .slice none 0 0):=by
 rw [Nat.mul_one];refine zq fun i _=>?_
 show #[Value.slice none 0 0][i%1]! = _;rw [Nat.mod_one];rfl
theorem and_one (i:Nat) (hi:i<4294967296):bits BinOp.and IntKind.i64 (i:Int) 1=((i%2:Nat):Int):=by
 have h:=bits_mask .i64 32 (by decide) (fun n h0 h1=>by rw [show (2:Int)^32=4294967296 by decide] at h1;rw [IntKind.wrap_i64];omega) 1 (by decide) (i:Int) (by omega) (by rw [show (2:Int)^32=4294967296 by decide];omega)
 have e:((2:Int)^1-1)=1:=by decide
 rw [e] at h;rw [h];omega
theorem Rw.mid {w wr w1:World}{pr gl N rm:Nat}{F:Nat→Value}{X:Nat→List Nat}(h:Rw w pr gl N rm F X wr){s:Nat}(hs:s<N){o:Obj}{xs:List Nat}{v':Value}(hA:Apd (wr.alloc o).drew w.heap.size (F s) xs v' w1) :
  w1.cell? ⟨pr,0,none⟩=some (.slice (some ⟨gl,0,none⟩) N N)∧w1.cell? ⟨gl,s,none⟩=some (F s)∧w1.frozen? ⟨gl,s,none⟩=false:=by
 have t1:Touch (fun k=>(F s).ownBlock=some k) wr w1:=(((Touch.refl _ wr).alloc o).drew).trans hA.touch;have hc:=h.c.touch t1 (fun e=>(h.off s _ hs e).1 rfl);have hl:=h.l.touch t1 (fun e=>(h.off s _ hs e).2 rfl);exact ⟨(hc.cell 0).trans rfl,(hl.cell s).trans (zw _ _ s hs),hl.free s⟩
def zbi (w:World) (pr gl N rm:Nat) (ls:List Nat) (l s:Nat) (wr:World):Prop:=∃ F,Rw w pr gl N rm F (done ls l s) wr
def zaW (w:World) (pr gl N rm:Nat) (ls:List Nat) (l s j:Nat) (wr:World):Prop:=∃ F,Rw w pr gl N rm F (fun t=>if t=s then (cb ls s).take j else done ls l s t) wr
theorem zbi.bit {w wr:World}{pr gl N rm l s:Nat}{ls:List Nat}(h:zbi w pr gl N rm ls l s wr) (hs:ln ls s=l):zaW w pr gl N rm ls l s 0 wr:=by
 obtain ⟨F,h⟩:=h;have e:done ls l s=fun t=>if t=s then (cb ls s).take 0 else done ls l s t:=by
  funext t
  by_cases e:t=s
  ·subst e;rw [if_pos rfl,zjh hs];rfl
  ·rw [if_neg e]
 rw [e] at h;exact ⟨F,h⟩
theorem zaW.whole {w wr:World}{pr gl N rm l s:Nat}{ls:List Nat}(h:zaW w pr gl N rm ls l s l wr) (hs:ln ls s=l):zbi w pr gl N rm ls l (s+1) wr:=by
 obtain ⟨F,h⟩:=h;rw [List.take_of_length_le (by rw [JD];omega),←zc5 hs] at h;exact ⟨F,h⟩
theorem zeN {w wr w2:World}{pr gl N rm n s j B:Nat}{ls:List Nat}{F:Nat→Value}{o:Obj}{v':Value}(h:Rw w pr gl N rm F (fun t=>if t=s then (cb ls s).take j else done ls n s t) wr) (hs:s<N) (hn:ln ls s=n) (hj:j<n) (hB:B=cd ls s/2^(ln ls s-1-j)%2)
  (hA:Apd (wr.alloc o).drew w.heap.size (F s) ((cb ls s).take j++[B]) v' w2):zaW w pr gl N rm ls n s (j+1) (w2.setCell ⟨gl,s,none⟩ v'):=by
 have h1:=h.put hs (bit:=B) (v':=v') (o:=o) (w1:=w2) (by
  show Apd _ _ _ ((if s=s then (cb ls s).take j else done ls n s s)++[B]) _ _;rw [if_pos rfl];exact hA)
 have e:(fun t=>if t=s then (cb ls s).take (j+1) else done ls n s t)=fun t=>if t=s then (if s=s then (cb ls s).take j else done ls n s s)++[B] else if t=s then (cb ls s).take j else done ls n s t:=by
  funext t
  by_cases e:t=s
  ·rw [if_pos e,if_pos e,if_pos rfl,ziC ls s j (by omega),hB]
  ·rw [if_neg e,if_neg e,if_neg e]
 refine ⟨fun t=>if t=s then v' else F t,?_⟩;rw [e];exact h1
theorem Rw.old {w wr w2:World}{pr gl N rm:Nat}{F:Nat→Value}{X:Nat→List Nat}(h:Rw w pr gl N rm F X wr) (ht:Touch (fun k=>k<w.heap.size) wr w2) :
  Blk w2 pr 75 #[.slice (some ⟨gl,0,none⟩) N N,.int .i64 (rm:Nat)]∧Blk w2 gl 22 (va N F)∧∀ s,s<N→w2.ownsRow w.heap.size 5 1 (F s) (X s).length (u8s (X s)):=
 ⟨h.c.touch ht (by have:=h.lo;omega),h.l.touch ht (by have:=h.lo;omega),fun s hs=>zd (h.rows s hs) ht fun k hk e=>by have:=((h.rows s hs).lt k hk).1;omega⟩
def zlk (w:World) (ls:List Nat) (e:Ending) (w':World):Prop:=∃ p,e=.returned (.tuple #[.pointer (some ⟨p,0,none⟩),.int .i64 0])∧
 (∀ w2,Touch (fun k=>k<w.heap.size) w' w2→RAt w2 p ls∧w2.cell? ⟨p,1,none⟩=some (.int .i64 (room ls:Nat)))∧Below w.heap.size w w'
set_option maxRecDepth 100000 in
set_option maxHeartbeats 6400000 in
theorem QW (ao:Option Addr) (c:Nat) (zs:List Int) (ls:List Nat) (w:World) (h:IS w ao zs) (hv:Vd zs) (H:Ok ls) (hls:nat zs=ls) :
  Calls prog 28 #[.slice ao zs.length c] w (zlk w ls):=by
 have HI:=J h;have HV:=J hv;have HO:=J H;have HL:Hid (ls.length=zs.length):=J (by rw [←hls,xt]);have HZ:Hid (∀ k,k<zs.length→zs.getD k 0=(ln ls k:Nat)):=J fun k hk=>by rw [←hls];exact (hv.ln hk).1
 have hzl:=hv.len;have K1:=J (Qa ao c zs w h hv);rw [hls] at K1;have hm':decide ((32768:Int)<(room ls:Nat))=false:=by have:=H.few;simp;omega
 clear h hv H hls;go_enter func28,ntmps28;go_upto_region 7 with (first
  | (go_at_call 42;(refine K1.out.mono ?_);rintro e w1 ⟨rfl,rfl⟩)
  | (refine zy rfl 73 (.tmp 21) (.tmp 21) rfl 22 (.slice none 0 0) 1 24 zs.length underlying73 (by kernel_rfl) .i64 .i64 _ _ rfl rfl rfl rfl (by omega) (by omega) ?_;intro W hb ht hs;have HS:=J hs;clear hs))
 obtain ⟨gl,hgl⟩:=exq (w.heap.size);obtain ⟨pr,hpr⟩:=exq (W.heap.size);have H0:Hid (zbi w pr gl zs.length (room ls) ls 1 0 (W.alloc (.cells #[.slice (some ⟨gl,0,none⟩) zs.length zs.length,.int .i64 (room ls:Nat)] 75))):=by
  have h1:=HS.out;rw [sz,←hgl] at hb;have t:=(Touch.refl (fun _=>False) W).alloc (.cells #[.slice (some ⟨gl,0,none⟩) zs.length zs.length,.int .i64 (room ls:Nat)] 75);refine J ⟨_,?_,hb.touch t (fun h=>h),fun s hs=>?_,fun s t k _ _ _ hk=>?_,fun s k _ hk=>?_,by omega,(ht.trans t).below (Nat.le_refl _) (fun _ h=>h.elim),by omega,by omega⟩
  ·rw [hpr];exact Blk.made W 75 _
  ·rw [zaT];exact World.ownsRow_nil _ _ _ _
  ·simp [Value.ownBlock] at hk
  ·simp [Value.ownBlock] at hk
 rw [←hgl,←hpr];clear hgl hpr hb ht HS;obtain ⟨rm,hrm⟩:=exq (room ls);rw [←hrm] at H0 ⊢;have HRM:=J hrm;clear hrm;generalize W.alloc (.cells #[.slice (some ⟨gl,0,none⟩) zs.length zs.length,.int .i64 (rm:Nat)] 75)=W0 at H0 ⊢;go_wp2;go_loopw [7,8] (fun cv lv wr=>∃ l cod:Nat,1≤l∧l≤16∧lv=.int .i64 l∧cv=.int .i64 cod∧cod*2=fc ls l∧zbi w pr gl zs.length rm ls l 0 wr) (fun _ lv _=>16-(intOf lv).toNat)
 case atStart=>exact ⟨1,0,by omega,by omega,rfl,rfl,by simp [fc,cn],H0.out⟩
 case round=>
  obtain ⟨l,cod,hl1,hl16,rfl,rfl,hcod,hrel⟩:=hrel;have HR:=J hrel;clear hrel H0;by_cases hlt:l≤15
  ·have hll:(l:Int)≤15:=by omega
   have hb1:=zgE HO.out l hlt;go_wp2;go_loopw [7,9] (fun cv sv wr=>∃ s cod:Nat,s≤zs.length∧sv=.int .i64 s∧cv=.int .i64 cod∧cod=fc ls l+(ls.take s).count l∧zbi w pr gl zs.length rm ls l s wr) (fun _ sv _=>zs.length-(intOf sv).toNat)
   case atStart=>exact ⟨0,cod*2,Nat.zero_le _,rfl,by go_num,by rw [hcod];simp,HR.out⟩
   case round=>
    obtain ⟨s,cd2,hs,rfl,rfl,hcd2,hrel⟩:=hrel;have HR2:=J hrel;have HCD:=J hcd2;have hcl:(ls.take s).count l≤320:=by
     refine Nat.le_trans List.count_le_length ?_;rw [List.length_take,HL.out];omega
    have hcb:cd2≤40000:=by omega
    clear hrel HR hcd2;by_cases hlt2:s<zs.length
    ·have hss:(s:Int)<zs.length:=by omega
     have hsl:s<ls.length:=by rw [HL.out];exact hlt2
     obtain ⟨b,off,rfl,hcell⟩:=(HI.out.below (by obtain ⟨F,h⟩:=HR2.out;exact h.below)).at hlt2;rw [HZ.out s hlt2] at hcell;obtain ⟨n,hn⟩:=exq (ln ls s);rw [←hn] at hcell;have HN:=J hn.symm;clear hn;by_cases hnl:n=l
     ·subst hnl
      have hne:((n:Int) != n)=false:=by simp
      have HCC:Hid (cd2=cd ls s):=J (by rw [HCD.out];unfold cd rk;rw [HN.out]);go_wp2;go_loopw [10] (fun kv wr=>∃ (j:Nat) (z:Int),j≤n∧kv=.int .i64 z∧z=(n:Int)-1-j∧zaW w pr gl zs.length rm ls n s j wr) (fun kv _=>(intOf kv+1).toNat)
      case atStart=>exact ⟨0,_,Nat.zero_le _,rfl,by omega,HR2.out.bit HN.out⟩
      case round=>
       obtain ⟨j,z,hj,rfl,hz,F,hF⟩:=hrel;by_cases hjn:j<n
       ·obtain ⟨q,rfl⟩:∃ q:Nat,z=(q:Int):=⟨z.toNat,by omega⟩
        have hq:q=n-1-j:=by omega
        have hq15:q≤15:=by omega
        have HQ:=J hq;have HRW:=J hF;have hown:=hF.rows s hlt2;rw [if_pos rfl] at hown;have hxl:((cb ls s).take j).length=j:=by rw [List.length_take,JD,HN.out];omega
        obtain ⟨a1,c1,hFs⟩:=zr hown;rw [hxl] at hFs;rw [hFs] at hown;have hg1:=(hF.c.cell 0).trans (show _=some (.slice (some ⟨gl,0,none⟩) zs.length zs.length) from rfl);have hg2:=(hF.l.cell s).trans (zw _ _ s hlt2);rw [hFs] at hg2;have HFS:=J hFs;have HOWN:=J hown;have HXL:=J hxl;obtain ⟨xs,hxs⟩:=exq ((cb ls s).take j);rw [←hxs] at HOWN HXL;have HXS:=J hxs;have hxl2:xs.length≤15:=by rw [HXL.out];omega
        obtain ⟨D,hD⟩:=exq (cd2/2^q);obtain ⟨B,hB⟩:=exq (D%2);have hD32:D<4294967296:=by
         have:cd2/2^q≤cd2:=Nat.div_le_self _ _;omega
        have e0:IntKind.u64.wrap (q:Int)=q:=by rw [IntKind.wrap_u64];omega
        have e1:(cd2:Int)/2^q=(D:Nat):=by rw [hD];simp
        have e2:=and_one D hD32;rw [←hB] at e2;have hB2:B≤1:=by omega
        have e3:IntKind.u8.wrap (B:Int)=B:=by rw [IntKind.wrap_u8'];omega
        have HB:Hid (B=cd ls s/2^(ln ls s-1-j)%2):=J (by rw [hB,hD,HCC.out,hq,HN.out]);have ta:=(Touch.refl (fun _=>False) wr).alloc (.cells #[.int .u8 (B:Nat)] 5);have hg3:=((hF.c.touch ta (fun h=>h)).cell 0).trans (show _=some (.slice (some ⟨gl,0,none⟩) zs.length zs.length) from rfl);have hg4:=((hF.l.touch ta (fun h=>h)).cell s).trans (zw _ _ s hlt2);rw [hFs] at hg4;clear hFs hown hxl hxs hD hB hF hz hq hD32 ta;go_wp2;go_region_law (refine qJ rfl (.tmp 61) (.tmp 68) rfl w.heap.size (.slice a1 j c1) (.slice (some ⟨wr.heap.size,0,none⟩) 1 1) xs [B] (by simp [Act.eval]) (by simp [Act.eval]) (World.ownsRow.alloc (w:=wr) HOWN.out _) (yq wr B rfl) (by simp;have:=HRW.out.below.size;omega) (by simp;omega) ?_;intro ao2 cc2 w2 hA;rw [←HFS.out] at hA;obtain ⟨m1,m2,m3⟩:=HRW.out.mid hlt2 hA)
        all_goals
         have HP:=J (zeN HRW.out hlt2 HN.out hjn HB.out (by rw [←HXS.out];exact hA));clear hA;go_wp2_with fail
         go_roundw;case rel=>exact ⟨j+1,_,by omega,rfl,by have:=HQ.out;omega,by simpa [HXL.out] using HP.out⟩
         case measure=>first | (simp [intOf];done) | (simp [intOf];omega)
       ·have hjn':j=n:=by omega
        subst hjn';have hz1:z = -1:=by omega
        subst hz1;have HW2:=J (zaW.whole (⟨F,hF⟩:zaW w pr gl zs.length rm ls j s j wr) HN.out);clear hF hz;go_wp2;go_roundw;case rel=>exact ⟨s+1,cd2+1,by omega,by go_num,by go_num,by rw [HCD.out,Kv hsl,if_pos HN.out];omega,HW2.out⟩
        case measure=>simp [intOf];omega
     ·have hne:((n:Int) != l)=true:=by simp;omega
      have HNE:Hid (ln ls s≠l):=J (by rw [HN.out];exact hnl);go_wp2;go_roundw;case rel=>exact ⟨s+1,cd2,by omega,by go_num,rfl,by rw [HCD.out,Kv hsl,if_neg HNE.out];rfl,by unfold zbi;rw [zdE HNE.out];exact HR2.out⟩
      case measure=>simp [intOf];omega
    ·have hs':s=zs.length:=by omega
     subst hs';go_wp2;go_roundw;case rel=>
      refine ⟨l+1,cd2,by omega,by omega,by go_num,rfl,?_,?_⟩
      ·rw [fc,HCD.out,List.take_of_length_le (by rw [HL.out];exact Nat.le_refl _)]
       unfold cn;rw [if_neg (by omega)]
      ·obtain ⟨F,h⟩:=HR2.out
       refine ⟨F,?_⟩;rw [show done ls (l+1) 0=done ls l zs.length from funext fun t=>zdq ls l zs.length (by rw [HL.out];exact Nat.le_refl _) t]
       exact h
     case measure=>simp [intOf];omega
  ·have hl':l=16:=by omega
   subst hl';go_wp2;go_ret2
   obtain ⟨F,h⟩:=HR.out;rw [zfQ HO.out] at h;refine ⟨pr,rfl,fun w2 ht=>?_,h.below⟩;obtain ⟨k1,k2,k3⟩:=h.old ht;refine ⟨⟨gl,rm,F,(k1.cell 0).trans (by rw [HL.out];rfl),(k1.cell 1).trans rfl,fun s hs=>?_⟩,(k1.cell 1).trans (by rw [←HRM.out];rfl)⟩
   rw [HL.out] at hs;exact ⟨(k2.cell s).trans (zw _ _ s hs),zi.own (k3 s hs)⟩
end
end Go.Proofs.YtacpfpghokcdlaaGreatDoor
