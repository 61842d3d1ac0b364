/- Part 2. -/
import Derived.Deep.Cut
import Derived.Deep.MidRow
import Derived.Laws.MakeOwn
import Derived.Laws.Rows
import Derived.Laws.Tables
import Derived.Test.YtacpfpghokcdlaaGreatDoorXB1
open Go.Proofs.Tryz
namespace Go.Proofs.YtacpfpghokcdlaaGreatDoor
set_option maxRecDepth 100000
section
open Go.Lib renaming hid → J
open Go.RowKit
structure WI (bs:List Nat) (n:Nat):Prop where
 lo:n≤8*bs.length
 hi:8*bs.length<n+8
 lt:num bs<2^n
def qC (w:World) (base p:Nat) (g:Option Nat) (N n x d:Nat) (wr:World):Prop:=
 ∃ bs g',Ob wr base 118 p g' bs n∧Touch (xG p g) w wr∧(∀ k,g'=some k→g=some k∨w.heap.size≤k)∧8*bs.length=n+d∧num bs=N+x%2^d*2^n
theorem K7 (v:Int) (V n X:Nat) (w:World) (hv:v=(V:Int)) (hn:n≤32) (hV:V<18446744073709551616) (hX:V%2^n=X) :
  Calls prog 106 #[.int .u64 v,.int .i64 n] w fun e w'=>e=.returned (.int .u64 X)∧w=w':=by
 rw [←hX];exact xV v V n w hv hn hV
theorem qC.start {w:World}{base p:Nat}{g:Option Nat}{bs:List Nat}{n x:Nat}(h:Ob w base 118 p g bs n) (hl:8*bs.length=n) (nq:Nat):qC w base p g (num bs) n x 0 (w.drewN nq):=
 ⟨bs,g,h.drewN nq,(Touch.refl _ w).drewN nq,fun k hk => .inl hk,by omega,by simp [Nat.mod_one]⟩
theorem qC.first {w:World}{base p g0 c:Nat}{bs:List Nat}{n x:Nat}(h:Ob w base 118 p (some g0) bs n) (own:w.ownsRow base 5 1 (.slice (some ⟨g0,0,none⟩) bs.length c) bs.length (u8s bs)) (h1:w.heap[p]? = some (.cells #[.slice (some ⟨g0,0,none⟩) bs.length c,.int .i64 n] 118 (0,0)))
  (hw:WI bs n) (hf:n<8*bs.length) (hx:x<4294967296) (nq:Nat) {u:Int} (hu:u=bits BinOp.or IntKind.u8 (byt bs (bs.length-1)) (IntKind.u64.wrap ((x:Int)*2^(8-(bs.length*8-n)))%256)) :
  qC w base p (some g0) (num bs) n x (bs.length*8-n) ((w.drewN nq).setCell ⟨g0,bs.length-1,none⟩ (.int .u8 u)):=by
 have hgp:=h.lt.2 g0 rfl;have hhi:=hw.hi;have hf2:=zdL (bs:=bs) (x:=x) (f:=bs.length*8-n) h.hb (by omega) (by omega) (by omega) rfl hw.lt;have hle:8-(bs.length*8-n)≤8:=by omega
 have hp2:2^(8-(bs.length*8-n))≤2^8:=Nat.pow_le_pow_right (by omega) hle;have hmul:x*2^(8-(bs.length*8-n))≤4294967296*2^8:=Nat.mul_le_mul (by omega) hp2;have hue:u=((bs.getD (bs.length-1) 0 ||| (x*2^(8-(bs.length*8-n))%256):Nat):Int):=by
  rw [hu];have e1:IntKind.u64.wrap ((x:Int)*2^(8-(bs.length*8-n)))%256=((x*2^(8-(bs.length*8-n))%256:Nat):Int):=by
   rw [IntKind.wrap_u64,show (x:Int)*2^(8-(bs.length*8-n))=((x*2^(8-(bs.length*8-n)):Nat):Int) from by simp];omega
  rw [e1];exact u8_or_nat _ _ (h.hb.at _) (Nat.mod_lt _ (by omega))
 have hst:=(own.stored (bs.length-1) (.int .u8 u)).1;have hset:(u8s bs).set (bs.length-1) (.int .u8 u)=u8s (bs.set (bs.length-1) (bs.getD (bs.length-1) 0 ||| (x*2^(8-(bs.length*8-n))%256))):=by
  rw [hue];unfold u8s;rw [List.map_set]
 rw [hset] at hst;refine ⟨bs.set (bs.length-1) (bs.getD (bs.length-1) 0 ||| (x*2^(8-(bs.length*8-n))%256)),some g0,⟨⟨.slice (some ⟨g0,0,none⟩) bs.length c,?_,?_,?_⟩,h.hp,h.hb.set _ hf2.1,h.ht⟩,((Touch.refl _ w).drewN nq).setCell _ _ (.inl (.inr rfl)),fun k hk => .inl hk,by rw [List.length_set];omega,hf2.2⟩
 ·exact (Below.heap_setCell _ _ _ _ (by simp only [];omega)).trans h1
 ·rfl
 ·rw [List.length_set];exact hst
theorem qC.next {w wr w1:World}{base p:Nat}{g g1:Option Nat}{bs:List Nat}{N n x d:Nat}{sv v':Value}(ht:Touch (xG p g) w wr) (hr:∀ k,g1=some k→g=some k∨w.heap.size≤k) (hl:8*bs.length=n+d) (hN:num bs=N+x%2^d*2^n)
  {W:World} (ho:Ob W base 118 p sv.ownBlock bs n) (hsv:W.heap[p]? = some (.cells #[sv,.int .i64 n] 118 (0,0))) (hW:Touch (fun _=>False) wr W) (hg:sv.ownBlock=g1) (hA:Apd W base sv (bs++[x/2^d%256]) v' w1) :
  qC w base p g N n x (d+8) (w1.setCell ⟨p,0,none⟩ v'):=by
 subst hg;obtain ⟨hs1,g2,ho2,ht2,hr2⟩:=Xo ho hA (ho.hb.app (Bs.one (Nat.mod_lt _ (by omega)))) hsv;refine ⟨_,g2,ho2,(ht.trans (hW.mono fun _ h=>h.elim)).trans' ht2 ?_,?_,by rw [List.length_append,List.length_singleton];omega,zem hl hN⟩
 ·intro i hi hlt
  rcases hi with rfl | hi
  ·exact .inl rfl
  ·rcases hr i hi with h | h
   ·exact .inr h
   ·omega
 ·intro k hk
  rcases hr2 k hk with h | h
  ·exact hr k h
  ·exact .inr (Nat.le_trans ht.size (Nat.le_trans hW.size h))
def Wrote (w:World) (base p:Nat) (g:Option Nat) (N n:Nat) (w':World):Prop:=
 ∃ bs,UZ w base 118 p g bs n w'∧WI bs n∧num bs=N
theorem qC.done {w wr:World}{base p:Nat}{g:Option Nat}{N n x d k:Nat}(h:qC w base p g N n x d wr) (hN:N<2^n) (hx:x<2^k) (h1:k≤d) (h2:d<k+8){u:Int}(hu:u=((n+k:Nat):Int)) :
  Wrote w base p g (N+x*2^n) (n+k) (wr.setCell ⟨p,1,none⟩ (.int .i64 u)):=by
 subst hu;obtain ⟨bs,g',ho,ht,hr,hl,hn⟩:=h;have hxd:x%2^d=x:=Nat.mod_eq_of_lt (Nat.lt_of_lt_of_le hx (Nat.pow_le_pow_right (by omega) h1));rw [hxd] at hn;exact ⟨bs,⟨g',ho.set1 _,ht.setCell _ _ (.inl (.inl rfl)),hr⟩,⟨by omega,by omega,by rw [hn];exact zkJ hN hx⟩,hn⟩
theorem yq (W:World) (y:Nat){u:Int}(hu:u=(y:Int)):zi (W.alloc (.cells #[.int .u8 u] 5)) (.slice (some ⟨W.heap.size,0,none⟩) 1 1) [y]:=by
 subst hu;refine .inr ⟨⟨W.heap.size,0,none⟩,1,rfl,by simp,fun j u hj=>?_⟩
 match j,hj with
 | 0,hj=>simp [u8s] at hj;subst hj;simp [Addr.add]
theorem zjK (X d:Nat):IntKind.u8.wrap ((X:Int)/2^d)=((X/2^d%256:Nat):Int):=by
 rw [IntKind.wrap_u8'];simp
theorem Jl {w wr w1:World}{base p:Nat}{g g1:Option Nat}{bs:List Nat}{N n x d:Nat}{sv v':Value}(ho:Ob wr base 118 p g1 bs n) (hsv:wr.heap[p]? = some (.cells #[sv,.int .i64 n] 118 (0,0))) (hg:sv.ownBlock=g1)
  (ht:Touch (xG p g) w wr) (hr:∀ k,g1=some k→g=some k∨w.heap.size≤k) (hl:8*bs.length=n+d) (hN:num bs=N+x%2^d*2^n) {o:Obj}
  (hA:Apd (wr.alloc o).drew base sv (bs++[x/2^d%256]) v' w1) :
  w1.heap[p]? = some (.cells #[sv,.int .i64 n] 118 (0,0))∧qC w base p g N n x (d+8) (w1.setCell ⟨p,0,none⟩ v'):=by
 subst hg;have hW:Touch (fun _=>False) wr (wr.alloc o).drew:=((Touch.refl _ wr).alloc o).drew;have hoW:=ho.touch hW (fun _ _ h=>h);have hsW:(wr.alloc o).drew.heap[p]? = some (.cells #[sv,.int .i64 n] 118 (0,0)):=(hW.block p ho.lt.1 (fun h=>h)).trans hsv;exact ⟨(Xo hoW hA (ho.hb.app (Bs.one (Nat.mod_lt _ (by omega)))) hsW).1,qC.next ht hr hl hN hoW hsW hW rfl hA⟩
set_option maxHeartbeats 800000 in
theorem zhS {w:World}{base p:Nat}{g:Option Nat}{bs:List Nat}{n:Nat}(h:Ob w base 118 p g bs n) (hw:WI bs n) (hl:bs.length≤999999000) (v k X:Nat) (hv:v<4294967296) (hk:k≤32) (hX:v%2^k=X) :
  Calls prog 70 #[.pointer (some ⟨p,0,none⟩),.int .u32 v,.int .i64 k] w fun e w'=>e=.returned (.tuple #[])∧Wrote w base p g (num bs+X*2^n) (n+k) w':=by
 obtain ⟨fv,h1,hg,h3⟩:=h.blk;subst hg;have hlt:=h.lt.1;have hbase:=h.hp;have hlo:=hw.lo;have hhi:=hw.hi;obtain ⟨ao,c,rfl⟩:=zr h3;obtain ⟨c0,c1,f0,f1⟩:=zX h1;have hX2:X<4294967296:=by
  have:=Nat.mod_le v (2^k);omega
 have HB:=J h1;have H:=J h;have HO:=J h3;have HW:=J hw;have HX:=J hX;clear h1 h h3 hw hX;by_cases hf:n<8*bs.length
 ·obtain ⟨g0,rfl⟩:∃ g0,ao=some ⟨g0,0,none⟩:=by
   rcases HO.out.2 with ⟨hh,h0⟩ | ⟨g0,cap,cur,hh,_⟩
   ·omega
   ·exact ⟨g0,by simp at hh;exact hh.1⟩
  have r0:=jn HO.out (bs.length-1) (by omega);have r1:=HO.out.frozenAt (bs.length-1);have hfd:decide ((n:Int)<(bs.length:Int)*8)=true:=by simp;omega
  go_enter func70,ntmps70;go_wp2_with (first
   | (go_at_call 105;refine (qq k _ (by omega) (by omega)).mono ?_;rintro e w' ⟨rfl,rfl⟩)
   | (go_at_call 106;refine (K7 _ v k X _ rfl hk (by omega) HX.out).mono ?_;rintro e w' ⟨rfl,rfl⟩))
  go_quiet (fail)
  go_wp2;go_region
  go_wp2;go_loopw [8] (fun i wr=>∃ d:Nat,d<k+8∧i=.int .i64 d∧qC w base p (some g0) (num bs) n X d wr) (fun i _=>40-(intOf i).toNat)
  case atStart=>
   refine ⟨bs.length*8-n,by omega,by congr 1;omega,qC.first H.out HO.out HB.out HW.out hf hX2 _ rfl⟩
  case round=>
   obtain ⟨d,hd,rfl,hrel⟩:=hrel;obtain ⟨bs1,g1,ho1,ht1,hr1,hl1,hn1⟩:=hrel;obtain ⟨sv,s1,s2,s3⟩:=ho1.blk;obtain ⟨ao1,cc1,rfl⟩:=zr s3;obtain ⟨d0,d1,e0,e1⟩:=zX s1;have hlt1:=ho1.lt.1;have HO1:=J ho1;have HT1:=J ht1;have HR1:=J hr1;have HL1:=J hl1;have HN1:=J hn1;have HS1:=J s1;have HS2:=J s2;have HS3:=J s3;have hbl:bs1.length≤999999100:=by omega
   clear ho1 ht1 hr1 hl1 hn1 s1 s2 s3;by_cases hdk:d<k
   ·go_wp2
    go_region_law (refine qJ rfl (.tmp 58) (.tmp 63) rfl base (.slice ao1 bs1.length cc1) (.slice (some ⟨wr.heap.size,0,none⟩) 1 1) bs1 [X/2^d%256] (by simp [Act.eval]) (by simp [Act.eval]) (World.ownsRow.alloc (w:=wr) HS3.out _) (yq wr (X/2^d%256) (zjK X d)) (by simp;omega) (by simp;omega) ?_;intro ao2 cc2 w2 hA;obtain ⟨hs9,hR⟩:=Jl HO1.out HS1.out HS2.out HT1.out HR1.out HL1.out HN1.out hA;obtain ⟨q0,q1,q2,q3⟩:=zX hs9;(try rw [List.length_append,List.length_singleton] at hR);have HR:=J hR;clear hA hs9 hR)
    all_goals
     go_wp2;go_roundw;case rel=>exact ⟨d+8,by omega,by go_num,HR.out⟩
     case measure=>simp [intOf];omega
   ·have hXk:X<2^k:=by rw [←HX.out];exact Nat.mod_lt _ (Nat.two_pow_pos k)
    have hR:qC w base p (some g0) (num bs) n X d wr:=⟨bs1,g1,HO1.out,HT1.out,HR1.out,HL1.out,HN1.out⟩;have hD:=hR.done HW.out.lt hXk (by omega) hd (u:=(n:Int)+k) (by omega);have HD:=J hD;clear hXk hR hD;go_wp2;go_end0;exact ⟨rfl,HD.out⟩
 ·have hfd:decide ((n:Int)<(bs.length:Int)*8)=false:=by simp;omega
  go_enter func70,ntmps70;go_wp2_with (first
   | (go_at_call 105;refine (qq k _ (by omega) (by omega)).mono ?_;rintro e w' ⟨rfl,rfl⟩)
   | (go_at_call 106;refine (K7 _ v k X _ rfl hk (by omega) HX.out).mono ?_;rintro e w' ⟨rfl,rfl⟩))
  go_quiet (fail)
  go_wp2;go_loopw [8] (fun i wr=>∃ d:Nat,d<k+8∧i=.int .i64 d∧qC w base p (Value.slice ao bs.length c).ownBlock (num bs) n X d wr) (fun i _=>40-(intOf i).toNat)
  case atStart=>
   exact ⟨0,by omega,by congr 1;omega,qC.start H.out (by omega) _⟩
  case round=>
   obtain ⟨d,hd,rfl,hrel⟩:=hrel;obtain ⟨bs1,g1,ho1,ht1,hr1,hl1,hn1⟩:=hrel;obtain ⟨sv,s1,s2,s3⟩:=ho1.blk;obtain ⟨ao1,cc1,rfl⟩:=zr s3;obtain ⟨d0,d1,e0,e1⟩:=zX s1;have hlt1:=ho1.lt.1;have HO1:=J ho1;have HT1:=J ht1;have HR1:=J hr1;have HL1:=J hl1;have HN1:=J hn1;have HS1:=J s1;have HS2:=J s2;have HS3:=J s3;have hbl:bs1.length≤999999100:=by omega
   clear ho1 ht1 hr1 hl1 hn1 s1 s2 s3;by_cases hdk:d<k
   ·go_wp2
    go_region_law (refine qJ rfl (.tmp 58) (.tmp 63) rfl base (.slice ao1 bs1.length cc1) (.slice (some ⟨wr.heap.size,0,none⟩) 1 1) bs1 [X/2^d%256] (by simp [Act.eval]) (by simp [Act.eval]) (World.ownsRow.alloc (w:=wr) HS3.out _) (yq wr (X/2^d%256) (zjK X d)) (by simp;omega) (by simp;omega) ?_;intro ao2 cc2 w2 hA;obtain ⟨hs9,hR⟩:=Jl HO1.out HS1.out HS2.out HT1.out HR1.out HL1.out HN1.out hA;obtain ⟨q0,q1,q2,q3⟩:=zX hs9;(try rw [List.length_append,List.length_singleton] at hR);have HR:=J hR;clear hA hs9 hR)
    all_goals
     go_wp2;go_roundw;case rel=>exact ⟨d+8,by omega,by go_num,HR.out⟩
     case measure=>simp [intOf];omega
   ·have hXk:X<2^k:=by rw [←HX.out];exact Nat.mod_lt _ (Nat.two_pow_pos k)
    have hR:qC w base p (Value.slice ao bs.length c).ownBlock (num bs) n X d wr:=⟨bs1,g1,HO1.out,HT1.out,HR1.out,HL1.out,HN1.out⟩;have hD:=hR.done HW.out.lt hXk (by omega) hd (u:=(n:Int)+k) (by omega);have HD:=J hD;clear hXk hR hD;go_wp2;go_end0;exact ⟨rfl,HD.out⟩
def Wr (w:World) (base p:Nat) (g:Option Nat) (N n:Nat):Prop:=∃ bs,Ob w base 118 p g bs n∧WI bs n∧num bs=N
end
def rv:Nat→Nat→Nat
 | 0,_=>0
 | n+1,v=>rv n v*2+v/2^n%2
theorem ve (n v:Nat):rv n v<2^n:=by
 induction n with
 | zero=>simp [rv]
 | succ n ih=>rw [rv,Nat.pow_succ];omega
theorem uM (n v i:Nat):(rv n v).testBit i=(decide (i<n) && v.testBit (n-1-i)):=by
 induction n generalizing i with
 | zero=>simp [rv]
 | succ n ih=>
  rw [rv];cases i with
  | zero=>
   rw [Nat.testBit_zero];have e:(rv n v*2+v/2^n%2)%2=v/2^n%2:=by omega
   rw [e,Nat.testBit_eq_decide_div_mod_eq];simp
  | succ i=>
   rw [Nat.testBit_succ,show (rv n v*2+v/2^n%2)/2=rv n v from by omega,ih];by_cases h:i<n
   ·simp [h,show n-(i+1)=n-1-i from by omega]
   ·simp [h]
theorem Jy (n m v:Nat):rv (n+m) v/2^m=rv n v:=by
 induction m with
 | zero=>simp
 | succ m ih=>
  rw [←Nat.add_assoc,rv,Nat.pow_succ,Nat.mul_comm (2^m) 2,←Nat.div_div_eq_div_mul,show (rv (n+m) v*2+v/2^(n+m)%2)/2=rv (n+m) v from by omega,ih]
theorem zgJ (n v:Nat):rv n (rv n v)=v%2^n:=by
 apply Nat.eq_of_testBit_eq;intro i;rw [uM,uM,Nat.testBit_mod_two_pow];by_cases h:i<n
 ·simp [h,show n-1-i<n from by omega,show n-1-(n-1-i)=i from by omega]
 ·simp [h]
def st (m s x:Nat):Nat:=(x/2^s &&& m) ||| ((x &&& m)*2^s%2^32)
theorem Ud (m s x:Nat) (hm:m<2^32):st m s x<2^32:=
 Nat.or_lt_two_pow (Nat.lt_of_le_of_lt Nat.and_le_right hm) (Nat.mod_lt _ (by omega))
theorem zlt (m s x i:Nat) (hi:i<32):(st m s x).testBit i=((x.testBit (i+s) && m.testBit i) || (decide (s≤i) && (x.testBit (i-s) && m.testBit (i-s)))):=by
 unfold st;rw [Nat.testBit_or,Nat.testBit_and,Nat.testBit_div_two_pow,Nat.testBit_mod_two_pow,Nat.testBit_mul_two_pow,Nat.testBit_and];simp [hi]
def r32 (v:Nat):Nat:=st 65535 16 (st 16711935 8 (st 252645135 4 (st 858993459 2 (st 1431655765 1 v))))
theorem Jt {m s:Nat}(x i:Nat) (hi:i<32) (h1:m.testBit i=true→i+s=i ^^^ s∧(s≤i→m.testBit (i-s)=false)) (h2:m.testBit i=false→s≤i∧i-s=i ^^^ s∧m.testBit (i-s)=true):(st m s x).testBit i=x.testBit (i ^^^ s):=by
 rw [zlt _ _ _ _ hi];cases hm:m.testBit i with
 | true=>
  obtain ⟨e,f⟩:=h1 hm;by_cases hs:s≤i
  ·simp [f hs,←e]
  ·simp [hs,←e]
 | false=>
  obtain ⟨hs,e,f⟩:=h2 hm;simp [f,hs,←e]
theorem m_1:∀ i,i<32→(Nat.testBit 1431655765 i=true→i+1=i ^^^ 1∧(1≤i→Nat.testBit 1431655765 (i-1)=false))∧(Nat.testBit 1431655765 i=false→1≤i∧i-1=i ^^^ 1∧Nat.testBit 1431655765 (i-1)=true):=by decide
theorem zmy (x:Nat):∀ i,i<32→(st 1431655765 1 x).testBit i=x.testBit (i ^^^ 1):=fun i hi=>Jt x i hi (m_1 i hi).1 (m_1 i hi).2
theorem m_2:∀ i,i<32→(Nat.testBit 858993459 i=true→i+2=i ^^^ 2∧(2≤i→Nat.testBit 858993459 (i-2)=false))∧(Nat.testBit 858993459 i=false→2≤i∧i-2=i ^^^ 2∧Nat.testBit 858993459 (i-2)=true):=by decide
theorem zmp (x:Nat):∀ i,i<32→(st 858993459 2 x).testBit i=x.testBit (i ^^^ 2):=fun i hi=>Jt x i hi (m_2 i hi).1 (m_2 i hi).2
theorem m_4:∀ i,i<32→(Nat.testBit 252645135 i=true→i+4=i ^^^ 4∧(4≤i→Nat.testBit 252645135 (i-4)=false))∧(Nat.testBit 252645135 i=false→4≤i∧i-4=i ^^^ 4∧Nat.testBit 252645135 (i-4)=true):=by decide
theorem zmt (x:Nat):∀ i,i<32→(st 252645135 4 x).testBit i=x.testBit (i ^^^ 4):=fun i hi=>Jt x i hi (m_4 i hi).1 (m_4 i hi).2
theorem m_8:∀ i,i<32→(Nat.testBit 16711935 i=true→i+8=i ^^^ 8∧(8≤i→Nat.testBit 16711935 (i-8)=false))∧(Nat.testBit 16711935 i=false→8≤i∧i-8=i ^^^ 8∧Nat.testBit 16711935 (i-8)=true):=by decide
theorem zmB (x:Nat):∀ i,i<32→(st 16711935 8 x).testBit i=x.testBit (i ^^^ 8):=fun i hi=>Jt x i hi (m_8 i hi).1 (m_8 i hi).2
theorem zlP:∀ i,i<32→(Nat.testBit 65535 i=true→i+16=i ^^^ 16∧(16≤i→Nat.testBit 65535 (i-16)=false))∧(Nat.testBit 65535 i=false→16≤i∧i-16=i ^^^ 16∧Nat.testBit 65535 (i-16)=true):=by decide
theorem zlK (x:Nat):∀ i,i<32→(st 65535 16 x).testBit i=x.testBit (i ^^^ 16):=fun i hi=>Jt x i hi (zlP i hi).1 (zlP i hi).2
theorem Qq {i:Nat}(h:i<32) (k:Nat) (hk:k<32):i ^^^ k<32:=Nat.xor_lt_two_pow (n:=5) h hk
theorem zhz:∀ i,i<32→((((i ^^^ 16) ^^^ 8) ^^^ 4) ^^^ 2) ^^^ 1=31-i:=by decide
theorem zka (v:Nat):r32 v=rv 32 v:=by
 apply Nat.eq_of_testBit_eq;intro i;by_cases h:i<32
 ·have h1:=Qq h 16 (by omega)
  have h2:=Qq h1 8 (by omega);have h3:=Qq h2 4 (by omega);have h4:=Qq h3 2 (by omega);unfold r32;rw [zlK _ i h,zmB _ _ h1,zmt _ _ h2,zmp _ _ h3,zmy _ _ h4,zhz i h,uM];simp [h]
 ·have a:r32 v<2^i:=Nat.lt_of_lt_of_le (Ud _ _ _ (by omega)) (Nat.pow_le_pow_right (by omega) (by omega))
  have b:rv 32 v<2^i:=Nat.lt_of_lt_of_le (ve 32 v) (Nat.pow_le_pow_right (by omega) (by omega));rw [Nat.testBit_lt_two_pow a,Nat.testBit_lt_two_pow b]
section
open Go.Lib renaming hid → J
open Go.RowKit
theorem Xj (m s S x X:Nat) (hS:S=2^s) (hm:m<4294967296) (hx:x<4294967296) (hX:st m s x=X) :
  bits BinOp.or IntKind.u32 (bits BinOp.and IntKind.u32 ((x:Int)/(S:Int)) (m:Int)) (bits BinOp.and IntKind.u32 (x:Int) (m:Int)*(S:Int)%4294967296)=(X:Int):=by
 subst hX;subst hS;have h1:x/2^s≤x:=Nat.div_le_self _ _;have e1:((x:Int)/((2^s:Nat):Int))=((x/2^s:Nat):Int):=by simp
 rw [e1,u32_and_nat _ _ (by omega) hm,u32_and_nat _ _ hx hm];have e2:(((x &&& m:Nat):Int)*((2^s:Nat):Int)%4294967296)=(((x &&& m)*2^s%4294967296:Nat):Int):=by rw [←Int.natCast_mul];omega
 rw [e2,u32_or_nat _ _ (Nat.lt_of_le_of_lt Nat.and_le_right hm) (by omega)];rfl
theorem zgp (x X:Nat) (hx:x<4294967296) (hX:st 65535 16 x=X) :
  bits BinOp.or IntKind.u32 ((x:Int)/65536) ((x:Int)*65536%4294967296)=(X:Int):=by
 subst hX;have e1:((x:Int)/65536)=((x/65536:Nat):Int):=by omega
 have e2:((x:Int)*65536%4294967296)=((x*65536%4294967296:Nat):Int):=by omega
 rw [e1,e2,u32_or_nat _ _ (by omega) (by omega)];unfold st;rw [show (65535:Nat)=2^16-1 from rfl,Nat.and_two_pow_sub_one_eq_mod,Nat.and_two_pow_sub_one_eq_mod];have a:x/2^16%2^16=x/65536:=by
  have:(2:Nat)^16=65536:=rfl;omega
 have b:x%2^16*2^16%2^32=x*65536%4294967296:=by
  have:(2:Nat)^16=65536:=rfl;have:(2:Nat)^32=4294967296:=rfl;omega
 rw [a,b]
theorem zmD (v a b:Nat) (w:World) (hv:v<4294967296) (ha:st 16711935 8 v=a) (hb:st 65535 16 a=b) :
  Calls prog 193 #[.int .u32 v] w fun e w'=>e=.returned (.int .u32 b)∧w=w':=by
 have hal:a<4294967296:=by rw [←ha];exact Ud _ _ _ (by omega)
 have h1:=Xj 16711935 8 256 v a rfl (by omega) hv ha;have h2:=zgp a b hal hb;clear ha hb;simp only [Int.cast_ofNat_Int] at h1;go_enter func193,ntmps193;go_wp2;go_ret;exact ⟨rfl,rfl⟩
theorem zeU (v a b c d e:Nat) (w:World) (hv:v<4294967296) (ha:st 1431655765 1 v=a) (hb:st 858993459 2 a=b) (hc:st 252645135 4 b=c) (hd:st 16711935 8 c=d) (he:st 65535 16 d=e) :
  Calls prog 182 #[.int .u32 v] w fun en w'=>en=.returned (.int .u32 e)∧w=w':=by
 have hal:a<4294967296:=by rw [←ha];exact Ud _ _ _ (by omega)
 have hbl:b<4294967296:=by rw [←hb];exact Ud _ _ _ (by omega)
 have hcl:c<4294967296:=by rw [←hc];exact Ud _ _ _ (by omega)
 have h1:=Xj 1431655765 1 2 v a rfl (by omega) hv ha;have h2:=Xj 858993459 2 4 a b rfl (by omega) hal hb;have h3:=Xj 252645135 4 16 b c rfl (by omega) hbl hc;have HD:=J hd;have HE:=J he;clear ha hb hc hd he;simp only [Int.cast_ofNat_Int] at h1 h2 h3;go_enter func182,ntmps182;go_wp2_with (go_at_call 193;refine (zmD c d e _ hcl HD.out HE.out).mono ?_;rintro en w' ⟨rfl,rfl⟩);go_ret;exact ⟨rfl,rfl⟩
theorem Ke (v:Nat) (w:World) (hv:v<4294967296) :
  Calls prog 182 #[.int .u32 v] w fun en w'=>en=.returned (.int .u32 (rv 32 v:Nat))∧w=w':=by
 rw [←zka];exact zeU v _ _ _ _ _ w hv rfl rfl rfl rfl rfl
theorem xz (v n:Nat) (w:World) (hv:v<4294967296) (hn:n≤32) :
  Calls prog 164 #[.int .u32 v,.int .i64 n] w fun e w'=>e=.returned (.int .u32 (rv n v:Nat))∧w=w':=by
 have hd:=Jy n (32-n) v;rw [show n+(32-n)=32 from by omega] at hd;obtain ⟨R,hR⟩:∃ R,rv 32 v=R:=⟨_,rfl⟩;obtain ⟨S,hS⟩:∃ S,rv n v=S:=⟨_,rfl⟩;rw [hR,hS] at hd;have hrev:=Ke v w hv;rw [hR] at hrev;rw [hS];have HR:=J hrev;have HD:=J hd;clear hR hS hd hrev;go_enter func164,ntmps164;go_wp2_with (first
  | (go_at_call 105;refine (qq n _ (by omega) (by omega)).mono ?_;rintro e w' ⟨rfl,rfl⟩)
  | (go_at_call 182;refine HR.out.mono ?_;rintro e w' ⟨rfl,rfl⟩))
 go_ret;exact ⟨qy (by rw [←HD.out];simp),rfl⟩
end
section
open Go.RowKit
theorem WI.nil:WI [] 0:=⟨by simp,by simp,by simp [num]⟩
theorem WI.small {bs:List Nat}{n:Nat}(h:WI bs n) (hn:n≤7000000000):bs.length≤900000000:=by
 have:=h.hi;omega
theorem Wr.foot {w:World}{base p:Nat}{g:Option Nat}{N n:Nat}(h:Wr w base p g N n){k:Nat}(hk:xG p g k):base≤k∧k<w.heap.size:=by
 obtain ⟨bs,ho,_⟩:=h;exact ho.foot_lt hk
theorem Wr.touch {S:Nat→Prop}{w w':World}{base p:Nat}{g:Option Nat}{N n:Nat}(h:Wr w base p g N n) (ht:Touch S w w') (hs:∀ k,xG p g k→¬S k):Wr w' base p g N n:=by
 obtain ⟨bs,ho,r⟩:=h;exact ⟨bs,ho.touch ht hs,r⟩
def zt (w:World) (base p:Nat) (g:Option Nat) (N n:Nat) (w':World):Prop:=
 ∃ g',Wr w' base p g' N n∧Touch (xG p g) w w'∧∀ k,g'=some k→g=some k∨w.heap.size≤k
theorem Wr.put {w:World}{base p:Nat}{g:Option Nat}{N n:Nat}(h:Wr w base p g N n) (hn:n≤7000000000) (v k X:Nat) (hv:v<4294967296) (hk:k≤32) (hX:v%2^k=X) :
  Calls prog 70 #[.pointer (some ⟨p,0,none⟩),.int .u32 v,.int .i64 k] w fun e w'=>e=.returned (.tuple #[])∧zt w base p g (N+X*2^n) (n+k) w':=by
 obtain ⟨bs,ho,hw,rfl⟩:=h;refine (zhS ho hw (by have:=hw.small hn;omega) v k X hv hk hX).mono ?_;rintro e w' ⟨rfl,bs',⟨g',ho',ht,hr⟩,hw',hn'⟩;exact ⟨rfl,g',⟨bs',ho',hw',hn'⟩,ht,hr⟩
theorem zi.lt {w:World}{v:Value}{xs:List Nat}(h:zi w v xs) (hp:0<xs.length):∀ k,v.ownBlock=some k→k<w.heap.size:=by
 intro k hk;obtain ⟨b,off,c,rfl,_,hc⟩:=h.at hp;have:=World.block_lt_of_cell? w _ (hc 0 hp);simp [Value.ownBlock] at hk;subst hk;exact this
theorem WI.up {bs:List Nat}{n:Nat}(h:WI bs n):up8 n=8*bs.length:=by
 have h1:=h.lo;have h2:=h.hi;unfold up8;omega
end
def cn (ls:List Nat) (n:Nat):Nat:=if n=0 then 0 else ls.count n
def fc (ls:List Nat):Nat→Nat
 | 0=>0
 | n+1=>(fc ls n+cn ls n)*2
def fp (ls:List Nat):Nat→Nat
 | 0=>0
 | n+1=>fp ls n+cn ls n
def sp (ls:List Nat):Nat→Nat
 | 0=>0
 | n+1=>sp ls n+cn ls n*2^(15-n)
def ln (ls:List Nat) (s:Nat):Nat:=ls.getD s 0
def rk (ls:List Nat) (s:Nat):Nat:=(ls.take s).count (ln ls s)
def cd (ls:List Nat) (s:Nat):Nat:=fc ls (ln ls s)+rk ls s
def room (ls:List Nat):Nat:=sp ls 16
structure Ok (ls:List Nat):Prop where
 len:ls.length≤320
 le:∀ x∈ls,x≤15
 few:room ls≤32768
theorem zdC {n:Nat}(h:n≤15):2^n*2^(15-n)=32768:=by rw [←Nat.pow_add,show n+(15-n)=15 by omega]
theorem zcQ (ls:List Nat) (n:Nat) (h:n≤15):fc ls n*2^(15-n)=sp ls n:=by
 induction n with
 | zero=>simp [fc,sp]
 | succ n ih=>
  have:=ih (by omega);have e:2*2^(15-(n+1))=2^(15-n):=by rw [←Nat.pow_succ',show (15-(n+1)).succ=15-n by omega]
  rw [fc,sp,←this,Nat.mul_assoc,e,Nat.add_mul]
theorem QB (ls:List Nat){m n:Nat}(h:m≤n):sp ls m≤sp ls n:=by
 induction n with
 | zero=>
      obtain rfl:m=0:=by omega
      exact Nat.le_refl _
 | succ n ih=>
  by_cases e:m=n+1
  ·subst e;exact Nat.le_refl _
  ·have:=ih (by omega)
   rw [sp];omega
theorem zct (ls:List Nat){m n:Nat}(h:m≤n):fp ls m≤fp ls n:=by
 induction n with
 | zero=>
      obtain rfl:m=0:=by omega
      exact Nat.le_refl _
 | succ n ih=>
  by_cases e:m=n+1
  ·subst e;exact Nat.le_refl _
  ·have:=ih (by omega)
   rw [fp];omega
theorem jA {ls:List Nat}{s:Nat}(h:ln ls s≠0):s<ls.length:=by
 unfold ln at h;rcases Nat.lt_or_ge s ls.length with h1 | h1
 ·exact h1
 ·simp [List.getD,h1] at h
theorem z6 {ls:List Nat}(H:Ok ls) (s:Nat):ln ls s≤15:=by
 unfold ln;rcases Nat.lt_or_ge s ls.length with h1 | h1
 ·rw [List.getD_eq_getElem?_getD,List.getElem?_eq_getElem h1];exact H.le _ (List.getElem_mem h1)
 ·simp [List.getD,h1]
theorem qw {ls:List Nat}{s:Nat}(h:s<ls.length):ls.take (s+1)=ls.take s++[ln ls s]:=by
 rw [List.take_succ_eq_append_getElem h];simp [ln,List.getD,h]
theorem yj (ls:List Nat) (s n:Nat):(ls.take s).count n≤ls.count n:=by
 exact (List.take_sublist s ls).count_le n
theorem zeV {ls:List Nat}{s:Nat}(h:ln ls s≠0):rk ls s<cn ls (ln ls s):=by
 have h1:=yj ls (s+1) (ln ls s);rw [qw (jA h),List.count_append] at h1;have h2:[ln ls s].count (ln ls s)=1:=by simp
 unfold rk cn;rw [if_neg h];omega
def lo (ls:List Nat) (s:Nat):Nat:=cd ls s*2^(15-ln ls s)
def hi (ls:List Nat) (s:Nat):Nat:=(cd ls s+1)*2^(15-ln ls s)
theorem zbV {ls:List Nat}(H:Ok ls) (s:Nat):lo ls s=sp ls (ln ls s)+rk ls s*2^(15-ln ls s):=by
 unfold lo cd;rw [Nat.add_mul,zcQ ls _ (z6 H s)]
theorem zeA {ls:List Nat}(s:Nat):hi ls s=lo ls s+2^(15-ln ls s):=by
 unfold hi lo;rw [Nat.add_mul,Nat.one_mul]
theorem zmb {ls:List Nat}(H:Ok ls) (s:Nat):sp ls (ln ls s)≤lo ls s:=by rw [zbV H];omega
theorem zjU {ls:List Nat}(H:Ok ls){s:Nat}(h:ln ls s≠0):hi ls s≤sp ls (ln ls s+1):=by
 rw [zeA,zbV H,sp];have h1:(rk ls s+1)*2^(15-ln ls s)≤cn ls (ln ls s)*2^(15-ln ls s):=Nat.mul_le_mul_right _ (zeV h);rw [Nat.add_mul] at h1;omega
theorem QK {ls:List Nat}(H:Ok ls){s:Nat}(h:ln ls s≠0):hi ls s≤room ls:=
 Nat.le_trans (zjU H h) (QB ls (by have:=z6 H s;omega))
theorem zl1 (ls:List Nat) (s:Nat):lo ls s<hi ls s:=by rw [zeA];have:=Nat.two_pow_pos (15-ln ls s);omega
theorem zjR {ls:List Nat}(H:Ok ls){s:Nat}(h:ln ls s≠0):cd ls s<2^ln ls s:=by
 have h1:=QK H h;have h2:=H.few;have h3:=zdC (z6 H s);unfold hi at h1;rcases Nat.lt_or_ge (cd ls s) (2^ln ls s) with h4 | h4
 ·exact h4
 ·exfalso
  have h5:(2^ln ls s+1)*2^(15-ln ls s)≤(cd ls s+1)*2^(15-ln ls s):=Nat.mul_le_mul_right _ (by omega);rw [Nat.add_mul,h3] at h5;have:=Nat.two_pow_pos (15-ln ls s);omega
theorem QH {ls:List Nat}{s t:Nat}(hs:ln ls s≠0) (he:ln ls s=ln ls t) (h:s<t):rk ls s<rk ls t:=by
 have h1:(ls.take (s+1)).count (ln ls s)≤(ls.take t).count (ln ls s):=by
  have:ls.take (s+1)=(ls.take t).take (s+1):=by rw [List.take_take,Nat.min_eq_left (by omega)]
  rw [this];exact yj _ _ _
 rw [qw (jA hs),List.count_append] at h1;have h2:[ln ls s].count (ln ls s)=1:=by simp
 unfold rk;rw [←he];omega
theorem zcK {ls:List Nat}(H:Ok ls){s t:Nat}(hs:ln ls s≠0) (_ht:ln ls t≠0) (h:ln ls s<ln ls t∨ln ls s=ln ls t∧s<t):hi ls s≤lo ls t:=by
 rcases h with h | ⟨he,h⟩
 ·exact Nat.le_trans (zjU H hs) (Nat.le_trans (QB ls h) (zmb H t))
 ·have h1:=QH hs he h
  rw [zeA,zbV H,zbV H,←he];have h2:(rk ls s+1)*2^(15-ln ls s)≤rk ls t*2^(15-ln ls s):=Nat.mul_le_mul_right _ h1;rw [Nat.add_mul] at h2;omega
theorem XO {ls:List Nat}(H:Ok ls){s t:Nat}(hs:ln ls s≠0) (ht:ln ls t≠0) (hne:s≠t):hi ls s≤lo ls t∨hi ls t≤lo ls s:=by
 by_cases h:ln ls s<ln ls t
 ·exact .inl (zcK H hs ht (.inl h))
 ·by_cases h2:ln ls t<ln ls s
  ·exact .inr (zcK H ht hs (.inl h2))
  ·have he:ln ls s=ln ls t:=by omega
   rcases Nat.lt_or_ge s t with h3 | h3
   ·exact .inl (zcK H hs ht (.inr ⟨he,h3⟩))
   ·exact .inr (zcK H ht hs (.inr ⟨he.symm,by omega⟩))
def Beg (ls:List Nat) (A s:Nat):Prop:=ln ls s≠0∧A/2^(15-ln ls s)=cd ls s
theorem zcj {ls:List Nat}{A s:Nat}:Beg ls A s↔ln ls s≠0∧lo ls s≤A∧A<hi ls s:=by
 unfold Beg lo hi;rw [Nat.div_eq_iff (Nat.two_pow_pos _)];have:=Nat.two_pow_pos (15-ln ls s);rw [Nat.add_mul,Nat.one_mul];constructor
 ·rintro ⟨h0,h1,h2⟩;exact ⟨h0,by omega,by omega⟩
 ·rintro ⟨h0,h1,h2⟩;exact ⟨h0,by omega,by omega⟩
theorem Qo {ls:List Nat}(H:Ok ls){A s t:Nat}(h1:Beg ls A s) (h2:Beg ls A t):s=t:=by
 rw [zcj] at h1 h2;by_cases e:s=t
 ·exact e
 ·rcases XO H h1.1 h2.1 e with h | h <;> omega
theorem zfv (ls:List Nat) (n:Nat):∀ k r,n≠0→r<(ls.take k).count n→∃ s,s<k∧ln ls s=n∧rk ls s=r:=by
 intro k;induction k with
 | zero=>intro r _ h;simp at h
 | succ k ih=>
  intro r hn h;by_cases hk:k<ls.length
  ·rw [qw hk,List.count_append] at h
   by_cases h2:r<(ls.take k).count n
   ·obtain ⟨s,h3,h4⟩:=ih r hn h2
    exact ⟨s,by omega,h4⟩
   ·have h5:[ln ls k].count n≤1:=by rw [List.count_singleton];split <;> omega
    by_cases h6:ln ls k=n
    ·exact ⟨k,by omega,h6,by unfold rk;rw [h6];omega⟩
    ·have:[ln ls k].count n=0:=by rw [List.count_singleton];simp [h6]
     omega
  ·rw [List.take_of_length_le (by omega)] at h
   rw [←List.take_of_length_le (show ls.length≤k by omega)] at h;obtain ⟨s,h3,h4⟩:=ih r hn h;exact ⟨s,by omega,h4⟩
theorem zai {ls:List Nat}{n r:Nat}(hn:n≠0) (h:r<cn ls n):∃ s,s<ls.length∧ln ls s=n∧rk ls s=r:=by
 unfold cn at h;rw [if_neg hn] at h;exact zfv ls n ls.length r hn (by rwa [List.take_length])
theorem zcM {ls:List Nat}{A n:Nat}(hn:n≤15):A/2^(15-n)<fc ls n+cn ls n↔A<sp ls (n+1):=by
 rw [Nat.div_lt_iff_lt_mul (Nat.two_pow_pos _),Nat.add_mul,zcQ ls n hn,sp]
theorem zcg {ls:List Nat}{A n:Nat}(hn:n≤15) (h:sp ls n≤A):fc ls n≤A/2^(15-n):=by
 rw [Nat.le_div_iff_mul_le (Nat.two_pow_pos _),zcQ ls n hn];exact h
theorem zaa {ls:List Nat}{A n s:Nat}(hn:n≠0) (h:fc ls n≤A/2^(15-n)) (hs:ln ls s=n) (hr:rk ls s=A/2^(15-n)-fc ls n):Beg ls A s:=by
 refine ⟨by omega,?_⟩;unfold cd;rw [hs];omega
theorem vu {ls:List Nat}(H:Ok ls){A:Nat}(h:room ls≤A) (s:Nat):¬Beg ls A s:=by
 rw [zcj];rintro ⟨h0,h1,h2⟩;have:=QK H h0;omega
def many (ls:List Nat):Nat:=fp ls 16
theorem zjW {ls:List Nat}(H:Ok ls){s:Nat}(h:ln ls s≠0):fp ls (ln ls s)+rk ls s<many ls:=by
 have h1:=zeV h;have h2:fp ls (ln ls s+1)≤fp ls 16:=zct ls (by have:=z6 H s;omega);rw [fp] at h2;unfold many;omega
theorem zkI {ls:List Nat}{s t:Nat}(hs:ln ls s≠0) (ht:ln ls t≠0) (h:fp ls (ln ls s)+rk ls s=fp ls (ln ls t)+rk ls t):s=t:=by
 have key:∀ a b,ln ls a≠0→ln ls b≠0→ln ls a<ln ls b→fp ls (ln ls a)+rk ls a<fp ls (ln ls b)+rk ls b:=by
  intro a b ha hb hab;have h1:=zeV ha;have h2:fp ls (ln ls a+1)≤fp ls (ln ls b):=zct ls hab;rw [fp] at h2;omega
 by_cases h1:ln ls s<ln ls t
 ·have:=key s t hs ht h1;omega
 ·by_cases h2:ln ls t<ln ls s
  ·have:=key t s ht hs h2;omega
  ·have he:ln ls s=ln ls t:=by omega
   rcases Nat.lt_trichotomy s t with h3 | h3 | h3
   ·have:=QH hs he h3;rw [he] at h;omega
   ·exact h3
   ·have:=QH ht he.symm h3;rw [he] at h;omega
section
open Go.RowKit
theorem Touch.setRow {S:Nat→Prop}{a w:World}(h:Touch S a w) (g:Nat) (cs:Array Value) (hp:S g∨a.heap.size≤g):Touch S a (w.setRow g cs):=
 ⟨h.os,h.tape,h.output,Nat.le_trans h.size (by simp),fun k hk hs=>(setRow_other w g k cs (fun e=>by subst e;rcases hp with hp | hp;exact hs hp;omega)).trans (h.block k hk hs)⟩
theorem Touch.of_below {S:Nat→Prop}{a b:World}(h:Below a.heap.size a b):Touch S a b:=⟨h.os,h.tape,h.output,h.size,fun k hk _=>h.block k hk⟩
theorem below_drewN {B:Nat}{a w:World}(h:Below B a w) (q:Nat):Below B a (w.drewN q):=⟨h.os,h.tape,h.output,h.size,h.block⟩
theorem zQ {B:Nat}{a w:World}(h:Below B a w):Below B a w.drew:=⟨h.os,h.tape,h.output,h.size,h.block⟩
def Blk (w:World) (g:Nat) (t:TypeId) (cs:Array Value):Prop:=w.heap[g]? = some (.cells cs t (0,0))
theorem Blk.lt {w:World}{g:Nat}{t:TypeId}{cs:Array Value}(h:Blk w g t cs):g<w.heap.size:=by
 rcases Nat.lt_or_ge g w.heap.size with hlt | hge
 ·exact hlt
 ·rw [Blk,Array.getElem?_eq_none hge] at h;cases h
theorem Blk.cell {w:World}{g:Nat}{t:TypeId}{cs:Array Value}(h:Blk w g t cs) (i:Nat):w.cell? ⟨g,i,none⟩=cs[i]? := cell_of_row w g i cs t (0,0) h
theorem Blk.free {w:World}{g:Nat}{t:TypeId}{cs:Array Value}(h:Blk w g t cs) (i:Nat):w.frozen? ⟨g,i,none⟩=false:=by
 rw [Blk] at h;simp [World.frozen?,h]
theorem Blk.made (w:World) (t:TypeId) (cs:Array Value):Blk (w.alloc (.cells cs t)) w.heap.size t cs:=by
 show (w.heap.push _)[w.heap.size]? = _;simp
theorem Blk.touch {S:Nat→Prop}{w w':World}{g:Nat}{t:TypeId}{cs:Array Value}(h:Blk w g t cs) (ht:Touch S w w') (hs:¬S g):Blk w' g t cs:=
 (ht.block g h.lt hs).trans h
theorem Blk.below {w w':World}{g:Nat}{t:TypeId}{cs:Array Value}(h:Blk w g t cs) (hb:Below w.heap.size w w'):Blk w' g t cs:=(hb.block g h.lt).trans h
theorem Blk.low {w w':World}{B g:Nat}{t:TypeId}{cs:Array Value}(h:Blk w g t cs) (hb:Below B w w') (hg:g<B):Blk w' g t cs:=(hb.block g hg).trans h
theorem Blk.drewN {w:World}{g:Nat}{t:TypeId}{cs:Array Value}(h:Blk w g t cs) (q:Nat):Blk (w.drewN q) g t cs:=h
theorem Blk.setCell {w:World}{g:Nat}{t:TypeId}{cs:Array Value}(h:Blk w g t cs) (i:Nat) (u:Value):Blk (w.setCell ⟨g,i,none⟩ u) g t (cs.setIfInBounds i u):=by
 rw [Blk] at h ⊢;simp [World.setCell,Array.getElem?_modify,h]
theorem Blk.other {w:World}{g g':Nat}{t:TypeId}{cs:Array Value}(h:Blk w g t cs) (i:Nat) (u:Value) (hne:g'≠g):Blk (w.setCell ⟨g',i,none⟩ u) g t cs:=
 h.touch ((Touch.refl (fun k=>k=g') w).setCell ⟨g',i,none⟩ u (.inl rfl)) fun e=>hne e.symm
theorem Blk.setRow {w:World}{g:Nat}{t:TypeId}{cs:Array Value}(h:Blk w g t cs) (u:Array Value):Blk (w.setRow g u) g t u:=setRow_heap w g cs u t (0,0) h
def va (n:Nat) (F:Nat→Value):Array Value:=((List.range n).map F).toArray
theorem qW (n:Nat) (F:Nat→Value):(va n F).size=n:=by simp [va]
theorem zw (n:Nat) (F:Nat→Value) (i:Nat) (h:i<n):(va n F)[i]? = some (F i):=by simp [va,h]
theorem zq {n:Nat}{F G:Nat→Value}(h:∀ i,i<n→F i=G i):va n F=va n G:=by
 unfold va;congr 1
 apply List.map_congr_left;intro i hi;rw [h i (List.mem_range.1 hi)]
theorem qF (n:Nat) (F:Nat→Value) (k:Nat) (u:Value):(va n F).setIfInBounds k u=va n fun i=>if i=k then u else F i:=by
 apply Array.ext
 ·simp [va]
 ·intro i h1 h2
  rw [Array.getElem_setIfInBounds (by simpa [va] using h2)];simp only [va,List.getElem_toArray,List.getElem_map,List.getElem_range];by_cases h:k=i
  ·subst h;simp
  ·have h':¬i=k:=fun e=>h e.symm
   simp [h,h']
theorem ur (n:Nat) (u:Value):Array.replicate n u=va n fun _=>u:=by
 apply Array.ext
 ·simp [va]
 ·intro i h1 h2
  simp [va]
theorem vF (z:Array Value) (n:Nat):madeCells z n=va n (fun i=>z[i%z.size]!):=by
 apply Array.ext
 ·simp [va,madeCells]
 ·intro i h1 h2
  simp [va,madeCells]
abbrev ia (n:Nat) (f:Nat→Nat):Array Value:=va n fun i => .int .i64 (f i:Nat)
theorem jS (n:Nat) (f:Nat→Nat):(ia n f).all (·.oneCell')=true:=by
 rw [Array.all_eq_true_iff_forall_mem];intro v hv;simp [ia,va] at hv;obtain ⟨i,_,rfl⟩:=hv;rfl
theorem jW (n:Nat) (f g:Nat→Nat) (k x:Nat) (h:∀ i,i<n→g i=if i=k then x else f i):(ia n f).setIfInBounds k (.int .i64 (x:Nat))=ia n g:=by
 rw [qF];refine zq fun i hi=>?_
 rw [h i hi];split <;> rfl
section
variable {P:Program}{ops:Array Oper}{rest:List Oper}{o:Oper}{a:Act}{w:World}{Q:Exit→Act→World→Prop}
theorem zP (hgd:o.guard=none) (t:TypeId) (ho:o.op=.alloc t) (z:Array Value) (hz:∀ W,(zeroValue t).run P W=.ok (.agg z) W)
  (h:∀ W,Blk W w.heap.size t z→Touch (fun _=>False) w W→W.heap.size=w.heap.size+1→wpList P ops Q rest (a.put o.dst (.pointer (some ⟨w.heap.size,0,none⟩))) W):wpList P ops Q (o::rest) a w:=by
 have hr:(Instr.alloc t true (.tuple #[])).run P w=.ok (.pointer (some ⟨w.heap.size,0,none⟩)) (w.alloc (.cells z t)):=by
  simp [Instr.alloc,hz,newVar,newRow,Value.cells,go_sem]
 refine wpList_plain hgd fun K hK=>?_
 unfold Oper.wp execOp;simp only [ho,Sem.run_bind,Sem.run_pure,hr,Result.andThen_ok];exact hK _ _ (h _ (Blk.made w t z) ((Touch.refl _ w).alloc _) (by simp))
theorem qr (hgd:o.guard=none) (t:TypeId) (x:Operand) (ho:o.op=.box t x) (z:Array Value) (hx:a.eval x=.agg z)
  (h:∀ W,Blk W w.heap.size t z→Touch (fun _=>False) w W→W.heap.size=w.heap.size+1→wpList P ops Q rest (a.put o.dst (.pointer (some ⟨w.heap.size,0,none⟩))) W):wpList P ops Q (o::rest) a w:=by
 have hr:(Instr.box t (.agg z)).run P w=.ok (.pointer (some ⟨w.heap.size,0,none⟩)) (w.alloc (.cells z t)):=by
  simp [Instr.box,newVar,newRow,Value.cells,go_sem]
 refine wpList_plain hgd fun K hK=>?_
 unfold Oper.wp execOp;simp only [ho,hx,Sem.run_bind,Sem.run_pure,hr,Result.andThen_ok];exact hK _ _ (h _ (Blk.made w t z) ((Touch.refl _ w).alloc _) (by simp))
theorem wpList_load_row (hgd:o.guard=none) (t:TypeId) (x:Operand) (ho:o.op=.load t x) (g:Nat) (hx:a.eval x=.pointer (some ⟨g,0,none⟩)) (ty:TypeId) (cs:Array Value) (hb:Blk w g ty cs)
  (n:Nat) (e:TypeId) (hu:P.underlying t=some (.array n e)) (hi:(P.info? t).map (·.size)=some cs.size)
  (h:wpList P ops Q rest (a.put o.dst (.agg cs)) w):wpList P ops Q (o::rest) a w:=by
 have hr:(Instr.loadAt t (.pointer (some ⟨g,0,none⟩))).run P w=.ok (.agg cs) w:=by
  simp only [Instr.loadAt,Instr.sureAddr,Sem.run_bind,Sem.run_pure,Result.andThen];exact run_loadVar_row w g ty t cs (0,0) _ hb hu rfl hi
 refine wpList_plain hgd fun K hK=>?_
 unfold Oper.wp execOp;simp only [ho,hx,Sem.run_bind,Sem.run_pure,hr,Result.andThen_ok];exact hK _ _ h
theorem wpList_store_row (hgd:o.guard=none) (t:TypeId) (x y:Operand) (ho:o.op=.store t x y) (hd:o.dst=none) (g:Nat) (hx:a.eval x=.pointer (some ⟨g,0,none⟩)) (cells:Array Value) (hy:a.eval y=.agg cells) (ty:TypeId) (old:Array Value) (hb:Blk w g ty old)
  (hi:(P.info? t).map (·.size)=some cells.size) (hsz:old.size=cells.size) (h1:cells.all (·.oneCell')=true)
  (h:∀ W,Blk W g ty cells→Touch (fun k=>k=g) w W→W.heap.size=w.heap.size→wpList P ops Q rest a W):wpList P ops Q (o::rest) a w:=by
 have hr:(Instr.storeAt t (.pointer (some ⟨g,0,none⟩)) (.agg cells)).run P w=.ok () (w.setRow g cells):=by
  simp only [Instr.storeAt,Instr.sureAddr,Sem.run_bind,Sem.run_pure,Result.andThen];exact run_storeVar_row w g ty t old cells hb hi hsz h1
 have h':=h _ (hb.setRow cells) ((Touch.refl _ w).setRow g cells (.inl rfl)) (by simp);refine wpList_plain hgd fun K hK=>?_
 unfold Oper.wp execOp;simp only [ho,hx,hy,Sem.run_bind,Sem.run_pure,hr,Result.andThen_ok];refine hK _ _ ?_;rw [hd];exact h'
theorem ji (hgd:o.guard=none) (t:TypeId) (x y:Operand) (ho:o.op=.index t x y) (cs:Array Value) (hx:a.eval x=.agg cs) (k:IntKind) (i:Nat) (hy:a.eval y=.int k i) (n:Nat) (e:TypeId) (hu:P.underlying t=some (.array n e)) (hin:i<n)
  (hag:∀ W,(isAgg e).run P W=.ok false W) (hsz:∀ W,(sizeOf e).run P W=.ok 1 W) (u:Value) (hu':cs[i]? = some u)
  (h:wpList P ops Q rest (a.put o.dst u) w):wpList P ops Q (o::rest) a w:=by
 have hr:(Instr.index t (.agg cs) (.int k i)).run P w=.ok u w:=by
  simp [Instr.index,run_underlying hu,asIntOf,hin,hsz,part,hag,hu',go_sem]
 refine wpList_plain hgd fun K hK=>?_
 unfold Oper.wp execOp;simp only [ho,hx,hy,Sem.run_bind,Sem.run_pure,hr,Result.andThen_ok];exact hK _ _ h
theorem km (hgd:o.guard=none) (t:TypeId) (parts:Array (Nat × Operand)) (ho:o.op=.build t parts) (hp:parts = #[]) (z:Value) (hz:∀ W,(Instr.build t #[]).run P W=.ok z W)
  (h:wpList P ops Q rest (a.put o.dst z) w):wpList P ops Q (o::rest) a w:=by
 subst hp;refine wpList_plain hgd fun K hK=>?_
 unfold Oper.wp execOp;simp [ho,hz,Result.andThen_ok];exact hK _ _ h
theorem zy (hgd:o.guard=none) (t:TypeId) (l c:Operand) (ho:o.op=.makeSlice t l c) (e:TypeId) (z:Value) (size bytes n:Nat) (hu:P.underlying t=some (.slice e))
  (hin:(P.info? e).map (fun i=>(i.zero,i.size,i.bytes))=some (some z,size,bytes)) (kl kc:IntKind) (L C:Int) (hl:a.eval l=.int kl L) (hc:a.eval c=.int kc C) (hL:L=n) (hC:C=n) (hb:bytes*n≤281474976710656) (h63:n≤9223372036854775807)
  (h:∀ W,Blk W w.heap.size e (va (n*size) (fun i=>z.cells[i%z.cells.size]!))→Touch (fun _=>False) w W→W.heap.size=w.heap.size+1→wpList P ops Q rest (a.put o.dst (.slice (some ⟨w.heap.size,0,none⟩) n n)) W):wpList P ops Q (o::rest) a w:=by
 subst hL hC;obtain ⟨i,hi,hz0,hz1,hz2⟩:=info_parts hin;have hr:=run_make (P:=P) w t e i z hu hi hz0 kl kc n n (by omega) (Int.le_refl _) (by rw [hz2];omega) (by omega);rw [Int.toNat_natCast,hz1,vF] at hr;refine wpList_plain hgd fun K hK=>?_
 unfold Oper.wp execOp;simp only [ho,hl,hc,Sem.run_bind,Sem.run_pure,hr,Result.andThen_ok];exact hK _ _ (h _ (Blk.made w e _) ((Touch.refl _ w).alloc _) (by simp))
end
theorem yX {fn:Func}{p:Tmp}{ty:TypeId}(h:fn.results = #[.cell p ty]) (tmps:Array Value) (P:Program) (w:World) (g:Nat) (hg:tmps.getD p undef=.pointer (some ⟨g,0,none⟩)) (t:TypeId) (cs:Array Value) (hb:Blk w g t cs)
  (n:Nat) (e:TypeId) (hu:P.underlying ty=some (.array n e)) (hi:(P.info? ty).map (·.size)=some cs.size) :
  (results fn tmps).run P w=.ok (.agg cs) w:=by
 have hg':tmps[p]?.getD undef=.pointer (some ⟨g,0,none⟩):=by rw [←hg,Array.getD_eq_getD_getElem?]
 simp [results,h,hg',asAddr,run_loadVar_row w g t ty cs (0,0) _ hb hu rfl hi]
theorem jb {fn:Func}{p q:Tmp}{ty:TypeId}(h:fn.results = #[.cell p ty,.tmp q]) (tmps:Array Value) (P:Program) (w:World) (g:Nat) (hg:tmps.getD p undef=.pointer (some ⟨g,0,none⟩)) (t:TypeId) (cs:Array Value) (hb:Blk w g t cs)
  (n:Nat) (e:TypeId) (hu:P.underlying ty=some (.array n e)) (hi:(P.info? ty).map (·.size)=some cs.size) (v:Value) (hv:tmps.getD q undef=v) :
  (results fn tmps).run P w=.ok (.tuple #[.agg cs,v]) w:=by
 have hg':tmps[p]?.getD undef=.pointer (some ⟨g,0,none⟩):=by rw [←hg,Array.getD_eq_getD_getElem?]
 have hv':tmps[q]?.getD undef=v:=by rw [←hv,Array.getD_eq_getD_getElem?]
 simp [results,h,hg',hv',asAddr,run_loadVar_row w g t ty cs (0,0) _ hb hu rfl hi]
def IS (w:World) (ao:Option Addr) (zs:List Int):Prop:=
 zs=[]∨∃ b off,ao=some ⟨b,off,none⟩∧∀ j,j<zs.length→w.cell? ⟨b,off+j,none⟩=some (.int .i64 (zs.getD j 0))
theorem IS.below {w w':World}{ao:Option Addr}{zs:List Int}(h:IS w ao zs) (hb:Below w.heap.size w w'):IS w' ao zs:=by
 rcases h with h | ⟨b,off,rfl,hc⟩
 ·exact .inl h
 ·exact .inr ⟨b,off,rfl,fun j hj=>by
   have:=hc j hj;exact (hb.cell (World.block_lt_of_cell? w _ this)).trans this⟩
theorem IS.drewN {w:World}{ao:Option Addr}{zs:List Int}(h:IS w ao zs) (n:Nat):IS (w.drewN n) ao zs:=h.below (below_drewN (Below.refl _ _) n)
theorem IS.touch {S:Nat→Prop}{w w':World}{ao:Option Addr}{zs:List Int}(h:IS w ao zs) (ht:Touch S w w') (hs:∀ b off,ao=some ⟨b,off,none⟩→zs≠[]→¬S b):IS w' ao zs:=by
 rcases h with h | ⟨b,off,rfl,hc⟩
 ·exact .inl h
 ·by_cases hx:zs=[]
  ·exact .inl hx
  ·refine .inr ⟨b,off,rfl,fun j hj=>?_⟩
   have h1:=hc j hj;rw [←h1];exact World.cell?_of_block (ht.block b (World.block_lt_of_cell? w _ h1) (hs b off rfl hx))
theorem IS.at {w:World}{ao:Option Addr}{zs:List Int}(h:IS w ao zs){k:Nat}(hk:k<zs.length):∃ b off,ao=some ⟨b,off,none⟩∧w.cell? ⟨b,off+k,none⟩=some (.int .i64 (zs.getD k 0)):=by
 rcases h with h | ⟨b,off,rfl,hc⟩
 ·rw [h] at hk;simp at hk
 ·exact ⟨b,off,rfl,hc k hk⟩
def nat (zs:List Int):List Nat:=zs.map Int.toNat
theorem xt (zs:List Int):(nat zs).length=zs.length:=by simp [nat]
structure Vd (zs:List Int):Prop where
 len:zs.length≤320
 all:∀ z∈zs,0≤z∧z≤15
theorem jD {zs:List Int}{k:Nat}(hk:k<zs.length):zs.getD k 0∈zs:=by
 rw [List.getD_eq_getElem?_getD,List.getElem?_eq_getElem hk];exact List.getElem_mem hk
theorem zex (zs:List Int) (k:Nat):ln (nat zs) k=(zs.getD k 0).toNat:=by
 unfold ln nat;rcases Nat.lt_or_ge k zs.length with h | h <;> simp [List.getD,h]
theorem Vd.ln {zs:List Int}(h:Vd zs){k:Nat}(hk:k<zs.length):zs.getD k 0=(YtacpfpghokcdlaaGreatDoor.ln (nat zs) k:Nat)∧YtacpfpghokcdlaaGreatDoor.ln (nat zs) k≤15:=by
 have:=h.all _ (jD hk);rw [zex];omega
end
section
open Go.Lib renaming hid → J
open Go.RowKit
theorem z61:∀ W,(zeroValue 195).run prog W=.ok (.agg (ia 16 fun _=>0)) W:=by
 intro W;rw [show ia 16 (fun _=>0)=Array.replicate 16 (.int .i64 0) from (ur 16 _).symm];kernel_rfl
theorem b61:∀ W,(Instr.build 195 #[]).run prog W=.ok (.agg (ia 16 fun _=>0)) W:=by
 intro W;rw [show ia 16 (fun _=>0)=Array.replicate 16 (.int .i64 0) from (ur 16 _).symm];kernel_rfl
theorem i61 {F:Nat→Value}:(prog.info? 195).map (·.size)=some (va 16 F).size:=by rw [qW];kernel_rfl
theorem a3:∀ W,(isAgg 3).run prog W=.ok false W:=fun _=>by kernel_rfl
theorem s3:∀ W,(sizeOf 3).run prog W=.ok 1 W:=fun _=>by kernel_rfl
structure Two (w:World) (p q:Nat) (B C:Array Value) (wr:World):Prop where
 b:Blk wr p 195 B
 c:Blk wr q 195 C
 below:Below w.heap.size w wr
 lo:w.heap.size≤p∧p<q
theorem Two.setC {w wr:World}{p q:Nat}{B C:Array Value}(h:Two w p q B C wr) (i:Nat) (u:Value):Two w p q B (C.setIfInBounds i u) (wr.setCell ⟨q,i,none⟩ u):=by
 have:=h.lo;exact ⟨h.b.other i u (by omega),h.c.setCell i u,h.below.setCell (by show w.heap.size≤q;omega) _,h.lo⟩
theorem Two.setB {w wr W:World}{p q:Nat}{B B' C:Array Value}(h:Two w p q B C wr) (hb:Blk W p 195 B') (ht:Touch (fun k=>k=p) wr W):Two w p q B' C W:=by
 have:=h.lo;exact ⟨hb,h.c.touch ht (by omega),h.below.trans (ht.below h.below.size fun k hk=>by omega),h.lo⟩
def JB (zs:List Int) (k n:Nat):Nat:=(nat (zs.take k)).count n
theorem ziB (zs:List Int) (k n:Nat):JB zs k n≤k:=by
 unfold JB;refine Nat.le_trans List.count_le_length ?_;rw [xt,List.length_take];omega
theorem zda {zs:List Int}{k x:Nat}(hk:k<zs.length) (hx:zs.getD k 0=(x:Int)) (i:Nat):JB zs (k+1) i=if i=x then JB zs k x+1 else JB zs k i:=by
 unfold JB;rw [List.take_succ_eq_append_getElem hk,show zs[k]=(x:Int) by rw [←hx];simp [List.getD,hk],nat,List.map_append,List.count_append];show (nat (zs.take k)).count i+[x].count i=_;by_cases h:i=x
 ·subst h;simp
 ·rw [if_neg h,List.count_singleton];simp [Ne.symm h]
theorem zfC {zs:List Int}(f:Nat→Nat) (hf:∀ i,f i=if i=0 then 0 else JB zs zs.length i) (i:Nat):f i=cn (nat zs) i:=by
 rw [hf];unfold JB cn;rw [List.take_length]
def zjy (w:World) (e:Ending) (w':World):Prop:=e=.returned (.tuple #[.agg (ia 16 fun _=>0),.bool false])∧Below w.heap.size w w'
def UX (zs:List Int) (w:World) (e:Ending) (w':World):Prop:=e=.returned (.tuple #[.agg (ia 16 (cn (nat zs))),.bool true])∧Below w.heap.size w w'
def zdx (zs:List Int) (w:World) (e:Ending) (w':World):Prop:=(Vd zs→UX zs w e w')∧(¬Vd zs→zjy w e w')
set_option maxHeartbeats 1600000 in
theorem zdg (ao:Option Addr) (c:Nat) (zs:List Int) (w:World) (h:IS w ao zs) (hl:zs.length≤320) :
  Calls prog 148 #[.slice ao zs.length c] w (zdx zs w):=by
 have HI:=J h;clear h;have hl':(zs.length:Int)≤320:=by omega
 go_enter func148,ntmps148;go_upto_region 2 with (refine zP rfl 195 rfl _ z61 ?_;intro W hb ht hs;have HS:=J hs;clear hs)
 rename_i W1 hb1 ht1 HS1 K1 hK1 K0 hK0;obtain ⟨p,hp⟩:=exq (w.heap.size);obtain ⟨q,hq⟩:=exq (W1.heap.size);have H3:Hid (Two w p q (ia 16 fun _=>0) (ia 16 fun _=>0) W):=by
  subst hp hq;have h1:=HS1.out;exact J ⟨hb1.touch ht (fun h=>h),hb,(ht1.trans ht).below (Nat.le_refl _) (fun _ h=>h.elim),by omega,by omega⟩
 rw [←hp,←hq];clear hp hq hb1 ht1 HS1 hb ht HS;go_wp2;go_loopw [13] (fun i wr=>∃ k:Nat,k≤zs.length∧i=.int .i64 k∧(∀ j,j<k→0≤zs.getD j 0∧zs.getD j 0≤15)∧Two w p q (ia 16 fun _=>0) (ia 16 (JB zs k)) wr) (fun i _=>zs.length-(intOf i).toNat)
 case atStart=>exact ⟨0,Nat.zero_le _,rfl,fun j hj=>absurd hj (Nat.not_lt_zero j),H3.out⟩
 case round=>
  obtain ⟨k,hk,rfl,hgood,hrel⟩:=hrel;have HR:=J hrel;have HG:=J hgood;clear hrel hgood H3;by_cases hlt:k<zs.length
  ·have hkk:(k:Int)<zs.length:=by omega
   obtain ⟨b,off,rfl,hcell⟩:=(HI.out.below HR.out.below).at hlt;obtain ⟨x,hx⟩:=exq (zs.getD k 0);have HX:=J hx;rw [←hx] at hcell;clear hx;by_cases hbad:x<0∨15<x
   ·have hb':decide (x<0)=false→decide (15<x)=true:=by
     intro h;simp at h ⊢;omega
    have hno:Hid (¬Vd zs):=J fun v=>by
     have:=v.all _ (jD hlt);rw [←HX.out] at this;omega
    rcases hbad with hbad | hbad
    ·go_wp2_with (first
      | (refine km rfl 195 _ rfl rfl _ b61 ?_)
      | (refine wpList_store_row rfl 195 (.tmp 2) (.tmp 23) rfl rfl p rfl _ rfl 195 _ HR.out.b i61 (by simp only [qW]) (jS 16 _) ?_;intro W4 hb4 ht4 hs4;have HB:=J (HR.out.setB hb4 ht4);clear hb4 ht4 hs4))
     exact bodyPost_ret (jb results148 _ _ _ p rfl 195 _ HB.out.b 16 3 underlying195 i61 _ rfl) rfl ⟨fun v=>absurd v hno.out,fun _=>⟨rfl,HB.out.below⟩⟩
    ·have hpos:0≤x:=by omega
     go_wp2_with (first
      | (refine km rfl 195 _ rfl rfl _ b61 ?_)
      | (refine wpList_store_row rfl 195 (.tmp 2) (.tmp 23) rfl rfl p rfl _ rfl 195 _ HR.out.b i61 (by simp only [qW]) (jS 16 _) ?_;intro W4 hb4 ht4 hs4;have HB:=J (HR.out.setB hb4 ht4);clear hb4 ht4 hs4))
     exact bodyPost_ret (jb results148 _ _ _ p rfl 195 _ HB.out.b 16 3 underlying195 i61 _ rfl) rfl ⟨fun v=>absurd v hno.out,fun _=>⟨rfl,HB.out.below⟩⟩
   ·obtain ⟨n,rfl⟩:∃ n:Nat,x=(n:Int):=⟨x.toNat,by omega⟩
    have hn:n≤15:=by omega
    have hn16:n<16:=by omega
    have hn0:((n:Int)<16):=by omega
    have h1:decide ((n:Int)<0)=false:=by simp
    have h2:decide (15<(n:Int))=false:=by simp;omega
    clear hbad;have hy:=ziB zs k n;have hc2:=(HR.out.c.cell n).trans (zw 16 _ n hn16);have hf2:=HR.out.c.free n;have HSt:=J fun i (_:i<16)=>zda hlt HX.out.symm i
    obtain ⟨y,hyy⟩:=exq (JB zs k n);rw [←hyy] at hy hc2;have HY:=J hyy;clear hyy;go_wp2;go_roundw;case rel=>
     refine ⟨k+1,by omega,by go_num,fun j hj=>?_,?_⟩
     ·by_cases e:j=k
      ·subst e;rw [←HX.out];omega
      ·exact HG.out j (by omega)
     ·have:=HR.out.setC n (.int .i64 ((y+1:Nat):Int))
      rw [jW 16 _ (JB zs (k+1)) n (y+1) (by rw [HY.out];exact HSt.out)] at this;simpa using this
    case measure=>simp [intOf];omega
  ·have hk':k=zs.length:=by omega
   subst hk';have hf0:=HR.out.c.free 0;have hc0:=(HR.out.c.cell 0).trans (zw 16 _ 0 (by omega));have HV:Hid (Vd zs):=J ⟨hl,fun z hz=>by
    obtain ⟨j,hj,rfl⟩:=List.getElem_of_mem hz;have:=HG.out j hj;simpa [List.getD,hj] using this⟩
   have H4:Hid (Two w p q (ia 16 fun _=>0) (ia 16 (cn (nat zs))) (wr.setCell ⟨q,0,none⟩ (.int .i64 0))):=by
    have:=HR.out.setC 0 (.int .i64 ((0:Nat):Int));rw [jW 16 _ (cn (nat zs)) 0 0 (fun i _=>by rw [←zfC (zs:=zs) _ (fun _=>rfl)])] at this
    exact J this
   go_wp2_with (first
    | (refine wpList_load_row rfl 195 (.tmp 4) rfl q rfl 195 _ H4.out.c 16 3 underlying195 i61 ?_)
    | (refine wpList_store_row rfl 195 (.tmp 2) (.tmp 31) rfl rfl p rfl _ rfl 195 _ H4.out.b i61 (by simp only [qW]) (jS 16 _) ?_;intro W4 hb4 ht4 hs4;have HB:=J (H4.out.setB hb4 ht4);clear hb4 ht4 hs4))
   exact bodyPost_ret (jb results148 _ _ _ p rfl 195 _ HB.out.b 16 3 underlying195 i61 _ rfl) rfl ⟨fun _=>⟨rfl,HB.out.below⟩,fun v=>absurd HV.out v⟩
theorem Qb (ao:Option Addr) (c:Nat) (zs:List Int) (w:World) (h:IS w ao zs) (hv:Vd zs) :
  Calls prog 148 #[.slice ao zs.length c] w (UX zs w):=
 (zdg ao c zs w h hv.len).mono fun _ _ k=>k.1 hv
end
end Go.Proofs.YtacpfpghokcdlaaGreatDoor
