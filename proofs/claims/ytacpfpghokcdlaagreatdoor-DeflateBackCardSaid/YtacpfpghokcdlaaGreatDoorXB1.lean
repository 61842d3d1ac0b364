/- Part 1. -/
import Derived.BigQuiet
import Derived.BigRegion
import Derived.Deep.AppendLies
import Derived.Deep.QuietTactic
import Derived.Deep.RegionHeld3
import Derived.Deep.RegionLawGrows
import Derived.Laws.AppendOwnNone
import Derived.Laws.BitsAllLaws
import Derived.Lib.Hide
import Derived.OpenShut
import Derived.Test.YtacpfpghokcdlaaGreatDoorRows
import Derived.WalkKit
import Derived.WalkLawsBesides
import Derived.WalkSpells
open Go.Proofs.Tryz
namespace Go.Proofs.YtacpfpghokcdlaaGreatDoor
set_option maxRecDepth 100000
theorem exq.{u} {α : Sort u} (a : α) : ∃ x, x = a := ⟨a, rfl⟩
def num:List Nat→Nat
 | []=>0
 | b::r=>b+256*num r
def Bs (l:List Nat):Prop:=∀ x∈l,x<256
theorem Bs.nil:Bs []:=fun x h=>by cases h
theorem Bs.app {a b:List Nat}(ha:Bs a) (hb:Bs b):Bs (a++b):=fun x h=>by
 rcases List.mem_append.1 h with h | h
 ·exact ha x h
 ·exact hb x h
theorem Bs.one {x:Nat}(h:x<256):Bs [x]:=fun y hy=>by
 rcases List.mem_singleton.1 hy with rfl;exact h
theorem Bs.take {a:List Nat}(ha:Bs a) (k:Nat):Bs (a.take k):=fun x h=>ha x (List.mem_of_mem_take h)
theorem Bs.drop {a:List Nat}(ha:Bs a) (k:Nat):Bs (a.drop k):=fun x h=>ha x (List.mem_of_mem_drop h)
theorem Bs.set {a:List Nat}(ha:Bs a) (k:Nat){x:Nat}(hx:x<256):Bs (a.set k x):=fun y h=>by
 rcases List.mem_or_eq_of_mem_set h with h | rfl
 ·exact ha y h
 ·exact hx
theorem Bs.at {a:List Nat}(ha:Bs a) (k:Nat):a.getD k 0<256:=by
 rw [List.getD_eq_getElem?_getD];cases h:a[k]? with
 | none=>simp
 | some x=>simpa using ha x (List.mem_of_getElem? h)
theorem yY (a b:List Nat):num (a++b)=num a+256^a.length*num b:=by
 induction a with
 | nil=>simp [num]
 | cons x r ih=>
  simp only [List.cons_append,num,ih,List.length_cons,Nat.pow_succ,Nat.mul_add];rw [show 256^r.length*256*num b=256*(256^r.length*num b) from by rw [Nat.mul_comm (256^r.length) 256,Nat.mul_assoc]];omega
theorem Xm (x:Nat):num [x]=x:=by simp [num]
theorem uD {a:List Nat}(ha:Bs a):num a<256^a.length:=by
 induction a with
 | nil=>simp [num]
 | cons x r ih=>
  have h1:=ha x (by simp);have h2:=ih fun y hy=>ha y (by simp [hy])
  simp only [num,List.length_cons,Nat.pow_succ];omega
theorem zah {a:List Nat}(ha:Bs a) (k:Nat):num (a.drop k)=num a/256^k:=by
 induction k generalizing a with
 | zero=>simp
 | succ k ih=>
  cases a with
  | nil=>simp [num]
  | cons x r=>
   have h1:=ha x (by simp);have h2:Bs r:=fun y hy=>ha y (by simp [hy])
   rw [List.drop_succ_cons,ih h2,num,Nat.pow_succ,Nat.mul_comm (256^k) 256,←Nat.div_div_eq_div_mul];congr 1
   omega
theorem XE {a:List Nat}(ha:Bs a) (k:Nat):num (a.take k)=num a%256^k:=by
 induction k generalizing a with
 | zero=>simp [num,Nat.mod_one]
 | succ k ih=>
  cases a with
  | nil=>simp [num]
  | cons x r=>
   have h1:=ha x (by simp);have h2:Bs r:=fun y hy=>ha y (by simp [hy])
   rw [List.take_succ_cons,num,ih h2,num,Nat.pow_succ,Nat.mul_comm (256^k) 256,Nat.mod_mul];have e1:(x+256*num r)%256=x:=by omega
   have e2:(x+256*num r)/256=num r:=by omega
   rw [e1,e2]
theorem jr {a:List Nat}(ha:Bs a) (k:Nat):a.getD k 0=num a/256^k%256:=by
 rw [←zah ha];have h:=XE (ha.drop k) 1;rw [Nat.pow_one] at h;rw [←h];cases hd:a.drop k with
 | nil=>
  have:a.length≤k:=by simpa using hd
  simp [num,List.getD,List.getElem?_eq_none this]
 | cons x r=>
  have:a[k]? = some x:=by
   have:=congrArg (·[0]?) hd;simpa using this
  simp [num,List.getD,this]
theorem zij {a b:List Nat}(ha:Bs a) (hb:Bs b) (hl:a.length=b.length) (h:num a=num b):a=b:=by
 apply List.ext_getElem hl;intro i h1 h2;have e1:=jr ha i;have e2:=jr hb i;rw [h,←e2] at e1;simpa [List.getD,h1,h2] using e1
theorem xr (k:Nat):256^k=2^(8*k):=by rw [show (256:Nat)=2^8 from rfl,←Nat.pow_mul]
theorem zim {a:List Nat}{k:Nat}(hk:k<a.length) (x:Nat):num (a.set k x)+256^k*a.getD k 0=num a+256^k*x:=by
 induction a generalizing k with
 | nil=>simp at hk
 | cons y r ih=>
  cases k with
  | zero=>simp [num];omega
  | succ k=>
   have h:=ih (k:=k) (by simpa using hk);simp only [List.set_cons_succ,num,List.getD_cons_succ,Nat.pow_succ];rw [Nat.mul_comm (256^k) 256,Nat.mul_assoc,Nat.mul_assoc];omega
theorem zhW (X s n:Nat) (h:s+n≤40):X%2^40/2^s%2^n=X/2^s%2^n:=by
 apply Nat.eq_of_testBit_eq;intro i;simp only [Nat.testBit_mod_two_pow,Nat.testBit_div_two_pow];by_cases hi:i<n
 ·have:i+s<40:=by omega
  simp [hi,this]
 ·simp [hi]
theorem US {a:List Nat}(ha:Bs a) (at_ n:Nat) (hn:n≤32) :
  num ((a.drop (at_/8)).take 5)/2^(at_%8)%2^n=num a/2^at_%2^n:=by
 rw [XE (ha.drop _),zah ha,xr,xr,show 8*5=40 from rfl,zhW _ _ _ (by omega),Nat.div_div_eq_div_mul,←Nat.pow_add,show 8*(at_/8)+at_%8=at_ from by omega]
theorem zfk (i x y:Nat) (hx:x<2^i):x ||| (y*2^i)=x+y*2^i:=by
 rw [Nat.or_comm,Nat.add_comm];exact nat_join i _ _ (Nat.mul_mod_left _ _) hx
theorem zf9 (x d:Nat):x%2^(d+8)=x%2^d+2^d*(x/2^d%256):=by
 rw [Nat.pow_add,Nat.mod_mul]
theorem zem {bs:List Nat}{N n x d:Nat}(hl:8*bs.length=n+d) (hN:num bs=N+x%2^d*2^n) :
  num (bs++[x/2^d%256])=N+x%2^(d+8)*2^n:=by
 rw [yY,Xm,hN,xr,hl,zf9,Nat.add_mul,Nat.pow_add];rw [Nat.add_assoc];congr 2
 rw [Nat.mul_comm (2^n) (2^d),Nat.mul_assoc,Nat.mul_comm (2^n),←Nat.mul_assoc]
theorem zdL {bs:List Nat}{N n x f:Nat}(hb:Bs bs) (hl:8*bs.length=n+f) (hf:0<f) (hf8:f<8) (hN:num bs=N) (hlt:N<2^n) :
  bs.getD (bs.length-1) 0 ||| (x*2^(8-f)%256)<256∧
  num (bs.set (bs.length-1) (bs.getD (bs.length-1) 0 ||| (x*2^(8-f)%256)))=N+x%2^f*2^n:=by
 have hpos:0<bs.length:=by omega
 have hn:n=8*(bs.length-1)+(8-f):=by omega
 have h256:(256:Nat)=2^(8-f)*2^f:=by rw [←Nat.pow_add,show 8-f+f=8 from by omega]
 have hshift:x*2^(8-f)%256=(x%2^f)*2^(8-f):=by
  rw [h256,Nat.mul_comm x,Nat.mul_mod_mul_left,Nat.mul_comm]
 have hlast:bs.getD (bs.length-1) 0<2^(8-f):=by
  rw [jr hb,hN,xr];refine Nat.lt_of_le_of_lt (Nat.mod_le _ _) ?_;rw [Nat.div_lt_iff_lt_mul (Nat.two_pow_pos _),←Nat.pow_add,Nat.add_comm,←hn];exact hlt
 rw [hshift,zfk _ _ _ hlast];have hx:x%2^f<2^f:=Nat.mod_lt _ (Nat.two_pow_pos _);constructor
 ·rw [h256]
  have:(x%2^f+1)*2^(8-f)≤2^f*2^(8-f):=Nat.mul_le_mul_right _ hx;rw [Nat.add_mul] at this;rw [Nat.mul_comm (2^(8-f))];omega
 ·have h:=zim (a:=bs) (k:=bs.length-1) (by omega) (bs.getD (bs.length-1) 0+x%2^f*2^(8-f))
  rw [hN,Nat.mul_add] at h;have e:x%2^f*2^n=256^(bs.length-1)*(x%2^f*2^(8-f)):=by
   rw [xr];conv=>lhs;rw [hn,Nat.pow_add]
   rw [←Nat.mul_assoc,←Nat.mul_assoc,Nat.mul_comm (x%2^f)]
  rw [e];omega
theorem zkJ {N n x k:Nat}(hN:N<2^n) (hx:x<2^k):N+x*2^n<2^(n+k):=by
 have:(x+1)*2^n≤2^k*2^n:=Nat.mul_le_mul_right _ hx;rw [Nat.add_mul] at this;rw [Nat.pow_add,Nat.mul_comm (2^n)];omega
section
open Go.Lib renaming hid → J
open Go.RowKit
theorem yQ (n:Int) (w:World) (h0:0≤n) (h1:n≤100000000000) :
  Calls prog 136 #[.int .i64 n] w fun e w'=>e=.returned (.int .i64 ((n+7)/8))∧w=w':=by
 go_enter func136,ntmps136;go_wp2;go_ret;exact ⟨rfl,rfl⟩
theorem qq (n:Int) (w:World) (h0:0≤n) (h1:n≤32) :
  Calls prog 105 #[.int .i64 n] w fun e w'=>e=.returned (.bool true)∧w=w':=by
 go_enter func105,ntmps105;go_wp2;go_ret;exact ⟨by simp,rfl⟩
theorem zaz (n:Int) (w:World) (h0:n<0∨32<n) :
  Calls prog 105 #[.int .i64 n] w fun e w'=>e=.returned (.bool false)∧w=w':=by
 rcases h0 with h0 | h0
 ·go_enter func105,ntmps105
  go_wp2;go_ret;exact ⟨rfl,rfl⟩
 ·have:0≤n:=by omega
  have:decide (n≤32)=false:=by simp;omega
  go_enter func105,ntmps105;go_wp2;go_ret;exact ⟨by simp,rfl⟩
theorem zgv (v n:Nat) (hn:n≤32) (hv:v<18446744073709551616) :
  bits BinOp.and IntKind.u64 (v:Int) (IntKind.u64.wrap (IntKind.u64.wrap (2^n)-1))=((v%2^n:Nat):Int):=by
 have hp:2^n≤2^32:=Nat.pow_le_pow_right (by omega) hn;have hq:0<2^n:=Nat.two_pow_pos n;have e1:IntKind.u64.wrap ((2:Int)^n)=((2^n:Nat):Int):=by
  rw [IntKind.wrap_u64,show (2:Int)^n=((2^n:Nat):Int) from by simp];omega
 have e2:IntKind.u64.wrap (((2^n:Nat):Int)-1)=((2^n-1:Nat):Int):=by
  rw [IntKind.wrap_u64];omega
 rw [e1,e2,u64_and_nat _ _ hv (by omega),Nat.and_two_pow_sub_one_eq_mod]
theorem qy {k:IntKind}{a b:Int}(h:a=b):Ending.returned (.int k a)=.returned (.int k b):=by rw [h]
theorem zaS (v n:Nat) (w:World) (hn:n≤32) (hv:v<18446744073709551616) :
  Calls prog 106 #[.int .u64 v,.int .i64 n] w fun e w'=>e=.returned (.int .u64 ((v%2^n:Nat):Int))∧w=w':=by
 have H:=J (zgv v n hn hv);clear hv;go_enter func106,ntmps106;go_wp2;go_ret;exact ⟨qy H.out,rfl⟩
theorem zX {w:World}{p:Nat}{a b:Value}{t:TypeId}(h:w.heap[p]? = some (.cells #[a,b] t (0,0))) :
  w.cell? ⟨p,0,none⟩=some a∧w.cell? ⟨p,1,none⟩=some b∧w.frozen? ⟨p,0,none⟩=false∧w.frozen? ⟨p,1,none⟩=false:=by
 simp [World.cell?,World.frozen?,h]
theorem zjg (p:Nat) (n:Int) (w:World) (h1:w.cell? ⟨p,1,none⟩=some (.int .i64 n)) :
  Calls prog 23 #[.pointer (some ⟨p,0,none⟩)] w fun e w'=>e=.returned (.int .i64 n)∧w=w':=by
 go_enter func23,ntmps23;go_wp2;go_ret;exact ⟨rfl,rfl⟩
theorem kJ (p:Nat) (n:Int) (ao:Option Addr) (len cap:Nat) (w:World) (hl:len≤1000000000) (hn:0≤n) (hn2:n≤8000000000)
  (h0:w.cell? ⟨p,0,none⟩=some (.slice ao len cap))
  (
  h1:w.cell? ⟨p,1,none⟩=some (.int .i64 n)) :
  Calls prog 135 #[.pointer (some ⟨p,0,none⟩)] w fun e w'=>e=.returned (.int .i64 (8*len-n))∧∃ nq,w'=w.drewN nq:=by
 go_enter func135,ntmps135;go_wp2;go_quiet (fail)
 go_wp2;go_ret;exact ⟨qy (by omega),_,rfl⟩
set_option maxHeartbeats 400000 in
theorem skip_yes (p:Nat) (n at_:Int) (ao:Option Addr) (len cap:Nat) (w:World) (hl:len≤1000000000) (ha:0≤at_) (hn:0≤n) (hn2:n≤8*len-at_)
  (
  h0:w.cell? ⟨p,0,none⟩=some (.slice ao len cap)) (h1:w.cell? ⟨p,1,none⟩=some (.int .i64 at_)) (f1:w.frozen? ⟨p,1,none⟩=false) :
  Calls prog 94 #[.pointer (some ⟨p,0,none⟩),.int .i64 n] w fun e w'=>e=.returned (.bool true)∧∃ nq,w'=(w.drewN nq).setCell ⟨p,1,none⟩ (.int .i64 (at_+n)):=by
 go_enter func94,ntmps94;go_wp2_with (go_at_call 135;refine (kJ p at_ ao len cap _ hl ha (by omega) h0 h1).mono ?_;rintro e w' ⟨rfl,nq,rfl⟩);go_ret;exact ⟨rfl,_,rfl⟩
theorem skip_no (p:Nat) (n at_:Int) (ao:Option Addr) (len cap:Nat) (w:World) (hl:len≤1000000000) (ha:0≤at_) (ha2:at_≤8*len) (hn:n<0∨8*len-at_<n)
  (
  h0:w.cell? ⟨p,0,none⟩=some (.slice ao len cap)) (h1:w.cell? ⟨p,1,none⟩=some (.int .i64 at_)) :
  Calls prog 94 #[.pointer (some ⟨p,0,none⟩),.int .i64 n] w fun e w'=>e=.returned (.bool false)∧∃ nq,w'=w.drewN nq:=by
 rcases hn with hn | hn
 ·go_enter func94,ntmps94
  go_wp2;go_ret;exact ⟨rfl,0,rfl⟩
 ·have hn0:0≤n:=by omega
  go_enter func94,ntmps94;go_wp2_with (go_at_call 135;refine (kJ p at_ ao len cap _ hl ha (by omega) h0 h1).mono ?_;rintro e w' ⟨rfl,nq,rfl⟩);go_ret;exact ⟨rfl,_,rfl⟩
theorem zhR (p:Nat) (n:Int) (w:World) (hn:n<0∨32<n) :
  Calls prog 93 #[.pointer (some ⟨p,0,none⟩),.int .i64 n] w fun e w'=>e=.returned (.int .u32 0)∧w=w':=by
 go_enter func93,ntmps93;go_wp2_with (go_at_call 105;refine (zaz n _ hn).mono ?_;rintro e w' ⟨rfl,rfl⟩);go_ret;exact ⟨rfl,rfl⟩
def byt (bs:List Nat) (j:Nat):Nat:=bs.getD j 0
def pv (bs:List Nat) (f k:Nat):Nat:=num ((bs.drop f).take k)
theorem zb9 {bs:List Nat}(hb:Bs bs) (f k:Nat) (hk:k≤5):pv bs f k<1099511627776:=by
 have h:=uD ((hb.drop f).take k);have h2:256^((bs.drop f).take k).length≤256^5:=Nat.pow_le_pow_right (by omega) (by rw [List.length_take];omega);have:(256:Nat)^5=1099511627776:=rfl;unfold pv;omega
theorem zcu {bs:List Nat}(hb:Bs bs) (f k:Nat) (hk:k<5) (hl:f+k<bs.length) :
  bits BinOp.or IntKind.u64 (pv bs f k:Int) (IntKind.u64.wrap (IntKind.u64.wrap (byt bs (f+k):Int)*2^(8*k)))=((pv bs f (k+1):Nat):Int):=by
 have hx:=hb.at (f+k);unfold byt;have e1:pv bs f (k+1)=pv bs f k+bs.getD (f+k) 0*2^(8*k):=by
  unfold pv;have hlk:k<(bs.drop f).length:=by rw [List.length_drop];omega
  rw [List.take_succ_eq_append_getElem hlk,yY,Xm,List.length_take,Nat.min_eq_left (by omega),xr,Nat.mul_comm];congr 2
  simp [List.getD,hl]
 have h1:=zb9 hb f (k+1) (by omega);have h2:pv bs f k<2^(8*k):=by
  have h:=uD ((hb.drop f).take k);rw [xr,List.length_take,Nat.min_eq_left (by rw [List.length_drop];omega)] at h;exact h
 generalize bs.getD (f+k) 0=x at *;have e0:IntKind.u64.wrap (x:Int)=(x:Int):=by rw [IntKind.wrap_u64];omega
 rw [e0];have e2:IntKind.u64.wrap ((x:Int)*2^(8*k))=((x*2^(8*k):Nat):Int):=by
  rw [IntKind.wrap_u64];rw [show (x:Int)*2^(8*k)=((x*2^(8*k):Nat):Int) from by simp];omega
 rw [e2,u64_or_nat _ _ (by omega) (by omega),zfk _ _ _ h2,e1]
theorem U3 {bs:List Nat}{len:Nat}(hb:Bs bs) (hl:bs.length=len) (at_ n:Nat) (h:len-at_/8≤5) (hn:n≤32) :
  pv bs (at_/8) (len-at_/8)/2^(at_%8)%2^n=num bs/2^at_%2^n:=by
 rw [←US hb at_ n hn];unfold pv;rw [List.take_of_length_le (by rw [List.length_drop];omega),List.take_of_length_le (by rw [List.length_drop];omega)]
theorem xV (v:Int) (V n:Nat) (w:World) (hv:v=(V:Int)) (hn:n≤32) (hV:V<18446744073709551616) :
  Calls prog 106 #[.int .u64 v,.int .i64 n] w fun e w'=>e=.returned (.int .u64 ((V%2^n:Nat):Int))∧w=w':=by
 rw [hv];exact zaS V n w hn hV
theorem vM (V n:Nat) (hn:n≤32):IntKind.u32.wrap ((V%2^n:Nat):Int)=((V%2^n:Nat):Int):=by
 have hp:2^n≤2^32:=Nat.pow_le_pow_right (by omega) hn;have hq:=Nat.mod_lt V (Nat.two_pow_pos n);rw [IntKind.wrap_u32'];omega
set_option maxHeartbeats 800000 in
theorem zfm (p g at_ n:Nat) (len cap:Nat) (bs:List Nat) (w:World) (hl:len≤1000000000) (hlc:len≤cap) (hbl:bs.length=len) (hb:Bs bs) (ha:at_≤8*len) (hn:n≤32)
  (h0:w.cell? ⟨p,0,none⟩=some (.slice (some ⟨g,0,none⟩) len cap)) (h1:w.cell? ⟨p,1,none⟩=some (.int .i64 at_))
  (
  hc:∀ j,j<len→w.cell? ⟨g,j,none⟩=some (.int .u8 (byt bs j:Int))) :
  Calls prog 93 #[.pointer (some ⟨p,0,none⟩),.int .i64 n] w fun e w'=>e=.returned (.int .u32 ((num bs/2^at_%2^n:Nat):Int))∧w=w':=by
 have hfl:at_/8≤len:=by omega
 have HB:=J hb;have HBL:=J hbl;have HC:=J hc;clear hc hbl hb;by_cases hcase:at_/8+5≤len
 ·have hcc:¬cap=at_/8:=by omega
  go_enter func93,ntmps93;go_wp2_with (go_at_call 105;refine (qq n _ (by omega) (by omega)).mono ?_;rintro e w' ⟨rfl,rfl⟩);go_loop [7,8,9,34] (fun v _ _ i=>∃ k:Nat,k≤5∧i=.int .i64 k∧v=.int .u64 (pv bs (at_/8) k:Nat)) (fun _ _ _ i=>5-(intOf i).toNat)
  case atStart=>exact ⟨0,Nat.zero_le _,rfl,by simp [pv,num]⟩
  case round=>
   obtain ⟨k,hk,rfl,rfl⟩:=hrel;have hpl:=zb9 HB.out (at_/8) k (by omega);have hpd:pv bs (at_/8) k/2^(at_%8)≤pv bs (at_/8) k:=Nat.div_le_self _ _;by_cases hlt:k<5
   ·have hcell:=HC.out (at_/8+k) (by omega)
    have hkk:(k:Int)≤5:=by omega
    go_wp2;go_round
    case rel=>
     refine ⟨k+1,by omega,by go_num,?_⟩;have hs:=zcu HB.out (at_/8) k (by omega) (by have:=HBL.out;omega);rw [←hs]
    case measure=>simp [intOf];omega
   ·have HL:=J (show pv bs (at_/8) k/2^(at_%8)%2^n=num bs/2^at_%2^n from by rw [show k=5 from by omega];exact US HB.out at_ n hn)
    have hpu:pv bs (at_/8) k/2^(at_%8)<18446744073709551616:=by omega
    have HPU:=J hpu;clear hpu;go_wp2_with (go_at_call 106;refine (xV _ (pv bs (at_/8) k/2^(at_%8)) n _ (by simp) hn HPU.out).mono ?_;rintro e w' ⟨rfl,rfl⟩);go_ret;refine ⟨qy ?_,rfl⟩;rw [←HL.out];exact vM _ _ hn
 ·by_cases hcc:cap=at_/8
  ·go_enter func93,ntmps93
   go_wp2_with (go_at_call 105;refine (qq n _ (by omega) (by omega)).mono ?_;rintro e w' ⟨rfl,rfl⟩);go_loop [7,8,9,34] (fun v _ _ i=>∃ k:Nat,k≤(len-at_/8)∧i=.int .i64 k∧v=.int .u64 (pv bs (at_/8) k:Nat)) (fun _ _ _ i=>(len-at_/8)-(intOf i).toNat)
   case atStart=>exact ⟨0,Nat.zero_le _,rfl,by simp [pv,num]⟩
   case round=>
    obtain ⟨k,hk,rfl,rfl⟩:=hrel;have hpl:=zb9 HB.out (at_/8) k (by omega);have hpd:pv bs (at_/8) k/2^(at_%8)≤pv bs (at_/8) k:=Nat.div_le_self _ _;by_cases hlt:k<(len-at_/8)
    ·exact absurd hlt (by omega)
    ·have HL:=J (show pv bs (at_/8) k/2^(at_%8)%2^n=num bs/2^at_%2^n from by rw [show k=len-at_/8 from by omega];exact U3 HB.out HBL.out at_ n (by omega) hn)
     have hpu:pv bs (at_/8) k/2^(at_%8)<18446744073709551616:=by omega
     have HPU:=J hpu;clear hpu;go_wp2_with (go_at_call 106;refine (xV _ (pv bs (at_/8) k/2^(at_%8)) n _ (by simp) hn HPU.out).mono ?_;rintro e w' ⟨rfl,rfl⟩);go_ret;refine ⟨qy ?_,rfl⟩;rw [←HL.out];exact vM _ _ hn
  ·go_enter func93,ntmps93
   go_wp2_with (go_at_call 105;refine (qq n _ (by omega) (by omega)).mono ?_;rintro e w' ⟨rfl,rfl⟩);go_loop [7,8,9,34] (fun v _ _ i=>∃ k:Nat,k≤(len-at_/8)∧i=.int .i64 k∧v=.int .u64 (pv bs (at_/8) k:Nat)) (fun _ _ _ i=>(len-at_/8)-(intOf i).toNat)
   case atStart=>exact ⟨0,Nat.zero_le _,rfl,by simp [pv,num]⟩
   case round=>
    obtain ⟨k,hk,rfl,rfl⟩:=hrel;have hpl:=zb9 HB.out (at_/8) k (by omega);have hpd:pv bs (at_/8) k/2^(at_%8)≤pv bs (at_/8) k:=Nat.div_le_self _ _;by_cases hlt:k<(len-at_/8)
    ·have hcell:=HC.out (at_/8+k) (by omega)
     have hkk:(k:Int)≤5:=by omega
     go_wp2;go_round
     case rel=>
      refine ⟨k+1,by omega,by go_num,?_⟩;have hs:=zcu HB.out (at_/8) k (by omega) (by have:=HBL.out;omega);rw [←hs]
     case measure=>simp [intOf];omega
    ·have HL:=J (show pv bs (at_/8) k/2^(at_%8)%2^n=num bs/2^at_%2^n from by rw [show k=len-at_/8 from by omega];exact U3 HB.out HBL.out at_ n (by omega) hn)
     have hpu:pv bs (at_/8) k/2^(at_%8)<18446744073709551616:=by omega
     have HPU:=J hpu;clear hpu;go_wp2_with (go_at_call 106;refine (xV _ (pv bs (at_/8) k/2^(at_%8)) n _ (by simp) hn HPU.out).mono ?_;rintro e w' ⟨rfl,rfl⟩);go_ret;refine ⟨qy ?_,rfl⟩;rw [←HL.out];exact vM _ _ hn
structure Touch (S:Nat→Prop) (w w':World):Prop where
 os:w'.os=w.os
 tape:w'.tape=w.tape
 output:w'.output=w.output
 size:w.heap.size≤w'.heap.size
 block:∀ k,k<w.heap.size→¬S k→w'.heap[k]? = w.heap[k]?
theorem Touch.refl (S:Nat→Prop) (w:World):Touch S w w:=⟨rfl,rfl,rfl,Nat.le_refl _,fun _ _ _=>rfl⟩
theorem Touch.trans {S:Nat→Prop}{a b c:World}(h:Touch S a b) (k:Touch S b c):Touch S a c:=
 ⟨k.os.trans h.os,k.tape.trans h.tape,k.output.trans h.output,Nat.le_trans h.size k.size,fun i hi hs=>(k.block i (Nat.lt_of_lt_of_le hi h.size) hs).trans (h.block i hi hs)⟩
theorem Touch.trans' {S T:Nat→Prop}{a b c:World}(h:Touch S a b) (k:Touch T b c) (hT:∀ i,T i→i<a.heap.size→S i):Touch S a c:=
 ⟨k.os.trans h.os,k.tape.trans h.tape,k.output.trans h.output,Nat.le_trans h.size k.size,fun i hi hs=>(k.block i (Nat.lt_of_lt_of_le hi h.size) (fun ht=>hs (hT i ht hi))).trans (h.block i hi hs)⟩
theorem Touch.mono {S T:Nat→Prop}{a b:World}(h:Touch S a b) (hT:∀ i,S i→T i):Touch T a b:=
 ⟨h.os,h.tape,h.output,h.size,fun i hi hs=>h.block i hi fun s=>hs (hT i s)⟩
theorem Touch.drewN {S:Nat→Prop}{a w:World}(h:Touch S a w) (n:Nat):Touch S a (w.drewN n):=⟨h.os,h.tape,h.output,h.size,h.block⟩
theorem Touch.drew {S:Nat→Prop}{a w:World}(h:Touch S a w):Touch S a w.drew:=⟨h.os,h.tape,h.output,h.size,h.block⟩
theorem Touch.alloc {S:Nat→Prop}{a w:World}(h:Touch S a w) (o:Obj):Touch S a (w.alloc o):=
 h.trans ⟨rfl,rfl,rfl,by simp,fun k hk _=>Below.heap_alloc _ _ _ hk⟩
theorem Touch.setCell {S:Nat→Prop}{a w:World}(h:Touch S a w) (p:Addr) (u:Value) (hp:S p.block∨a.heap.size≤p.block):Touch S a (w.setCell p u):=
 ⟨h.os,h.tape,h.output,Nat.le_trans h.size (by simp [World.setCell]),fun k hk hs=>(Below.heap_setCell _ _ _ _ (fun e=>by subst e;rcases hp with hp | hp;exact hs hp;omega)).trans (h.block k hk hs)⟩
theorem Touch.grown {S:Nat→Prop}{a w w':World}{row:Option Nat}(h:Touch S a w) (hg:w.grownBy w' row) (hr:∀ k,row=some k→S k∨a.heap.size≤k):Touch S a w':=
 ⟨hg.os.trans h.os,hg.tape.trans h.tape,hg.output.trans h.output,Nat.le_trans h.size hg.size,fun k hk hs=>
  (hg.block k (Nat.lt_of_lt_of_le hk h.size) (fun e=>by rcases hr k e.symm with hp | hp;exact hs hp;omega)).trans (h.block k hk hs)⟩
theorem Touch.below {S:Nat→Prop}{a b:World}{B:Nat}(h:Touch S a b) (hB:B≤a.heap.size) (hS:∀ k,S k→B≤k):Below B a b:=
 ⟨h.os,h.tape,h.output,h.size,fun k hk=>h.block k (by omega) fun s=>by have:=hS k s;omega⟩
structure Ob (w:World) (base t p:Nat) (g:Option Nat) (bs:List Nat) (n:Nat):Prop where
 blk:∃ sv,w.heap[p]? = some (.cells #[sv,.int .i64 n] t (0,0))∧sv.ownBlock=g∧w.ownsRow base 5 1 sv bs.length (bs.map fun x:Nat=>Value.int .u8 (x:Int))
 hp:base≤p
 hb:Bs bs
 ht:t≠5
def xG (p:Nat) (g:Option Nat) (k:Nat):Prop:=k=p∨g=some k
theorem zd {S:Nat→Prop}{w w':World}{base:Nat}{e:TypeId}{size:Nat}{v:Value}{n:Nat}{xs:List Value}(h:w.ownsRow base e size v n xs) (ht:Touch S w w') (hs:∀ k,v.ownBlock=some k→¬S k):w'.ownsRow base e size v n xs:=by
 refine ⟨h.1,?_⟩;rcases h.2 with hn | ⟨g,cap,cur,rfl,hb,hgg,rest⟩
 ·exact .inl hn
 ·refine .inr ⟨g,cap,cur,rfl,hb,?_,rest⟩
  rw [ht.block g (Array.getElem?_eq_some_iff.1 hgg).1 (hs g (by simp [Value.ownBlock]))];exact hgg
theorem Ob.lt {w:World}{base t p:Nat}{g:Option Nat}{bs:List Nat}{n:Nat}(h:Ob w base t p g bs n):p<w.heap.size∧∀ k,g=some k→base≤k∧k<w.heap.size∧k≠p:=by
 obtain ⟨sv,h1,rfl,h3⟩:=h.blk;refine ⟨lt_of_block h1,fun k hk=>⟨(h3.lt k hk).1,(h3.lt k hk).2,fun e=>?_⟩⟩;rcases h3.2 with ⟨rfl,_⟩ | ⟨g',cap,cur,rfl,_,hh,_⟩
 ·simp [Value.ownBlock] at hk
 ·simp [Value.ownBlock] at hk
  subst hk;subst e;rw [hh] at h1;simp at h1;exact h.ht h1.2.symm
theorem Ob.touch {S:Nat→Prop}{w w':World}{base t p:Nat}{g:Option Nat}{bs:List Nat}{n:Nat}(h:Ob w base t p g bs n) (ht:Touch S w w') (hs:∀ k,xG p g k→¬S k):Ob w' base t p g bs n:=by
 obtain ⟨hp,hg⟩:=h.lt;obtain ⟨sv,h1,h2,h3⟩:=h.blk;exact ⟨⟨sv,(ht.block p hp (hs p (.inl rfl))).trans h1,h2,zd h3 ht fun k hk=>hs k (.inr (h2 ▸ hk))⟩,h.hp,h.hb,h.ht⟩
theorem Ob.foot_lt {w:World}{base t p:Nat}{g:Option Nat}{bs:List Nat}{n:Nat}(h:Ob w base t p g bs n){k:Nat}(hk:xG p g k):base≤k∧k<w.heap.size:=by
 rcases hk with rfl | hk
 ·exact ⟨h.hp,h.lt.1⟩
 ·exact ⟨(h.lt.2 k hk).1,(h.lt.2 k hk).2.1⟩
theorem Ob.drewN {w:World}{base t p:Nat}{g:Option Nat}{bs:List Nat}{n:Nat}(h:Ob w base t p g bs n) (m:Nat):Ob (w.drewN m) base t p g bs n:=⟨h.blk,h.hp,h.hb,h.ht⟩
structure Seen (w:World) (base p:Nat) (g:Option Nat) (bs:List Nat) (n:Nat) (sv:Value):Prop where
 c0:w.cell? ⟨p,0,none⟩=some sv
 c1:w.cell? ⟨p,1,none⟩=some (.int .i64 n)
 f0:w.frozen? ⟨p,0,none⟩=false
 f1:w.frozen? ⟨p,1,none⟩=false
 own:w.ownsRow base 5 1 sv bs.length (bs.map fun x:Nat=>Value.int .u8 (x:Int))
 hg:sv.ownBlock=g
theorem jn {w:World}{base g cap:Nat}{bs:List Nat}(h:w.ownsRow base 5 1 (.slice (some ⟨g,0,none⟩) bs.length cap) bs.length (bs.map fun x:Nat=>Value.int .u8 (x:Int))) (j:Nat) (hj:j<bs.length):w.cell? ⟨g,j,none⟩=some (.int .u8 (byt bs j)):=by
 rw [h.cellAt j (by omega)];simp [byt,List.getD,hj]
theorem Ob.see {w:World}{base t p:Nat}{g:Option Nat}{bs:List Nat}{n:Nat}(h:Ob w base t p g bs n) :
  (Seen w base p g bs n (.slice none 0 0)∧bs=[]∧g=none) ∨
  ∃ g0 cap,Seen w base p g bs n (.slice (some ⟨g0,0,none⟩) bs.length cap)∧g=some g0∧bs.length≤cap∧cap≤maxLen:=by
 obtain ⟨sv,h1,h2,h3⟩:=h.blk;obtain ⟨c0,c1,f0,f1⟩:=zX h1;have hs:Seen w base p g bs n sv:=⟨c0,c1,f0,f1,h3,h2⟩;rcases h3.2 with ⟨rfl,hl⟩ | ⟨g',cap,cur,rfl,_,hh,hc,hm,_⟩
 ·exact .inl ⟨hs,List.eq_nil_of_length_eq_zero hl,by simpa [Value.ownBlock] using h2.symm⟩
 ·exact .inr ⟨g',cap,hs,by simpa [Value.ownBlock] using h2.symm,hc,hm⟩
theorem zg8 {w:World}{p:Nat}{a b u:Value}{t:TypeId}(h:w.heap[p]? = some (.cells #[a,b] t (0,0))):(w.setCell ⟨p,1,none⟩ u).heap[p]? = some (.cells #[a,u] t (0,0)):=by
 have hlt:=lt_of_block h;have h':w.heap[p]=.cells #[a,b] t (0,0):=by simpa [Array.getElem?_eq_getElem hlt] using h
 show (w.heap.modify p _)[p]? = _;rw [Array.getElem?_eq_getElem (by simpa using hlt),Array.getElem_modify_self,h'];rfl
theorem zgG {w:World}{p:Nat}{a b u:Value}{t:TypeId}(h:w.heap[p]? = some (.cells #[a,b] t (0,0))):(w.setCell ⟨p,0,none⟩ u).heap[p]? = some (.cells #[u,b] t (0,0)):=by
 have hlt:=lt_of_block h;have h':w.heap[p]=.cells #[a,b] t (0,0):=by simpa [Array.getElem?_eq_getElem hlt] using h
 show (w.heap.modify p _)[p]? = _;rw [Array.getElem?_eq_getElem (by simpa using hlt),Array.getElem_modify_self,h'];rfl
theorem Ob.set1 {w:World}{base t p:Nat}{g:Option Nat}{bs:List Nat}{n:Nat}(h:Ob w base t p g bs n) (m:Nat):Ob (w.setCell ⟨p,1,none⟩ (.int .i64 m)) base t p g bs m:=by
 have hg:=h.lt.2;obtain ⟨sv,h1,h2,h3⟩:=h.blk;exact ⟨⟨sv,zg8 h1,h2,ownsRow_setCell_other h3 (fun e=>by have:=hg p (h2 ▸ e);omega) _⟩,h.hp,h.hb,h.ht⟩
def pk (bs:List Nat) (at_ n:Nat):Nat:=num bs/2^at_%2^n
theorem zhm (p n:Nat) (w:World) (hn:n≤32)
  (
  h0:w.cell? ⟨p,0,none⟩=some (.slice none 0 0)) (h1:w.cell? ⟨p,1,none⟩=some (.int .i64 0)) :
  Calls prog 93 #[.pointer (some ⟨p,0,none⟩),.int .i64 n] w fun e w'=>e=.returned (.int .u32 ((pk [] 0 n:Nat):Int))∧w=w':=by
 have HL:=J (show IntKind.u32.wrap ((0%2^n:Nat):Int)=((pk [] 0 n:Nat):Int) by unfold pk;simp [num];rfl);go_enter func93,ntmps93;go_wp2_with (go_at_call 105;refine (qq n _ (by omega) (by omega)).mono ?_;rintro e w' ⟨rfl,rfl⟩);refine wp_loop_rounds 1 ?_;rw [rounds_succ];go_wp2_with (go_at_call 106;refine (xV _ 0 n _ (by simp) hn (by omega)).mono ?_;rintro e w' ⟨rfl,rfl⟩);go_ret;exact ⟨qy HL.out,rfl⟩
theorem Ob.peek {w:World}{base p:Nat}{g:Option Nat}{bs:List Nat}{at_:Nat}(h:Ob w base 67 p g bs at_) (hl:bs.length≤1000000000) (ha:at_≤8*bs.length) (n:Nat) (hn:n≤32) :
  Calls prog 93 #[.pointer (some ⟨p,0,none⟩),.int .i64 n] w fun e w'=>e=.returned (.int .u32 ((pk bs at_ n:Nat):Int))∧w=w':=by
 rcases h.see with ⟨s,rfl,rfl⟩ | ⟨g0,cap,s,rfl,hc,hm⟩
 ·have:at_=0:=by simpa using ha
  subst this;exact zhm p n w hn s.c0 s.c1
 ·exact zfm p g0 at_ n bs.length cap bs w hl hc rfl h.hb ha hn s.c0 s.c1 fun j hj=>jn s.own j hj
def qB (w:World) (base t p:Nat) (g:Option Nat) (bs:List Nat) (m:Nat) (w':World):Prop:=
 Ob w' base t p g bs m∧Touch (fun k=>k=p) w w'
theorem qB.mk' {w:World}{base t p:Nat}{g:Option Nat}{bs:List Nat}{n:Nat}(h:Ob w base t p g bs n) (nq m:Nat){x:Int}(hx:x=(m:Int)) :
  qB w base t p g bs m ((w.drewN nq).setCell ⟨p,1,none⟩ (.int .i64 x)):=by
 subst hx;exact ⟨(h.drewN nq).set1 m,((Touch.refl _ w).drewN nq).setCell _ _ (.inl rfl)⟩
theorem Ob.left {w:World}{base p:Nat}{g:Option Nat}{bs:List Nat}{at_:Nat}(h:Ob w base 67 p g bs at_) (hl:bs.length≤1000000000) (ha:at_≤8*bs.length) :
  Calls prog 135 #[.pointer (some ⟨p,0,none⟩)] w fun e w'=>e=.returned (.int .i64 (8*bs.length-at_))∧∃ nq,w'=w.drewN nq:=by
 rcases h.see with ⟨s,rfl,rfl⟩ | ⟨g0,cap,s,rfl,hc,hm⟩
 ·exact kJ p at_ none 0 0 w (by omega) (by omega) (by simp at ha;omega) s.c0 s.c1
 ·exact kJ p at_ _ bs.length cap w hl (by omega) (by omega) s.c0 s.c1
theorem Ob.at {w:World}{base t p:Nat}{g:Option Nat}{bs:List Nat}{at_:Nat}(h:Ob w base t p g bs at_) :
  Calls prog 23 #[.pointer (some ⟨p,0,none⟩)] w fun e w'=>e=.returned (.int .i64 at_)∧w=w':=by
 obtain ⟨sv,h1,_⟩:=h.blk;exact zjg p at_ w (zX h1).2.1
theorem Ob.skip_yes {w:World}{base p:Nat}{g:Option Nat}{bs:List Nat}{at_:Nat}(h:Ob w base 67 p g bs at_) (hl:bs.length≤1000000000) (n:Nat) (hn:at_+n≤8*bs.length) :
  Calls prog 94 #[.pointer (some ⟨p,0,none⟩),.int .i64 n] w fun e w'=>e=.returned (.bool true)∧qB w base 67 p g bs (at_+n) w':=by
 rcases h.see with ⟨s,rfl,rfl⟩ | ⟨g0,cap,s,rfl,hc,hm⟩
 ·simp only [List.length_nil] at hn
  exact (YtacpfpghokcdlaaGreatDoor.skip_yes p n at_ none 0 0 w (by omega) (by omega) (by omega) (by omega) s.c0 s.c1 s.f1).mono fun e w' ⟨he,nq,hw⟩=>⟨he,hw ▸ qB.mk' h nq _ (by omega)⟩
 ·exact (YtacpfpghokcdlaaGreatDoor.skip_yes p n at_ _ bs.length cap w hl (by omega) (by omega) (by omega) s.c0 s.c1 s.f1).mono fun e w' ⟨he,nq,hw⟩=>⟨he,hw ▸ qB.mk' h nq _ (by omega)⟩
theorem Ob.skip_no {w:World}{base p:Nat}{g:Option Nat}{bs:List Nat}{at_:Nat}(h:Ob w base 67 p g bs at_) (hl:bs.length≤1000000000) (ha:at_≤8*bs.length) (n:Int) (hn:n<0∨8*(bs.length:Int)-at_<n) :
  Calls prog 94 #[.pointer (some ⟨p,0,none⟩),.int .i64 n] w fun e w'=>e=.returned (.bool false)∧∃ nq,w'=w.drewN nq:=by
 rcases h.see with ⟨s,rfl,rfl⟩ | ⟨g0,cap,s,rfl,hc,hm⟩
 ·simp only [List.length_nil] at hn ha
  exact YtacpfpghokcdlaaGreatDoor.skip_no p n at_ none 0 0 w (by omega) (by omega) (by omega) (by omega) s.c0 s.c1
 ·exact YtacpfpghokcdlaaGreatDoor.skip_no p n at_ _ bs.length cap w hl (by omega) (by omega) (by omega) s.c0 s.c1
theorem Ob.bits_yes {w:World}{base p:Nat}{g:Option Nat}{bs:List Nat}{at_:Nat}(h:Ob w base 67 p g bs at_) (hl:bs.length≤1000000000) (n:Nat) (hn32:n≤32) (hn:at_+n≤8*bs.length) :
  Calls prog 59 #[.pointer (some ⟨p,0,none⟩),.int .i64 n] w fun e w'=>e=.returned (.tuple #[.int .u32 ((pk bs at_ n:Nat):Int),.bool true])∧qB w base 67 p g bs (at_+n) w':=by
 have H:=J h;clear h;go_enter func59,ntmps59;go_wp2_with (first
  | (go_at_call 93;refine (H.out.peek hl (by omega) n hn32).mono ?_;rintro e w' ⟨rfl,rfl⟩)
  | (go_at_call 94;refine (H.out.skip_yes hl n hn).mono ?_;rintro e w' ⟨rfl,hm⟩))
 go_ret2
 exact ⟨rfl,hm⟩
theorem Ob.bits_no {w:World}{base p:Nat}{g:Option Nat}{bs:List Nat}{at_:Nat}(h:Ob w base 67 p g bs at_) (hl:bs.length≤1000000000) (ha:at_≤8*bs.length) (n:Int) (hn:n<0∨32<n∨8*(bs.length:Int)-at_<n) :
  Calls prog 59 #[.pointer (some ⟨p,0,none⟩),.int .i64 n] w fun e w'=>e=.returned (.tuple #[.int .u32 0,.bool false])∧∃ nq,w'=w.drewN nq:=by
 have H:=J h;clear h;by_cases h32:32<n
 ·go_enter func59,ntmps59
  go_wp2;go_ret2
  exact ⟨rfl,0,rfl⟩
 ·by_cases h0:n<0
  ·go_enter func59,ntmps59
   go_wp2_with (first
    | (go_at_call 93;refine (zhR p n _ (.inl h0)).mono ?_;rintro e w' ⟨rfl,rfl⟩)
    | (go_at_call 94;refine (H.out.skip_no hl ha n (.inl h0)).mono ?_;rintro e w' ⟨rfl,nq,rfl⟩))
   go_ret2
   exact ⟨rfl,_,rfl⟩
  ·obtain ⟨m,rfl⟩:=Int.eq_ofNat_of_zero_le (show 0≤n by omega)
   have hbad:8*(bs.length:Int)-at_<m:=by omega
   clear hn;go_enter func59,ntmps59;go_wp2_with (first
    | (go_at_call 93;refine (H.out.peek hl ha m (by omega)).mono ?_;rintro e w' ⟨rfl,rfl⟩)
    | (go_at_call 94;refine (H.out.skip_no hl ha m (.inr hbad)).mono ?_;rintro e w' ⟨rfl,nq,rfl⟩))
   go_ret2
   exact ⟨rfl,_,rfl⟩
def up8 (n:Nat):Nat:=(n+7)/8*8
theorem Ob.ralign {w:World}{base p:Nat}{g:Option Nat}{bs:List Nat}{at_:Nat}(h:Ob w base 67 p g bs at_) (ha:at_≤10000000000) :
  Calls prog 95 #[.pointer (some ⟨p,0,none⟩)] w fun e w'=>e=.returned (.tuple #[])∧qB w base 67 p g bs (up8 at_) w':=by
 obtain ⟨sv,h1,_⟩:=h.blk;obtain ⟨c0,c1,f0,f1⟩:=zX h1;have HM:=J (qB.mk' h 0 (up8 at_) (x:=((at_:Int)+7)/8*8) (by unfold up8;omega));clear h1 h;go_enter func95,ntmps95;go_wp2_with (go_at_call 136;refine (yQ at_ _ (by omega) (by omega)).mono ?_;rintro e w' ⟨rfl,rfl⟩);go_end0;exact ⟨rfl,HM.out⟩
theorem Tryz.info5:(prog.info? 5).map (fun i=>(i.zero,i.size,i.bytes))=some (some (.int .u8 0),1,1):=by kernel_rfl
def u8s (l:List Nat):List Value:=l.map fun x:Nat=>Value.int .u8 (x:Int)
theorem kS (l:List Nat):(u8s l).length=l.length:=by simp [u8s]
theorem QA (l:List Nat):∀ u∈u8s l,u.oneCell'=true:=by
 intro u hu;obtain ⟨_,_,rfl⟩:=List.mem_map.1 hu;rfl
def zi (w:World) (v:Value) (xs:List Nat):Prop:=
 (v=.slice none 0 0∧xs=[])∨∃ ad c,v=.slice (some ad) xs.length c∧xs.length≤c∧∀ j u,(u8s xs)[j]? = some u→w.cell? (ad.add j)=some u
def Made (w:World) (base:Nat) (xs:List Nat) (e:Ending) (w':World):Prop:=
 ∃ a c,e=.returned (.slice a xs.length c)∧w'.ownsRow base 5 1 (.slice a xs.length c) xs.length (u8s xs)∧(∀ k,(Value.slice a xs.length c).ownBlock=some k→w.heap.size≤k)∧Touch (fun _=>False) w w'
theorem zr {w:World}{base:Nat}{e:TypeId}{size:Nat}{v:Value}{n:Nat}{xs:List Value}(h:w.ownsRow base e size v n xs):∃ a c,v=.slice a n c:=by
 rcases h.2 with ⟨rfl,rfl⟩ | ⟨g,cap,cur,rfl,_⟩
 ·exact ⟨_,_,rfl⟩
 ·exact ⟨_,_,rfl⟩
theorem zds (w:World):(w.alloc (.cells #[] 5)).ownsRow w.heap.size 5 1 (.slice (some ⟨w.heap.size,0,none⟩) 0 0) 0 []:=
 World.ownsRow_made w #[] 0 (Nat.le_refl _) (Nat.zero_le _) rfl
theorem zz {w:World}{base base':Nat}{e:TypeId}{size:Nat}{v:Value}{n:Nat}{xs:List Value}(h:w.ownsRow base e size v n xs) (hb:base'≤base):w.ownsRow base' e size v n xs:=by
 refine ⟨h.1,?_⟩;rcases h.2 with h2 | ⟨g,cap,cur,hv,hg,r⟩
 ·exact .inl h2
 ·exact .inr ⟨g,cap,cur,hv,Nat.le_trans hb hg,r⟩
set_option maxHeartbeats 400000 in
theorem zaC (ad:Addr) (c:Nat) (xs:List Nat) (w:World) (hl:xs.length≤1000000000)
  (hc:∀ j u,(u8s xs)[j]? = some u→w.cell? (ad.add j)=some u) :
  Calls prog 36 #[.slice (some ad) xs.length c] w (Made w w.heap.size xs):=by
 obtain ⟨i0,hi,hz0,hz1,hz2⟩:=info_parts Tryz.info5;have hnil:=fun W=>Lib.run_eql_slice_nil (P:=prog) W 22 5 (some ad) xs.length c 0 0 underlying22
 have HC:=J hc;clear hc;go_enter func36,ntmps36;go_wp2_with (at_builtin;refine wpList_append_own _ rfl (.tmp 5) (.tmp 6) 22 rfl w.heap.size 5 i0 (.int .u8 0) 1 1 underlying22 hi hz0 hz1 hz2 rfl (by decide) (.slice (some ⟨w.heap.size,0,none⟩) 0 0) 0 [] rfl (zds w) ad xs.length c (u8s xs) rfl (by simp [kS]) ?c1 (QA xs) (by unfold maxLen;omega) (by omega) (by simp) ?c2);case c1=>
  intro j u hu;have h:=HC.out j u hu;have hlt:=World.block_lt_of_cell? w _ h;rw [World.cell?_alloc_lt _ _ _ hlt];exact h
 case c2=>
  intro v' w' hown hgrow _;have hown:w'.ownsRow w.heap.size 5 1 v' xs.length (u8s xs):=by simpa using hown
  obtain ⟨a,c',rfl⟩:=zr hown;have HO:=J hown;have HG:=J hgrow;clear hown hgrow;go_wp2;go_ret;refine ⟨a,c',rfl,HO.out,fun k hk=>(HO.out.lt k hk).1,((Touch.refl _ w).alloc _).grown HG.out fun k hk=>?_⟩;cases hk;exact .inr (Nat.le_refl _)
theorem KX (w:World) :
  Calls prog 36 #[.slice none 0 0] w (Made w w.heap.size []):=by
 have hnil:=fun W=>Lib.run_eql_slice_nil (P:=prog) W 22 5 none 0 0 0 0 underlying22
 go_enter func36,ntmps36;go_wp2;go_ret;exact ⟨none,0,rfl,World.ownsRow_nil _ _ _ _,fun k hk=>by simp [Value.ownBlock] at hk,Touch.refl _ _⟩
theorem zi.at {w:World}{v:Value}{xs:List Nat}(h:zi w v xs) (hp:0<xs.length) :
  ∃ b off c,v=.slice (some ⟨b,off,none⟩) xs.length c∧xs.length≤c∧∀ j,j<xs.length→w.cell? ⟨b,off+j,none⟩=some (.int .u8 (byt xs j)):=by
 rcases h with ⟨_,rfl⟩ | ⟨ad,c,rfl,hc,h⟩
 ·simp at hp
 ·have h':∀ i,i<(xs.map fun x:Nat=>(x:Int)).length→w.cell? (ad.add i)=some (.int .u8 ((xs.map fun x:Nat=>(x:Int)).getD i 0)):=by
   intro i hi;have hi':i<xs.length:=by simpa using hi
   refine h i _ ?_;simp [u8s,List.getD,hi']
  obtain ⟨b,off,rfl,h2⟩:=ints_at h' (by simpa using hp);refine ⟨b,off,c,rfl,hc,fun j hj=>?_⟩;rw [h2 j (by simpa using hj)];simp [byt,List.getD,hj]
theorem zi.own {w:World}{base:Nat}{v:Value}{xs:List Nat}(h:w.ownsRow base 5 1 v xs.length (u8s xs)):zi w v xs:=by
 rcases h.2 with ⟨rfl,hn⟩ | ⟨g,cap,cur,rfl,hb,hh,hnc,r⟩
 ·exact .inl ⟨rfl,List.eq_nil_of_length_eq_zero hn⟩
 ·exact .inr ⟨⟨g,0,none⟩,cap,rfl,hnc,h.cells (by simp [Value.ownBlock])⟩
theorem zi.touch {S:Nat→Prop}{w w':World}{v:Value}{xs:List Nat}(h:zi w v xs) (ht:Touch S w w') (hs:∀ k,v.ownBlock=some k→¬S k):zi w' v xs:=by
 rcases h with h | ⟨ad,c,rfl,hc,h⟩
 ·exact .inl h
 ·refine .inr ⟨ad,c,rfl,hc,fun j u hu=>?_⟩
  have h1:=h j u hu;have hlt:=World.block_lt_of_cell? w _ h1;have hb:(ad.add j).block=ad.block:=by unfold Addr.add;split <;> rfl
  rw [World.cell?_of_block (w:=w) (ht.block _ hlt (by rw [hb];exact hs _ (by simp [Value.ownBlock])))];exact h1
theorem kH {w:World}{v:Value}{xs:List Nat}(h:zi w v xs) (hl:xs.length≤1000000000):Calls prog 36 #[v] w (Made w w.heap.size xs):=by
 rcases h with ⟨rfl,rfl⟩ | ⟨ad,c,rfl,hc,h⟩
 ·exact KX w
 ·exact zaC ad c xs w hl h
def zkc (w:World) (base t:Nat) (bs:List Nat) (n:Nat) (e:Ending) (w':World):Prop:=
 ∃ p g,e=.returned (.pointer (some ⟨p,0,none⟩))∧Ob w' base t p g bs n∧Touch (fun _=>False) w w'
theorem Ob.made {w:World}{base t:Nat}{sv:Value}{bs:List Nat}(n:Nat) (ht:t≠5) (hb:Bs bs) (hown:w.ownsRow base 5 1 sv bs.length (u8s bs)) (hbase:base≤w.heap.size){x:Int}(hx:x=(n:Int)) :
  Ob (w.alloc (.cells #[sv,.int .i64 x] t)) base t w.heap.size sv.ownBlock bs n:=by
 subst hx;exact ⟨⟨sv,heap_alloc_new w _,rfl,hown.alloc _⟩,hbase,hb,ht⟩
theorem Kl {w:World}{v:Value}{xs:List Nat}(h:zi w v xs) (hb:Bs xs) (hl:xs.length≤1000000000):Calls prog 20 #[v] w (zkc w w.heap.size 67 xs 0):=by
 have H:=J h;have HB:=J hb;clear h hb;go_enter func20,ntmps20;go_wp2_with (go_at_call 36;refine (kH H.out hl).mono ?_;rintro e w' ⟨a,c,rfl,hown,hlow,ht⟩);have hsz:=ht.size;go_ret;exact ⟨w'.heap.size,_,rfl,Ob.made 0 (by decide) HB.out hown hsz rfl,ht.alloc _⟩
theorem zfd (p:Nat) (sv:Value) (xs:List Nat) (w:World) (h0:w.cell? ⟨p,0,none⟩=some sv) (h:zi w sv xs) (hl:xs.length≤1000000000):Calls prog 49 #[.pointer (some ⟨p,0,none⟩)] w (Made w w.heap.size xs):=by
 have H:=J h;clear h;go_enter func49,ntmps49;go_wp2_with (go_at_call 36;refine (kH H.out hl).mono ?_;rintro e w' ⟨a,c,rfl,hown,hlow,ht⟩);go_ret;exact ⟨a,c,rfl,hown,hlow,ht⟩
theorem Ob.wout {w:World}{base t p:Nat}{g:Option Nat}{bs:List Nat}{n:Nat}(h:Ob w base t p g bs n) (hl:bs.length≤1000000000):Calls prog 49 #[.pointer (some ⟨p,0,none⟩)] w (Made w w.heap.size bs):=by
 obtain ⟨sv,h1,h2,h3⟩:=h.blk;exact zfd p sv bs w (zX h1).1 (zi.own h3) hl
theorem zeW {v v':Value}{n m c c':Nat}{a a':Option Addr}(w:World) (hv:v=.slice a n c) (hv':v' = .slice a' m c') (h:n≠m) :
  Calls prog 13 #[v,v'] w fun e w'=>e=.returned (.bool false)∧∃ nq,w'=w.drewN nq:=by
 subst hv;subst hv';have h1:((n:Int) == (m:Int))=false:=by simp;omega
 have h2:((n:Int) != (m:Int))=true:=by simp [bne];omega
 go_enter func13,ntmps13;go_wp2;go_ret;exact ⟨rfl,0,rfl⟩
theorem zfx {v v':Value}{c c':Nat}{a a':Option Addr}(w:World) (hv:v=.slice a 0 c) (hv':v' = .slice a' 0 c') :
  Calls prog 13 #[v,v'] w fun e w'=>e=.returned (.bool true)∧∃ nq,w'=w.drewN nq:=by
 subst hv;subst hv';go_enter func13,ntmps13;go_wp2;refine wp_loop_rounds 1 ?_;rw [rounds_succ];go_wp2;go_ret;exact ⟨rfl,0,rfl⟩
set_option maxHeartbeats 800000 in
theorem zdS (b off c b' off' c' len:Nat) (xs ys:List Nat) (w:World) (hx:xs.length=len) (hy:ys.length=len) (hl:len≤1000000000)
  (hc:∀ j,j<len→w.cell? ⟨b,off+j,none⟩=some (.int .u8 (byt xs j))) (hc':∀ j,j<len→w.cell? ⟨b',off'+j,none⟩=some (.int .u8 (byt ys j))) :
  Calls prog 13 #[.slice (some ⟨b,off,none⟩) len c,.slice (some ⟨b',off',none⟩) len c'] w fun e w'=>e=.returned (.bool (decide (xs=ys)))∧∃ nq,w'=w.drewN nq:=by
 have HX:=J hx;have HY:=J hy;have HC:=J hc;have HC':=J hc';clear hc hc' hx hy;go_enter func13,ntmps13;go_wp2;go_loopw [5] (fun i wr=>∃ k nq:Nat,k≤len∧i=.int .i64 k∧(∀ j,j<k→byt xs j=byt ys j)∧wr=w.drewN nq) (fun i _=>len-(intOf i).toNat)
 case atStart=>exact ⟨0,0,Nat.zero_le _,rfl,fun j hj=>absurd hj (by omega),rfl⟩
 case round=>
  obtain ⟨k,nq,hk,rfl,hall,rfl⟩:=hrel;have HA:=J hall;clear hall;by_cases hlt:k<len
  ·have h1:=HC.out k hlt
   have h2:=HC'.out k hlt;by_cases he:byt xs k=byt ys k
   ·have e1:((byt xs k:Int) == (byt ys k:Int))=true:=by simp [he]
    have e2:((byt xs k:Int) != (byt ys k:Int))=false:=by simp [he]
    go_wp2;go_quiet (fail)
    go_wp2;go_roundw;case rel=>exact ⟨k+1,_,by omega,by go_num,fun j hj=>by
      by_cases hjk:j=k
      ·subst hjk;exact he
      ·exact HA.out j (by omega),rfl⟩
    case measure=>simp [intOf];omega
   ·have e1:((byt xs k:Int) == (byt ys k:Int))=false:=by simp;omega
    have e2:((byt xs k:Int) != (byt ys k:Int))=true:=by simp [bne];omega
    have HE:=J he;clear he;go_wp2;go_quiet (fail)
    go_wp2;go_ret;refine ⟨?_,_,World.drewN_drewN _ _ _⟩;have:¬xs=ys:=fun e=>HE.out (by rw [e])
    simp [this]
  ·have hk':k=len:=by omega
   have hxy:xs=ys:=by
    apply List.ext_getElem (by rw [HX.out,HY.out]);intro j h1 h2;have:=HA.out j (by have:=HX.out;omega);simpa [byt,List.getD,h1,h2] using this
   have HXY:=J hxy;clear hxy hk';go_wp2;go_ret;exact ⟨by simp [HXY.out],_,rfl⟩
theorem jh {w:World}{v v':Value}{xs ys:List Nat}(h:zi w v xs) (h':zi w v' ys) (hl:xs.length≤1000000000) :
  Calls prog 13 #[v,v'] w fun e w'=>e=.returned (.bool (decide (xs=ys)))∧∃ nq,w'=w.drewN nq:=by
 have shape:∀ {v:Value} {xs:List Nat},zi w v xs→∃ a c,v=.slice a xs.length c:=by
  intro v xs h;rcases h with ⟨rfl,rfl⟩ | ⟨ad,c,rfl,_⟩
  ·exact ⟨_,_,rfl⟩
  ·exact ⟨_,_,rfl⟩
 obtain ⟨a,c,e⟩:=shape h;obtain ⟨a',c',e'⟩:=shape h';by_cases hlen:xs.length=ys.length
 ·by_cases h0:xs.length=0
  ·have hx:=List.eq_nil_of_length_eq_zero h0
   have hy:=List.eq_nil_of_length_eq_zero (hlen ▸ h0);subst hx;subst hy;simpa using zfx w e e'
  ·obtain ⟨b,off,c,rfl,_,hc⟩:=h.at (by omega)
   obtain ⟨b',off',c',rfl,_,hc'⟩:=h'.at (by omega);rw [←hlen];exact zdS b off c b' off' c' xs.length xs ys w rfl hlen.symm hl hc (fun j hj=>hc' j (by omega))
 ·have:¬xs=ys:=fun e=>hlen (by rw [e])
  simpa [this] using zeW w e e' hlen
def JX (w:World) (base p:Nat) (g:Option Nat) (bs:List Nat) (m:Nat) (xs:List Nat) (e:Ending) (w':World):Prop:=
 ∃ a c,e=.returned (.tuple #[.slice a xs.length c,.bool true])∧w'.ownsRow w.heap.size 5 1 (.slice a xs.length c) xs.length (u8s xs)∧(∀ k,(Value.slice a xs.length c).ownBlock=some k→w.heap.size≤k)∧Ob w' base 67 p g bs m∧Touch (fun k=>k=p) w w'
theorem zif {w:World}{base g cap:Nat}{bs:List Nat}(h:w.ownsRow base 5 1 (.slice (some ⟨g,0,none⟩) bs.length cap) bs.length (u8s bs)) (f n:Nat) (hf:f+n≤bs.length) (c:Nat) (hc:n≤c) :
  zi w (.slice (some ⟨g,f,none⟩) n c) ((bs.drop f).take n):=by
 have hl:((bs.drop f).take n).length=n:=by rw [List.length_take,List.length_drop];omega
 refine .inr ⟨⟨g,f,none⟩,c,by rw [hl],by omega,fun j u hu=>?_⟩
 have hj:j<n:=by
  have:=(List.getElem?_eq_some_iff.1 hu).1;rw [kS,hl] at this;exact this
 rw [Addr.add_lit,jn h (f+j) (by omega)];rw [←hu];simp [u8s,byt,List.getD,hj,show f+j<bs.length by omega]
theorem qT (n:Int) (m:Nat) (w:World) (h0:0≤n) (h1:n≤100000000000) (hm:(n+7)/8=(m:Int)) :
  Calls prog 136 #[.int .i64 n] w fun e w'=>e=.returned (.int .i64 m)∧w=w':=by
 have h:=yQ n w h0 h1;rw [hm] at h;exact h
set_option maxHeartbeats 400000 in
theorem bytes_yes {w:World}{base p g0 cap:Nat}{bs:List Nat}{at_:Nat}(h:Ob w base 67 p (some g0) bs at_) (hl:bs.length≤1000000000) (ha:at_≤8*bs.length)
  (s:Seen w base p (some g0) bs at_ (.slice (some ⟨g0,0,none⟩) bs.length cap)) (hc:bs.length≤cap) (n first:Nat) (hfi:((at_:Int)+7)/8=(first:Int)) (hn:first+n≤bs.length) :
  Calls prog 96 #[.pointer (some ⟨p,0,none⟩),.int .i64 n] w (JX w base p (some g0) bs ((first+n)*8) ((bs.drop first).take n)):=by
 have hgp:=h.lt.2 g0 rfl;obtain ⟨c0,c1,f0,f1,own,hg⟩:=s;obtain ⟨hO,hT⟩:=qB.mk' h 0 ((first+n)*8) (x:=((first:Int)+n)*8) (by omega);rw [World.drewN_zero] at hO hT;have hlx:((bs.drop first).take n).length=n:=by rw [List.length_take,List.length_drop];omega
 have hcut:first<cap→zi (w.setCell ⟨p,1,none⟩ (.int .i64 (((first:Int)+n)*8))) (.slice (some ⟨g0,first,none⟩) n (cap-first)) ((bs.drop first).take n):=fun hlt=>
  (zif own first n hn (cap-first) (by omega)).touch hT (fun k hk=>by simp [Value.ownBlock] at hk;omega)
 have hcut0:n=0→zi (w.setCell ⟨p,1,none⟩ (.int .i64 (((first:Int)+n)*8))) (.slice (some ⟨g0,0,none⟩) n 0) ((bs.drop first).take n):=fun h0=>by
  subst h0;exact .inr ⟨⟨g0,0,none⟩,0,by simp,by simp,fun j u hu=>by simp [u8s] at hu⟩
 have HFE:=J hfi;have HO:=J hO;have HT:=J hT;have HLX:=J hlx;have HC:=J hcut;have HC0:=J hcut0;clear hfi hO hT own h hlx hcut hcut0 hg hgp;by_cases hcap:cap=first
 ·have hn0:n=0:=by omega
  have HN0:=J hn0;clear hn0;have hnn:((n:Int))≤0:=by have:=HN0.out;omega
  go_enter func96,ntmps96;go_wp2_with (first
   | (go_at_call 136;refine (qT at_ first _ (by omega) (by omega) HFE.out).mono ?_;rintro e w' ⟨rfl,rfl⟩)
   | (go_at_call 36;go_must (refine (kH (HC0.out HN0.out) (by have:=HLX.out;omega)).mono ?_);rintro e w' ⟨a,c,rfl,hown,hlow,ht⟩))
  go_ret2
  refine ⟨a,c,by simp,zz hown (by simp),fun k hk=>by have:=hlow k hk;simpa using this,HO.out.touch ht (fun _ _ h=>h),HT.out.trans (ht.mono fun _ h=>h.elim)⟩
 ·have hlt:first<cap:=by omega
  go_enter func96,ntmps96;go_wp2_with (first
   | (go_at_call 136;refine (qT at_ first _ (by omega) (by omega) HFE.out).mono ?_;rintro e w' ⟨rfl,rfl⟩)
   | (go_at_call 36;go_must (refine (kH (HC.out hlt) (by have:=HLX.out;omega)).mono ?_);rintro e w' ⟨a,c,rfl,hown,hlow,ht⟩))
  go_ret2
  refine ⟨a,c,by simp,zz hown (by simp),fun k hk=>by have:=hlow k hk;simpa using this,HO.out.touch ht (fun _ _ h=>h),HT.out.trans (ht.mono fun _ h=>h.elim)⟩
theorem zeb {w:World}{base p:Nat}(h:Ob w base 67 p none [] 0) (s:Seen w base p none [] 0 (.slice none 0 0)) :
  Calls prog 96 #[.pointer (some ⟨p,0,none⟩),.int .i64 0] w (JX w base p none [] 0 []):=by
 obtain ⟨c0,c1,f0,f1,own,hg⟩:=s;obtain ⟨hO,hT⟩:=qB.mk' h 0 0 (x:=0) (by omega);rw [World.drewN_zero] at hO hT;have HO:=J hO;have HT:=J hT;clear hO hT own h hg;go_enter func96,ntmps96;go_wp2_with (first
  | (go_at_call 136;refine (qT 0 0 _ (by omega) (by omega) (by omega)).mono ?_;rintro e w' ⟨rfl,rfl⟩)
  | (go_at_call 36;go_must (refine (KX _).mono ?_);rintro e w' ⟨a,c,rfl,hown,hlow,ht⟩))
 go_ret2
 refine ⟨a,c,rfl,zz hown (by simp),fun k hk=>by have:=hlow k hk;simpa using this,HO.out.touch ht (fun _ _ h=>h),HT.out.trans (ht.mono fun _ h=>h.elim)⟩
theorem Ob.bytes_yes {w:World}{base p:Nat}{g:Option Nat}{bs:List Nat}{at_:Nat}(h:Ob w base 67 p g bs at_) (hl:bs.length≤1000000000) (ha:at_≤8*bs.length) (n:Nat) (hn:(at_+7)/8+n≤bs.length) :
  Calls prog 96 #[.pointer (some ⟨p,0,none⟩),.int .i64 n] w (JX w base p g bs (((at_+7)/8+n)*8) ((bs.drop ((at_+7)/8)).take n)):=by
 rcases h.see with ⟨s,rfl,rfl⟩ | ⟨g0,cap,s,rfl,hc,hm⟩
 ·have h0:at_=0:=by simpa using ha
  have h1:n=0:=by simp at hn;omega
  subst h0;subst h1;exact zeb h s
 ·exact YtacpfpghokcdlaaGreatDoor.bytes_yes h hl ha s hc n _ (by omega) hn
theorem bytes_no {w:World}{p len cap at_:Nat}{ao:Option Addr}(c0:w.cell? ⟨p,0,none⟩=some (.slice ao len cap)) (c1:w.cell? ⟨p,1,none⟩=some (.int .i64 at_)) (hl:len≤1000000000) (ha:at_≤8*len) (n:Int) (first:Nat) (hfi:((at_:Int)+7)/8=(first:Int)) (hn:n<0∨(len:Int)-first<n) :
  Calls prog 96 #[.pointer (some ⟨p,0,none⟩),.int .i64 n] w fun e w'=>e=.returned (.tuple #[.slice none 0 0,.bool false])∧w=w':=by
 have hf2:first≤len:=by omega
 have HFE:=J hfi;clear hfi;by_cases h0:n<0
 ·clear hn
  go_enter func96,ntmps96;go_wp2_with (go_at_call 136;refine (qT at_ first _ (by omega) (by omega) HFE.out).mono ?_;rintro e w' ⟨rfl,rfl⟩);go_ret2
  exact ⟨rfl,rfl⟩
 ·have h0':0≤n:=by omega
  have h1:(len:Int)-first<n:=by omega
  clear hn h0;go_enter func96,ntmps96;go_wp2_with (go_at_call 136;refine (qT at_ first _ (by omega) (by omega) HFE.out).mono ?_;rintro e w' ⟨rfl,rfl⟩);go_ret2
  exact ⟨rfl,rfl⟩
theorem Ob.bytes_no {w:World}{base p:Nat}{g:Option Nat}{bs:List Nat}{at_:Nat}(h:Ob w base 67 p g bs at_) (hl:bs.length≤1000000000) (ha:at_≤8*bs.length) (n:Int) (hn:n<0∨(bs.length:Int)-((at_:Int)+7)/8<n) :
  Calls prog 96 #[.pointer (some ⟨p,0,none⟩),.int .i64 n] w fun e w'=>e=.returned (.tuple #[.slice none 0 0,.bool false])∧w=w':=by
 rcases h.see with ⟨s,rfl,rfl⟩ | ⟨g0,cap,s,rfl,hc,hm⟩
 ·have h0:at_=0:=by simpa using ha
  subst h0;exact YtacpfpghokcdlaaGreatDoor.bytes_no s.c0 s.c1 (by omega) (by omega) n 0 (by omega) (by simp only [List.length_nil] at hn;omega)
 ·exact YtacpfpghokcdlaaGreatDoor.bytes_no s.c0 s.c1 hl ha n ((at_+7)/8) (by omega) (by omega)
end
section
open Go.RowKit
structure Apd (w:World) (base:Nat) (v:Value) (bs:List Nat) (v':Value) (w':World):Prop where
 own:w'.ownsRow base 5 1 v' bs.length (u8s bs)
 touch:Touch (fun k=>v.ownBlock=some k) w w'
 row:∀ k,v'.ownBlock=some k→v.ownBlock=some k∨w.heap.size≤k
theorem zcm (a b:List Nat):u8s a++u8s b=u8s (a++b):=by simp [u8s]
theorem y8 (w:World){base:Nat}{v sv:Value}{xs ys:List Nat}(ty:TypeId) (hown:w.ownsRow base 5 1 v xs.length (u8s xs)) (hs:zi w sv ys) (hbase:base≤w.heap.size) (hl:xs.length+ys.length≤2000000000) :
  ∃ v' w',(Builtin.append_ #[22,22] ty #[v,sv]).run prog w=.ok v' w'∧Apd w base v (xs++ys) v' w':=by
 obtain ⟨i0,hi,hz0,hz1,hz2⟩:=info_parts Tryz.info5;have hlen:(xs++ys).length=xs.length+ys.length:=List.length_append;rcases hs with ⟨rfl,rfl⟩ | ⟨ad,c,rfl,hc,hcell⟩
 ·refine ⟨v,w,run_append_owned_none w base 22 ty 5 i0 1 underlying22 hi v xs.length (u8s xs) hown,?_,Touch.refl _ _,fun k hk => .inl hk⟩
  simpa using hown
 ·rcases hown.2 with ⟨rfl,hn0⟩ | ⟨g,cap,cur,rfl,hbg,hh,hnc,hcm,hcs,htake⟩
  ·have hx:xs=[]:=List.eq_nil_of_length_eq_zero hn0
   subst hx;obtain ⟨v',w',hr,ho,hg,_⟩:=run_append_own (P:=prog) w w.heap.size 22 ty 5 i0 (.int .u8 0) 1 1 underlying22 hi hz0 hz1 hz2 rfl (by decide) (.slice none 0 0) 0 [] (World.ownsRow_nil _ _ _ _) ad ys.length c (u8s ys) (by simp [kS]) hcell (QA ys) (by unfold maxLen;simp only [List.length_nil] at hl;omega) (by simp only [List.length_nil] at hl;omega) (Nat.le_refl _);have ho':w'.ownsRow w.heap.size 5 1 v' ([]++ys).length (u8s ([]++ys)):=by simpa using ho
   exact ⟨v',w',hr,zz ho' hbase,(Touch.refl _ w).grown hg fun k hk=>by simp [Value.ownBlock] at hk,fun k hk => .inr (ho'.lt k hk).1⟩
  ·by_cases hroom:xs.length+ys.length≤cap
   ·obtain ⟨w',hr,ho,hg⟩:=run_append_fits (P:=prog) w base 22 ty 5 i0 1 underlying22 hi hz1 g xs.length cap (u8s xs) hown ad ys.length c (u8s ys) (by simp [kS]) hcell (QA ys) hroom
    rw [zcm,←hlen] at ho;refine ⟨_,w',hr,hlen ▸ ho,(Touch.refl _ w).grown hg fun k hk => .inl (by cases hk;simp [Value.ownBlock]),fun k hk => .inl (by simpa [Value.ownBlock] using hk)⟩
   ·obtain ⟨v',w',hr,ho,hg⟩:=run_append_arg_grows (P:=prog) w 22 ty 5 i0 (.int .u8 0) 1 1 underlying22 hi hz0 hz1 hz2 rfl (by decide) ⟨g,0,none⟩ xs.length cap (u8s xs) (by simp [kS]) (hown.cells (by simp [Value.ownBlock])) ad ys.length c (u8s ys) (by simp [kS]) hcell (by omega) (by unfold maxLen;omega) (by omega)
    rw [zcm,←hlen] at ho;exact ⟨v',w',hr,zz ho hbase,(Touch.refl _ w).grown hg (fun k hk=>by cases hk),fun k hk => .inr (ho.lt k hk).1⟩
theorem zx {w:World}{ops:Array Oper}{rest:List Oper}{o:Oper}{a:Act}{Q:Exit→Act→World→Prop}(hgd:o.guard=none) (s x:Operand)
  (ho:o.op=.call { callee:=.builtin .append,args := #[s,x],argTypes := #[22,22] })
  (base:Nat) (v sv:Value) (xs ys:List Nat) (hs:a.eval s=v) (hx:a.eval x=sv) (hown:w.ownsRow base 5 1 v xs.length (u8s xs)) (hsrc:zi w sv ys) (hbase:base≤w.heap.size) (hl:xs.length+ys.length≤2000000000)
  (h:∀ ao c w',Apd w base v (xs++ys) (.slice ao (xs++ys).length c) w'→wpList prog ops Q rest (a.put o.dst (.slice ao (xs++ys).length c)) w'):wpList prog ops Q (o::rest) a w:=by
 refine wpList_plain hgd fun K hK=>?_
 obtain ⟨v',w',hrun,hA⟩:=y8 w o.type hown hsrc hbase hl;obtain ⟨ao,c,rfl⟩:=zr hA.own;unfold Oper.wp;simp [execOp,ho,resolve,invoke,builtin,hs,hx,hrun,Result.andThen];exact hK _ _ (by simpa using h ao c w' hA)
theorem qJ {ops:Array Oper}{o:Oper}{a:Act}{w:World}{K:Act→World→Prop}{Q:Exit→Act→World→Prop}{E:Prop}
  (hg:o.guard=none) (s x:Operand) (hop:o.op=Op.call { callee:=Callee.builtin Builtin.append,args := #[s,x],argTypes := #[22,22] })
  (base:Nat) (v sv:Value) (xs ys:List Nat) (hs:a.eval s=v) (hx:a.eval x=sv) (hown:w.ownsRow base 5 1 v xs.length (u8s xs)) (hsrc:zi w sv ys) (hbase:base≤w.heap.size) (hl:xs.length+ys.length≤2000000000)
  (hK:∀ ao c w',Apd w base v (xs++ys) (.slice ao (xs++ys).length c) w'→K (a.put o.dst (.slice ao (xs++ys).length c)) w') :
  if Region.wanted o (yielded ops a.tmps)=true then Oper.wp prog o a w K Q else E:=by
 have hw:Region.wanted o (yielded ops a.tmps)=true:=by simp [Region.wanted,hg]
 rw [if_pos hw];obtain ⟨v',w',hrun,hA⟩:=y8 w o.type hown hsrc hbase hl;obtain ⟨ao,c,rfl⟩:=zr hA.own;unfold Oper.wp;simp [execOp,hop,resolve,invoke,builtin,hs,hx,hrun,Result.andThen];have h:=hK ao c w' hA;simp only [List.length_append] at h;exact h
def UZ (w:World) (base t p:Nat) (g:Option Nat) (bs:List Nat) (n:Nat) (w':World):Prop:=
 ∃ g',Ob w' base t p g' bs n∧Touch (xG p g) w w'∧∀ k,g'=some k→g=some k∨w.heap.size≤k
theorem qB.grew {w:World}{base t p:Nat}{g:Option Nat}{bs:List Nat}{n:Nat}{w':World}(h:qB w base t p g bs n w'):UZ w base t p g bs n w':=
 ⟨g,h.1,h.2.mono fun _ h => .inl h,fun _ h => .inl h⟩
theorem UZ.on {w:World}{base t p:Nat}{g g1:Option Nat}{bs bs':List Nat}{n n':Nat}{w1 w2:World}(_ho:Ob w1 base t p g1 bs n) (ht:Touch (xG p g) w w1) (hr:∀ k,g1=some k→g=some k∨w.heap.size≤k) (h2:UZ w1 base t p g1 bs' n' w2):UZ w base t p g bs' n' w2:=by
 obtain ⟨g2,ho2,ht2,hr2⟩:=h2;refine ⟨g2,ho2,ht.trans' ht2 ?_,?_⟩
 ·intro i hi hlt
  rcases hi with rfl | hi
  ·exact .inl rfl
  ·rcases hr i hi with h | h
   ·exact .inr h
   ·omega
 ·intro k hk
  rcases hr2 k hk with h | h
  ·exact hr k h
  ·exact .inr (Nat.le_trans ht.size h)
theorem Xo {w w1:World}{base t p:Nat}{sv v':Value}{bs bs':List Nat}{n:Nat}(h:Ob w base t p sv.ownBlock bs n) (hA:Apd w base sv bs' v' w1) (hb:Bs bs') (hsv:w.heap[p]? = some (.cells #[sv,.int .i64 n] t (0,0))) :
  w1.heap[p]? = some (.cells #[sv,.int .i64 n] t (0,0))∧UZ w base t p sv.ownBlock bs' n (w1.setCell ⟨p,0,none⟩ v'):=by
 obtain ⟨hp,hg⟩:=h.lt;have h1:w1.heap[p]? = some (.cells #[sv,.int .i64 n] t (0,0)):=(hA.touch.block p hp (fun e=>by have:=hg p e;omega)).trans hsv;refine ⟨h1,v'.ownBlock,⟨⟨v',zgG h1,rfl,ownsRow_setCell_other hA.own (fun e=>?_) _⟩,h.hp,hb,h.ht⟩,?_,hA.row⟩
 ·rcases hA.row p e with e | e
  ·have:=hg p e;omega
  ·omega
 ·exact (hA.touch.mono fun k hk => .inr hk).setCell _ _ (.inl (.inl rfl))
end
end Go.Proofs.YtacpfpghokcdlaaGreatDoor
