/- Part 14. -/
import Derived.Test.YtacpfpghokcdlaaGreatDoorXB13
open Go.Proofs.Tryz
namespace Go.Proofs.YtacpfpghokcdlaaGreatDoor.Y
set_option maxRecDepth 100000
section
open Go.Lib renaming hid → J
open Go.RowKit Go.Sort
def Bks (key:Nat→Int) (d:Array Nat) (bs n f:Nat):Prop:=∀ s,f≤s→Asc key d (s*bs) (min (s*bs+bs) n)
def Fst (key:Nat→Int) (d:Array Nat) (bs t:Nat):Prop:=∀ s,s<t→Asc key d (s*bs) (s*bs+bs)
theorem Qn {s t bs:Nat}(h:s<t):s*bs+bs≤t*bs:=by
 have:=Nat.mul_le_mul_right bs (show s+1≤t from h);rw [Nat.add_mul] at this;omega
theorem Fst.step {key:Nat→Int}{d d':Array Nat}{bs t:Nat}(h:Fst key d bs t) (p:PermIn (t*bs) (t*bs+bs) d d') (a:Asc key d' (t*bs) (t*bs+bs)):Fst key d' bs (t+1):=fun s hs=>by
 by_cases e:s=t
 ·subst e;exact a
 ·refine (h s (by omega)).congr fun x _ hx=>zO p (.inl ?_)
  have:=Qn (bs:=bs) (show s<t by omega);omega
theorem Fst.last {key:Nat→Int}{d d':Array Nat}{bs t n:Nat}(h:Fst key d bs t) (hn:n<t*bs+bs) (p:PermIn (t*bs) n d d') (a:Asc key d' (t*bs) n):Bks key d' bs n 0:=fun s _=>by
 by_cases e:s<t
 ·have h2:=Qn (bs:=bs) e
  refine ((h s e).sub (Nat.le_refl _) (Nat.min_le_left _ _)).congr fun x _ hx=>zO p (.inl ?_)
  have:=Nat.min_le_left (s*bs+bs) n;omega
 ·by_cases e2:s=t
  ·subst e2;exact a.sub (Nat.le_refl _) (Nat.min_le_right _ _)
  ·have h2:=Qn (bs:=bs) (show t<s by omega)
   intro i j hi _ hj;have:=Nat.min_le_right (s*bs+bs) n;omega
theorem Bks.two {key:Nat→Int}{d:Array Nat}{bs n t:Nat}(h:Bks key d bs n (2*t)):Asc key d (t*(2*bs)) (min (t*(2*bs)+bs) n)∧Asc key d (t*(2*bs)+bs) (min (t*(2*bs)+2*bs) n):=by
 have h1:=h (2*t) (Nat.le_refl _);have h2:=h (2*t+1) (by omega);have e:2*t*bs=t*(2*bs):=by rw [Nat.mul_comm 2 t,Nat.mul_assoc]
 rw [Nat.add_mul,Nat.one_mul] at h2;rw [e] at h1 h2;refine ⟨h1,?_⟩;rwa [show t*(2*bs)+2*bs=t*(2*bs)+bs+bs by omega]
theorem Bks.step {key:Nat→Int}{d d':Array Nat}{bs n t:Nat}(h:Bks key d bs n (2*t)) (p:PermIn (t*(2*bs)) (t*(2*bs)+2*bs) d d'):Bks key d' bs n (2*(t+1)):=fun s hs=>by
 refine (h s (by omega)).congr fun x hx _=>zO p (.inr ?_)
 have:=Nat.mul_le_mul_right bs hs;rw [show 2*(t+1)*bs=t*(2*bs)+2*bs by rw [Nat.mul_comm 2,Nat.mul_assoc,Nat.add_mul];omega] at this;omega
structure Sd (key:Nat→Int) (w0:World) (b N:Nat) (d d':Array Nat) (W:World):Prop where
 s:Srt w0 b N d' W
 perm:PermIn 0 d.size d d'
 asc:Asc key d' 0 d.size
set_option maxHeartbeats 16000000 in
set_option maxRecDepth 100000 in
theorem za2 (cnt:Nat→Int) (cx b N c:Nat) (d:Array Nat) (w0 w:World) (HC0:Cmp cnt N cx b w0) (S:Srt w0 b N d w) (ST0:Stb cnt d) (hsz:d.size≤1000) :
  Calls prog 194 #[.slice (some ⟨b,0,none⟩) d.size c,.int .i64 d.size,.func (.func 187) #[] #[.pointer (some ⟨cx,0,none⟩)]] w fun e w'=>
   e=.returned (.tuple #[])∧∃ d',Sd (kz cnt) w0 b N d d' w':=by
 have S0:=J S;have HC:=J HC0;have ST:=J ST0;clear S HC0 ST0;go_enter func194,ntmps194;go_wp2;go_loopw [7,8] (fun av bv wr=>∃ (t:Nat) (dk:Array Nat),av=.int .i64 ((t*20:Nat):Int)∧bv=.int .i64 ((t*20+20:Nat):Int)∧t*20≤d.size∧dk.size=d.size∧Srt w0 b N dk wr∧Stb cnt dk∧PermIn 0 d.size d dk∧Fst (kz cnt) dk 20 t) (fun av _ _=>d.size-(intOf av).toNat)
 case atStart=>exact ⟨0,d,rfl,rfl,Nat.zero_le _,rfl,S0.out,ST.out,permIn_refl _ _ _,fun s hs=>by omega⟩
 case round=>
  obtain ⟨t,dk,rfl,rfl,ht,hdk,hs,hst,hp,hf⟩:=hrel;have TK:=J hst;have SR:=J hs;have HP:=J hp;have HF:=J hf;clear hs hst hp hf S0 ST;obtain ⟨a,ha⟩:=exq (t*20);obtain ⟨a2,ha2⟩:=exq (a+20);obtain ⟨a3,ha3⟩:=exq (a2+20);rw [←ha,←ha2];by_cases hle:a2≤d.size
  ·have hle':(a2:Int)≤d.size:=by omega
   have HR:=J (yi cnt cx b N c a a2 dk w0 wr HC.out SR.out TK.out (by omega) (by omega) (by omega));rw [hdk] at HR;have IS':=J (insertionSort_holds (lt:=ltk (kz cnt)) (zb0 (kz cnt)) dk a a2 (by omega) (by omega));have ea:=(show IntKind.i64.wrap ((a2:Int)+20)=a3 by rw [IntKind.wrap_i64];omega);have HA:=J (And.intro ha (And.intro ha2 ha3));clear ha ha2 ha3;go_wp2_with (go_at_call 197;(with_reducible refine HR.out.mono ?_);rintro e w' ⟨rfl,hR1⟩;have HR1:=J hR1;clear hR1);clear ea;go_roundw;case rel=>
    obtain ⟨h1,h2,h3⟩:=HA.out;refine ⟨t+1,_,by congr 1;omega,by congr 1;omega,by omega,?_,HR1.out,?_,?_,?_⟩
    ·rw [←hdk];exact IS'.out.1.1
    ·exact ul (by omega) TK.out IS'.out.1 (Asc.of_sorted IS'.out.2)
    ·exact permIn_trans _ _ _ _ _ HP.out (permIn_mono _ _ _ _ _ _ (Nat.zero_le _) (by omega) (by omega) IS'.out.1)
    ·refine HF.out.step (by rw [←h1,←h2];exact IS'.out.1) ?_
     rw [←h1,←h2];exact Asc.of_sorted IS'.out.2
   case measure=>have:=HA.out;simp [intOf];omega
  ·have hle':(d.size:Int)<a2:=by omega
   have HR:=J (yi cnt cx b N c a d.size dk w0 wr HC.out SR.out TK.out (by omega) (by omega) (by omega));rw [hdk] at HR;have IS':=J (insertionSort_holds (lt:=ltk (kz cnt)) (zb0 (kz cnt)) dk a d.size (by omega) (by omega));have HBK:Hid (Bks (kz cnt) (Sort.insertionSort (ltk (kz cnt)) dk a d.size) 20 d.size 0):=J (by
    refine HF.out.last (t:=t) (by omega) (by rw [←ha];exact IS'.out.1) ?_;rw [←ha];exact Asc.of_sorted IS'.out.2)
   have HPP:Hid (PermIn 0 d.size d (Sort.insertionSort (ltk (kz cnt)) dk a d.size)):=J (permIn_trans _ _ _ _ _ HP.out (permIn_mono _ _ _ _ _ _ (Nat.zero_le _) (Nat.le_refl _) (by omega) IS'.out.1));have TF:Hid (Stb cnt (Sort.insertionSort (ltk (kz cnt)) dk a d.size)):=J (ul (by omega) TK.out IS'.out.1 (Asc.of_sorted IS'.out.2));clear ha ha2 ha3 IS' HP HF TK;obtain ⟨d1,hd1⟩:=exq (Sort.insertionSort (ltk (kz cnt)) dk a d.size);rw [←hd1] at HBK HPP HR TF;clear hd1;go_wp2_with (go_at_call 197;(with_reducible refine HR.out.mono ?_);rintro e w' ⟨rfl,hR1⟩;have HR1:=J hR1;clear hR1);clear SR HR hle hle' ht hdk;go_loopw [6] (fun sv wr=>∃ (bs:Nat) (dk:Array Nat),sv=.int .i64 bs∧0<bs∧bs≤2000∧dk.size=d.size∧Srt w0 b N dk wr∧Stb cnt dk∧PermIn 0 d.size d dk∧Bks (kz cnt) dk bs d.size 0) (fun sv _=>d.size-(intOf sv).toNat)
   case atStart=>exact ⟨20,d1,rfl,by omega,by omega,HPP.out.1,HR1.out,TF.out,HPP.out,HBK.out⟩
   case round=>
    obtain ⟨bs,dk,rfl,hb0,hb1,hdk,hs,hst,hp,hf⟩:=hrel;have TK:=J hst;have SR:=J hs;have HP:=J hp;have HF:=J hf;clear hs hst hp hf HPP HBK HR1 TF;by_cases hlt:bs<d.size
    ·have hlt':(bs:Int)<d.size:=by omega
     obtain ⟨bd,hbd⟩:=exq (2*bs);have EB:=J (show IntKind.i64.wrap (2*(bs:Int))=bd by rw [IntKind.wrap_i64];omega);have EB2:=J (show IntKind.i64.wrap ((bs:Int)*2)=bd by rw [IntKind.wrap_i64];omega);have HD:=J hbd;have hbd1:bs<bd:=by omega
     have hbd2:bd≤2000:=by omega
     clear hbd;have eb:=EB.out;go_wp2;clear eb;go_loopw [7,8] (fun av bv wr=>∃ (t:Nat) (di:Array Nat),av=.int .i64 ((t*bd:Nat):Int)∧bv=.int .i64 ((t*bd+bd:Nat):Int)∧t*bd≤d.size∧di.size=d.size∧Srt w0 b N di wr∧Stb cnt di∧PermIn 0 d.size d di∧Fst (kz cnt) di bd t∧Bks (kz cnt) di bs d.size (2*t)) (fun av _ _=>d.size-(intOf av).toNat)
     case atStart=>
      exact ⟨0,dk,by rw [Nat.zero_mul];rfl,by rw [Nat.zero_mul,Nat.zero_add],by rw [Nat.zero_mul];exact Nat.zero_le _,hdk,SR.out,TK.out,HP.out,fun s hs=>absurd hs (Nat.not_lt_zero s),HF.out⟩
     case round=>
      obtain ⟨t,di,rfl,rfl,ht,hdi,hs,hst,hp,hf,hk⟩:=hrel;have TI:=J hst;have SI:=J hs;have PI:=J hp;have FI:=J hf;have KI:=J hk;have TW:Hid (Asc (kz cnt) di (t*bd) (min (t*bd+bs) d.size)∧Asc (kz cnt) di (t*bd+bs) (min (t*bd+bd) d.size)):=J (by
       have:=hk.two;rwa [←HD.out] at this)
      clear hs hst hp hf hk SR HP HF TK;obtain ⟨a,ha⟩:=exq (t*bd);have HA:=J ha;rw [←ha] at TW ht ⊢;clear ha;obtain ⟨am,ham⟩:=exq (a+bs);obtain ⟨a2,ha2⟩:=exq (a+bd);obtain ⟨a3,ha3⟩:=exq (a2+bd);have EM:=J (show IntKind.i64.wrap ((a:Int)+bs)=am by rw [IntKind.wrap_i64];omega);have HQ:=J (And.intro ham (And.intro ha2 ha3));rw [←ham,←ha2] at TW;rw [←ha2];by_cases hle:a2≤d.size
      ·have hle':(a2:Int)≤d.size:=by omega
       have HR:=J (Qi cnt cx b N c w0 HC.out (a2-a) a am a2 di wr (Nat.le_refl _) SI.out TI.out (by omega) (by omega) (by omega) (by omega) (by have:=TW.out.1;rwa [Nat.min_eq_left (by omega)] at this) (by have:=TW.out.2;rwa [Nat.min_eq_left (by omega)] at this));rw [hdi] at HR;have E3:=J (show IntKind.i64.wrap ((a2:Int)+bd)=a3 by rw [IntKind.wrap_i64];omega);clear ham ha2 ha3;have em:=EM.out;go_upto_region 11 with (go_at_call 198;(with_reducible refine HR.out.mono ?_);rintro e w' ⟨rfl,d2,hR1⟩;have HR1:=J hR1;clear hR1)
       clear em;have eb:=EB.out;have e3:=E3.out;go_wp2;clear eb e3;go_roundw;case rel=>
        obtain ⟨h1,h2,h3⟩:=HQ.out;have h4:=HA.out;have h5:=HD.out;have e1:(t+1)*bd=a2:=by rw [Nat.add_mul,←h4];omega
        refine ⟨t+1,d2,by rw [e1],by rw [e1,←h3],by omega,by rw [←hdi];exact HR1.out.perm.1,HR1.out.s,ul (by omega) TI.out HR1.out.perm HR1.out.asc,?_,?_,?_⟩
        ·exact permIn_trans _ _ _ _ _ PI.out (permIn_mono _ _ _ _ _ _ (Nat.zero_le _) (by omega) (by omega) HR1.out.perm)
        ·exact FI.out.step (by rw [←h4,←h2];exact HR1.out.perm) (by rw [←h4,←h2];exact HR1.out.asc)
        ·exact KI.out.step (by rw [←h5,←h4,←h2];exact HR1.out.perm)
       case measure=>have:=HQ.out;simp [intOf];omega
      ·have hle':(d.size:Int)<a2:=by omega
       by_cases hm:am<d.size
       ·have hm':(am:Int)<d.size:=by omega
        have HR:=J (Qi cnt cx b N c w0 HC.out (d.size-a) a am d.size di wr (Nat.le_refl _) SI.out TI.out (by omega) (by omega) (by omega) (by omega) (by have:=TW.out.1;rwa [Nat.min_eq_left (by omega)] at this) (by have:=TW.out.2;rwa [Nat.min_eq_right (by omega)] at this));rw [hdi] at HR;clear ham ha2 ha3;have em:=EM.out;go_upto_region 16 with (go_at_call 198;(with_reducible refine HR.out.mono ?_);rintro e w' ⟨rfl,d2,hR1⟩;have HR1:=J hR1;clear hR1)
        clear em;have eb:=EB2.out;go_wp2;clear eb;go_roundw;case rel=>
         have h2:=HQ.out.2.1;have h4:=HA.out;refine ⟨bd,d2,rfl,by omega,by omega,by rw [←hdi];exact HR1.out.perm.1,HR1.out.s,ul (by omega) TI.out HR1.out.perm HR1.out.asc,?_,?_⟩
         ·exact permIn_trans _ _ _ _ _ PI.out (permIn_mono _ _ _ _ _ _ (Nat.zero_le _) (Nat.le_refl _) (by omega) HR1.out.perm)
         ·exact FI.out.last (t:=t) (by rw [←h4];omega) (by rw [←h4];exact HR1.out.perm) (by rw [←h4];exact HR1.out.asc)
        case measure=>simp [intOf];omega
       ·have hm':(d.size:Int)≤am:=by omega
        have A1:Hid (Asc (kz cnt) di a d.size):=J (by have:=TW.out.1;rwa [Nat.min_eq_right (by omega)] at this);clear ham ha2 ha3;have em:=EM.out;go_upto_region 16 with fail
        clear em;have eb:=EB2.out;go_wp2;clear eb;go_roundw;case rel=>
         have h2:=HQ.out.2.1;have h4:=HA.out;refine ⟨bd,di,rfl,by omega,by omega,hdi,SI.out,TI.out,PI.out,?_⟩;exact FI.out.last (t:=t) (by rw [←h4];omega) (permIn_refl _ _ _) (by rw [←h4];exact A1.out)
        case measure=>simp [intOf];omega
    ·have hlt':(d.size:Int)≤bs:=by omega
     go_wp2;go_end0;refine ⟨rfl,dk,SR.out,HP.out,?_⟩;have:=HF.out 0 (Nat.le_refl _);rwa [Nat.zero_mul,Nat.zero_add,Nat.min_eq_right (by omega)] at this
theorem JZ (cnt:Nat→Int) (cx b N c:Nat) (d:Array Nat) (w0 w:World) (HC0:Cmp cnt N cx b w0) (S:Srt w0 b N d w) (ST0:Stb cnt d) (hsz:d.size≤1000) :
  Calls prog 186 #[.slice (some ⟨b,0,none⟩) d.size c,.func (.func 187) #[] #[.pointer (some ⟨cx,0,none⟩)]] w fun e w'=>
   e=.returned (.tuple #[])∧∃ d',Sd (kz cnt) w0 b N d d' w':=by
 have HR:=J (za2 cnt cx b N c d w0 w HC0 S ST0 hsz);clear S HC0 ST0;go_enter func186,ntmps186;go_wp2_with (go_at_call 194;(with_reducible refine HR.out.mono ?_);rintro e w' ⟨rfl,d2,hR1⟩;have HR1:=J hR1;clear hR1);go_end0;exact ⟨rfl,d2,HR1.out⟩
theorem Ki (cx:Nat) (w:World):Calls prog 197 #[.slice none 0 0,.int .i64 0,.int .i64 0,.func (.func 187) #[] #[.pointer (some ⟨cx,0,none⟩)]] w fun e w'=>e=.returned (.tuple #[])∧w'=w:=by
 go_enter func197,ntmps197;go_wp2;refine wp_loop_rounds 1 ?_;rw [rounds_succ];go_wp2;go_end0;exact ⟨rfl,rfl⟩
theorem zbm (cx:Nat) (w:World):Calls prog 194 #[.slice none 0 0,.int .i64 0,.func (.func 187) #[] #[.pointer (some ⟨cx,0,none⟩)]] w fun e w'=>e=.returned (.tuple #[])∧w'=w:=by
 go_enter func194,ntmps194;go_wp2;refine wp_loop_rounds 1 ?_;rw [rounds_succ];go_wp2_with (go_at_call 197;refine (Ki cx _).mono ?_;rintro e w' ⟨rfl,rfl⟩);refine wp_loop_rounds 1 ?_;rw [rounds_succ];go_wp2;go_end0;exact ⟨rfl,rfl⟩
theorem zeK (cx:Nat) (w:World):Calls prog 186 #[.slice none 0 0,.func (.func 187) #[] #[.pointer (some ⟨cx,0,none⟩)]] w fun e w'=>e=.returned (.tuple #[])∧w'=w:=by
 go_enter func186,ntmps186;go_wp2_with (go_at_call 194;refine (zbm cx _).mono ?_;rintro e w' ⟨rfl,rfl⟩);go_end0;exact ⟨rfl,rfl⟩
theorem jK (w:World) (e:TypeId) (u:Value):zI (w.alloc (.cells #[u] e)) (.slice (some ⟨w.heap.size,0,none⟩) 1 1) 1 [u]:=by
 refine .inr ⟨_,1,rfl,fun j x hx=>?_⟩;rw [Addr.add_lit,Nat.zero_add,(Blk.made w e _).cell];have:j<1:=(List.getElem?_eq_some_iff.1 hx).1;obtain rfl:j=0:=by omega
 simpa using hx
def usd (ns:List Nat) (k:Nat):List Nat:=(List.range k).filter fun s=>decide (0<ns.getD s 0)
theorem zgy (ns:List Nat) (k:Nat):usd ns (k+1)=if 0<ns.getD k 0 then usd ns k++[k] else usd ns k:=by
 unfold usd;rw [List.range_succ,List.filter_append,List.filter_cons,List.filter_nil];by_cases h:0<ns.getD k 0
 ·rw [if_pos h,if_pos (decide_eq_true h)]
 ·rw [if_neg h,if_neg (by rw [decide_eq_false h];simp),List.append_nil]
theorem Qp (ns:List Nat) (k:Nat):(usd ns k).length≤k:=by
 have:=List.length_filter_le (fun s=>decide (0<ns.getD s 0)) (List.range k);simpa [usd] using this
theorem yD {ns:List Nat}{k s:Nat}:s∈usd ns k↔s<k∧0<ns.getD s 0:=by simp [usd]
structure kb (ns us:List Nat):Prop where
 perm:us.Perm (usd ns ns.length)
 up:Up (cts ns us)
 lex:us.Pairwise fun a b=>ns.getD a 0<ns.getD b 0∨(ns.getD a 0=ns.getD b 0∧a≤b)
theorem kb.mem {ns us:List Nat}(h:kb ns us){s:Nat}:s∈us↔s<ns.length∧0<ns.getD s 0:=by rw [h.perm.mem_iff,yD]
theorem kb.nodup {ns us:List Nat}(h:kb ns us):us.Nodup:=h.perm.nodup_iff.2 (List.Nodup.sublist List.filter_sublist List.nodup_range)
def zk9 (ns:List Nat) (w:World) (e:Ending) (w':World):Prop:=
 ∃ bo cu us,e=.returned (.slice bo us.length cu)∧kb ns us∧IS w' bo (ints us)∧Below w.heap.size w w'∧∀ b off,bo=some ⟨b,off,none⟩→w.heap.size≤b∧b<w'.heap.size
theorem JA {ns:List Nat}{d':Array Nat}(hp:PermIn 0 (usd ns ns.length).toArray.size (usd ns ns.length).toArray d') (hn:ns.length≤1024) (ha:Asc (kz fun s=>(ns.getD s 0:Int)) d' 0 (usd ns ns.length).toArray.size):kb ns d'.toList:=by
 obtain ⟨h1,_,h3⟩:=hp;have e1:d'.extract 0 (usd ns ns.length).toArray.size=d':=by rw [←h1];simp
 have e2:(usd ns ns.length).toArray.extract 0 (usd ns ns.length).toArray.size=(usd ns ns.length).toArray:=by simp
 rw [e1,e2] at h3;have hm:∀ x∈d'.toList,x<ns.length:=fun x hx=>by
  have h5:d'.toList.Perm (usd ns ns.length):=by simpa using h3
  exact (yD.1 (h5.mem_iff.1 hx)).1
 have hl:d'.toList.Pairwise fun a b=>ns.getD a 0<ns.getD b 0∨(ns.getD a 0=ns.getD b 0∧a≤b):=List.pairwise_iff_getElem.2 fun i j hi hj hij=>by
  have hi':i<d'.size:=by simpa using hi
  have hj':j<d'.size:=by simpa using hj
  have:=ha i j (Nat.zero_le _) (by omega) (by rw [←h1];exact hj');rw [getElem!_pos d' i hi',getElem!_pos d' j hj'] at this;have b1:=hm d'[i] (by simp);have b2:=hm d'[j] (by simp);have h5:(ns.getD d'[i] 0:Int)*1024+(d'[i]:Nat)≤(ns.getD d'[j] 0:Int)*1024+(d'[j]:Nat):=this;rw [Array.getElem_toList,Array.getElem_toList];omega
 refine ⟨by simpa using h3,?_,hl⟩;unfold Up cts;rw [List.pairwise_map];exact hl.imp fun h=>by omega
set_option maxHeartbeats 4000000 in
theorem zgS (ao:Option Addr) (c:Nat) (ns:List Nat) (w:World) (h:IS w ao (ints ns)) (hl:ns.length≤320) :
  Calls prog 176 #[.slice ao ns.length c] w (zk9 ns w):=by
 have HI:=J h;clear h;go_enter func176,ntmps176;go_wp2;obtain ⟨cx,hcx⟩:=exq (w.heap.size);have HCX:=J hcx;have H0:Hid (Blk (w.alloc (.cells #[.slice ao ns.length c] 40)) cx 40 #[.slice ao ns.length c]∧Below w.heap.size w (w.alloc (.cells #[.slice ao ns.length c] 40))∧(w.alloc (.cells #[.slice ao ns.length c] 40)).ownsRow (cx+1) 3 1 (.slice none 0 0) (usd ns 0).length (iv (ints (usd ns 0)))∧cx+1≤(w.alloc (.cells #[.slice ao ns.length c] 40)).heap.size):=
  J ⟨by rw [hcx];exact Blk.made _ _ _,(Below.refl _ w).alloc (Nat.le_refl _) _,World.ownsRow_nil _ _ _ _,by rw [hcx];simp⟩
 rw [←hcx];clear hcx;go_loopw [3,8] (fun v iv' wr=>∃ (k:Nat) (bo:Option Addr) (cu:Nat),k≤ns.length∧iv' = .int .i64 k∧v=.slice bo (usd ns k).length cu∧Blk wr cx 40 #[.slice ao ns.length c]∧Below w.heap.size w wr∧wr.ownsRow (cx+1) 3 1 (.slice bo (usd ns k).length cu) (usd ns k).length (iv (ints (usd ns k)))∧cx+1≤wr.heap.size) (fun _ iv' _=>ns.length-(intOf iv').toNat)
 case atStart=>exact ⟨0,none,0,Nat.zero_le _,rfl,rfl,H0.out⟩
 case round=>
  obtain ⟨k,bo,cu,hk,rfl,rfl,hbx,hb,hown,hcs⟩:=hrel;have HBX:=J hbx;have HB:=J hb;have HO:=J hown;have hul:=Qp ns k;clear hbx hb hown H0;by_cases hlt:k<ns.length
  ·have hkk:(k:Int)<ns.length:=by omega
   obtain ⟨b1,o1,rfl,q1⟩:=(HI.out.below HB.out).nat hlt;obtain ⟨x,hx⟩:=exq (ns.getD k 0);have HU:=J (zgy ns k);rw [←hx] at q1 HU;obtain ⟨P,hP⟩:=exq (usd ns k);rw [←hP] at HO HU hul ⊢;by_cases h0:0<x
   ·have h0':(0:Int)<x:=by omega
    rw [if_pos h0] at HU;clear hP hx;go_wp2_with (refine ze kg rfl (.tmp 15) (.tmp 17) rfl (cx+1) (.slice bo P.length cu) (.slice (some ⟨wr.heap.size,0,none⟩) 1 1) P.length 1 (iv (ints P)) [.int .i64 (k:Nat)] rfl rfl (World.ownsRow.alloc (w:=wr) HO.out _) (jK wr 3 _) rfl (by simp [Value.oneCell']) (by simp;omega) (by omega) (by omega) ?_;intro ao2 cc2 w3 hA;have HA:=J hA;clear hA);go_roundw;case rel=>
     have hlen:(usd ns (k+1)).length=P.length+1:=by rw [HU.out];simp
     have hA:=HA.out;have hBe:=hA.below (World.ownsRow.alloc (w:=wr) HO.out _) (by simp;omega);have tA:Touch (fun _=>False) wr (wr.alloc (.cells #[.int .i64 (k:Nat)] 3)):=(Touch.refl _ wr).alloc _;refine ⟨k+1,ao2,cc2,by omega,by go_num,by rw [hlen],?_,?_,?_,?_⟩
     ·exact (HBX.out.touch tA (fun h=>h)).low hBe (by omega)
     ·exact (HB.out.alloc HB.out.size _).trans (hBe.mono (by rw [←HCX.out];omega))
     ·have:=hA.own
      rw [hlen,HU.out];rw [show iv (ints (P++[k]))=iv (ints P)++[.int .i64 (k:Nat)] by simp [iv,ints]];exact this
     ·exact Nat.le_trans hcs (Nat.le_trans (by simp) hBe.size)
    case measure=>simp [intOf];omega
   ·have h0':(x:Int)≤0:=by omega
    rw [if_neg h0] at HU;clear hP hx;go_wp2;go_roundw;case rel=>exact ⟨k+1,bo,cu,by omega,by go_num,by rw [HU.out],HBX.out,HB.out,by rw [HU.out];exact HO.out,hcs⟩
    case measure=>simp [intOf];omega
  ·have hk':k=ns.length:=by omega
   subst hk';rcases HO.out.2 with ⟨e,h0⟩ | ⟨g,cap,cur,e,hbg,hh,hnc,hcm,hcs2,htake⟩
   ·simp only [Value.slice.injEq] at e
    obtain ⟨rfl,_,rfl⟩:=e;have he:usd ns ns.length=[]:=List.eq_nil_of_length_eq_zero h0;rw [h0];go_wp2_with (go_at_call 186;refine (zeK cx _).mono ?_;rintro e w' ⟨rfl,rfl⟩);go_ret;exact ⟨none,0,[],rfl,⟨by rw [he],by simp [cts,Up],List.Pairwise.nil⟩,.inl rfl,HB.out,fun b off e=>by cases e⟩
   ·simp only [Value.slice.injEq] at e
    obtain ⟨rfl,_,rfl⟩:=e;obtain ⟨d,hd⟩:=exq ((usd ns ns.length).toArray);have hds:d.size=(usd ns ns.length).length:=by rw [hd];simp
    have hS:Srt wr g ns.length d wr:=by
     refine ⟨fun i hi=>?_,fun i hi=>?_,Touch.refl _ _,(Array.getElem?_eq_some_iff.1 hh).1,fun i hi=>?_⟩
     ·have h5:=World.ownsRow.cellAt HO.out i (by omega)
      rw [h5,zfM _ i (by rw [zj];omega),ints_at,getElem!_pos d i hi];have h6:d[i]=(usd ns ns.length).getD i 0:=by simp [hd,List.getD,show i<(usd ns ns.length).length by omega]
      rw [h6]
     ·have hh':Blk wr g 3 cur:=hh
      exact hh'.free i
     ·rw [getElem!_pos d i hi]
      have h6:d[i]∈usd ns ns.length:=by simp [hd]
      exact (yD.1 h6).1
    have hgw:w.heap.size≤g:=by rw [←HCX.out];omega
    have hC:Cmp (fun s=>(ns.getD s 0:Int)) ns.length cx g wr:=⟨by omega,fun W hT x y hx hy=>by
     have h1:=(HBX.out.touch hT (by omega)).cell 0;have h2:IS W ao (ints ns):=(HI.out.below HB.out).touch hT fun b off e hne=>by
      rcases HI.out with h | ⟨b',off',rfl,hc⟩
      ·exact absurd h hne
      ·have e':=Option.some.inj e
       simp only [Addr.mk.injEq] at e';have h7:=World.block_lt_of_cell? w ⟨b',off'+0,none⟩ (hc 0 (by rw [zj];omega));have h8:b'<w.heap.size:=h7;omega
     obtain ⟨b1,o1,rfl,q1⟩:=h2.nat hx;obtain ⟨b2,o2,e2,q2⟩:=h2.nat hy;obtain ⟨rfl,rfl⟩:b1=b2∧o1=o2:=by simpa using e2
     exact zgO cx b1 o1 c ns.length _ _ x y hx hy W h1 q1 q2⟩
    have hT:Stb (fun s=>(ns.getD s 0:Int)) d:=fun i j hij hj _=>by
     rw [getElem!_pos d i (by omega),getElem!_pos d j hj];have hp:(usd ns ns.length).Pairwise (· < ·):=List.Pairwise.filter _ List.pairwise_lt_range;subst hd;have:=List.pairwise_iff_getElem.1 hp i j (by simpa using (show i<_ by omega)) (by simpa using hj) hij;simp only [List.getElem_toArray];omega
    have HR:=J (JZ _ cx g ns.length cu d wr wr hC hS hT (by omega));rw [hds] at HR;have HD:=J hd;have hgl:g<wr.heap.size:=(Array.getElem?_eq_some_iff.1 hh).1;clear hS hC hT hh htake hcs2 hds hd;go_wp2_with (go_at_call 186;(with_reducible refine HR.out.mono ?_);rintro e w' ⟨rfl,d',hR1⟩;have HR1:=J hR1;clear hR1);go_ret;have hU:kb ns d'.toList:=by
     refine JA ?_ (by omega) ?_
     ·rw [←HD.out];exact HR1.out.perm
     ·rw [←HD.out];exact HR1.out.asc
    have hl':(usd ns ns.length).length=d'.toList.length:=hU.perm.length_eq.symm;refine ⟨some ⟨g,0,none⟩,cu,d'.toList,by rw [←hl'];rfl,hU,.inr ⟨g,0,rfl,fun j hj=>?_⟩,?_,fun b off e=>?_⟩
    ·rw [zj] at hj
     have hj':j<d'.size:=by simpa using hj
     have h9:=HR1.out.s.cell j hj';rw [Nat.zero_add,h9,ints_at,getElem!_pos d' j hj'];simp [List.getD,hj']
    ·exact HB.out.trans (HR1.out.s.touch.below HB.out.size fun k hk=>by omega)
    ·cases e
     exact ⟨hgw,Nat.lt_of_lt_of_le hgl HR1.out.s.touch.size⟩
end
section
open Go.Lib renaming hid → J
open Go.RowKit
def Bad (l m n:Int):Prop:=n<l∨m<n
instance (l m n:Int):Decidable (Bad l m n):=inferInstanceAs (Decidable (_∨_))
structure Kept (w:World) (p q:Nat) (l m:Int):Prop where
 lo:w.cell? ⟨p,0,none⟩=some (.int .i64 l)
 hi:w.cell? ⟨q,0,none⟩=some (.int .i64 m)
def zW (p q:Nat):Value:=.func (.func 185) #[] #[.pointer (some ⟨p,0,none⟩),.pointer (some ⟨q,0,none⟩)]
def Xe (l m:Int) (w:World) (e:Ending) (w':World):Prop:=∃ p q,e=.returned (zW p q)∧Kept w' p q l m∧Below w.heap.size w w'∧w.heap.size≤p∧w.heap.size≤q
theorem zm (l m:Int) (w:World):Calls prog 174 #[.int .i64 l,.int .i64 m] w (Xe l m w):=by
 go_enter func174,ntmps174;go_wp2;go_ret;refine ⟨_,_,rfl,?_,((Below.refl _ w).alloc (Nat.le_refl _) _).alloc (by simp) _,Nat.le_refl _,by simp⟩;exact ⟨by simp,by simp⟩
theorem y5 (p q:Nat) (l m n:Int) (w:World) (hK:Kept w p q l m) (h:Bad l m n) :
  Calls prog 185 #[.int .i64 n,.pointer (some ⟨p,0,none⟩),.pointer (some ⟨q,0,none⟩)] w fun e w'=>e=.returned (.bool true)∧w'=w:=by
 have h1:=hK.lo;have h2:=hK.hi;clear hK;by_cases c:n<l
 ·go_enter func185,ntmps185
  go_wp2;go_ret;exact ⟨rfl,rfl⟩
 ·have c2:m<n:=by rcases h with h | h;exact absurd h c;exact h
  have c':l≤n:=Int.not_lt.mp c;clear h c;go_enter func185,ntmps185;go_wp2;go_ret;exact ⟨rfl,rfl⟩
theorem qM (p q:Nat) (l m n:Int) (w:World) (hK:Kept w p q l m) (h:¬Bad l m n) :
  Calls prog 185 #[.int .i64 n,.pointer (some ⟨p,0,none⟩),.pointer (some ⟨q,0,none⟩)] w fun e w'=>e=.returned (.bool false)∧w'=w:=by
 have h1:=hK.lo;have h2:=hK.hi;have c1:l≤n:=Int.not_lt.mp fun c=>h (.inl c)
 have c2:n≤m:=Int.not_lt.mp fun c=>h (.inr c)
 clear hK h;have d2:decide (m<n)=false:=decide_eq_false (by omega);have d1:decide (n<l)=false:=decide_eq_false (by omega);go_enter func185,ntmps185;go_wp2;go_ret;exact ⟨rfl,rfl⟩
set_option maxHeartbeats 800000 in
theorem ze5 (ao:Option Addr) (c p q:Nat) (l m:Int) (zs:List Int) (w:World) (hl:zs.length≤1000) (h:IS w ao zs) (hK:Kept w p q l m) (hg:∀ z∈zs,¬Bad l m z) :
  Calls prog 72 #[.slice ao zs.length c,zW p q] w fun e w'=>e=.returned (.int .i64 (-1))∧w'=w:=by
 have HI:=J h;have HK:=J hK;have HG:=J hg;clear h hK hg;unfold zW;go_enter func72,ntmps72;go_wp2;go_loop [8] (fun i=>∃ k:Nat,k≤zs.length∧i=.int .i64 k) (fun i=>zs.length-(intOf i).toNat)
 case atStart=>exact ⟨0,Nat.zero_le _,rfl⟩
 case round=>
  obtain ⟨k,hk,rfl⟩:=hrel;by_cases hlt:k<zs.length
  ·have hkk:(k:Int)<zs.length:=by omega
   obtain ⟨b,off,rfl,hcell⟩:=HI.out.at hlt;have HB:=J (HG.out _ (jD hlt));obtain ⟨x,hx⟩:=exq (zs.getD k 0);rw [←hx] at hcell HB;clear hx;go_wp2_with (go_at_call 185;(refine (qM p q l m x _ HK.out HB.out).mono ?_);rintro e w' ⟨rfl,rfl⟩);go_round
   case rel=>exact ⟨k+1,by omega,by go_num⟩
   case measure=>simp [intOf];omega
  ·have hk':k=zs.length:=by omega
   subst hk';go_wp2;go_ret;exact ⟨rfl,rfl⟩
set_option maxHeartbeats 800000 in
theorem zes (ao:Option Addr) (c p q:Nat) (l m:Int) (zs:List Int) (w:World) (hl:zs.length≤1000) (h:IS w ao zs) (hK:Kept w p q l m) (hg:∃ z∈zs,Bad l m z) :
  Calls prog 72 #[.slice ao zs.length c,zW p q] w fun e w'=>(∃ k:Nat,e=.returned (.int .i64 k))∧w'=w:=by
 have HI:=J h;have HK:=J hK;have HG:=J hg;clear h hK hg;unfold zW;go_enter func72,ntmps72;go_wp2;go_loop [8] (fun i=>∃ k:Nat,k≤zs.length∧i=.int .i64 k∧∀ j,j<k→¬Bad l m (zs.getD j 0)) (fun i=>zs.length-(intOf i).toNat)
 case atStart=>exact ⟨0,Nat.zero_le _,rfl,fun j hj=>absurd hj (Nat.not_lt_zero j)⟩
 case round=>
  obtain ⟨k,hk,rfl,hj⟩:=hrel;have HJ:=J hj;clear hj;by_cases hlt:k<zs.length
  ·have hkk:(k:Int)<zs.length:=by omega
   obtain ⟨b,off,rfl,hcell⟩:=HI.out.at hlt;obtain ⟨x,hx⟩:=exq (zs.getD k 0);have HX:=J hx;rw [←hx] at hcell;clear hx;by_cases hb:Bad l m x
   ·have HB:=J hb
    clear hb;go_wp2_with (go_at_call 185;(refine (y5 p q l m x _ HK.out HB.out).mono ?_);rintro e w' ⟨rfl,rfl⟩);go_ret;exact ⟨⟨k,rfl⟩,rfl⟩
   ·have HB:=J hb
    clear hb;go_wp2_with (go_at_call 185;(refine (qM p q l m x _ HK.out HB.out).mono ?_);rintro e w' ⟨rfl,rfl⟩);go_round
    case rel=>
     refine ⟨k+1,by omega,by go_num,fun j hj=>?_⟩
     by_cases e:j=k
     ·subst e;rw [←HX.out];exact HB.out
     ·exact HJ.out j (by omega)
    case measure=>simp [intOf];omega
  ·exfalso
   obtain ⟨z,hz,hb⟩:=HG.out;obtain ⟨j,hj,rfl⟩:=List.getElem_of_mem hz;have:=HJ.out j (by omega);simp [List.getD,hj] at this;exact this hb
def xW (l m:Int) (zs:List Int):Bool:=zs.any fun z=>decide (Bad l m z)
theorem qv (ao:Option Addr) (c p q:Nat) (l m:Int) (zs:List Int) (w:World) (hl:zs.length≤1000) (h:IS w ao zs) (hK:Kept w p q l m) :
  Calls prog 175 #[.slice ao zs.length c,zW p q] w fun e w'=>e=.returned (.bool (xW l m zs))∧w'=w:=by
 by_cases hg:∃ z∈zs,Bad l m z
 ·have HR:=J (zes ao c p q l m zs w hl h hK hg)
  have e:xW l m zs=true:=by
   obtain ⟨z,hz,hb⟩:=hg;unfold xW;rw [List.any_eq_true];exact ⟨z,hz,decide_eq_true hb⟩
  rw [e];clear h hK hg e;unfold zW at HR ⊢;go_enter func175,ntmps175;go_wp2_with (go_at_call 72;(with_reducible refine HR.out.mono ?_);rintro e w' ⟨⟨k,rfl⟩,rfl⟩);go_ret;exact ⟨by simp,rfl⟩
 ·have HR:=J (ze5 ao c p q l m zs w hl h hK fun z hz hb=>hg ⟨z,hz,hb⟩)
  have e:xW l m zs=false:=by
   unfold xW;rw [List.any_eq_false];intro z hz hb;exact hg ⟨z,hz,of_decide_eq_true hb⟩
  rw [e];clear h hK hg e;unfold zW at HR ⊢;go_enter func175,ntmps175;go_wp2_with (go_at_call 72;(with_reducible refine HR.out.mono ?_);rintro e w' ⟨rfl,rfl⟩);go_ret;exact ⟨by simp,rfl⟩
def QC:Int:=1099511627776
def zmo (zs:List Int) (limit:Int):Prop:=320<zs.length∨xW 0 QC zs=true∨Bad 1 15 limit
def No (er:Int) (w:World) (e:Ending) (w':World):Prop:=e=.returned (.tuple #[.slice none 0 0,.int .i64 er])∧Below w.heap.size w w'
set_option maxHeartbeats 4000000 in
set_option maxRecDepth 100000 in
theorem zjF (ao:Option Addr) (c:Nat) (zs:List Int) (limit:Int) (w:World) (h:IS w ao zs) (hw:zmo zs limit) :
  Calls prog 161 #[.slice ao zs.length c,.int .i64 limit] w (No 11 w):=by
 have HI:=J h;clear h;by_cases c1:320<zs.length
 ·have c1':(320:Int)<zs.length:=by omega
  clear hw;go_enter func161,ntmps161;go_wp2_with (first
   | (go_at_call 174;refine (zm _ _ _).mono ?_;rintro e w1 ⟨p,q,rfl,hk,hb,hp,hq⟩;have HK:=J hk;have HB:=J hb;clear hk hb))
  go_ret2
  exact ⟨rfl,HB.out⟩
 ·have c1':decide ((320:Int)<zs.length)=false:=by simp;omega
  have c1'':(zs.length:Int)≤320:=by omega
  cases hb:xW 0 QC zs with
  | true=>
   have HBD:=J hb;clear hw hb;go_enter func161,ntmps161;go_wp2_with (first
    | (go_at_call 174;refine (zm _ _ _).mono ?_;rintro e w1 ⟨p,q,rfl,hk,hb,hp,hq⟩;have HK:=J hk;have HB:=J hb;clear hk hb;unfold zW)
    | (go_at_call 175;refine (qv ao c p q 0 QC zs w1 (by omega) (HI.out.below HB.out) HK.out).mono ?_;rintro e w2 ⟨rfl,rfl⟩;rw [HBD.out]))
   go_ret2
   exact ⟨rfl,HB.out⟩
  | false=>
   have hbad:Bad 1 15 limit:=by
    rcases hw with h | h | h
    ·exact absurd h c1
    ·rw [hb] at h;cases h
    ·exact h
   have HBD:=J hb;have HLB:=J hbad;clear hw hb hbad;go_enter func161,ntmps161;go_upto_region 2 with (go_at_call 174;refine (zm _ _ _).mono ?_;rintro e w1 ⟨p,q,rfl,hk,hb,hp,hq⟩;have HK:=J hk;have HB:=J hb;clear hk hb;unfold zW)
   go_wp2_with (first
    | (go_at_call 175;refine (qv ao c p q 0 QC zs w1 (by omega) (HI.out.below HB.out) HK.out).mono ?_;rintro e w2 ⟨rfl,rfl⟩;rw [HBD.out])
    | (go_at_call 174;refine (zm 1 15 _).mono ?_;rintro e w3 ⟨p2,q2,rfl,hk2,hb2,hp2,hq2⟩;have HK2:=J hk2;have HB2:=J hb2;clear hk2 hb2;unfold zW)
    | (go_at_call 185;refine (y5 p2 q2 1 15 limit _ HK2.out HLB.out).mono ?_;rintro e w4 ⟨rfl,rfl⟩))
   go_ret2
   exact ⟨rfl,HB.out.trans (HB2.out.mono HB.out.size)⟩
structure zd4 (zs:List Int) (lim:Nat):Prop where
 len:zs.length≤320
 all:∀ z∈zs,0≤z∧z≤QC
 lim:1≤lim∧lim≤15
theorem zd4.nobad {zs:List Int}{lim:Nat}(h:zd4 zs lim):xW 0 QC zs=false:=by
 unfold xW;rw [List.any_eq_false];intro z hz hb;have:=h.all z hz;rcases of_decide_eq_true hb with h1 | h1 <;> omega
theorem zd4.ints {zs:List Int}{lim:Nat}(h:zd4 zs lim):YtacpfpghokcdlaaGreatDoor.Y.ints (nat zs)=zs:=by
 unfold YtacpfpghokcdlaaGreatDoor.Y.ints nat;rw [List.map_map];conv=>rhs;rw [←List.map_id zs]
 apply List.map_congr_left;intro z hz;have:=(h.all z hz).1;simp only [Function.comp,id];omega
def ju (cs:List Nat) (D:Nat):Nat→Nat:=if cs.length=1 then fun _=>1 else la (top cs D)
def zlQ (zs:List Int) (lim:Nat) (w:World) (e:Ending) (w':World):Prop:=
 ∃ g us,e=.returned (.tuple #[.slice (some ⟨g,0,none⟩) zs.length zs.length,.int .i64 0])∧kb (nat zs) us∧us.length≤2^lim∧Blk w' g 3 (ia zs.length (LF us (ju (cts (nat zs) us) (lim-1))))∧Below w.heap.size w w'∧w.heap.size≤g
theorem zf2 {cs:List Nat}(h:2≤cs.length) (k:Nat):row cs k≠[]:=fun e=>by
 have:=JF cs k;rw [e,List.length_nil] at this;omega
theorem zap {W:World}{gl N b off j:Nat}{f:Nat→Nat}{ao:Option Addr}{cs:List Nat}(hA:Blk W gl 3 (ia N f)) (h:CS W ao (row cs j)) (e:ao=some ⟨b,off,none⟩) (h2:2≤cs.length):b≠gl:=by
 rcases h with h | ⟨b',off',rfl,hc⟩
 ·exact absurd h (zf2 h2 j)
 ·have e':=Option.some.inj e
  simp only [Addr.mk.injEq] at e';rw [←e'.1];exact UG hA hc (zf2 h2 j)
theorem Rst.split {w W:World}{cs:List Nat}{k c5:Nat}{a5:Option Addr}(h:Rst w W cs k (.slice a5 k c5)) (hk:1≤k) :
  ∃ (g:Nat) (rs:Nat→Sv),a5=some ⟨g,0,none⟩∧w.heap.size≤g∧g<W.heap.size∧(∀ j,j<k→W.cell? ⟨g,j,none⟩=some (sv (rs j)))∧
   ∀ j,j<k→(rs j).2.1=(row cs j).length∧(row cs j).length≤(rs j).2.2∧CS W (rs j).1 (row cs j)∧∀ b off,(rs j).1=some ⟨b,off,none⟩→b<W.heap.size:=by
 obtain ⟨vals,ho,hv⟩:=h.own;rcases ho.2 with ⟨e,h0⟩ | ⟨g,cap,cur,e,hbg,hh,hnc,hcm,hcs,htake⟩
 ·omega
 ·simp only [Value.slice.injEq] at e
  obtain ⟨rfl,_,rfl⟩:=e;have hsv:∀ j,∃ x:Sv,j<k→vals[j]? = some (sv x)∧x.2.1=(row cs j).length∧(row cs j).length≤x.2.2∧CS W x.1 (row cs j)∧∀ b off,x.1=some ⟨b,off,none⟩→b<W.heap.size:=fun j=>by
   by_cases hj:j<k
   ·obtain ⟨ao,c,h1,h2⟩:=hv j hj
    exact ⟨(ao,(row cs j).length,c),fun _=>⟨h1,rfl,h2.room,h2.cs,fun b off e=>(h2.lt b off e).1⟩⟩
   ·exact ⟨(none,0,0),fun h=>absurd h hj⟩
  refine ⟨g,fun j=>Classical.choose (hsv j),rfl,hbg,(Array.getElem?_eq_some_iff.1 hh).1,fun j hj=>?_,fun j hj=>(Classical.choose_spec (hsv j) hj).2⟩;rw [World.ownsRow.cellAt ho j (by omega)];exact (Classical.choose_spec (hsv j) hj).1
set_option maxHeartbeats 8000000 in
set_option maxRecDepth 100000 in
theorem zau (ao:Option Addr) (c:Nat) (zs:List Int) (lim:Nat) (w:World) (h:IS w ao zs) (hf:zd4 zs lim) :
  Calls prog 161 #[.slice ao zs.length c,.int .i64 lim] w fun e w'=>(2^lim<(usd (nat zs) zs.length).length∧No 14 w e w')∨zlQ zs lim w e w':=by
 have HI:=J h;have HF:=J hf;have HBD:=J hf.nobad;have HLB:Hid (¬Bad 1 15 (lim:Int)):=J (by unfold Bad;have:=hf.lim;omega);have c1':decide ((320:Int)<zs.length)=false:=by simp;have:=hf.len;omega
 have c1'':(zs.length:Int)≤320:=by have:=hf.len;omega
 have hl1:=hf.lim.1;have hl2:=hf.lim.2;have HNL:Hid ((nat zs).length=zs.length):=J (xt zs);clear h hf;go_enter func161,ntmps161;go_upto_region 2 with (go_at_call 174;refine (zm _ _ _).mono ?_;rintro e w1 ⟨p,q,rfl,hk,hb,hp,hq⟩;have HK:=J hk;have HB:=J hb;clear hk hb;unfold zW)
 go_upto_region 4 with (first
  | (go_at_call 175;refine (qv ao c p q 0 QC zs w1 (by omega) (HI.out.below HB.out) HK.out).mono ?_;rintro e w2 ⟨rfl,rfl⟩;rw [HBD.out])
  | (go_at_call 174;refine (zm 1 15 _).mono ?_;rintro e w3 ⟨p2,q2,rfl,hk2,hb2,hp2,hq2⟩;have HK2:=J hk2;have HB2:=J (HB.out.trans (hb2.mono HB.out.size));clear hk2 hb2;unfold zW)
  | (go_at_call 185;refine (qM p2 q2 1 15 (lim:Int) _ HK2.out HLB.out).mono ?_;rintro e w4 ⟨rfl,rfl⟩))
 have HUS:=J (zgS ao c (nat zs) w4 (by rw [HF.out.ints];exact HI.out.below HB2.out) (by rw [xt];exact HF.out.len));rw [xt] at HUS;clear HK HK2 hp hq hp2 hq2 HBD HLB;go_upto_region 5 with (go_at_call 176;(with_reducible refine HUS.out.mono ?_);rintro e w5 ⟨bo,cu,us,rfl,hU,hIS,hb5,hfr⟩;have HU:=J hU;have HIS:=J hIS;have HB5:=J (HB2.out.trans (hb5.mono HB2.out.size));have HFR:=J hfr;clear hU hIS hb5)
 go_upto_if 29 with fail
 obtain ⟨pw,hpw⟩:=exq (2^lim);have hp2:pw≤32768:=by rw [hpw];exact Nat.le_trans (Nat.pow_le_pow_right (by omega) hl2) (Nat.le_refl (2^15))
 have epw:wrap64 ((2:Int)^lim)=pw:=by
  rw [show (2:Int)^lim=((2^lim:Nat):Int) by simp,←hpw];unfold wrap64;omega
 have HPW:=J hpw;rw [epw];clear epw hpw;have hul:(usd (nat zs) zs.length).length=us.length:=by rw [←HNL.out];exact HU.out.perm.length_eq.symm
 by_cases hmany:pw<us.length
 ·have hm':(pw:Int)<us.length:=by omega
  go_wp2;go_ret2
  exact .inl ⟨by rw [←HPW.out,hul];exact hmany,rfl,HB5.out⟩
 ·have hm':decide ((pw:Int)<us.length)=false:=decide_eq_false (by omega)
  have hm2:(us.length:Int)≤pw:=by omega
  rw [hm'];have HBU:Hid (us.length≤2^lim):=J (by rw [←HPW.out];omega);have hus320:us.length≤320:=by rw [←hul];exact Nat.le_trans (Qp _ _) HF.out.len
  obtain ⟨n,hn⟩:=exq (zs.length);have HN:=J hn;rw [←hn] at c1'' hul ⊢;clear hn;have huN:Hid (∀ u∈us,u<n):=J fun u hu=>by have:=(HU.out.mem.1 hu).1;rw [HNL.out,←HN.out] at this;exact this
  clear hm' hm2 hmany;go_upto_region 8 with (refine zy rfl 40 (.tmp 31) (.tmp 31) rfl 3 (.int .i64 0) 1 8 n underlying40 (by kernel_rfl) .i64 .i64 n n rfl rfl rfl rfl (by omega) (by omega) ?_;intro W hb ht hs;have HS:=J hs;clear hs)
  obtain ⟨gl,hgl⟩:=exq (w5.heap.size);have HGL:=J hgl;have HA:Hid (Blk W gl 3 (ia n fun _=>0)):=J (by
   rw [hgl];rw [show va (n*1) (fun i=>(Value.int .i64 0).cells[i%(Value.int .i64 0).cells.size]!)=ia n fun _=>0 by
    rw [Nat.mul_one];refine zq fun i _=>?_
    rw [show (Value.int .i64 0).cells = #[.int .i64 0] from rfl,show (#[Value.int .i64 0]:Array Value).size=1 from rfl,Nat.mod_one];rfl] at hb
   exact hb)
  have HBW:=J (HB5.out.trans ((ht.none_below).mono HB5.out.size));have HIW:=J (HIS.out.below ht.none_below);have HSW:Hid (gl<W.heap.size):=J HA.out.lt;have hwg:w.heap.size≤gl:=by rw [hgl];exact HB5.out.size
  rw [←hgl];clear hgl hb ht HIS;by_cases h1:us.length=1
  ·obtain ⟨u,rfl⟩:∃ u,us=[u]:=List.length_eq_one_iff.1 h1
   have hun:u<n:=huN.out u (by simp);obtain ⟨b1,o1,rfl,q1⟩:=HIW.out.nat (k:=0) (by simp);rw [show List.getD [u] 0 0=u from rfl,Nat.add_zero] at q1;have q2:=(HA.out.cell u).trans (zw n _ u hun);have q3:=HA.out.free u;have hun':(u:Int)<n:=by omega
   have H2:=J (HA.out.setCell u (.int .i64 ((1:Nat):Int)));rw [jW n _ (LF [u] fun _=>1) u 1 (fun i _=>by unfold LF;by_cases e:i=u <;> simp [e])] at H2;go_wp2;go_ret2
   refine .inr ⟨gl,[u],by rw [←HN.out];rfl,HU.out,HBU.out,?_,HBW.out.setCell (p:=⟨gl,u,none⟩) hwg _,hwg⟩;rw [←HN.out,ju,if_pos (by rw [zS];rfl)];exact H2.out
  ·have h1':((us.length:Int) == 1)=false:=by simp;omega
   by_cases h2:1<us.length
   ·have h2':(1:Int)<us.length:=by omega
    have hcl:(cts (nat zs) us).length=us.length:=zS _ _;obtain ⟨cs,hcs⟩:=exq (cts (nat zs) us);have HCS:=J hcs;have HSG:=J (kB ao bo c cu (nat zs) us W (by rw [HF.out.ints];exact HI.out.below HBW.out) HIW.out (by omega) (fun u hu=>by rw [HNL.out,←HN.out];exact huN.out u hu));rw [HNL.out,←HN.out,←hcs] at HSG;rw [←hcs] at hcl;have HFIT:Hid (Fit cs (lim-1)):=J ⟨by rw [hcs];exact HU.out.up,by omega,by rw [hcl,show lim-1+1=lim by omega];exact HBU.out⟩;have HMX:Hid (∀ x∈cs,x≤1099511627776):=J fun x hx=>by
     rw [hcs] at hx;obtain ⟨u,_,rfl⟩:=List.mem_map.1 hx;have h3:=huN.out u (by assumption);have h4:=HF.out.all _ (jD (zs:=zs) (k:=u) (by rw [←HN.out];exact h3));have h5:(nat zs).getD u 0=(zs.getD u 0).toNat:=zex zs u;rw [h5];unfold QC at h4;omega
    have hcl2:(sg cs).length=us.length:=by rw [JS];exact hcl
    clear hcs;have hw5:w5.heap.size≤gl:=by rw [HGL.out];exact Nat.le_refl _
    have h5w:=hw5;go_wp2_with fail
    with_reducible refine HSG.out.mono ?_
    rintro e w6 ⟨a6,c6,rfl,hCS,hb6,hroom,hnil,hfr6⟩;have hsgl:(List.map (fun c=>(c,true)) cs).length=cs.length:=JS cs;rw [hsgl] at hroom ⊢;have HCS6:=J hCS;have HB6:=J hb6;have HRW:=J (zfa a6 c6 lim cs w6 hCS hnil hroom (by omega) (by omega) hl1 hl2 HMX.out);rw [hcl] at HRW;clear hCS hb6 hroom hnil hfr6 hsgl HSG;go_wp2_with fail
    with_reducible refine HRW.out.mono ?_
    rintro e w7 ⟨a5,c5,rfl,hRst⟩;obtain ⟨g5,rs,rfl,hr1,hr2,hr3,hr4⟩:=hRst.split hl1;have HB7:=J (HB6.out.trans (hRst.below.mono HB6.out.size));have HA7:=J (HA.out.below HB7.out);have hs7:gl<g5:=Nat.lt_of_lt_of_le HSW.out (Nat.le_trans HB6.out.size hr1);have hs8:gl<w7.heap.size:=HA7.out.lt;have HLE:=J (Xc gl n bo cu g5 c5 lim rs cs us w7 hr3 (fun j hj=>⟨(hr4 j hj).1,(hr4 j hj).2.1,(hr4 j hj).2.2.1,fun b off e=>⟨(hr4 j hj).2.2.2 b off e,zap HA7.out (hr4 j hj).2.2.1 e (by omega)⟩⟩) hr2 (by omega) HA7.out (HIW.out.below HB7.out)
     (fun b off e _=>by have h8:=(HFR.out b off e).2;omega) HU.out.nodup (by omega) huN.out hl1 hl2 HFIT.out (by omega))
    clear hRst hr1 hr2 hr3 hr4 hs7 hs8 HRW hw5 h5w;go_wp2_with fail
    with_reducible refine HLE.out.mono ?_
    rintro e w8 ⟨rfl,hA8,hT8⟩;have H8:=J (And.intro hA8 hT8);clear hA8 hT8 HLE;go_wp2;go_ret2
    refine .inr ⟨gl,us,by rw [←HN.out];rfl,HU.out,HBU.out,?_,?_,hwg⟩
    ·rw [←HN.out,←HCS.out,ju,if_neg (by omega)]
     exact H8.out.1
    ·exact (HBW.out.trans (HB7.out.mono HBW.out.size)).trans (H8.out.2.below (Nat.le_trans HBW.out.size HB7.out.size) fun k hk=>by omega)
   ·have h0:us=[]:=List.eq_nil_of_length_eq_zero (by omega)
    subst h0;go_wp2;go_ret2
    refine .inr ⟨gl,[],by rw [←HN.out];rfl,HU.out,HBU.out,?_,HBW.out,hwg⟩;rw [←HN.out];rw [show LF [] (ju (cts (nat zs) []) (lim-1))=fun _=>0 by funext s;unfold LF;simp]
    exact HA.out
end
section
open Go.RowKit
def cst (ns ls:List Nat) (k:Nat):Nat:=zL k fun i=>ns.getD i 0*ls.getD i 0
theorem UF {lim:Nat}(h:1≤lim):lim-1+1=lim:=by omega
theorem kb.fit {ns us:List Nat}{lim:Nat}(h:kb ns us) (hl:1≤lim) (h2:us.length≤2^lim) (h3:2≤us.length):Fit (cts ns us) (lim-1):=
 ⟨h.up,by rw [zS];exact h3,by rw [zS,UF hl];exact h2⟩
theorem Xw {ns us:List Nat}{lim:Nat}(h:kb ns us) (hl:1≤lim) (h2:us.length≤2^lim){i:Nat}(hi:i<us.length):1≤ju (cts ns us) (lim-1) i∧ju (cts ns us) (lim-1) i≤lim:=by
 unfold ju;rw [zS];by_cases h1:us.length=1
 ·rw [if_pos h1];exact ⟨Nat.le_refl _,hl⟩
 ·rw [if_neg h1]
  have F:=h.fit hl h2 (by omega);exact ⟨F.la_pos (by rw [zS];exact hi),by have:=Fit.la_le (cs:=cts ns us) (d:=lim-1) i;omega⟩
theorem zls {us:List Nat}{s:Nat}(h:s∈us):us.idxOf s<us.length:=List.idxOf_lt_length_iff.2 h
theorem uG {ns us:List Nat}{lim:Nat}(h:kb ns us) (hl:1≤lim) (h2:us.length≤2^lim){s:Nat}(hs:s<ns.length) :
  (ns.getD s 0=0→LF us (ju (cts ns us) (lim-1)) s=0)∧(0<ns.getD s 0→1≤LF us (ju (cts ns us) (lim-1)) s∧LF us (ju (cts ns us) (lim-1)) s≤lim):=by
 refine ⟨fun e=>?_,fun e=>?_⟩
 ·unfold LF
  rw [if_neg fun hm=>by have:=(h.mem.1 hm).2;omega]
 ·have hm:s∈us:=h.mem.2 ⟨hs,e⟩
  unfold LF;rw [if_pos hm];exact Xw h hl h2 (zls hm)
theorem Qh (n:Nat) (f:Nat→Nat):zL n f=((List.range n).map f).sum:=rfl
theorem zbg (l:List Nat) (p:Nat→Bool) (f:Nat→Nat) (h:∀ x∈l,p x=false→f x=0):(l.map f).sum=((l.filter p).map f).sum:=by
 induction l with
 | nil=>rfl
 | cons a l ih=>
  have ih:=ih fun x hx=>h x (List.mem_cons_of_mem _ hx)
  rw [List.map_cons,List.sum_cons,List.filter_cons];by_cases hp:p a=true
  ·rw [if_pos hp,List.map_cons,List.sum_cons,ih]
  ·rw [if_neg hp,ih,h a (List.mem_cons_self ..) (by simpa using hp),Nat.zero_add]
theorem zac (l:List Nat) (f:Nat→Nat):(l.map f).sum=zL l.length fun i=>f (l.getD i 0):=by
 rw [Qh];congr 1
 apply List.ext_getElem
 ·simp
 ·intro i h1 h2
  simp only [List.length_map] at h1;simp [List.getD,h1]
theorem zeB {ns us:List Nat}(h:kb ns us) (f:Nat→Nat) (hf:∀ s,ns.getD s 0=0→f s=0):zL ns.length f=zL us.length fun i=>f (us.getD i 0):=by
 rw [←zac,Qh,(h.perm.map f).sum_nat];exact zbg _ _ _ fun x _ hx=>hf x (by have:=of_decide_eq_false hx;omega)
theorem zgN {ns us:List Nat}(h:kb ns us) (G:Nat→Nat) (f:Nat→Nat→Nat) (hf:∀ s,f s 0=0):zL ns.length (fun s=>f s (LF us G s))=zL us.length fun i=>f (us.getD i 0) (G i):=by
 rw [zeB h (fun s=>f s (LF us G s)) fun s e=>?_]
 ·refine zA fun i hi=>?_
  rw [zlX h.nodup G hi]
 ·have:LF us G s=0:=by
   unfold LF;rw [if_neg fun hm=>by have:=(h.mem.1 hm).2;omega]
  simp only [this,hf]
def lens (ns us:List Nat) (lim:Nat):List Nat:=(List.range ns.length).map (LF us (ju (cts ns us) (lim-1)))
theorem Uu (ns us:List Nat) (lim:Nat):(lens ns us lim).length=ns.length:=by simp [lens]
theorem kQ (ns us:List Nat) (lim:Nat){s:Nat}(hs:s<ns.length):(lens ns us lim).getD s 0=LF us (ju (cts ns us) (lim-1)) s:=by simp [lens,List.getD,hs]
theorem zcV {ns us:List Nat}{lim:Nat}(h:kb ns us) (hl:1≤lim) (h2:us.length≤2^lim):∀ x∈lens ns us lim,x≤lim:=fun x hx=>by
 obtain ⟨s,hs,rfl⟩:=List.mem_map.1 hx;have hs:=List.mem_range.1 hs;have:=uG h hl h2 hs;by_cases e:ns.getD s 0=0
 ·rw [this.1 e];omega
 ·exact (this.2 (by omega)).2
def bst (cs:List Nat) (D:Nat):Nat:=if cs.length=0 then 0 else if cs.length=1 then cs.getD 0 0 else best cs D
theorem zlz {ns us:List Nat}{lim:Nat}(h:kb ns us) (hl:1≤lim) (h2:us.length≤2^lim):cst ns (lens ns us lim) ns.length=bst (cts ns us) (lim-1):=by
 have e1:cst ns (lens ns us lim) ns.length=zL ns.length fun s=>ns.getD s 0*LF us (ju (cts ns us) (lim-1)) s:=zA fun i hi=>by rw [kQ ns us lim hi]
 rw [e1,zgN h _ (fun s x=>ns.getD s 0*x) (fun s=>Nat.mul_zero _)];unfold bst;rw [zS];by_cases h0:us.length=0
 ·rw [if_pos h0,h0];rfl
 ·rw [if_neg h0]
  by_cases h1:us.length=1
  ·rw [if_pos h1,h1,zv,xj,Xq _ _ _ (by omega)]
   unfold ju;rw [zS,if_pos h1];omega
  ·rw [if_neg h1]
   have F:=h.fit hl h2 (by omega);rw [←F.costs,zS];refine zA fun i hi=>?_
   rw [Xq _ _ _ hi];unfold ju;rw [zS,if_neg h1]
theorem zdb (ls:List Nat):yB ls=zL ls.length fun i=>qZ (ls.getD i 0):=by
 unfold yB;rw [zac]
theorem zea {ns us:List Nat}{lim:Nat}(h:kb ns us) (hl:1≤lim∧lim≤15) (h2:us.length≤2^lim) :
  room (lens ns us lim)=if us.length=0 then 0 else if us.length=1 then 16384 else 32768:=by
 rw [ux _ fun x hx=>by have:=zcV h hl.1 h2 x hx;omega,zdb,Uu]
 have e1:zL ns.length (fun i=>qZ ((lens ns us lim).getD i 0))=zL ns.length fun s=>qZ (LF us (ju (cts ns us) (lim-1)) s):=zA fun i hi=>by rw [kQ ns us lim hi]
 rw [e1,zgN h _ (fun _ x=>qZ x) (fun s=>rfl)];by_cases h0:us.length=0
 ·rw [if_pos h0,h0];rfl
 ·rw [if_neg h0]
  by_cases h1:us.length=1
  ·rw [if_pos h1,h1,zv,xj]
   unfold ju;rw [zS,if_pos h1];rfl
  ·rw [if_neg h1]
   have F:=h.fit hl.1 h2 (by omega);rw [←F.kraft (by omega),zS];refine zA fun i hi=>?_
   unfold ju;rw [zS,if_neg h1];have:=F.la_pos (i:=i) (by rw [zS];exact hi);unfold qZ;rw [if_neg (by omega)]
end
section
open Go.Lib renaming hid → J
open Go.RowKit
def spl (s:Int):Nat:=if s=16 then 3 else if s=17 then 3 else if s=18 then 11 else 1
def spm (s:Int):Nat:=if s=16 then 6 else if s=17 then 10 else if s=18 then 138 else 1
theorem zu (s:Int) (w:World):Calls prog 181 #[.int .i64 s] w fun e w'=>e=.returned (.tuple #[.int .i64 (spl s:Nat),.int .i64 (spm s:Nat)])∧w'=w:=by
 by_cases h1:s=16
 ·subst h1
  go_enter func181,ntmps181;go_wp2;go_ret2
  exact ⟨rfl,rfl⟩
 ·have b1:(s == 16)=false:=by simp [h1]
  by_cases h2:s=17
  ·subst h2
   go_enter func181,ntmps181;go_wp2;go_ret2
   exact ⟨rfl,rfl⟩
  ·have b2:(s == 17)=false:=by simp [h2]
   by_cases h3:s=18
   ·subst h3
    go_enter func181,ntmps181;go_wp2;go_ret2
    exact ⟨rfl,rfl⟩
   ·have b3:(s == 18)=false:=by simp [h3]
    have e1:=J (show spl s=1 by simp [spl,h1,h2,h3]);have e2:=J (show spm s=1 by simp [spm,h1,h2,h3]);rw [e1.out,e2.out];clear h1 h2 h3;go_enter func181,ntmps181;go_wp2;go_ret2
    exact ⟨rfl,rfl⟩
def cnt (x:Int):List Int→Nat
 | []=>0
 | y::t=>if y=x then cnt x t+1 else 0
theorem zj9 (x:Int) (l:List Int):cnt x l≤l.length:=by
 induction l with
 | nil=>exact Nat.le_refl _
 | cons y t ih=>rw [cnt];split <;> simp <;> omega
theorem zj7 {x:Int}{l:List Int}{i:Nat}(h:i<cnt x l):l.getD i 0=x:=by
 induction l generalizing i with
 | nil=>simp [cnt] at h
 | cons y t ih=>
  rw [cnt] at h;split at h
  ·next e=>
   cases i with
   | zero=>simpa using e
   | succ i=>rw [List.getD_cons_succ];exact ih (by omega)
  ·omega
theorem zft {x:Int}{l:List Int}(h:cnt x l<l.length):l.getD (cnt x l) 0≠x:=by
 induction l with
 | nil=>simp at h
 | cons y t ih=>
  rw [cnt] at h ⊢;split at h
  ·next e=>rw [if_pos e,List.getD_cons_succ];exact ih (by simpa using h)
  ·next e=>rw [if_neg e];simpa using e
def rl (zs:List Int) (a:Nat):Nat:=cnt (zs.getD a 0) (zs.drop a)
theorem getD_drop (zs:List Int) (a i:Nat):(zs.drop a).getD i 0=zs.getD (a+i) 0:=by simp [List.getD]
theorem zgf {zs:List Int}{a:Nat}(h:a<zs.length):1≤rl zs a:=by
 unfold rl;rw [List.drop_eq_getElem_cons h,cnt,if_pos (by simp [List.getD,h])];omega
theorem zfK (zs:List Int) (a:Nat) (h:a≤zs.length):a+rl zs a≤zs.length:=by
 have:=zj9 (zs.getD a 0) (zs.drop a);rw [List.length_drop] at this;unfold rl;omega
theorem zjX {zs:List Int}{a i:Nat}(h:i<rl zs a):zs.getD (a+i) 0=zs.getD a 0:=by
 rw [←getD_drop];exact zj7 h
theorem zbT {zs:List Int}{a:Nat}(h:a+rl zs a<zs.length):zs.getD (a+rl zs a) 0≠zs.getD a 0:=by
 rw [←getD_drop];exact zft (by rw [List.length_drop];unfold rl at h;omega)
theorem zaD {zs:List Int}{a n m:Nat}(hn:n≤rl zs a) (hnm:n≤m) (ha:a≤zs.length) (hs:n=m∨zs.length≤a+n∨zs.getD (a+n) 0≠zs.getD a 0):n=min m (rl zs a):=by
 have h1:=zfK zs a ha;rcases hs with h | h | h
 ·omega
 ·omega
 ·have:¬n<rl zs a:=fun hlt=>h (zjX hlt)
  omega
set_option maxHeartbeats 4000000 in
theorem Xr (ao:Option Addr) (c a:Nat) (zs:List Int) (w:World) (h:IS w ao zs) (ha:a<zs.length) (hl:zs.length≤1000) :
  Calls prog 192 #[.slice ao zs.length c,.int .i64 a] w fun e w'=>e=.returned (.int .i64 (min 138 (rl zs a):Nat))∧∃ q,w'=w.drewN q:=by
 have HI:=J h;clear h;obtain ⟨L,hL⟩:=exq (zs.length);have HLN:=J hL;rw [←hL] at ha hl ⊢;clear hL;have ha':(a:Int)<L:=by omega
 go_enter func192,ntmps192;go_wp2;go_loopw [5] (fun v wr=>∃ n q:Nat,v=.int .i64 n∧1≤n∧n≤rl zs a∧n≤138∧wr=w.drewN q) (fun v _=>139-(intOf v).toNat)
 case atStart=>exact ⟨1,0,rfl,Nat.le_refl _,zgf (by rw [←HLN.out];exact ha),by omega,rfl⟩
 case round=>
  obtain ⟨n,q,rfl,hn1,hn,hn2,hw⟩:=hrel;have HW:=J hw;have HI2:Hid (IS wr ao zs):=J (by rw [hw];exact HI.out.drewN q);clear hw;have HNR:=J hn;clear hn;by_cases c1:n<138
  ·have c1':(n:Int)<138:=by omega
   obtain ⟨m,hm⟩:=exq (a+n);have HM:=J hm;have e1:IntKind.i64.wrap ((a:Int)+n)=m:=by rw [IntKind.wrap_i64];omega
   by_cases c2:m<L
   ·have c2':(m:Int)<L:=by omega
    obtain ⟨b1,o1,rfl,q1⟩:=HI2.out.at (k:=m) (by rw [←HLN.out];exact c2);obtain ⟨b2,o2,e2,q2⟩:=HI2.out.at (k:=a) (by rw [←HLN.out];exact ha);obtain ⟨rfl,rfl⟩:b1=b2∧o1=o2:=by simpa using e2
    clear e2;obtain ⟨x,hx⟩:=exq (zs.getD m 0);obtain ⟨y,hy⟩:=exq (zs.getD a 0);have HXY:=J (And.intro hx hy);rw [←hx] at q1;rw [←hy] at q2;clear hx hy hm;by_cases c3:x=y
    ·have c3':(x == y)=true:=by simp [c3]
     have HC3:=J c3;clear c3;go_wp2;go_quiet (fail)
     clear e1;go_wp2;go_roundw;case rel=>
      refine ⟨n+1,_,by go_num,by omega,?_,by omega,by rw [HW.out,World.drewN_drewN]⟩;have h1:=HNR.out;rcases Nat.lt_or_ge n (rl zs a) with h2 | h2
      ·exact h2
      ·exfalso
       have h3:n=rl zs a:=by omega
       have h4:=zbT (zs:=zs) (a:=a) (by rw [←h3,←HM.out,←HLN.out];exact c2);rw [←h3,←HM.out,←HXY.out.1,←HXY.out.2] at h4;exact h4 HC3.out
     case measure=>simp [intOf];omega
    ·have c3':(x == y)=false:=by simp [c3]
     have HC3:=J c3;clear c3;go_wp2;go_quiet (fail)
     clear e1;go_wp2;go_ret;refine ⟨qy (congrArg _ (zaD HNR.out hn2 (by rw [←HLN.out];omega) (.inr (.inr ?_)))),_,by rw [HW.out,World.drewN_drewN]⟩;rw [←HM.out,←HXY.out.1,←HXY.out.2];exact HC3.out
   ·have c2':decide ((m:Int)<L)=false:=decide_eq_false (by omega)
    have c2'':(L:Int)≤m:=by omega
    clear hm;go_wp2;go_quiet (fail)
    clear e1;go_wp2;go_ret;exact ⟨qy (congrArg _ (zaD HNR.out hn2 (by rw [←HLN.out];omega) (.inr (.inl (by rw [←HM.out,←HLN.out];omega))))),_,by rw [HW.out,World.drewN_drewN]⟩
  ·have c1':decide ((n:Int)<138)=false:=decide_eq_false (by omega)
   have c1'':(138:Int)≤n:=by omega
   go_wp2;go_quiet (fail)
   go_wp2;go_ret;exact ⟨qy (congrArg _ (zaD HNR.out hn2 (by rw [←HLN.out];omega) (.inl (by omega)))),_,by rw [HW.out,World.drewN_drewN]⟩
end
end Go.Proofs.YtacpfpghokcdlaaGreatDoor.Y
