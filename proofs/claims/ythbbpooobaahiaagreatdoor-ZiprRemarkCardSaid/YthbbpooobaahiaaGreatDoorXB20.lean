/- Part 20. -/
import Derived.Test.YthbbpooobaahiaaGreatDoorXB19
namespace Go.Proofs.YthbbpooobaahiaaGreatDoor.Zz
set_option maxRecDepth 100000
section
open Go.RowKit
theorem wrapS (x:Int) (h1 : -1000000000000≤x) (h2:x≤1000000000000):IntKind.i64.wrap x=x:=by
 rw [IntKind.wrap_i64];omega
theorem idx_at (s:ByteArray) (i:Nat) (h:i<s.size) (W:World):(Instr.index 9 (.string s) (.int .i64 (i:Int))).run Tryz.prog W = .ok (.int .u8 ((s.data.toList.getD i 0).toNat:Nat)) W:=by
 rw [run_index_string W 9 s .i64 i Tryz.underlying9,dif_pos (by omega)]
 have h':i<s.data.toList.length:=by simpa using h
 have e:s.data.toList.getD i 0=s.data.toList[i]:=by simp only [List.getD_eq_getElem?_getD,List.getElem?_eq_getElem h',Option.getD_some]
 rw [e]
 rfl
def byt (s:ByteArray) (i:Nat):Nat:=(s.data.toList.getD i 0).toNat
theorem byt_lt (s:ByteArray) (i:Nat):byt s i<256:=(s.data.toList.getD i 0).toNat_lt
theorem idx_byt (s:ByteArray) (i:Nat) (h:i<s.size) (W:World):(Instr.index 9 (.string s) (.int .i64 (i:Int))).run Tryz.prog W = .ok (.int .u8 (byt s i:Nat)) W:=idx_at s i h W
def bts (s:ByteArray):List Nat:=s.data.toList.map (·.toNat)
theorem bts_len (s:ByteArray):(bts s).length=s.size:=by simp [bts]
theorem bts_at (s:ByteArray) (i:Nat):(bts s).getD i 0=byt s i:=by
 unfold bts byt
 simp only [List.getD_eq_getElem?_getD,List.getElem?_map]
 cases s.data.toList[i]? <;> rfl
theorem uSum_at {L:List Nat} {i n v:Nat} (hi:i<n) (hn:n≤L.length):uSum v ((L.drop i).take (n-i))=if L.getD i 0<128∨191<L.getD i 0 then none else uSum (v*64+L.getD i 0-128) ((L.drop (i+1)).take (n-(i+1))):=by
 have hl:i<L.length:=by omega
 rw [List.drop_eq_getElem_cons hl,show n-i=(n-(i+1))+1 by omega,List.take_succ_cons,uSum]
 have e:L.getD i 0=L[i]:=by simp [List.getD,hl]
 rw [e]
theorem uLen_of {L:List Nat} {c:Nat} (hc:L.getD 0 0=c) (h:¬c<128) {n v m:Nat} (hu:uLead c=(n,v,m)) :
  uLen L=if n=0∨L.length<n then 0 else match uSum v ((L.drop 1).take (n-1)) with
   | none=>0
   | some v=>if v<m∨1114111<v∨(55296≤v∧v≤57343) then 0 else n:=by
 unfold uLen;rw [hc,if_neg h,hu];rfl
set_option maxHeartbeats 3200000 in
theorem length_any (s:ByteArray) (w:World) (h0:0<s.size) (hm:s.size≤1000000):Calls Tryz.prog 62 #[.string s] w fun e w'=>e = .returned (.int .i64 (uLen (bts s):Nat))∧w=w':=by
 obtain ⟨A,hA⟩:∃ A,A=uLen (bts s):=⟨_,rfl⟩
 rw [←hA]
 have hix:∀ i,i<s.size→∀ W,(Instr.index 9 (.string s) (.int .i64 (i:Int))).run Tryz.prog W = .ok (.int .u8 (byt s i:Nat)) W:=idx_byt s
 have HIX:=Lib.hid hix
 have hi0:∀ W,(Instr.index 9 (.string s) (.int .i64 0)).run Tryz.prog W = .ok (.int .u8 (byt s 0:Nat)) W:=fun W=>idx_byt s 0 h0 W
 have hb0:=byt_lt s 0
 have ha0:=bts_at s 0
 obtain ⟨c,hc⟩:∃ c,c=byt s 0:=⟨_,rfl⟩
 rw [←hc] at hi0 hb0 ha0
 have HL:=Lib.hid (bts_len s)
 have HBA:=Lib.hid (bts_at s)
 obtain ⟨Ls,hLs⟩:∃ Ls,Ls=bts s:=⟨_,rfl⟩
 rw [←hLs] at hA ha0 HL HBA
 have HA:=Lib.hid hA
 have HA0:=Lib.hid ha0
 obtain ⟨Z,hZ⟩:∃ Z,Z=s.size:=⟨_,rfl⟩
 rw [←hZ] at HL HIX h0 hm
 have HZ:=Lib.hid hZ
 have hlen:∀ W,(Builtin.len_ #[9] 3 #[.string s]).run Tryz.prog W = .ok (.int .i64 (Z:Nat)) W:=fun W=>by
  rw [HZ.out];exact run_len_string W 9 3 s Tryz.underlying9
 clear hix hc hLs hA ha0 hZ
 by_cases c1:c<128
 ·have z1:(c:Int)<128:=by omega
  have HR:Hid (A=1):=Lib.hid (by rw [HA.out];unfold uLen;rw [HA0.out,if_pos c1])
  go_enter Tryz.func62,Tryz.ntmps62
  go_wp2
  go_ret
  exact ⟨by rw [HR.out];rfl,rfl⟩
 have z1:¬(c:Int)<128:=by omega
 have hcase:(uLead c=(0,0,0)∧¬(194≤c∧c≤223)∧¬(224≤c∧c≤239)∧¬(240≤c∧c≤244))∨(194≤c∧c≤223∧uLead c=(2,c-192,128))∨(224≤c∧c≤239∧uLead c=(3,c-224,2048))∨(240≤c∧c≤244∧uLead c=(4,c-240,65536)):=by
  unfold uLead
  by_cases a1:194≤c∧c≤223
  ·rw [if_pos a1];exact .inr (.inl ⟨a1.1,a1.2,rfl⟩)
  ·rw [if_neg a1]
   by_cases a2:224≤c∧c≤239
   ·rw [if_pos a2];exact .inr (.inr (.inl ⟨a2.1,a2.2,rfl⟩))
   ·rw [if_neg a2]
    by_cases a3:240≤c∧c≤244
    ·rw [if_pos a3];exact .inr (.inr (.inr ⟨a3.1,a3.2,rfl⟩))
    ·rw [if_neg a3];exact .inl ⟨rfl,a1,a2,a3⟩
 rcases hcase with ⟨hu,n1,n2,n3⟩ | hcase
 ·have HR:Hid (A=0):=Lib.hid (by rw [HA.out,uLen_of HA0.out c1 hu,if_pos (.inl rfl)])
  clear hu
  have k1:¬(194:Int)≤c∨((194:Int)≤c∧¬(c:Int)≤223):=by omega
  have k2:¬(224:Int)≤c∨((224:Int)≤c∧¬(c:Int)≤239):=by omega
  have k3:¬(240:Int)≤c∨((240:Int)≤c∧¬(c:Int)≤244):=by omega
  clear n1 n2 n3
  rcases k1 with k1 | ⟨k1,k1'⟩ <;> rcases k2 with k2 | ⟨k2,k2'⟩ <;> rcases k3 with k3 | ⟨k3,k3'⟩
  all_goals first
   | (exfalso;omega)
   | (
     go_enter Tryz.func62,Tryz.ntmps62
     go_wp2
     go_ret
     exact ⟨by rw [HR.out];rfl,rfl⟩)
 rcases hcase with ⟨g1,g2,hu⟩ | ⟨g1,g2,hu⟩ | ⟨g1,g2,hu⟩
 all_goals
  have hU:=uLen_of HA0.out c1 hu
  rw [←HA.out] at hU
  have HU:=Lib.hid hU
  clear hu hU
  have k1:(194:Int)≤c:=by omega
  have k2:(224:Int)≤c∨¬(224:Int)≤c:=by omega
  have k3:(240:Int)≤c∨¬(240:Int)≤c:=by omega
  have k4:(c:Int)≤223∨¬(c:Int)≤223:=by omega
  have k5:(c:Int)≤239∨¬(c:Int)≤239:=by omega
  have k6:(c:Int)≤244:=by omega
  rcases k2 with k2 | k2 <;> rcases k3 with k3 | k3 <;> rcases k4 with k4 | k4 <;> rcases k5 with k5 | k5 <;> try (exfalso;omega)
  clear g1 g2
  go_enter Tryz.func62,Tryz.ntmps62
  go_upto_region 19 with fail
 ·obtain ⟨V,hV⟩:∃ V:Nat,V=c-192:=⟨_,rfl⟩
  have hVc:(c:Int)-192=(V:Int):=by omega
  have hVb:V≤31:=by omega
  rw [hVc]
  rw [←hV] at HU
  clear hV hVc k1 k2 k3 k4 k5 k6 z1 c1
  by_cases q:Z<2
  ·have q1:(Z:Int)<2:=by omega
   have HR:Hid (A=0):=Lib.hid (by rw [HU.out,if_pos (.inr (by rw [HL.out];exact q))])
   go_wp2
   go_ret
   exact ⟨by rw [HR.out];rfl,rfl⟩
  have q1:¬(Z:Int)<2:=by omega
  have HU2:Hid (A=match uSum V ((Ls.drop 1).take (2-1)) with
    | none=>0
    | some v=>if v<128∨1114111<v∨(55296≤v∧v≤57343) then 0 else 2):=Lib.hid (by rw [HU.out,if_neg (by rw [HL.out];omega)])
  have HQ:=Lib.hid q
  clear HU HA q
  go_wp2
  go_loop [5,7] (fun v5 v7=>∃ i v:Nat,((i=1∧v<64)∨(i=2∧v<4096)∨(i=3∧v<262144)∨(i=4∧v<16777216))∧i≤2∧v7 = .int .i64 i∧v5 = .int .i64 v∧Hid (uSum V ((Ls.drop 1).take (2-1))=uSum v ((Ls.drop i).take (2-i)))) (fun _ v7=>5-(intOf v7).toNat)
  case atStart=>exact ⟨1,V,by omega,by omega,rfl,rfl,Lib.hid rfl⟩
  case round=>
   obtain ⟨i,v,hv,hi,rfl,rfl,hrel⟩:=hrel
   by_cases hlt:i<2
   ·have hii:(i:Int)<2:=by omega
    have hidx:=HIX.out i (by have:=HQ.out;omega)
    have hst:=Lib.hid (hrel.out.trans (uSum_at hlt (by rw [HL.out];have:=HQ.out;omega)))
    rw [HBA.out i] at hst
    have hbl:=byt_lt s i
    obtain ⟨b,hb⟩:∃ b,b=byt s i:=⟨_,rfl⟩
    rw [←hb] at hidx hst hbl
    clear hb hrel
    by_cases e1:b<128
    ·have e1':(b:Int)<128:=by omega
     have HR:Hid (A=0):=Lib.hid (by rw [HU2.out,hst.out,if_pos (.inl e1)])
     go_wp2
     go_ret
     exact ⟨by rw [HR.out];rfl,rfl⟩
    have e1':¬(b:Int)<128:=by omega
    by_cases e2:191<b
    ·have e2':(191:Int)<b:=by omega
     have HR:Hid (A=0):=Lib.hid (by rw [HU2.out,hst.out,if_pos (.inr e2)])
     go_wp2
     go_ret
     exact ⟨by rw [HR.out];rfl,rfl⟩
    have e2':¬(191:Int)<b:=by omega
    obtain ⟨v2,hv2⟩:∃ v2,v2=v*64+b-128:=⟨_,rfl⟩
    obtain ⟨u1,hu1⟩:∃ u1,u1=v*64:=⟨_,rfl⟩
    obtain ⟨u2,hu2⟩:∃ u2,u2=u1+b:=⟨_,rfl⟩
    have hw1:IntKind.i64.wrap ((v:Int)*64)=(u1:Int):=by rw [wrapS _ (by omega) (by omega)];omega
    have hw2:IntKind.i64.wrap ((u1:Int)+b)=(u2:Int):=by rw [wrapS _ (by omega) (by omega)];omega
    have hw3:IntKind.i64.wrap ((u2:Int)-128)=(v2:Int):=by rw [wrapS _ (by omega) (by omega)];omega
    have HN:Hid (uSum V ((Ls.drop 1).take (2-1))=uSum v2 ((Ls.drop (i+1)).take (2-(i+1)))):=Lib.hid (by rw [hst.out,if_neg (by omega),hv2])
    have hvn:((i+1=1∧v2<64)∨(i+1=2∧v2<4096)∨(i+1=3∧v2<262144)∨(i+1=4∧v2<16777216)):=by omega
    have hvn:=Lib.hid hvn
    clear hst hv2 hv hu1 hu2 hbl
    go_wp2
    go_round
    case rel=>exact ⟨i+1,v2,hvn.out,by omega,by go_num,by go_num,HN⟩
    case measure=>simp [intOf];omega
   ·obtain rfl:i=2:=by omega
    have HR:Hid (A=if v<128∨1114111<v∨(55296≤v∧v≤57343) then 0 else 2):=Lib.hid (by
     rw [HU2.out,hrel.out];rfl)
    clear HU2 hrel
    by_cases f1:v<128
    ·have f1':(v:Int)<128:=by omega
     have HR2:Hid (A=0):=Lib.hid (by rw [HR.out,if_pos (.inl f1)])
     go_wp2
     go_ret
     exact ⟨by rw [HR2.out];rfl,rfl⟩
    have f1':¬(v:Int)<128:=by omega
    by_cases f2:1114111<v
    ·have f2':(1114111:Int)<v:=by omega
     have HR2:Hid (A=0):=Lib.hid (by rw [HR.out,if_pos (.inr (.inl f2))])
     go_wp2
     go_ret
     exact ⟨by rw [HR2.out];rfl,rfl⟩
    have f2':¬(1114111:Int)<v:=by omega
    by_cases f3:55296≤v
    ·have f3':(55296:Int)≤v:=by omega
     by_cases f4:v≤57343
     ·have f4':(v:Int)≤57343:=by omega
      have HR2:Hid (A=0):=Lib.hid (by rw [HR.out,if_pos (.inr (.inr ⟨f3,f4⟩))])
      go_wp2
      go_ret
      exact ⟨by rw [HR2.out];rfl,rfl⟩
     have f4':¬(v:Int)≤57343:=by omega
     have HR2:Hid (A=2):=Lib.hid (by rw [HR.out,if_neg (by omega)])
     go_wp2
     go_ret
     exact ⟨by rw [HR2.out];rfl,rfl⟩
    have f3':¬(55296:Int)≤v:=by omega
    have HR2:Hid (A=2):=Lib.hid (by rw [HR.out,if_neg (by omega)])
    go_wp2
    go_ret
    exact ⟨by rw [HR2.out];rfl,rfl⟩
 ·obtain ⟨V,hV⟩:∃ V:Nat,V=c-224:=⟨_,rfl⟩
  have hVc:(c:Int)-224=(V:Int):=by omega
  have hVb:V≤31:=by omega
  rw [hVc]
  rw [←hV] at HU
  clear hV hVc k1 k2 k3 k4 k5 k6 z1 c1
  by_cases q:Z<3
  ·have q1:(Z:Int)<3:=by omega
   have HR:Hid (A=0):=Lib.hid (by rw [HU.out,if_pos (.inr (by rw [HL.out];exact q))])
   go_wp2
   go_ret
   exact ⟨by rw [HR.out];rfl,rfl⟩
  have q1:¬(Z:Int)<3:=by omega
  have HU2:Hid (A=match uSum V ((Ls.drop 1).take (3-1)) with
    | none=>0
    | some v=>if v<2048∨1114111<v∨(55296≤v∧v≤57343) then 0 else 3):=Lib.hid (by rw [HU.out,if_neg (by rw [HL.out];omega)])
  have HQ:=Lib.hid q
  clear HU HA q
  go_wp2
  go_loop [5,7] (fun v5 v7=>∃ i v:Nat,((i=1∧v<64)∨(i=2∧v<4096)∨(i=3∧v<262144)∨(i=4∧v<16777216))∧i≤3∧v7 = .int .i64 i∧v5 = .int .i64 v∧Hid (uSum V ((Ls.drop 1).take (3-1))=uSum v ((Ls.drop i).take (3-i)))) (fun _ v7=>5-(intOf v7).toNat)
  case atStart=>exact ⟨1,V,by omega,by omega,rfl,rfl,Lib.hid rfl⟩
  case round=>
   obtain ⟨i,v,hv,hi,rfl,rfl,hrel⟩:=hrel
   by_cases hlt:i<3
   ·have hii:(i:Int)<3:=by omega
    have hidx:=HIX.out i (by have:=HQ.out;omega)
    have hst:=Lib.hid (hrel.out.trans (uSum_at hlt (by rw [HL.out];have:=HQ.out;omega)))
    rw [HBA.out i] at hst
    have hbl:=byt_lt s i
    obtain ⟨b,hb⟩:∃ b,b=byt s i:=⟨_,rfl⟩
    rw [←hb] at hidx hst hbl
    clear hb hrel
    by_cases e1:b<128
    ·have e1':(b:Int)<128:=by omega
     have HR:Hid (A=0):=Lib.hid (by rw [HU2.out,hst.out,if_pos (.inl e1)])
     go_wp2
     go_ret
     exact ⟨by rw [HR.out];rfl,rfl⟩
    have e1':¬(b:Int)<128:=by omega
    by_cases e2:191<b
    ·have e2':(191:Int)<b:=by omega
     have HR:Hid (A=0):=Lib.hid (by rw [HU2.out,hst.out,if_pos (.inr e2)])
     go_wp2
     go_ret
     exact ⟨by rw [HR.out];rfl,rfl⟩
    have e2':¬(191:Int)<b:=by omega
    obtain ⟨v2,hv2⟩:∃ v2,v2=v*64+b-128:=⟨_,rfl⟩
    obtain ⟨u1,hu1⟩:∃ u1,u1=v*64:=⟨_,rfl⟩
    obtain ⟨u2,hu2⟩:∃ u2,u2=u1+b:=⟨_,rfl⟩
    have hw1:IntKind.i64.wrap ((v:Int)*64)=(u1:Int):=by rw [wrapS _ (by omega) (by omega)];omega
    have hw2:IntKind.i64.wrap ((u1:Int)+b)=(u2:Int):=by rw [wrapS _ (by omega) (by omega)];omega
    have hw3:IntKind.i64.wrap ((u2:Int)-128)=(v2:Int):=by rw [wrapS _ (by omega) (by omega)];omega
    have HN:Hid (uSum V ((Ls.drop 1).take (3-1))=uSum v2 ((Ls.drop (i+1)).take (3-(i+1)))):=Lib.hid (by rw [hst.out,if_neg (by omega),hv2])
    have hvn:((i+1=1∧v2<64)∨(i+1=2∧v2<4096)∨(i+1=3∧v2<262144)∨(i+1=4∧v2<16777216)):=by omega
    have hvn:=Lib.hid hvn
    clear hst hv2 hv hu1 hu2 hbl
    go_wp2
    go_round
    case rel=>exact ⟨i+1,v2,hvn.out,by omega,by go_num,by go_num,HN⟩
    case measure=>simp [intOf];omega
   ·obtain rfl:i=3:=by omega
    have HR:Hid (A=if v<2048∨1114111<v∨(55296≤v∧v≤57343) then 0 else 3):=Lib.hid (by
     rw [HU2.out,hrel.out];rfl)
    clear HU2 hrel
    by_cases f1:v<2048
    ·have f1':(v:Int)<2048:=by omega
     have HR2:Hid (A=0):=Lib.hid (by rw [HR.out,if_pos (.inl f1)])
     go_wp2
     go_ret
     exact ⟨by rw [HR2.out];rfl,rfl⟩
    have f1':¬(v:Int)<2048:=by omega
    by_cases f2:1114111<v
    ·have f2':(1114111:Int)<v:=by omega
     have HR2:Hid (A=0):=Lib.hid (by rw [HR.out,if_pos (.inr (.inl f2))])
     go_wp2
     go_ret
     exact ⟨by rw [HR2.out];rfl,rfl⟩
    have f2':¬(1114111:Int)<v:=by omega
    by_cases f3:55296≤v
    ·have f3':(55296:Int)≤v:=by omega
     by_cases f4:v≤57343
     ·have f4':(v:Int)≤57343:=by omega
      have HR2:Hid (A=0):=Lib.hid (by rw [HR.out,if_pos (.inr (.inr ⟨f3,f4⟩))])
      go_wp2
      go_ret
      exact ⟨by rw [HR2.out];rfl,rfl⟩
     have f4':¬(v:Int)≤57343:=by omega
     have HR2:Hid (A=3):=Lib.hid (by rw [HR.out,if_neg (by omega)])
     go_wp2
     go_ret
     exact ⟨by rw [HR2.out];rfl,rfl⟩
    have f3':¬(55296:Int)≤v:=by omega
    have HR2:Hid (A=3):=Lib.hid (by rw [HR.out,if_neg (by omega)])
    go_wp2
    go_ret
    exact ⟨by rw [HR2.out];rfl,rfl⟩
 ·obtain ⟨V,hV⟩:∃ V:Nat,V=c-240:=⟨_,rfl⟩
  have hVc:(c:Int)-240=(V:Int):=by omega
  have hVb:V≤31:=by omega
  rw [hVc]
  rw [←hV] at HU
  clear hV hVc k1 k2 k3 k4 k5 k6 z1 c1
  by_cases q:Z<4
  ·have q1:(Z:Int)<4:=by omega
   have HR:Hid (A=0):=Lib.hid (by rw [HU.out,if_pos (.inr (by rw [HL.out];exact q))])
   go_wp2
   go_ret
   exact ⟨by rw [HR.out];rfl,rfl⟩
  have q1:¬(Z:Int)<4:=by omega
  have HU2:Hid (A=match uSum V ((Ls.drop 1).take (4-1)) with
    | none=>0
    | some v=>if v<65536∨1114111<v∨(55296≤v∧v≤57343) then 0 else 4):=Lib.hid (by rw [HU.out,if_neg (by rw [HL.out];omega)])
  have HQ:=Lib.hid q
  clear HU HA q
  go_wp2
  go_loop [5,7] (fun v5 v7=>∃ i v:Nat,((i=1∧v<64)∨(i=2∧v<4096)∨(i=3∧v<262144)∨(i=4∧v<16777216))∧i≤4∧v7 = .int .i64 i∧v5 = .int .i64 v∧Hid (uSum V ((Ls.drop 1).take (4-1))=uSum v ((Ls.drop i).take (4-i)))) (fun _ v7=>5-(intOf v7).toNat)
  case atStart=>exact ⟨1,V,by omega,by omega,rfl,rfl,Lib.hid rfl⟩
  case round=>
   obtain ⟨i,v,hv,hi,rfl,rfl,hrel⟩:=hrel
   by_cases hlt:i<4
   ·have hii:(i:Int)<4:=by omega
    have hidx:=HIX.out i (by have:=HQ.out;omega)
    have hst:=Lib.hid (hrel.out.trans (uSum_at hlt (by rw [HL.out];have:=HQ.out;omega)))
    rw [HBA.out i] at hst
    have hbl:=byt_lt s i
    obtain ⟨b,hb⟩:∃ b,b=byt s i:=⟨_,rfl⟩
    rw [←hb] at hidx hst hbl
    clear hb hrel
    by_cases e1:b<128
    ·have e1':(b:Int)<128:=by omega
     have HR:Hid (A=0):=Lib.hid (by rw [HU2.out,hst.out,if_pos (.inl e1)])
     go_wp2
     go_ret
     exact ⟨by rw [HR.out];rfl,rfl⟩
    have e1':¬(b:Int)<128:=by omega
    by_cases e2:191<b
    ·have e2':(191:Int)<b:=by omega
     have HR:Hid (A=0):=Lib.hid (by rw [HU2.out,hst.out,if_pos (.inr e2)])
     go_wp2
     go_ret
     exact ⟨by rw [HR.out];rfl,rfl⟩
    have e2':¬(191:Int)<b:=by omega
    obtain ⟨v2,hv2⟩:∃ v2,v2=v*64+b-128:=⟨_,rfl⟩
    obtain ⟨u1,hu1⟩:∃ u1,u1=v*64:=⟨_,rfl⟩
    obtain ⟨u2,hu2⟩:∃ u2,u2=u1+b:=⟨_,rfl⟩
    have hw1:IntKind.i64.wrap ((v:Int)*64)=(u1:Int):=by rw [wrapS _ (by omega) (by omega)];omega
    have hw2:IntKind.i64.wrap ((u1:Int)+b)=(u2:Int):=by rw [wrapS _ (by omega) (by omega)];omega
    have hw3:IntKind.i64.wrap ((u2:Int)-128)=(v2:Int):=by rw [wrapS _ (by omega) (by omega)];omega
    have HN:Hid (uSum V ((Ls.drop 1).take (4-1))=uSum v2 ((Ls.drop (i+1)).take (4-(i+1)))):=Lib.hid (by rw [hst.out,if_neg (by omega),hv2])
    have hvn:((i+1=1∧v2<64)∨(i+1=2∧v2<4096)∨(i+1=3∧v2<262144)∨(i+1=4∧v2<16777216)):=by omega
    have hvn:=Lib.hid hvn
    clear hst hv2 hv hu1 hu2 hbl
    go_wp2
    go_round
    case rel=>exact ⟨i+1,v2,hvn.out,by omega,by go_num,by go_num,HN⟩
    case measure=>simp [intOf];omega
   ·obtain rfl:i=4:=by omega
    have HR:Hid (A=if v<65536∨1114111<v∨(55296≤v∧v≤57343) then 0 else 4):=Lib.hid (by
     rw [HU2.out,hrel.out];rfl)
    clear HU2 hrel
    by_cases f1:v<65536
    ·have f1':(v:Int)<65536:=by omega
     have HR2:Hid (A=0):=Lib.hid (by rw [HR.out,if_pos (.inl f1)])
     go_wp2
     go_ret
     exact ⟨by rw [HR2.out];rfl,rfl⟩
    have f1':¬(v:Int)<65536:=by omega
    by_cases f2:1114111<v
    ·have f2':(1114111:Int)<v:=by omega
     have HR2:Hid (A=0):=Lib.hid (by rw [HR.out,if_pos (.inr (.inl f2))])
     go_wp2
     go_ret
     exact ⟨by rw [HR2.out];rfl,rfl⟩
    have f2':¬(1114111:Int)<v:=by omega
    by_cases f3:55296≤v
    ·have f3':(55296:Int)≤v:=by omega
     by_cases f4:v≤57343
     ·have f4':(v:Int)≤57343:=by omega
      have HR2:Hid (A=0):=Lib.hid (by rw [HR.out,if_pos (.inr (.inr ⟨f3,f4⟩))])
      go_wp2
      go_ret
      exact ⟨by rw [HR2.out];rfl,rfl⟩
     have f4':¬(v:Int)≤57343:=by omega
     have HR2:Hid (A=4):=Lib.hid (by rw [HR.out,if_neg (by omega)])
     go_wp2
     go_ret
     exact ⟨by rw [HR2.out];rfl,rfl⟩
    have f3':¬(55296:Int)≤v:=by omega
    have HR2:Hid (A=4):=Lib.hid (by rw [HR.out,if_neg (by omega)])
    go_wp2
    go_ret
    exact ⟨by rw [HR2.out];rfl,rfl⟩
theorem ext_data (s:ByteArray) (i:Nat) (_h:i≤s.size):(s.extract i s.size).data.toList=s.data.toList.drop i:=by
 rw [Lib.extract_data,List.take_of_length_le]
 rw [List.length_drop];simp
theorem utf_any (s:ByteArray) (w:World) (hm:s.size≤1000000):Calls Tryz.prog 39 #[.string s] w fun e w'=>e = .returned (.bool (Lib.validD s.data.toList))∧w=w':=by
 obtain ⟨A,hA⟩:∃ A,A=Lib.validD s.data.toList:=⟨_,rfl⟩
 rw [←hA]
 have HA:=Lib.hid hA
 obtain ⟨Z,hZ⟩:∃ Z,Z=s.size:=⟨_,rfl⟩
 have HZ:=Lib.hid hZ
 have hlen:∀ W,(Builtin.len_ #[9] 3 #[.string s]).run Tryz.prog W = .ok (.int .i64 (Z:Nat)) W:=fun W=>by
  rw [HZ.out];exact run_len_string W 9 3 s Tryz.underlying9
 obtain ⟨l,hl⟩:∃ l,l=s.data.toList:=⟨_,rfl⟩
 have hll:l.length=Z:=by rw [hl,hZ];simp
 have HSL:Hid (∀ i,i<Z→∃ x,(∀ W,(Instr.slice 9 (.string s) (some (.int .i64 (i:Int))) none none).run Tryz.prog W = .ok (.string x) W)∧x.data.toList=l.drop i∧x.size=Z-i):=Lib.hid fun i hi=>by
  refine ⟨s.extract i s.size,fun W=>?_,by rw [hl];exact ext_data s i (by omega),by rw [ByteArray.size_extract];omega⟩
  have:=run_slice_string_l W 9 s Tryz.underlying9 .i64 (i:Int) (by omega) (by omega)
  simpa using this
 rw [←hl] at HA
 rw [←hZ] at hm
 have HLL:=Lib.hid hll
 clear hA hZ hl hll
 go_enter Tryz.func39,Tryz.ntmps39
 go_wp2
 go_loop [3] (fun v3=>∃ i:Nat,i≤Z∧v3 = .int .i64 i∧Hid (A=Lib.validD (l.drop i))) (fun v3=>Z-(intOf v3).toNat)
 case atStart=>exact ⟨0,Nat.zero_le _,rfl,Lib.hid (by rw [List.drop_zero];exact HA.out)⟩
 case round=>
  obtain ⟨i,hi,rfl,hrel⟩:=hrel
  by_cases hlt:i<Z
  ·have hii:(i:Int)<Z:=by omega
   obtain ⟨x,hsl,hxd,hxs⟩:=HSL.out i hlt
   have hne:l.drop i≠[]:=by intro h;have:=congrArg List.length h;rw [List.length_drop,HLL.out] at this;simp at this;omega
   have hst:=Lib.hid (hrel.out.trans (valid_step _ hne))
   have KL:=length_any x w (by omega) (by omega)
   have hub:bts x=(l.drop i).map (·.toNat):=by unfold bts;rw [hxd]
   have hul:=uLen_le ((l.drop i).map (·.toNat)) (by simpa using hne)
   rw [hub] at KL
   obtain ⟨n,hn⟩:∃ n,n=uLen ((l.drop i).map (·.toNat)):=⟨_,rfl⟩
   rw [←hn] at KL hst hul
   rw [List.length_map,List.length_drop,HLL.out] at hul
   have KL:=Lib.hid KL
   clear hn hub hne hxd hxs hrel
   go_upto_region 4 with (go_at_call 62;refine KL.out.mono ?_;rintro e w' ⟨rfl,rfl⟩)
   by_cases h0:n=0
   ·have z0:((n:Int) == 0)=true:=by simp;omega
    have HR:Hid (A=false):=Lib.hid (by rw [hst.out,if_pos h0])
    clear h0
    go_wp2
    go_ret
    exact ⟨by rw [HR.out];rfl,rfl⟩
   ·have z0:((n:Int) == 0)=false:=by simp;omega
    have HR:Hid (A=Lib.validD (l.drop (i+n))):=Lib.hid (by rw [hst.out,if_neg h0,List.drop_drop])
    obtain ⟨j,hj⟩:∃ j,j=i+n:=⟨_,rfl⟩
    have hw:IntKind.i64.wrap ((i:Int)+n)=(j:Int):=by rw [wrapS _ (by omega) (by omega)];omega
    rw [←hj] at HR
    have hjb:j≤Z∧i<j:=by omega
    have HJ:=Lib.hid hjb
    clear hj h0 hst hjb
    go_wp2
    go_round
    case rel=>exact ⟨j,HJ.out.1,rfl,HR⟩
    case measure=>have:=HJ.out.2;simp [intOf];omega
  ·have hni:¬(i:Int)<Z:=by omega
   have HR:Hid (A=true):=Lib.hid (by rw [hrel.out,List.drop_of_length_le (by rw [HLL.out];omega)];rfl)
   go_wp2
   go_ret
   exact ⟨by rw [HR.out];rfl,rfl⟩
theorem glue_nil (l:List (List UInt8)):glue [] l=l:=by cases l <;> simp [glue]
theorem nameF_ref (s:ByteArray) (wide:Bool) (h0:s.size≠0) (h1:s.size≤255) :
  nameF s wide=((byt s 0 == 47) || (wide && !Lib.validD s.data.toList) || restF wide [] s.data.toList):=by
 have hr:=restF_parts wide s.data.toList []
 rw [glue_nil] at hr
 have hl:s.data.toList.length=s.size:=by simp
 unfold nameF
 rw [hr]
 have e0:decide (s.size=0)=false:=by simpa using h0
 have e1:decide (255<s.size)=false:=by simp;omega
 rw [e0,e1]
 simp only [Bool.false_or]
 by_cases h47:byt s 0=47
 ·have hb:badParts (parts s.data.toList)=true:=by
   unfold byt at h47
   revert h47 hl
   cases s.data.toList with
   | nil=>intro hl;simp at hl;omega
   | cons c r=>
    intro _ h47
    have hc:c=47:=by
     have:c.toNat=47:=by simpa using h47
     exact UInt8.toNat_inj.1 this
    obtain ⟨q,qs,hq⟩:=parts_ne r
    rw [parts,hq]
    simp [hc,badParts,badPart]
  rw [hb];simp
 ·have e:(byt s 0 == 47)=false:=by simpa using h47
  rw [e]
  cases wide && !Lib.validD s.data.toList <;> simp
set_option maxHeartbeats 3200000 in
theorem rNameFault_any (s:ByteArray) (wide:Bool) (w:World) (hm:s.size≤1000000):Calls Tryz.prog 18 #[.string s,.bool wide] w fun e w'=>e = .returned (.bool (nameF s wide))∧w=w':=by
 have HN:=Lib.hid (nameF_ref s wide)
 obtain ⟨A,hA⟩:∃ A,A=nameF s wide:=⟨_,rfl⟩
 have HA0:Hid (s.size=0∨255<s.size→A=true):=Lib.hid (by rw [hA];unfold nameF;rintro (h | h) <;> simp [h])
 rw [←hA] at HN ⊢
 have HIX:Hid (∀ i,i<s.size→∀ W,(Instr.index 9 (.string s) (.int .i64 (i:Int))).run Tryz.prog W = .ok (.int .u8 (byt s i:Nat)) W):=Lib.hid (idx_byt s)
 have KU:=Lib.hid (utf_any s w hm)
 obtain ⟨Z,hZ⟩:∃ Z,Z=s.size:=⟨_,rfl⟩
 have HZ:=Lib.hid hZ
 have hlen:∀ W,(Builtin.len_ #[9] 3 #[.string s]).run Tryz.prog W = .ok (.int .i64 (Z:Nat)) W:=fun W=>by
  rw [HZ.out];exact run_len_string W 9 3 s Tryz.underlying9
 obtain ⟨l,hl⟩:∃ l,l=s.data.toList:=⟨_,rfl⟩
 have hll:l.length=Z:=by rw [hl,hZ];simp
 have hts:s.toList=l:=by rw [hl,ByteArray.toList_eq]
 have HBY:Hid (∀ i (h:i<l.length),l[i].toNat=byt s i):=Lib.hid fun i h=>by
  unfold byt;rw [←hl];simp only [List.getD_eq_getElem?_getD,List.getElem?_eq_getElem h,Option.getD_some]
 have HSL:Hid (∀ i,i<Z→∃ x,(∀ W,(Instr.slice 9 (.string s) (some (.int .i64 (i:Int))) (some (.int .i64 ((i:Int)+1))) none).run Tryz.prog W = .ok (.string x) W)∧x.data.toList=(l.drop i).take 1∧x.size=1):=Lib.hid fun i hi=>by
  refine ⟨s.extract i (i+1),fun W=>?_,by rw [Lib.extract_data,hl];congr 1;omega,by rw [ByteArray.size_extract];omega⟩
  have:=run_slice_string W 9 s .i64 .i64 (i:Int) ((i:Int)+1) Tryz.underlying9 (by omega)
  exact (by simpa using this (by omega) (by omega))
 rw [←hl] at HN KU
 rw [←hZ] at HN HA0 hm HIX
 have HLL:=Lib.hid hll
 clear hA hZ hl hll
 by_cases h0:Z=0
 ·have HR:=Lib.hid (HA0.out (.inl h0))
  have e0:l.isEmpty=true:=by have:=HLL.out;rw [h0] at this;simpa using this
  go_enter Tryz.func18,Tryz.ntmps18
  go_wp2
  go_ret
  exact ⟨by rw [HR.out];rfl,rfl⟩
 have e0:l.isEmpty=false:=by
  cases l with
  | nil=>exact absurd HLL.out.symm h0
  | cons c r=>rfl
 by_cases h1:255<Z
 ·have HR:=Lib.hid (HA0.out (.inr h1))
  have e1:(255:Int)<Z:=by omega
  go_enter Tryz.func18,Tryz.ntmps18
  go_wp2
  go_ret
  exact ⟨by rw [HR.out];rfl,rfl⟩
 have e1:¬(255:Int)<Z:=by omega
 have HN:=Lib.hid (HN.out h0 (by omega))
 have hi0:∀ W,(Instr.index 9 (.string s) (.int .i64 0)).run Tryz.prog W = .ok (.int .u8 (byt s 0:Nat)) W:=fun W=>HIX.out 0 (by omega) W
 obtain ⟨c0,hc0⟩:∃ c0,c0=byt s 0:=⟨_,rfl⟩
 rw [←hc0] at HN hi0
 clear hc0
 by_cases h2:c0=47
 ·have HR:Hid (A=true):=Lib.hid (by rw [HN.out,h2];rfl)
  subst h2
  go_enter Tryz.func18,Tryz.ntmps18
  go_wp2
  go_ret
  exact ⟨by rw [HR.out];rfl,rfl⟩
 have z2:((c0:Int) == 47)=false:=by simp;omega
 have HN2:Hid (A=((wide && !Lib.validD l) || restF wide [] l)):=Lib.hid (by rw [HN.out,show (c0 == 47)=false by simpa using h2,Bool.false_or])
 clear HN h2 HA0
 obtain ⟨V,hV⟩:∃ V,V=Lib.validD l:=⟨_,rfl⟩
 rw [←hV] at HN2 KU
 clear hV
 have h01:=Lib.hid h0
 clear h0 h1
 by_cases hb:(wide && !V)=true
 ·obtain ⟨rfl,hV0⟩:wide=true∧V=false:=by cases wide <;> cases V <;> simp_all
  subst hV0
  have HR:Hid (A=true):=Lib.hid (by rw [HN2.out];rfl)
  go_enter Tryz.func18,Tryz.ntmps18
  go_wp2_with (go_at_call 39;refine KU.out.mono ?_;rintro e w' ⟨rfl,rfl⟩)
  go_ret
  exact ⟨by rw [HR.out];rfl,rfl⟩
 have HN3:Hid (A=restF wide [] l):=Lib.hid (by rw [HN2.out,show (wide && !V)=false by simpa using hb,Bool.false_or])
 have hwV:wide=false∨(wide=true∧V=true):=by cases wide <;> cases V <;> simp_all
 clear hb HN2
 rcases hwV with rfl | ⟨rfl,rfl⟩
 ·clear KU
  go_enter Tryz.func18,Tryz.ntmps18
  go_wp2
  go_loop [5,6] (fun v5 v6=>∃ (i:Nat) (pt:ByteArray) (p:List UInt8),i≤Z∧v6 = .int .i64 i∧v5 = .string pt∧pt.size≤i∧Hid (pt.data.toList=p)∧Hid (A=restF false p (l.drop i))) (fun _ v6=>Z-(intOf v6).toNat)
  case atStart=>exact ⟨0,⟨#[]⟩,[],Nat.zero_le _,rfl,rfl,Nat.le_refl _,Lib.hid rfl,Lib.hid (by rw [List.drop_zero];exact HN3.out)⟩
  case round=>
  obtain ⟨i,pt,p,hi,rfl,rfl,hps,hpt,hrel⟩:=hrel
  by_cases hlt:i<Z
  ·have hii:(i:Int)<Z:=by omega
   have hidx:=HIX.out i hlt
   have hil:i<l.length:=by rw [HLL.out];exact hlt
   have hby:=HBY.out i hil
   have hdr:=List.drop_eq_getElem_cons hil
   obtain ⟨cu,hcu⟩:∃ cu,cu=l[i]:=⟨_,rfl⟩
   rw [←hcu] at hby hdr
   obtain ⟨x,hsl,hxd,hxs⟩:=HSL.out i hlt
   rw [hdr] at hxd
   have hst:=Lib.hid (hrel.out.trans (congrArg (restF false p) hdr))
   obtain ⟨c,hc⟩:∃ c,c=cu.toNat:=⟨_,rfl⟩
   rw [←hby,←hc] at hidx
   have hcb:c<256:=by rw [hc];exact cu.toNat_lt
   have HC:=Lib.hid hc
   have HXD:Hid (x.data.toList=[cu]):=Lib.hid hxd
   clear hby hcu hdr hrel hc hxd
   by_cases b1:c<32
   ·have z1:(c:Int)<32:=by omega
    have HR:Hid (A=true):=Lib.hid (by rw [hst.out,restF,←HC.out];simp [badByte,b1])
    go_wp2
    go_ret
    exact ⟨by rw [HR.out];rfl,rfl⟩
   have z1:¬(c:Int)<32:=by omega
   by_cases b2:c=127
   ·have HR:Hid (A=true):=Lib.hid (by rw [hst.out,restF,←HC.out];simp [badByte,b2])
    clear HC hst
    subst b2
    go_wp2
    go_ret
    exact ⟨by rw [HR.out];rfl,rfl⟩
   have z2:((c:Int) == 127)=false:=by simp;omega
   by_cases b3:c=92
   ·have HR:Hid (A=true):=Lib.hid (by rw [hst.out,restF,←HC.out];simp [badByte,b3])
    clear HC hst
    subst b3
    go_wp2
    go_ret
    exact ⟨by rw [HR.out];rfl,rfl⟩
   have z3:((c:Int) == 92)=false:=by simp;omega
   by_cases b4:127<c
   ·have z4:(127:Int)<c:=by omega
    have HR:Hid (A=true):=Lib.hid (by rw [hst.out,restF,←HC.out];simp [badByte,b4])
    go_wp2
    go_ret
    exact ⟨by rw [HR.out];rfl,rfl⟩
   have z4:¬(127:Int)<c:=by omega
   by_cases b5:c=47
   ·have z5:((c:Int) == 47)=true:=by simp;omega
    have h47:cu=47:=UInt8.toNat_inj.1 (by rw [←HC.out,b5];rfl)
    have HB:Hid (A=((p == [] || p == [46] || p == [46,46]) || restF false [] (l.drop (i+1)))):=Lib.hid (by
     rw [hst.out,restF,if_pos h47,←HC.out];simp [badByte,b1,b2,b3,b4])
    clear hst
    by_cases p1:p=[]
    ·have HR:Hid (A=true):=Lib.hid (by rw [HB.out,p1];rfl)
     have q1:pt.toList.isEmpty=true:=by rw [ByteArray.toList_eq,hpt.out,p1];rfl
     go_wp2
     go_ret
     exact ⟨by rw [HR.out];rfl,rfl⟩
    have q1:pt.toList.isEmpty=false:=by rw [ByteArray.toList_eq,hpt.out];simpa using p1
    by_cases p2:p=[46]
    ·have HR:Hid (A=true):=Lib.hid (by rw [HB.out,p2];rfl)
     have q2:(pt.toList == [46])=true:=by rw [ByteArray.toList_eq,hpt.out,p2];rfl
     go_wp2
     go_ret
     exact ⟨by rw [HR.out];rfl,rfl⟩
    have q2:(pt.toList == [46])=false:=by rw [ByteArray.toList_eq,hpt.out];simpa using p2
    by_cases p3:p=[46,46]
    ·have HR:Hid (A=true):=Lib.hid (by rw [HB.out,p3];rfl)
     have q3:(pt.toList == [46,46])=true:=by rw [ByteArray.toList_eq,hpt.out,p3];rfl
     go_wp2
     go_ret
     exact ⟨by rw [HR.out];rfl,rfl⟩
    have q3:(pt.toList == [46,46])=false:=by rw [ByteArray.toList_eq,hpt.out];simpa using p3
    have HN5:Hid (A=restF false [] (l.drop (i+1))):=Lib.hid (by rw [HB.out];simp [p1,p2,p3])
    clear p1 p2 p3 h47 HB
    go_wp2
    go_round
    case rel=>exact ⟨i+1,⟨#[]⟩,[],by omega,by go_num,rfl,by show (0:Nat)≤_;omega,Lib.hid rfl,HN5⟩
    case measure=>simp [intOf];omega
   ·have z5:((c:Int) == 47)=false:=by simp;omega
    have h47:¬cu=47:=fun h=>b5 (by rw [HC.out,h];rfl)
    have HN5:Hid (A=restF false (p++[cu]) (l.drop (i+1))):=Lib.hid (by
     rw [hst.out,restF,if_neg h47,←HC.out];simp [badByte,b1,b2,b3,b4])
    have hadd:∀ W,(Op.stringOp .add pt x).run Tryz.prog W = .ok (.string (pt++x)) W:=fun W=>run_string_add_sum W pt x (by omega)
    have HPT:Hid ((pt++x).data.toList=p++[cu]):=Lib.hid (by rw [ByteArray.data_append,Array.toList_append,hpt.out,HXD.out])
    have hsz:(pt++x).size=pt.size+x.size:=ByteArray.size_append
    obtain ⟨px,hpx⟩:∃ px,px=pt++x:=⟨_,rfl⟩
    rw [←hpx] at hadd HPT hsz
    have HSZ:Hid (px.size≤i+1):=Lib.hid (by omega)
    clear hpx hsz hst h47
    go_wp2
    go_round
    case rel=>exact ⟨i+1,px,p++[cu],by omega,by go_num,rfl,HSZ.out,HPT,HN5⟩
    case measure=>simp [intOf];omega
  ·have hni:¬(i:Int)<Z:=by omega
   have HB:Hid (A=(p == [46] || p == [46,46])):=Lib.hid (by rw [hrel.out,List.drop_of_length_le (by rw [HLL.out];omega)];rfl)
   clear hrel
   by_cases p2:p=[46]
   ·have HR:Hid (A=true):=Lib.hid (by rw [HB.out,p2];rfl)
    have q2:(pt.toList == [46])=true:=by rw [ByteArray.toList_eq,hpt.out,p2];rfl
    go_wp2
    go_ret
    exact ⟨by rw [HR.out];rfl,rfl⟩
   have q2:(pt.toList == [46])=false:=by rw [ByteArray.toList_eq,hpt.out];simpa using p2
   by_cases p3:p=[46,46]
   ·have HR:Hid (A=true):=Lib.hid (by rw [HB.out,p3];rfl)
    have q3:(pt.toList == [46,46])=true:=by rw [ByteArray.toList_eq,hpt.out,p3];rfl
    go_wp2
    go_ret
    exact ⟨by rw [HR.out];rfl,rfl⟩
   have q3:(pt.toList == [46,46])=false:=by rw [ByteArray.toList_eq,hpt.out];simpa using p3
   have HR:Hid (A=false):=Lib.hid (by rw [HB.out];simp [p2,p3])
   go_wp2
   go_ret
   exact ⟨by rw [HR.out];rfl,rfl⟩
 ·go_enter Tryz.func18,Tryz.ntmps18
  go_wp2_with (go_at_call 39;refine KU.out.mono ?_;rintro e w' ⟨rfl,rfl⟩)
  go_loop [5,6] (fun v5 v6=>∃ (i:Nat) (pt:ByteArray) (p:List UInt8),i≤Z∧v6 = .int .i64 i∧v5 = .string pt∧pt.size≤i∧Hid (pt.data.toList=p)∧Hid (A=restF true p (l.drop i))) (fun _ v6=>Z-(intOf v6).toNat)
  case atStart=>exact ⟨0,⟨#[]⟩,[],Nat.zero_le _,rfl,rfl,Nat.le_refl _,Lib.hid rfl,Lib.hid (by rw [List.drop_zero];exact HN3.out)⟩
  case round=>
  obtain ⟨i,pt,p,hi,rfl,rfl,hps,hpt,hrel⟩:=hrel
  by_cases hlt:i<Z
  ·have hii:(i:Int)<Z:=by omega
   have hidx:=HIX.out i hlt
   have hil:i<l.length:=by rw [HLL.out];exact hlt
   have hby:=HBY.out i hil
   have hdr:=List.drop_eq_getElem_cons hil
   obtain ⟨cu,hcu⟩:∃ cu,cu=l[i]:=⟨_,rfl⟩
   rw [←hcu] at hby hdr
   obtain ⟨x,hsl,hxd,hxs⟩:=HSL.out i hlt
   rw [hdr] at hxd
   have hst:=Lib.hid (hrel.out.trans (congrArg (restF true p) hdr))
   obtain ⟨c,hc⟩:∃ c,c=cu.toNat:=⟨_,rfl⟩
   rw [←hby,←hc] at hidx
   have hcb:c<256:=by rw [hc];exact cu.toNat_lt
   have HC:=Lib.hid hc
   have HXD:Hid (x.data.toList=[cu]):=Lib.hid hxd
   clear hby hcu hdr hrel hc hxd
   by_cases b1:c<32
   ·have z1:(c:Int)<32:=by omega
    have HR:Hid (A=true):=Lib.hid (by rw [hst.out,restF,←HC.out];simp [badByte,b1])
    go_wp2
    go_ret
    exact ⟨by rw [HR.out];rfl,rfl⟩
   have z1:¬(c:Int)<32:=by omega
   by_cases b2:c=127
   ·have HR:Hid (A=true):=Lib.hid (by rw [hst.out,restF,←HC.out];simp [badByte,b2])
    clear HC hst
    subst b2
    go_wp2
    go_ret
    exact ⟨by rw [HR.out];rfl,rfl⟩
   have z2:((c:Int) == 127)=false:=by simp;omega
   by_cases b3:c=92
   ·have HR:Hid (A=true):=Lib.hid (by rw [hst.out,restF,←HC.out];simp [badByte,b3])
    clear HC hst
    subst b3
    go_wp2
    go_ret
    exact ⟨by rw [HR.out];rfl,rfl⟩
   have z3:((c:Int) == 92)=false:=by simp;omega
   by_cases b5:c=47
   ·have z5:((c:Int) == 47)=true:=by simp;omega
    have h47:cu=47:=UInt8.toNat_inj.1 (by rw [←HC.out,b5];rfl)
    have HB:Hid (A=((p == [] || p == [46] || p == [46,46]) || restF true [] (l.drop (i+1)))):=Lib.hid (by
     rw [hst.out,restF,if_pos h47,←HC.out];simp [badByte,b1,b2,b3])
    clear hst
    by_cases p1:p=[]
    ·have HR:Hid (A=true):=Lib.hid (by rw [HB.out,p1];rfl)
     have q1:pt.toList.isEmpty=true:=by rw [ByteArray.toList_eq,hpt.out,p1];rfl
     go_wp2
     go_ret
     exact ⟨by rw [HR.out];rfl,rfl⟩
    have q1:pt.toList.isEmpty=false:=by rw [ByteArray.toList_eq,hpt.out];simpa using p1
    by_cases p2:p=[46]
    ·have HR:Hid (A=true):=Lib.hid (by rw [HB.out,p2];rfl)
     have q2:(pt.toList == [46])=true:=by rw [ByteArray.toList_eq,hpt.out,p2];rfl
     go_wp2
     go_ret
     exact ⟨by rw [HR.out];rfl,rfl⟩
    have q2:(pt.toList == [46])=false:=by rw [ByteArray.toList_eq,hpt.out];simpa using p2
    by_cases p3:p=[46,46]
    ·have HR:Hid (A=true):=Lib.hid (by rw [HB.out,p3];rfl)
     have q3:(pt.toList == [46,46])=true:=by rw [ByteArray.toList_eq,hpt.out,p3];rfl
     go_wp2
     go_ret
     exact ⟨by rw [HR.out];rfl,rfl⟩
    have q3:(pt.toList == [46,46])=false:=by rw [ByteArray.toList_eq,hpt.out];simpa using p3
    have HN5:Hid (A=restF true [] (l.drop (i+1))):=Lib.hid (by rw [HB.out];simp [p1,p2,p3])
    clear p1 p2 p3 h47 HB
    go_wp2
    go_round
    case rel=>exact ⟨i+1,⟨#[]⟩,[],by omega,by go_num,rfl,by show (0:Nat)≤_;omega,Lib.hid rfl,HN5⟩
    case measure=>simp [intOf];omega
   ·have z5:((c:Int) == 47)=false:=by simp;omega
    have h47:¬cu=47:=fun h=>b5 (by rw [HC.out,h];rfl)
    have HN5:Hid (A=restF true (p++[cu]) (l.drop (i+1))):=Lib.hid (by
     rw [hst.out,restF,if_neg h47,←HC.out];simp [badByte,b1,b2,b3])
    have hadd:∀ W,(Op.stringOp .add pt x).run Tryz.prog W = .ok (.string (pt++x)) W:=fun W=>run_string_add_sum W pt x (by omega)
    have HPT:Hid ((pt++x).data.toList=p++[cu]):=Lib.hid (by rw [ByteArray.data_append,Array.toList_append,hpt.out,HXD.out])
    have hsz:(pt++x).size=pt.size+x.size:=ByteArray.size_append
    obtain ⟨px,hpx⟩:∃ px,px=pt++x:=⟨_,rfl⟩
    rw [←hpx] at hadd HPT hsz
    have HSZ:Hid (px.size≤i+1):=Lib.hid (by omega)
    clear hpx hsz hst h47
    go_wp2
    go_round
    case rel=>exact ⟨i+1,px,p++[cu],by omega,by go_num,rfl,HSZ.out,HPT,HN5⟩
    case measure=>simp [intOf];omega
  ·have hni:¬(i:Int)<Z:=by omega
   have HB:Hid (A=(p == [46] || p == [46,46])):=Lib.hid (by rw [hrel.out,List.drop_of_length_le (by rw [HLL.out];omega)];rfl)
   clear hrel
   by_cases p2:p=[46]
   ·have HR:Hid (A=true):=Lib.hid (by rw [HB.out,p2];rfl)
    have q2:(pt.toList == [46])=true:=by rw [ByteArray.toList_eq,hpt.out,p2];rfl
    go_wp2
    go_ret
    exact ⟨by rw [HR.out];rfl,rfl⟩
   have q2:(pt.toList == [46])=false:=by rw [ByteArray.toList_eq,hpt.out];simpa using p2
   by_cases p3:p=[46,46]
   ·have HR:Hid (A=true):=Lib.hid (by rw [HB.out,p3];rfl)
    have q3:(pt.toList == [46,46])=true:=by rw [ByteArray.toList_eq,hpt.out,p3];rfl
    go_wp2
    go_ret
    exact ⟨by rw [HR.out];rfl,rfl⟩
   have q3:(pt.toList == [46,46])=false:=by rw [ByteArray.toList_eq,hpt.out];simpa using p3
   have HR:Hid (A=false):=Lib.hid (by rw [HB.out];simp [p2,p3])
   go_wp2
   go_ret
   exact ⟨by rw [HR.out];rfl,rfl⟩
theorem lowU_nat (c:UInt8):(lowU c).toNat=if 65≤c.toNat∧c.toNat≤90 then c.toNat+32 else c.toNat:=by
 unfold lowU
 split
 ·rw [UInt8.toNat_ofNat'];omega
 ·rfl
def fdn (l:List UInt8) (i:Nat):List Nat:=((l.take i).map lowU).map (·.toNat)
theorem fdn_len (l:List UInt8) (i:Nat) (h:i≤l.length):(fdn l i).length=i:=by simp [fdn];omega
theorem fdn_next (l:List UInt8) (i:Nat) (h:i<l.length):fdn l (i+1)=fdn l i++[(lowU l[i]).toNat]:=by
 unfold fdn
 rw [List.take_succ_eq_append_getElem h,List.map_append,List.map_append];rfl
theorem own_text {w:World} {base:Nat} {v:Value} {n:Nat} {l:List UInt8} (h:w.ownsRow base 5 1 v n (Cu.u8s (l.map (·.toNat)))) (hn:n=l.length):∀ a c,v = .slice a n c→(convert 22 9 (.slice a n c)).run Tryz.prog w = .ok (.string ⟨l.toArray⟩) w:=by
 intro a c hv
 subst hv hn
 by_cases h0:l=[]
 ·subst h0
  cases a with
  | none=>kernel_rfl
  | some ad=>exact run_convert_bytes_back w 22 9 5 ad c [] Tryz.underlying22 Tryz.underlying5 Tryz.underlying9 fun j hj=>by simp at hj
 ·have hl:0<l.length:=List.length_pos_iff.2 h0
  obtain ⟨g,c',hv,hb,hlt⟩:=h.form hl
  injection hv with h1 h2 h3
  subst h1 h3
  refine run_convert_bytes_back w 22 9 5 ⟨g,0,none⟩ c l Tryz.underlying22 Tryz.underlying5 Tryz.underlying9 fun j hj=>?_
  have:=h.cells (g:=g) rfl j (.int .u8 (l[j].toNat:Int)) (by simp [Cu.u8s,hj])
  rwa [Addr.add_lit,Nat.zero_add] at this ⊢
set_option maxHeartbeats 1600000 in
theorem rFold_any (s:ByteArray) (w:World) (hm:s.size≤1000000):Calls Tryz.prog 20 #[.string s] w fun e w'=>e = .returned (.string (foldT s))∧Below w.heap.size w w':=by
 have HIX:Hid (∀ i,i<s.size→∀ W,(Instr.index 9 (.string s) (.int .i64 (i:Int))).run Tryz.prog W = .ok (.int .u8 (byt s i:Nat)) W):=Lib.hid (idx_byt s)
 obtain ⟨Z,hZ⟩:∃ Z,Z=s.size:=⟨_,rfl⟩
 have HZ:=Lib.hid hZ
 have hlen:∀ W,(Builtin.len_ #[9] 3 #[.string s]).run Tryz.prog W = .ok (.int .i64 (Z:Nat)) W:=fun W=>by
  rw [HZ.out];exact run_len_string W 9 3 s Tryz.underlying9
 obtain ⟨l,hl⟩:∃ l,l=s.data.toList:=⟨_,rfl⟩
 have hll:l.length=Z:=by rw [hl,hZ];simp
 have HBY:Hid (∀ i (h:i<l.length),l[i].toNat=byt s i):=Lib.hid fun i h=>by
  unfold byt;rw [←hl];simp only [List.getD_eq_getElem?_getD,List.getElem?_eq_getElem h,Option.getD_some]
 have HF:Hid (foldT s=⟨(l.map lowU).toArray⟩):=Lib.hid (by unfold foldT;rw [←hl])
 rw [←hZ] at HIX hm
 have HLL:=Lib.hid hll
 clear hZ hl hll
 have ho:=Cu.own_empty w 5 1
 have hb0:Below w.heap.size w (w.alloc (.cells #[] 5)):=(Below.refl _ w).alloc (Nat.le_refl _) _
 go_enter Tryz.func20,Tryz.ntmps20
 go_wp2
 obtain ⟨w1,hw1⟩:∃ w1,w1=w.alloc (.cells #[] 5):=⟨_,rfl⟩
 rw [←hw1] at ho hb0 ⊢
 have HO:=Lib.hid ho
 have HB:=Lib.hid hb0
 clear ho hb0 hw1
 go_loopw [3,4] (fun v3 v4 wr=>∃ (i:Nat) (a:Option Addr) (c:Nat),i≤Z∧v4 = .int .i64 i∧v3 = .slice a i c∧Hid (wr.ownsRow w.heap.size 5 1 (.slice a i c) i (Cu.u8s (fdn l i)))∧Hid (Below w.heap.size w wr)) (fun _ v4 _=>Z-(intOf v4).toNat)
 case atStart=>exact ⟨0,some ⟨w.heap.size,0,none⟩,0,Nat.zero_le _,rfl,rfl,HO,HB⟩
 case round=>
  obtain ⟨i,a,cc,hi,rfl,rfl,hown,hbel⟩:=hrel
  by_cases hlt:i<Z
  ·have hii:(i:Int)<Z:=by omega
   have hidx:=HIX.out i hlt
   have hil:i<l.length:=by rw [HLL.out];exact hlt
   have hby:=HBY.out i hil
   have hfn:=fdn_next l i hil
   rw [lowU_nat,hby] at hfn
   have hcb:=byt_lt s i
   obtain ⟨c,hc⟩:∃ c,c=byt s i:=⟨_,rfl⟩
   rw [←hc] at hidx hfn hcb
   have HFN:=Lib.hid hfn
   have HFL:=Lib.hid (fdn_len l i (by omega))
   clear hc hby hfn
   by_cases h65:65≤c∧c≤90
   ·have e1:(65:Int)≤c:=by omega
    have e2:(c:Int)≤90:=by omega
    obtain ⟨d,hd⟩:∃ d,d=c+32:=⟨_,rfl⟩
    have hw:IntKind.u8.wrap ((c:Int)+32)=(d:Int):=by rw [hd,show IntKind.u8.wrap ((c:Int)+32)=((c:Int)+32)%256 from rfl];omega
    have HX:Hid (Cu.u8s (fdn l (i+1))=Cu.u8s (fdn l i)++[.int .u8 (d:Nat)]):=Lib.hid (by rw [HFN.out,if_pos h65,←hd,←Cu.u8s_app];rfl)
    clear hd h65
    go_wp2_with (at_builtin;refine Cu.wpList_append_x Cu.at22 rfl (.tmp 24) (.tmp 26) rfl w.heap.size (.slice a i cc) (.slice (some ⟨wr.heap.size,0,none⟩) 1 1) i 1 (Cu.u8s (fdn l i)) [.int .u8 (d:Nat)] (by simp [Act.eval]) (by simp [Act.eval]) (ownsRow_touch hown.out (Touch.of_below ((Below.refl wr.heap.size wr).alloc (Nat.le_refl _) _):Touch (fun _=>False) wr _) (fun _ _ h=>h)) (Cu.cells_one _ _ _) rfl (by intro u hu;rw [List.mem_singleton] at hu;subst hu;rfl) (by have:=hbel.out.size;simp;omega) (by omega) (by omega) ?_;intro ao2 c2 w5 hA;rw [←HX.out] at hA;have HO5:=Lib.hid hA.own;have HB5:Hid (Below w.heap.size w w5):=Lib.hid (hbel.out.trans (Cu.Apd.below (Cu.Apd.alloc (o := .cells #[.int .u8 (d:Nat)] 5) hA) hown.out hbel.out.size));clear hA)
    go_roundw
    case rel=>exact ⟨i+1,ao2,c2,by omega,by go_num,rfl,HO5,HB5⟩
    case measure=>simp [intOf];omega
   ·have HX:Hid (Cu.u8s (fdn l (i+1))=Cu.u8s (fdn l i)++[.int .u8 (c:Nat)]):=Lib.hid (by rw [HFN.out,if_neg h65,←Cu.u8s_app];rfl)
    have h66:¬(65:Int)≤c∨((65:Int)≤c∧¬(c:Int)≤90):=by omega
    clear h65
    rcases h66 with e1 | ⟨e1,e2⟩
    all_goals
     go_wp2_with (at_builtin;refine Cu.wpList_append_x Cu.at22 rfl (.tmp 24) (.tmp 26) rfl w.heap.size (.slice a i cc) (.slice (some ⟨wr.heap.size,0,none⟩) 1 1) i 1 (Cu.u8s (fdn l i)) [.int .u8 (c:Nat)] (by simp [Act.eval]) (by simp [Act.eval]) (ownsRow_touch hown.out (Touch.of_below ((Below.refl wr.heap.size wr).alloc (Nat.le_refl _) _):Touch (fun _=>False) wr _) (fun _ _ h=>h)) (Cu.cells_one _ _ _) rfl (by intro u hu;rw [List.mem_singleton] at hu;subst hu;rfl) (by have:=hbel.out.size;simp;omega) (by omega) (by omega) ?_;intro ao2 c2 w5 hA;rw [←HX.out] at hA;have HO5:=Lib.hid hA.own;have HB5:Hid (Below w.heap.size w w5):=Lib.hid (hbel.out.trans (Cu.Apd.below (Cu.Apd.alloc (o := .cells #[.int .u8 (c:Nat)] 5) hA) hown.out hbel.out.size));clear hA)
     go_roundw
     case rel=>exact ⟨i+1,ao2,c2,by omega,by go_num,rfl,HO5,HB5⟩
     case measure=>simp [intOf];omega
  ·have hni:¬(i:Int)<Z:=by omega
   obtain rfl:i=Z:=by omega
   have ho:wr.ownsRow w.heap.size 5 1 (.slice a i cc) i (Cu.u8s ((l.map lowU).map (·.toNat))):=by
    have:=hown.out
    unfold fdn at this
    rwa [List.take_of_length_le (by rw [HLL.out];omega)] at this
   have hcv:=own_text ho (by rw [List.length_map,HLL.out]) a cc rfl
   have HCV:=Lib.hid (HF.out)
   obtain ⟨tx,htx⟩:∃ tx:ByteArray,tx=⟨(l.map lowU).toArray⟩:=⟨_,rfl⟩
   rw [←htx] at hcv HCV
   clear ho htx hown
   go_wp2
   go_ret
   exact ⟨by rw [HCV.out];rfl,hbel.out⟩
theorem own_lits (w:World) (base:Nat) (xs:List Nat) (cs:Array Value) (n:Nat) (hb:base≤w.heap.size) (hc:cs=(u8s xs).toArray) (hn:xs.length=n) (hm:n≤1000):(w.alloc (.cells cs 5)).ownsRow base 5 1 (.slice (some ⟨w.heap.size,0,none⟩) n n) n (u8s xs):=by
 subst hc hn
 refine ⟨by simp [u8s],.inr ⟨w.heap.size,xs.length,_,rfl,hb,Blk.made w 5 _,Nat.le_refl _,by simp [maxLen];omega,by simp [u8s],by rw [Nat.mul_one];simp [u8s];rw [←List.map_take,List.take_length]⟩⟩
def stoOf (nm:Nat→ByteArray) (f:Nat→List Nat) (i:Nat):Sto:=⟨nm i,f i,(CrcPlain.updN 0#32 (f i)).toNat⟩
def stos (nm:Nat→ByteArray) (f:Nat→List Nat) (n:Nat):List Sto:=(List.range n).map (stoOf nm f)
theorem stos_len (nm:Nat→ByteArray) (f:Nat→List Nat) (n:Nat):(stos nm f n).length=n:=by simp [stos]
theorem stos_next (nm:Nat→ByteArray) (f:Nat→List Nat) (n:Nat):stos nm f (n+1)=stos nm f n++[stoOf nm f n]:=by simp [stos,List.range_succ]
theorem HH_next (nm:Nat→ByteArray) (f:Nat→List Nat) (n:Nat):HH (stos nm f (n+1))=HH (stos nm f n)++hdB (stoOf nm f n):=by rw [stos_next,HH_app];simp [HH]
theorem RR_next (nm:Nat→ByteArray) (f:Nat→List Nat) (n:Nat):RR 0 (stos nm f (n+1))=RR 0 (stos nm f n)++rwB (HH (stos nm f n)).length (stoOf nm f n):=by rw [stos_next,RR_app,Nat.zero_add];simp [RR]
theorem HH_small {nm:Nat→ByteArray} {f:Nat→List Nat}:∀ {n:Nat},(∀ i,i<n→(nm i).size≤5000∧(f i).length≤5000)→(HH (stos nm f n)).length≤n*10030∧(RR 0 (stos nm f n)).length≤n*5046
 | 0,_=>⟨by simp [stos,HH],by simp [stos,RR]⟩
 | n+1,h=>by
  obtain ⟨h1,h2⟩:=HH_small (n:=n) fun i hi=>h i (by omega)
  obtain ⟨h3,h4⟩:=h n (by omega)
  rw [HH_next,RR_next,List.length_append,List.length_append,hdB_len,rwB_len]
  simp only [stoOf]
  omega
structure Trb (B:Nat) (w wr:World) (v1:Value) (xs1:List Nat) (v2:Value) (xs2:List Nat) (v3:Value) (xs3:List Nat):Prop where
 tw:Twb B w wr v1 xs1 v2 xs2
 own3:wr.ownsRow B 5 1 v3 xs3.length (u8s xs3)
 n1:∀ k,v1.ownBlock=some k→v3.ownBlock≠some k
 n2:∀ k,v2.ownBlock=some k→v3.ownBlock≠some k
section
variable {B:Nat} {w wr w':World} {v1 v2 v3 v':Value} {xs1 xs2 xs3 ys:List Nat}
theorem Trb.app1 (h:Trb B w wr v1 xs1 v2 xs2 v3 xs3) (k:Apd wr B v1 ys v' w'):Trb B w w' v' ys v2 xs2 v3 xs3:=by
 refine ⟨h.tw.app1 k,ownsRow_touch h.own3 k.touch fun i hi hs=>h.n1 i hs hi,fun i hi h3=>?_,h.n2⟩
 rcases k.row i hi with h1 | h1
 ·exact h.n1 i h1 h3
 ·have:=(h.own3.lt i h3).2;omega
theorem Trb.app2 (h:Trb B w wr v1 xs1 v2 xs2 v3 xs3) (k:Apd wr B v2 ys v' w'):Trb B w w' v1 xs1 v' ys v3 xs3:=by
 refine ⟨h.tw.app2 k,ownsRow_touch h.own3 k.touch fun i hi hs=>h.n2 i hs hi,h.n1,fun i hi h3=>?_⟩
 rcases k.row i hi with h1 | h1
 ·exact h.n2 i h1 h3
 ·have:=(h.own3.lt i h3).2;omega
theorem Trb.grow (h:Trb B w wr v1 xs1 v2 xs2 v3 xs3) (hb:Below wr.heap.size wr w'):Trb B w w' v1 xs1 v2 xs2 v3 xs3:=
 ⟨h.tw.grow hb,ownsRow_touch h.own3 (Touch.of_below hb:Touch (fun _=>False) wr w') fun _ _ h=>h,h.n1,h.n2⟩
theorem Trb.new (h:Twb B w wr v1 xs1 v2 xs2) (h3:wr.ownsRow B 5 1 v3 xs3.length (u8s xs3)) {b:Nat} (l1:∀ k,v1.ownBlock=some k→k<b) (l2:∀ k,v2.ownBlock=some k→k<b) (l3:∀ k,v3.ownBlock=some k→b≤k):Trb B w wr v1 xs1 v2 xs2 v3 xs3:=
 ⟨h,h3,fun k hk h=>by have:=l1 k hk;have:=l3 k h;omega,fun k hk h=>by have:=l2 k hk;have:=l3 k h;omega⟩
end
theorem by_grow {w w':World} {v:Value} {xs:List Nat} (h:BySl w v xs) (hb:Below w.heap.size w w'):BySl w' v xs:=h.grow hb
theorem by_apart {S:Nat→Prop} {w w':World} {g n c:Nat} {xs:List Nat} (h:BySl w (.slice (some ⟨g,0,none⟩) n c) xs) (ht:Touch S w w') (hs:¬S g) (hg:g<w.heap.size):BySl w' (.slice (some ⟨g,0,none⟩) n c) xs:=by
 rcases h with ⟨h0,_⟩ | ⟨ad,c',h1,h2,h3⟩
 ·cases h0
 ·injection h1 with e1 e2 e3
  injection e1 with e1
  subst e1
  exact .inr ⟨_,c',by rw [e2,e3],h2,fun j u hu=>by
   have:=h3 j u hu
   rw [Addr.add_lit] at this ⊢
   exact (World.cell?_of_block (ht.block g hg hs)).trans this⟩
theorem text_run (s:ByteArray):∃ (NEW:World→World) (CAP:World→Nat),(∀ W,(convert 9 22 (.string s)).run Tryz.prog W = .ok (.slice (some ⟨W.heap.size,0,none⟩) s.size (CAP W)) (NEW W))∧(∀ W,Below W.heap.size W (NEW W))∧
  (∀ W,BySl (NEW W) (.slice (some ⟨W.heap.size,0,none⟩) s.size (CAP W)) (nmB s))∧(∀ W,(NEW W).heap.size=W.heap.size+1):=by
 have hX:∀ W:World,∃ x:World × Nat,(convert 9 22 (.string s)).run Tryz.prog W = .ok (.slice (some ⟨W.heap.size,0,none⟩) s.size x.2) x.1∧Below W.heap.size W x.1∧BySl x.1 (.slice (some ⟨W.heap.size,0,none⟩) s.size x.2) (nmB s)∧x.1.heap.size=W.heap.size+1:=by
  intro w
  have hrun:=run_bytes_of_string (P:=Tryz.prog) w 9 22 5 s Tryz.underlying9 Tryz.underlying22 Tryz.underlying5
  obtain ⟨cp,hcp⟩:∃ cp,cp=grownCap w s.size 0 5:=⟨_,rfl⟩
  have hge:s.size≤cp:=by rw [hcp];exact grownCap_ge w s.size 0 5
  rw [←hcp] at hrun
  obtain ⟨w1,hw1⟩:∃ w1,w1=w.drew.alloc (.cells (bytesRow s cp) 5 ((bytesRow s cp).size,(bytesRow s cp).size+1)):=⟨_,rfl⟩
  rw [←hw1] at hrun
  have hB:Below w.heap.size w w1:=by rw [hw1];exact ((Below.refl w.heap.size w).drew).alloc (Nat.le_refl _) _
  have hz:w1.heap.size=w.heap.size+1:=by rw [hw1,alloc_size];rfl
  have hS:BySl w1 (.slice (some ⟨w.heap.size,0,none⟩) s.size cp) (nmB s):=by
   have hnl:=nmB_len s
   refine .inr ⟨⟨w.heap.size,0,none⟩,cp,by rw [hnl],by rw [hnl];exact hge,fun j u hu=>?_⟩
   have hj:j<s.data.size:=by
    have:=(List.getElem?_eq_some_iff.1 hu).1
    simpa [u8s,nmB] using this
   have hc:w1.cell? ⟨w.heap.size,j,none⟩=(bytesRow s cp)[j]? := by rw [hw1];exact cell_of_row _ _ j _ 5 _ (heap_alloc_new w.drew _)
   rw [Addr.add_lit,Nat.zero_add,hc,bytesRow_at s cp j hj,←hu]
   simp [u8s,nmB]
   rw [Array.getElem?_eq_getElem hj];rfl
  exact ⟨(w1,cp),hrun,hB,hS,hz⟩
 exact ⟨fun W=>(Classical.choose (hX W)).1,fun W=>(Classical.choose (hX W)).2,fun W=>(Classical.choose_spec (hX W)).1,fun W=>(Classical.choose_spec (hX W)).2.1,fun W=>(Classical.choose_spec (hX W)).2.2.1,fun W=>(Classical.choose_spec (hX W)).2.2.2⟩
theorem res22 {t:Array Value} {W:World} {q:Nat} {x0 x1 x2:Value} (h2:t[0]? = some (.pointer (some ⟨q,0,none⟩))) (h:Blk W q 24 #[x0,x1,x2]) :
  (results Tryz.f22 t).run Tryz.prog W = .ok (.agg #[x0,x1,x2]) W:=by
 have e0:=(h.cell 0).trans (show _=some x0 from rfl)
 have e1:=(h.cell 1).trans (show _=some x1 from rfl)
 have e2:=(h.cell 2).trans (show _=some x2 from rfl)
 simp [results,Tryz.results22,h2,go_sem,e0,e1,e2]
theorem all_any (w:World):Calls Tryz.prog 22 #[] w fun e w'=>e = .returned (.agg #[.int .i64 1048576,.int .i64 1000,.int .i64 1048576])∧Below w.heap.size w w':=by
 go_enter Tryz.func22,Tryz.ntmps22
 go_wp2
 exact bodyPost_ret (res22 rfl (Blk.made _ _ _)) rfl ⟨rfl,(Below.refl _ w).alloc (Nat.le_refl _) _⟩
end
end Go.Proofs.YthbbpooobaahiaaGreatDoor.Zz
