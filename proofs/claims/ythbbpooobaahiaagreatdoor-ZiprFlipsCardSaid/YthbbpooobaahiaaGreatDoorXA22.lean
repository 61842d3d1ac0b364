/- Part 22. -/
import Derived.ChangeMaps5
import Derived.HandedShaped
import Derived.Lib.LaidU8
import Derived.Shelf.Vars
import Derived.Stop.LaidErr
import Derived.Test.YthbbpooobaahiaaGreatDoorXA21
namespace Go.Proofs.YthbbpooobaahiaaGreatDoor.Zz
set_option maxRecDepth 100000
section
open Go.ChangeShapes Go.WideShapes Go.ChangeAt Go.RowKit Go.ChangeMaps
abbrev laidZ:List (String × DataW Unit):=[("unicode/utf8.acceptRanges",Rows.laid_unicode_utf8_acceptRanges),("etui/inflate.ownOrder",Rows.laid_etui_inflate_ownOrder),("unicode/utf8.first",Rows.laid_unicode_utf8_first)]
theorem utf_first:Rows.laid_unicode_utf8_first=Lib.firstData:=by rfl
theorem utf_accept:(Rows.laid_unicode_utf8_acceptRanges:DataW Unit)=Lib.acceptData:=by rfl
theorem utf_tabs {w:World} (h3:Lib.VarReads Tryz.prog w "unicode/utf8.first" Lib.firstData) (h4:Lib.VarReads Tryz.prog w "unicode/utf8.acceptRanges" Lib.acceptData):Lib.Utf8Tabs 0 1 w:=by
 refine ⟨fun c hc=>?_,fun i hi=>?_⟩
 ·obtain ⟨g,t,cs,fuel,p,hg,hty,hvar,hd⟩:=h3
  obtain rfl:=Option.some.inj ((show Tryz.prog.globalNamed "unicode/utf8.first" = some 0 by kernel_rfl).symm.trans hg)
  obtain rfl:=Option.some.inj ((show (Tryz.prog.globals[0]?).map (·.type)=some 110 by kernel_rfl).symm.trans hty)
  have hcs:=Lib.cells_of_tab Tryz.underlying110 Tryz.underlying5 (by kernel_rfl) (by kernel_rfl) hd
  rw [World.var?_cell hg hvar c,←Array.getElem?_toList,hcs]
  simp [Lib.firstTab,hc]
 ·obtain ⟨g,t,cs,fuel,p,hg,hty,hvar,hd⟩:=h4
  obtain rfl:=Option.some.inj ((show Tryz.prog.globalNamed "unicode/utf8.acceptRanges" = some 1 by kernel_rfl).symm.trans hg)
  obtain rfl:=Option.some.inj ((show (Tryz.prog.globals[1]?).map (·.type)=some 113 by kernel_rfl).symm.trans hty)
  obtain ⟨fuel',d,q,hdi,he⟩:=Lib.array_elem Tryz.underlying113 hd i hi
  simp only [List.getElem?_map,List.getElem?_range hi,Option.map_some,Option.some.injEq] at hdi
  subst hdi
  have c112:Tryz.prog.cellsOf 112=2:=by kernel_rfl
  rw [c112] at he
  have hcs:=Lib.ints_of_struct Tryz.underlying112 (fun j f hj=>by
   match j,hj with
   | 0,hj=>simp at hj;subst hj;exact ⟨Tryz.underlying5,rfl,by kernel_rfl⟩
   | 1,hj=>simp at hj;subst hj;exact ⟨Tryz.underlying5,rfl,by kernel_rfl⟩
   | j+2,hj=>simp at hj) (by rw [c112];rfl) he
  have e0:=congrArg (·[0]?) hcs
  have e1:=congrArg (·[1]?) hcs
  simp only [List.getElem?_take,List.getElem?_drop] at e0 e1
  constructor
  ·rw [World.var?_cell hg hvar (2*i),←Array.getElem?_toList]
   simpa [Nat.mul_comm] using e0
  ·rw [World.var?_cell hg hvar (2*i+1),←Array.getElem?_toList]
   simpa [Nat.mul_comm] using e1
theorem tz_of {W:World} (h:laidMetH Tryz.prog laidZ W) (hs:W.ShapedOpen Tryz.prog):TZ W:=by
 rw [MakeChecks.laidMetH_plain _ _ _ (by kernel_rfl)] at h
 refine ⟨fun j hj=>?_,utf_tabs ?_ ?_,?_⟩
 ·have ht:=Lib.tabIs_of_head (P:=Tryz.prog) (name := "etui/inflate.ownOrder") (k := .i64) (zs:=[16,17,18,0,8,7,9,6,10,5,11,4,12,3,13,2,14,1,15]) (rest:=[("unicode/utf8.first",Rows.laid_unicode_utf8_first)]) (g:=3) (t:=232) (e:=3) (n:=19) (by kernel_rfl) (by kernel_rfl) Tryz.underlying232 Tryz.underlying3 (by kernel_rfl) (by kernel_rfl) h.tail
  have:=ht.cell (g:=3) (by kernel_rfl) j hj
  rw [ord_z j hj] at this
  exact this
 ·have:=Lib.laidMet.reads h (n := "unicode/utf8.first") (d:=Rows.laid_unicode_utf8_first) (by simp)
  rwa [utf_first] at this
 ·have:=Lib.laidMet.reads h (n := "unicode/utf8.acceptRanges") (d:=Rows.laid_unicode_utf8_acceptRanges) (by simp)
  rwa [utf_accept] at this
 ·exact Go.Proofs.cell_of_shapedOpen_int (zero := #[.int .i64 0]) (t:=3) hs (of_decide_eq_true (by kernel_rfl)) (by kernel_rfl) rfl (by kernel_rfl) (by kernel_rfl) Tryz.underlying3
theorem handed {H:Type} {enc:TypeId × Value→H} {a:Assume} {C:Checked} {os:Os} {f:FuncId} {fn:Func} {s:ChangeSpec} {conds:List PathCond} {apart fresh handsOn again:Bool} {X:World→Array Value→Prop}
  (hX:∀ (w w':World) (args:Array Value),w.heap=w'.heap→X w args→X w' args)
  (own:ownKnob C.prog.godebug=none) (started:os.Started) (noInit:C.prog.inits.idxOf? f=none) (hfn:C.prog.funcs[f]? = some fn)
  (witness:∃ (w:World) (tape:Tape) (i:Input),w.os=os∧(w.forCall tape i).Shaped C.prog∧i.vars=[]∧Input.okWide C.prog (w.forCall tape i) .any w.heap.size f i∧
   ((s.pre enc C.prog fn conds apart (w.forCall tape i).memory i.args∧X (w.forCall tape i).memory i.args)∧sizedMet enc C.prog fn (OpenSpec.ofChange s) apart (w.forCall tape i).memory i.args)∧a.holds C.prog (lone (Frame.enter C.prog f i.args .normal) [] (w.forCall tape i)))
  (contract:∀ (W:World) (base:Nat) (args:Array Value) (ds gs:List (DataW H)) (before:List MemPlace),
   (∀ (j:Nat) t v,fn.params[j]? = some t→args[j]? = some v→Value.okWide C.prog W .any base t v)→
   DataW.Whole enc C.prog fn.params.toList s.vars apart W args.toList ds gs before→X W args→W.ShapedOpen C.prog→
   Calls C.prog f args W fun e W'=>∃ v,e = .returned v∧s.post enc C.prog fn apart fresh handsOn again W args v W') :
  ReturnsInHanded a C os f .any (fun w args=>(s.pre enc C.prog fn conds apart w args∧X w args)∧sizedMet enc C.prog fn (OpenSpec.ofChange s) apart w args) (s.post enc C.prog fn apart fresh handsOn again):=by
 refine returnsInHanded_of_calls own started noInit witness ?_
 intro w tape i _ hsh _ hok hpre hholds
 obtain ⟨_,_,_,fn',hfn',_,_,_,_,hval⟩:=hok
 have e:fn'=fn:=Option.some.inj (hfn'.symm.trans hfn)
 subst e
 obtain ⟨⟨⟨ds,gs,before,hw,hc⟩,hx⟩,hz⟩:=hpre
 have hw':=DataW.Whole.of_heap (w':=w.forCall tape i) (by rfl) hw
 refine (contract (w.forCall tape i) w.heap.size i.args ds gs before hval hw' (hX _ _ _ (by rfl) hx) hsh).mono fun e W' ⟨v,he,hp⟩=>?_
 subst he
 exact ChangeSpec.post_blind hp
end
section
open Go.RowKit
theorem entsP_tot {ys:List Nat} (hb:Bs ys):∀ {rs:List Rw} {L:Nat} {ds:List (List Nat)},entsP ys rs L = .ok ds→totD ds≤L:=by
 intro rs
 induction rs with
 | nil=>intro L ds h;cases h;exact Nat.zero_le _
 | cons r t ih=>
  intro L ds h
  rw [entsP] at h
  cases hd:dataP ys r L with
  | error e=>rw [hd] at h;cases h
  | ok d=>
   have hdl:=dataP_len (fun x hx=>hb x (List.mem_of_mem_drop (List.mem_of_mem_take hx))) hd
   rw [hd] at h
   simp only at h
   split at h
   ·cases h
   ·cases he:entsP ys t (L-d.length) with
    | error e=>rw [he] at h;cases h
    | ok l=>
     rw [he] at h
     cases h
     have:=ih he
     simp [totD] at this ⊢
     omega
theorem readP_sizes {xs:List Nat} (hb:Bs xs) {B E T:Int} {l:List Rw} {f:Nat} {d:List (List Nat)} (h:readP xs B E T = .ok (l,f,d)):22≤xs.length∧l.length≤65535∧totD d≤T.toNat∧d.length=l.length:=by
 obtain ⟨e,h1,h2,h3,h4⟩:=readP_is h
 obtain ⟨_,g2,g3,g4,g5⟩:=openP_fit hb h1
 obtain ⟨_,he,_⟩:=openP_is h1
 have:=endB_lt he
 exact ⟨by omega,g2,entsP_tot (fun x hx=>hb x (List.mem_of_mem_take hx)) h4,entsP_len h4⟩
theorem totD_take (d:List (List Nat)) (i:Nat) (h:i<d.length):totD (d.take (i+1))=totD (d.take i)+d[i].length:=by
 unfold totD
 rw [List.take_succ_eq_append_getElem h,List.map_append,List.sum_append]
 simp
theorem totD_le (d:List (List Nat)) (i:Nat):totD (d.take i)≤totD d:=by
 conv=>rhs;rw [←List.take_append_drop i d]
 unfold totD
 rw [List.map_append,List.sum_append]
 omega
set_option maxHeartbeats 3200000 in
theorem limits_walk (ao:Option Addr) (cap:Nat) (xs:List Nat) (w:World) (hT:TZ w) (h:Cu.Sl w ao cap xs) (hm:xs.length≤3000) :
  Calls Tryz.prog 6 #[.slice ao xs.length cap] w fun e w'=>e = .returned (.bool true)∧Below w.heap.size w w':=by
 have KA:=Lib.hid (alive_any w hT)
 have hbs:Bs xs:=h.bs
 have KR:Hid (∀ W,Below w.heap.size w W→∀ B E T,T≤2000000→Calls Tryz.prog 12 #[.slice ao xs.length cap,.agg #[.int .i64 B,.int .i64 E,.int .i64 T]] W (RdTo xs (readP xs B E T) W)):=Lib.hid fun W hW B E T hT2=>read_any ao cap xs B E T W (hT.grow hW) (h.below hW) (by omega) hT2
 have z1:¬(3000:Int)<xs.length:=by omega
 clear hT h
 cases hr:readP xs 1048576 1000 1048576 with
 | error er=>
  have hnz:((er:Int) != 0)=true:=by have:=readP_nz hbs hr;simp;omega
  have K1:Hid (∀ W,Below w.heap.size w W→Calls Tryz.prog 12 #[.slice ao xs.length cap,.agg #[.int .i64 1048576,.int .i64 1000,.int .i64 1048576]] W fun en w'=>Below W.heap.size W w'∧en = .returned (.tuple #[.slice none 0 0,.int .i64 (er:Nat)])):=Lib.hid fun W hW=>by
   have:=KR.out W hW 1048576 1000 1048576 (by decide)
   rw [hr] at this
   exact this
  clear hr KR
  go_enter Tryz.func6,Tryz.ntmps6
  go_wp2_with (first
   | (go_at_call 9;refine KA.out.mono ?_;rintro e w1 ⟨rfl,hb1⟩;have HB1:=Lib.hid hb1;clear hb1)
   | (go_at_call 22;refine (all_any _).mono ?_;rintro e w2 ⟨rfl,hb2⟩;have HB2:=Lib.hid (HB1.out.trans (hb2.mono HB1.out.size));clear hb2)
   | (go_at_call 12;refine (K1.out w2 HB2.out).mono ?_;rintro e w3 ⟨hb3,rfl⟩;have HB3:=Lib.hid (HB2.out.trans (hb3.mono HB2.out.size));clear hb3))
  go_ret
  exact ⟨rfl,HB3.out⟩
 | ok x=>
  obtain ⟨l,f,ds⟩:=x
  obtain ⟨s1,s2,s3,s4⟩:=readP_sizes hbs hr
  have hT0:totD ds≤1048576:=s3
  obtain ⟨N,hN⟩:∃ N,N=l.length:=⟨_,rfl⟩
  obtain ⟨T,hTt⟩:∃ T,T=totD ds:=⟨_,rfl⟩
  have K1:Hid (∀ W,Below w.heap.size w W→Calls Tryz.prog 12 #[.slice ao xs.length cap,.agg #[.int .i64 1048576,.int .i64 1000,.int .i64 1048576]] W fun en w'=>Below W.heap.size W w'∧∃ (ems:List Em) (a:Option Addr) (c:Nat),en = .returned (.tuple #[.slice a N c,.int .i64 0])∧Ems w' W.heap.size (.slice a N c) ems∧ems.map (·.d)=ds):=Lib.hid fun W hW=>by
   have:=KR.out W hW 1048576 1000 1048576 (by decide)
   rw [hr] at this
   refine this.mono ?_
   rintro en w' ⟨hb,ems,a,c,h1,h2,h3,h4⟩
   rw [hN]
   exact ⟨hb,ems,a,c,h1,h2,h4⟩
  have K2:Hid (∀ W,Below w.heap.size w W→Calls Tryz.prog 12 #[.slice ao xs.length cap,.agg #[.int .i64 (xs.length:Nat),.int .i64 (N:Nat),.int .i64 (T:Nat)]] W fun en w'=>Below W.heap.size W w'∧∃ (a:Option Addr) (c:Nat),en = .returned (.tuple #[.slice a N c,.int .i64 0])):=Lib.hid fun W hW=>by
   have hl:=(readP_lim hbs hr (xs.length:Nat) (N:Nat) (T:Nat) (by omega)).1 (by omega) (by rw [hN];omega) (by rw [hTt];omega)
   have:=KR.out W hW (xs.length:Nat) (N:Nat) (T:Nat) (by omega)
   rw [hl] at this
   refine this.mono ?_
   rintro en w' ⟨hb,ems,a,c,h1,h2,h3,h4⟩
   rw [hN]
   exact ⟨hb,a,c,h1⟩
  have K3:Hid (∀ W,Below w.heap.size w W→Calls Tryz.prog 12 #[.slice ao xs.length cap,.agg #[.int .i64 ((xs.length-1:Nat):Nat),.int .i64 (N:Nat),.int .i64 (T:Nat)]] W fun en w'=>Below W.heap.size W w'∧en = .returned (.tuple #[.slice none 0 0,.int .i64 14])):=Lib.hid fun W hW=>by
   have hl:=(readP_lim hbs hr ((xs.length-1:Nat):Nat) (N:Nat) (T:Nat) (by omega)).2.1 (by omega)
   have:=KR.out W hW ((xs.length-1:Nat):Nat) (N:Nat) (T:Nat) (by omega)
   rw [hl] at this
   exact this
  have K4:Hid (0<N→∀ W,Below w.heap.size w W→Calls Tryz.prog 12 #[.slice ao xs.length cap,.agg #[.int .i64 (xs.length:Nat),.int .i64 ((N-1:Nat):Nat),.int .i64 (T:Nat)]] W fun en w'=>Below W.heap.size W w'∧en = .returned (.tuple #[.slice none 0 0,.int .i64 14])):=Lib.hid fun hN0 W hW=>by
   have hl:=(readP_lim hbs hr (xs.length:Nat) ((N-1:Nat):Nat) (T:Nat) (by omega)).2.2.1 (by omega) (by rw [hN] at hN0 ⊢;omega)
   have:=KR.out W hW (xs.length:Nat) ((N-1:Nat):Nat) (T:Nat) (by omega)
   rw [hl] at this
   exact this
  have K5:Hid (0<T→∀ W,Below w.heap.size w W→Calls Tryz.prog 12 #[.slice ao xs.length cap,.agg #[.int .i64 (xs.length:Nat),.int .i64 (N:Nat),.int .i64 ((T-1:Nat):Nat)]] W fun en w'=>Below W.heap.size W w'∧en = .returned (.tuple #[.slice none 0 0,.int .i64 14])):=Lib.hid fun hT1 W hW=>by
   have hl:=(readP_lim hbs hr (xs.length:Nat) (N:Nat) ((T-1:Nat):Nat) (by omega)).2.2.2 (by omega) (by rw [hN];omega) (by rw [hTt] at hT1 ⊢;omega)
   have:=KR.out W hW (xs.length:Nat) (N:Nat) ((T-1:Nat):Nat) (by omega)
   rw [hl] at this
   exact this
  have HDL:Hid (ds.length=N):=Lib.hid (by rw [s4,hN])
  have HTT:=Lib.hid hTt
  have HT0:Hid (T≤1048576):=Lib.hid (by omega)
  have hN65:N≤65535:=by omega
  obtain ⟨X1,hX1⟩:∃ X1,X1=xs.length-1:=⟨_,rfl⟩
  have hwx:IntKind.i64.wrap ((xs.length:Int)-1)=(X1:Int):=by rw [wrapS _ (by omega) (by omega)];omega
  rw [←hX1] at K3
  clear hr KR hN hTt s1 s2 s3 s4 hT0 hX1
  go_enter Tryz.func6,Tryz.ntmps6
  go_upto_region 6 with (first
   | (go_at_call 9;refine KA.out.mono ?_;rintro e w1 ⟨rfl,hb1⟩;have HB1:=Lib.hid hb1;clear hb1)
   | (go_at_call 22;refine (all_any _).mono ?_;rintro e w2 ⟨rfl,hb2⟩;have HB2:=Lib.hid (HB1.out.trans (hb2.mono HB1.out.size));clear hb2)
   | (go_at_call 12;refine (K1.out w2 HB2.out).mono ?_;rintro e w3 ⟨hb3,ems,la,lc,rfl,hem,hds⟩;have HB3:=Lib.hid (HB2.out.trans (hb3.mono HB2.out.size));have HEM:=Lib.hid hem;have HDS:=Lib.hid hds;clear hb3 hem hds))
  go_wp2_with fail
  go_loop [5,6] (fun v5 v6=>∃ i t:Nat,i≤N∧v6 = .int .i64 i∧v5 = .int .i64 t∧t≤1048576∧Hid (t=totD (ds.take i))) (fun _ v6=>N-(intOf v6).toNat)
  case atStart=>exact ⟨0,0,Nat.zero_le _,rfl,rfl,Nat.zero_le _,Lib.hid rfl⟩
  case round=>
   obtain ⟨i,t,hi,rfl,rfl,ht,hrel⟩:=hrel
   by_cases hlt:i<N
   ·have hii:(i:Int)<N:=by omega
    have hel:ems.length=N:=by have:=congrArg List.length HDS.out;rw [List.length_map,HDL.out] at this;exact this
    obtain ⟨g,c',hv,hgl,hcell⟩:=HEM.out.at (i:=i) (by omega)
    obtain rfl:la=some ⟨g,0,none⟩:=by injection hv
    have hdi:i<ds.length:=by rw [HDL.out];exact hlt
    have hdn:(ems[i]'(by omega)).d=ds[i]:=by
     have:=HDS.out
     simp only [←this,List.getElem_map]
    have c1:=hcell 1 (.slice (ems[i]'(by omega)).da (ems[i]'(by omega)).d.length (ems[i]'(by omega)).dc) rfl
    rw [hdn] at c1
    have HNX:Hid (t+ds[i].length=totD (ds.take (i+1))):=Lib.hid (by rw [totD_take ds i hdi,←hrel.out])
    have hle:=totD_le ds (i+1)
    rw [←HNX.out,←HTT.out] at hle
    obtain ⟨D,hD⟩:∃ D,D=ds[i].length:=⟨_,rfl⟩
    rw [←hD] at c1 HNX hle
    obtain ⟨t2,ht2⟩:∃ t2,t2=t+D:=⟨_,rfl⟩
    rw [←ht2] at HNX hle
    have hw:IntKind.i64.wrap ((t:Int)+D)=(t2:Int):=by rw [wrapS _ (by have:=HT0.out;omega) (by have:=HT0.out;omega)];omega
    have HLE2:Hid (t2≤1048576):=Lib.hid (by have:=HT0.out;omega)
    generalize (ems[i]'(by omega)).da=da at c1
    generalize (ems[i]'(by omega)).dc=dcc at c1
    clear hD ht2 hv hgl hcell hdi hdn hel hrel hle
    go_wp2_with fail
    go_round
    case rel=>exact ⟨i+1,t2,by omega,by go_num,rfl,HLE2.out,HNX⟩
    case measure=>simp [intOf];omega
   ·obtain rfl:i=N:=by omega
    have hni:¬(i:Int)<i:=by omega
    obtain rfl:t=T:=by rw [hrel.out,HTT.out,List.take_of_length_le (by rw [HDL.out];omega)]
    clear hrel
    go_upto_region 17 with (first
     | (go_at_call 12;(with_reducible refine (K2.out w3 HB3.out).mono ?_);rintro e w4 ⟨hb4,a4,c4,rfl⟩;have HB4:=Lib.hid (HB3.out.trans (hb4.mono HB3.out.size));clear hb4)
     | (go_at_call 12;(with_reducible refine (K3.out w4 HB4.out).mono ?_);rintro e w5 ⟨hb5,rfl⟩;have HB5:=Lib.hid (HB4.out.trans (hb5.mono HB4.out.size));clear hb5))
    by_cases n0:0<i
    ·have n1:(0:Int)<i:=by omega
     obtain ⟨I1,hI1⟩:∃ I1,I1=i-1:=⟨_,rfl⟩
     have hwi:IntKind.i64.wrap ((i:Int)-1)=(I1:Int):=by rw [wrapS _ (by omega) (by omega)];omega
     have K4b:=Lib.hid (K4.out n0)
     rw [←hI1] at K4b
     clear hI1 n0
     go_upto_region 21 with (go_at_call 12;(with_reducible refine (K4b.out w5 HB5.out).mono ?_);rintro e w6 ⟨hb6,rfl⟩;have HB6:=Lib.hid (HB5.out.trans (hb6.mono HB5.out.size));clear hb6)
     by_cases t0:0<t
     ·have t1:(0:Int)<t:=by omega
      obtain ⟨T1,hT1⟩:∃ T1,T1=t-1:=⟨_,rfl⟩
      have hwt:IntKind.i64.wrap ((t:Int)-1)=(T1:Int):=by rw [wrapS _ (by omega) (by omega)];omega
      have K5b:=Lib.hid (K5.out t0)
      rw [←hT1] at K5b
      clear hT1 t0
      go_wp2_with (go_at_call 12;(with_reducible refine (K5b.out w6 HB6.out).mono ?_);rintro e w7 ⟨hb7,rfl⟩;have HB7:=Lib.hid (HB6.out.trans (hb7.mono HB6.out.size));clear hb7)
      go_ret
      exact ⟨rfl,HB7.out⟩
     ·have t1:¬(0:Int)<t:=by omega
      clear t0
      go_wp2_with fail
      go_ret
      exact ⟨rfl,HB6.out⟩
    ·have n1:¬(0:Int)<i:=by omega
     clear n0
     go_upto_region 21 with fail
     by_cases t0:0<t
     ·have t1:(0:Int)<t:=by omega
      obtain ⟨T1,hT1⟩:∃ T1,T1=t-1:=⟨_,rfl⟩
      have hwt:IntKind.i64.wrap ((t:Int)-1)=(T1:Int):=by rw [wrapS _ (by omega) (by omega)];omega
      have K5b:=Lib.hid (K5.out t0)
      rw [←hT1] at K5b
      clear hT1 t0
      go_wp2_with (go_at_call 12;(with_reducible refine (K5b.out w5 HB5.out).mono ?_);rintro e w7 ⟨hb7,rfl⟩;have HB7:=Lib.hid (HB5.out.trans (hb7.mono HB5.out.size));clear hb7)
      go_ret
      exact ⟨rfl,HB7.out⟩
     ·have t1:¬(0:Int)<t:=by omega
      clear t0
      go_wp2_with fail
      go_ret
      exact ⟨rfl,HB5.out⟩
theorem limits_long (ao:Option Addr) (n cap:Nat) (w:World) (hT:TZ w) (h:3000<n) (_hl:n≤maxLen) :
  Calls Tryz.prog 6 #[.slice ao n cap] w fun e w'=>e = .returned (.bool true)∧Below w.heap.size w w':=by
 have KA:=Lib.hid (alive_any w hT)
 have z1:(3000:Int)<n:=by omega
 clear h
 go_enter Tryz.func6,Tryz.ntmps6
 go_wp2_with (go_at_call 9;refine KA.out.mono ?_;rintro e w1 ⟨rfl,hb1⟩)
 go_ret
 exact ⟨rfl,hb1⟩
theorem ends_byt (s:ByteArray) (h:0<s.size):endsSlash s=decide (byt s (s.size-1)=47):=by
 unfold endsSlash byt
 have hl:s.data.toList.length=s.size:=by simp
 rw [List.getLast?_eq_getElem?,hl,Bool.eq_iff_iff]
 have hlt:s.size-1<s.data.toList.length:=by omega
 simp only [List.getD_eq_getElem?_getD,List.getElem?_eq_getElem hlt,Option.getD_some,beq_iff_eq,Option.some.injEq,decide_eq_true_iff]
 rw [←UInt8.toNat_inj]
 rfl
theorem turn_at {d:List Nat} {at_ y:Nat} (h:at_<d.length) (hb:Bs d) (hy:y<256) (hne:y≠d[at_]):(CrcPlain.updN 0#32 (d.set at_ y)).toNat≠(CrcPlain.updN 0#32 d).toNat:=by
 intro he
 have h1:d=d.take at_++d[at_]::d.drop (at_+1):=by
  conv=>lhs;rw [←List.take_append_drop at_ d]
  rw [List.drop_eq_getElem_cons h]
 have h2:d.set at_ y=d.take at_++y::d.drop (at_+1):=by rw [List.set_eq_take_append_cons_drop,if_pos h]
 have h3:CrcPlain.updN 0#32 (d.set at_ y)=CrcPlain.updN 0#32 d:=BitVec.eq_of_toNat_eq he
 rw [h2] at h3
 conv at h3=>rhs;rw [h1]
 exact CrcPlain.updN_ne _ _ hy (hb _ (List.getElem_mem _)) hne h3
theorem stoP_one (x:Sto):stoP [x]=[80,75,3,4,20,0,0,0,0,0,0,0,33,0]++stoB x++nmB x.nm++x.d++(RR 0 [x]++stoE 1 (RR 0 [x]).length (HH [x]).length []):=by
 unfold stoP
 simp [HH,hdB]
theorem stoP_turn (nm:ByteArray) (d:List Nat) (U at_ y:Nat) (h:at_<d.length):(stoP [⟨nm,d,U⟩]).set (30+nm.size+at_) y=stoP [⟨nm,d.set at_ y,U⟩]:=by
 have hp:([80,75,3,4,20,0,0,0,0,0,0,0,33,0]++stoB ⟨nm,d,U⟩++nmB nm).length=30+nm.size:=by simp [stoB_len,nmB_len];omega
 have hB:stoB ⟨nm,d.set at_ y,U⟩=stoB ⟨nm,d,U⟩:=by simp [stoB]
 have hR:RR 0 [(⟨nm,d.set at_ y,U⟩:Sto)]=RR 0 [⟨nm,d,U⟩]:=by simp [RR,rwB,hB]
 have hH:(HH [(⟨nm,d.set at_ y,U⟩:Sto)]).length=(HH [⟨nm,d,U⟩]).length:=by simp [HH,hdB_len]
 rw [stoP_one,stoP_one,hR,hH,hB]
 generalize RR 0 [(⟨nm,d,U⟩:Sto)]++stoE 1 (RR 0 [(⟨nm,d,U⟩:Sto)]).length (HH [(⟨nm,d,U⟩:Sto)]).length []=Z
 show ([80,75,3,4,20,0,0,0,0,0,0,0,33,0]++stoB ⟨nm,d,U⟩++nmB nm++d++Z).set (30+nm.size+at_) y=[80,75,3,4,20,0,0,0,0,0,0,0,33,0]++stoB ⟨nm,d,U⟩++nmB nm++d.set at_ y++Z
 generalize [80,75,3,4,20,0,0,0,0,0,0,0,33,0]++stoB ⟨nm,d,U⟩++nmB nm=P at hp ⊢
 rw [List.append_assoc,List.append_assoc,List.set_append_right _ _ (by omega),←hp,Nat.add_sub_cancel_left,List.set_append_left _ _ h]
theorem own_set {w:World} {base g n c k y:Nat} {xs:List Nat} (h:w.ownsRow base 5 1 (.slice (some ⟨g,0,none⟩) n c) n (u8s xs)) (hx:xs.length=n) (hk:k<n) (hy:y<256) (hb:Bs xs) :
  Cu.Sl (w.setCell ⟨g,k,none⟩ (.int .u8 (y:Nat))) (some ⟨g,0,none⟩) c (xs.set k y)∧w.frozen? ⟨g,k,none⟩=false∧w.cell? ⟨g,k,none⟩=some (.int .u8 (xs.getD k 0:Nat)):=by
 have hcells:=h.cells (g:=g) rfl
 rcases h.2 with ⟨h0,_⟩ | ⟨g',cap,cur,hv,hb',hh,hnc,hcm,hcs,htake⟩
 ·cases h0
 ·injection hv with e1 _ e3
  injection e1 with e1
  injection e1 with e1
  subst e1 e3
  have hblk:Blk w g 5 cur:=hh
  have hset:=hblk.setCell k (.int .u8 (y:Nat))
  have hat:∀ j,j<n→w.cell? ⟨g,j,none⟩=some (.int .u8 (xs.getD j 0:Nat)):=fun j hj=>by
   have:=hcells j (.int .u8 (xs.getD j 0:Nat)) (by simp [u8s,List.getD,show j<xs.length by omega])
   rwa [Addr.add_lit,Nat.zero_add] at this
  refine ⟨⟨.inr ⟨g,0,rfl,fun j hj=>?_⟩,by rw [List.length_set,hx];exact hnc,hcm,(fun h=>by cases h),fun z hz=>?_⟩,hblk.free k,hat k hk⟩
  ·rw [List.length_set,hx] at hj
   rw [Nat.zero_add,hset.cell]
   by_cases e:k=j
   ·subst e
    have hks:k<cur.size:=by rw [hcs];omega
    simp [hks,List.getD,show k<xs.length by omega]
   ·have:=hat j hj
    rw [hblk.cell] at this
    rw [Array.getElem?_setIfInBounds_ne e,this]
    simp [List.getD,e]
  ·rcases List.mem_or_eq_of_mem_set hz with hz | rfl
   ·exact hb z hz
   ·exact hy
theorem stoP_get (nm:ByteArray) (d:List Nat) (U at_:Nat) (h:at_<d.length):(stoP [⟨nm,d,U⟩]).getD (30+nm.size+at_) 0=d[at_]:=by
 have hp:([80,75,3,4,20,0,0,0,0,0,0,0,33,0]++stoB ⟨nm,d,U⟩++nmB nm).length=30+nm.size:=by simp [stoB_len,nmB_len];omega
 rw [stoP_one]
 generalize RR 0 [(⟨nm,d,U⟩:Sto)]++stoE 1 (RR 0 [(⟨nm,d,U⟩:Sto)]).length (HH [(⟨nm,d,U⟩:Sto)]).length []=Z
 show ([80,75,3,4,20,0,0,0,0,0,0,0,33,0]++stoB ⟨nm,d,U⟩++nmB nm++d++Z).getD (30+nm.size+at_) 0=d[at_]
 generalize [80,75,3,4,20,0,0,0,0,0,0,0,33,0]++stoB ⟨nm,d,U⟩++nmB nm=P at hp ⊢
 rw [List.append_assoc,List.getD_eq_getElem?_getD,List.getElem?_append_right (by omega),←hp,Nat.add_sub_cancel_left,List.getElem?_append_left h,List.getElem?_eq_getElem h]
 rfl
theorem one_small {s:ByteArray} {d:List Nat} {U:Nat} (hs:s.size≤255) (hd:d.length≤2000) (hU:U<4294967296) (hb:Bs d):Small [⟨s,d,U⟩]:=by
 refine ⟨fun x hx=>?_,by simp,?_,?_⟩
 ·rw [List.mem_singleton] at hx;subst hx;exact ⟨by simp only;omega,by simp only;omega,hU,hb⟩
 ·simp only [HH,List.flatMap_cons,List.flatMap_nil,List.length_append,hdB_len,List.length_nil];omega
 ·simp only [RR,List.length_append,rwB_len,List.length_nil];omega
theorem one_rights {s:ByteArray} {d:List Nat} {U:Nat} (h:Small [⟨s,d,U⟩]) (h1:nameF s false=false) (h2:endsSlash s=false):Rights [] [⟨s,d,U⟩]:=by
 refine ⟨h.fits,fun x hx=>?_,fun i hi=>⟨by simp,fun k hk=>?_⟩⟩
 ·rw [List.mem_singleton] at hx;subst hx;exact ⟨h1,h2⟩
 ·simp at hi;omega
theorem nameF_fits {s:ByteArray} {wide:Bool} (h:nameF s wide=false):s.size≠0∧s.size≤255:=by
 unfold nameF at h
 simp only [Bool.or_eq_false_iff,decide_eq_false_iff_not] at h
 exact ⟨h.1.1.1.1,by omega⟩
theorem rNameFault_big (s:ByteArray) (wide:Bool) (w:World) (h:255<s.size):Calls Tryz.prog 18 #[.string s,.bool wide] w fun e w'=>e = .returned (.bool (nameF s wide))∧w=w':=by
 have hA:nameF s wide=true:=by unfold nameF;simp [h]
 rw [hA]
 obtain ⟨Z,hZ⟩:∃ Z,Z=s.size:=⟨_,rfl⟩
 have hlen:∀ W,(Builtin.len_ #[9] 3 #[.string s]).run Tryz.prog W = .ok (.int .i64 (Z:Nat)) W:=fun W=>by
  rw [hZ];exact run_len_string W 9 3 s Tryz.underlying9
 have e1:(255:Int)<Z:=by omega
 have e0:s.toList.isEmpty=false:=by
  rw [ByteArray.toList_eq]
  have:s.data.toList.length=s.size:=by simp
  cases hl:s.data.toList with
  | nil=>rw [hl] at this;simp at this;omega
  | cons c r=>rfl
 clear h hA hZ
 go_enter Tryz.func18,Tryz.ntmps18
 go_wp2
 go_ret
 exact ⟨rfl,rfl⟩
theorem rNameFault_all (s:ByteArray) (wide:Bool) (w:World):Calls Tryz.prog 18 #[.string s,.bool wide] w fun e w'=>e = .returned (.bool (nameF s wide))∧w=w':=by
 by_cases h:255<s.size
 ·exact rNameFault_big s wide w h
 ·exact rNameFault_any s wide w (by omega)
set_option maxHeartbeats 3200000 in
theorem flips_main (s:ByteArray) (ao:Option Addr) (cap:Nat) (xs:List Nat) (a t:Nat) (w:World) (hT:TZ w) (hnf:nameF s false=false) (hes:byt s (s.size-1)≠47) (h:Cu.Sl w ao cap xs) (hm:xs.length≤2000) (ha:a<xs.length) (ht:t<256) (ht0:t≠0) :
  Calls Tryz.prog 7 #[.string s,.slice ao xs.length cap,.int .i64 (a:Nat),.int .u8 (t:Nat)] w fun e w'=>e = .returned (.bool true)∧Below w.heap.size w w':=by
 obtain ⟨z0,z255⟩:=nameF_fits hnf
 have KA:=Lib.hid (alive_any w hT)
 have K18:=Lib.hid fun W=>rNameFault_all s false W
 rw [hnf] at K18
 have hends:endsSlash s=false:=by rw [ends_byt s (by omega)];simpa using hes
 obtain ⟨U,hU⟩:∃ U,U=(CrcPlain.updN 0#32 xs).toNat:=⟨_,rfl⟩
 have hUb:U<4294967296:=by rw [hU];exact upd_lt xs
 obtain ⟨x,hx⟩:∃ x,x=xs[a]:=⟨_,rfl⟩
 have hxb:x<256:=by rw [hx];exact h.bs _ (List.getElem_mem _)
 obtain ⟨y,hy⟩:∃ y,y=x ^^^ t:=⟨_,rfl⟩
 have hyb:y<256:=by rw [hy];exact Nat.xor_lt_two_pow (n:=8) hxb ht
 have hyx:y≠x:=by
  intro e
  rw [hy] at e
  have h1:x ^^^ (x ^^^ t)=x ^^^ x:=by rw [e]
  rw [←Nat.xor_assoc,Nat.xor_self,Nat.zero_xor] at h1
  exact ht0 h1
 have hxor:bits .xor .u8 (x:Int) (t:Int)=(y:Int):=by rw [hy];exact u8_xor_nat x t hxb ht
 have hsm:=one_small (s:=s) (d:=xs.set a y) (U:=U) z255 (by rw [List.length_set];exact hm) hUb (fun z hz=>by
  rcases List.mem_or_eq_of_mem_set hz with hz | rfl
  ·exact h.bs z hz
  ·exact hyb)
 have hfl:=readP_flip hsm (one_rights hsm hnf hends) (by
  show (CrcPlain.updN 0#32 (xs.set a y)).toNat≠U
  rw [hU]
  exact turn_at ha h.bs hyb (by rw [←hx];exact hyx)) (B:=1048576) (E:=1000) (T:=1048576) (by
   have:=hsm.heads;have:=hsm.rows
   rw [stoP_len];omega) (by decide) (by simp only [List.length_set];omega)
 have HFL:=Lib.hid hfl
 obtain ⟨L,hL⟩:∃ L,L=stoP [(⟨s,xs,U⟩:Sto)]:=⟨_,rfl⟩
 have HLS:Hid (L.set (30+s.size+a) y=stoP [(⟨s,xs.set a y,U⟩:Sto)]):=Lib.hid (by rw [hL];exact stoP_turn s xs U a y ha)
 have HLG:Hid (L.getD (30+s.size+a) 0=x):=Lib.hid (by rw [hL,hx];exact stoP_get s xs U a ha)
 have hsm0:=one_small (s:=s) (d:=xs) (U:=U) z255 hm hUb h.bs
 have hLl:30+s.size+a<L.length∧L.length≤3000:=by
  rw [hL,stoP_len]
  simp only [HH,RR,List.flatMap_cons,List.flatMap_nil,List.length_append,hdB_len,rwB_len,List.length_nil];omega
 have HLB:Hid (Bs L):=Lib.hid (by rw [hL];exact stoP_bs hsm0)
 have hst:stos (fun _=>s) (fun _=>xs) 1=[(⟨s,xs,U⟩:Sto)]:=by simp [stos,stoOf,hU]
 obtain ⟨Z,hZ⟩:∃ Z,Z=s.size:=⟨_,rfl⟩
 have hlen:∀ W,(Builtin.len_ #[9] 3 #[.string s]).run Tryz.prog W = .ok (.int .i64 (Z:Nat)) W:=fun W=>by
  rw [hZ];exact run_len_string W 9 3 s Tryz.underlying9
 obtain ⟨Z1,hZ1⟩:∃ Z1,Z1=s.size-1:=⟨_,rfl⟩
 have hidx:∀ W,(Instr.index 9 (.string s) (.int .i64 (Z1:Int))).run Tryz.prog W = .ok (.int .u8 (byt s Z1:Nat)) W:=fun W=>idx_byt s Z1 (by omega) W
 have hwz:IntKind.i64.wrap ((Z:Int)-1)=(Z1:Int):=by rw [wrapS _ (by omega) (by omega)];omega
 obtain ⟨lb,hlb⟩:∃ lb,lb=byt s Z1:=⟨_,rfl⟩
 have hl47:((lb:Int) == 47)=false:=by rw [hlb,hZ1];simp;omega
 rw [←hlb] at hidx
 obtain ⟨K1,hK1⟩:∃ K1,K1=30+Z:=⟨_,rfl⟩
 have hw1:IntKind.i64.wrap (30+(Z:Int))=(K1:Int):=by rw [wrapS _ (by omega) (by omega)];omega
 obtain ⟨K,hK⟩:∃ K,K=K1+a:=⟨_,rfl⟩
 have hw2:IntKind.i64.wrap ((K1:Int)+a)=(K:Int):=by rw [wrapS _ (by omega) (by omega)];omega
 rw [show 30+s.size+a=K by omega] at HLS HLG hLl
 have e1:¬(2000:Int)<xs.length:=by omega
 have e2:¬(a:Int)<0:=by omega
 have e3:¬(xs.length:Int)≤a:=by omega
 have e4:((t:Int) == 0)=false:=by simp;omega
 have e5:(K:Int)<L.length:=by omega
 have HT:=Lib.hid hT
 have HS:=Lib.hid h
 have HST:=Lib.hid hst
 have HLL:=Lib.hid hL
 have HYB:=Lib.hid hyb
 have HLN:=Lib.hid hLl
 have HZ5:=Lib.hid z255
 have HM:=Lib.hid hm
 clear hT h hnf hes hends hU hUb hx hxb hy hyb hyx hsm hfl hsm0 hst hL hZ hZ1 hlb hK1 hK hLl z0 z255 ha ht ht0 hm
 go_enter Tryz.func7,Tryz.ntmps7
 go_upto_region 5 with (first
  | (go_at_call 9;refine KA.out.mono ?_;rintro e w1 ⟨rfl,hb1⟩;have HB1:=Lib.hid hb1;clear hb1)
  | (go_at_call 18;refine (K18.out w1).mono ?_;rintro e w2 ⟨rfl,rfl⟩))
 obtain ⟨w2,hw2e⟩:∃ w2,w2=(w1.alloc (.cells #[.string s] 9)).alloc (.cells #[.slice ao xs.length cap] 22):=⟨_,rfl⟩
 have hb2:Below w1.heap.size w1 w2:=by rw [hw2e];exact ((Below.refl _ w1).alloc (Nat.le_refl _) _).alloc (by simp) _
 have hB2:Below w.heap.size w w2:=HB1.out.trans (hb2.mono HB1.out.size)
 have k1:Blk w2 w1.heap.size 9 #[.string s]:=by rw [hw2e];exact (Blk.made w1 9 _).below ((Below.refl _ _).alloc (Nat.le_refl _) _)
 have k2:Blk w2 (w1.heap.size+1) 22 #[.slice ao xs.length cap]:=by rw [hw2e];exact Blk.made1 _ _ _ _
 have K21:=stored_any (some ⟨w1.heap.size,0,none⟩) 1 (fun _=>s) (some ⟨w1.heap.size+1,0,none⟩) 1 (fun _=>xs) (fun _=>ao) (fun _=>cap) 1 1 w2
  (.inr ⟨_,0,rfl,fun i hi=>by obtain rfl:i=0:=(by omega);exact (k1.cell 0).trans rfl⟩)
  (.inr ⟨_,0,rfl,fun i hi=>by obtain rfl:i=0:=(by omega);exact ⟨(k2.cell 0).trans rfl,HS.out.below hB2⟩⟩) (Nat.le_refl _) (by decide) (fun i hi=>⟨by have:=HZ5.out;omega,by have:=HM.out;omega⟩)
 rw [HST.out,←HLL.out] at K21
 have K21:=Lib.hid K21
 have HB2:=Lib.hid hB2
 have HW2:=Lib.hid hw2e
 clear hw2e hb2 hB2 k1 k2
 go_upto_region 6 with (rw [show (w1.alloc (.cells #[.string s] 9)).alloc (.cells #[.slice ao xs.length cap] 22)=w2 from HW2.out.symm];go_at_call 21;refine K21.out.mono ?_;rintro e w3 ⟨bo,bc,rfl,hown,hb3⟩;have HOWN:=Lib.hid hown;have HB3:=Lib.hid (HB2.out.trans (hb3.mono HB2.out.size));have HG3:Hid (w.heap.size≤w2.heap.size):=Lib.hid HB2.out.size;clear hown hb3)
 obtain ⟨g,gc,hgv,hgb,hgl⟩:=HOWN.out.form (by have:=HLN.out.1;omega)
 obtain rfl:bo=some ⟨g,0,none⟩:=by injection hgv
 obtain ⟨hsl,c1,c2⟩:=own_set HOWN.out rfl HLN.out.1 HYB.out HLB.out
 rw [HLG.out] at c2
 rw [HLS.out] at hsl
 have htf:Touch (fun k=>k=g) w3 (w3.setCell ⟨g,K,none⟩ (.int .u8 (y:Nat))):=(Touch.refl (fun k=>k=g) w3).setCell ⟨g,K,none⟩ (.int .u8 (y:Nat)) (.inl rfl)
 have hB4:Below w.heap.size w (w3.setCell ⟨g,K,none⟩ (.int .u8 (y:Nat))):=HB3.out.trans (htf.below HB3.out.size (fun k hk=>by rw [hk];have:=HG3.out;omega))
 obtain ⟨w4,hw4⟩:∃ w4,w4=w3.setCell ⟨g,K,none⟩ (.int .u8 (y:Nat)):=⟨_,rfl⟩
 rw [←hw4] at hsl hB4
 have hLl:(stoP [(⟨s,xs.set a y,U⟩:Sto)]).length=L.length:=by rw [←HLS.out,List.length_set]
 have K12:Hid (∀ W,Below w4.heap.size w4 W→Calls Tryz.prog 12 #[.slice (some ⟨g,0,none⟩) L.length bc,.agg #[.int .i64 1048576,.int .i64 1000,.int .i64 1048576]] W fun en w'=>Below W.heap.size W w'∧en = .returned (.tuple #[.slice none 0 0,.int .i64 16])):=Lib.hid fun W hW=>by
  have:=read_any _ bc _ 1048576 1000 1048576 W (HT.out.grow (hB4.trans (hW.mono hB4.size))) (hsl.below hW) (by rw [hLl];have:=HLN.out.2;omega) (by decide)
  rw [HFL.out,hLl] at this
  exact this
 have HB4:=Lib.hid hB4
 have HZ4:Hid (Below w4.heap.size w4 w4):=Lib.hid (Below.refl _ _)
 have HW4:=Lib.hid hw4
 clear hsl htf hB4 hLl HFL HLS HLG hgv hw4
 go_upto_region 7 with fail
 rw [show w3.setCell ⟨g,K,none⟩ (.int .u8 (y:Nat))=w4 from HW4.out.symm]
 go_wp2_with (first
  | (go_at_call 22;refine (all_any _).mono ?_;rintro e w5 ⟨rfl,hb5⟩;have HB5:=Lib.hid hb5;clear hb5)
  | (go_at_call 12;(with_reducible refine (K12.out w5 HB5.out).mono ?_);rintro e w6 ⟨hb6,rfl⟩;have HB6:=Lib.hid (HB4.out.trans ((HB5.out.trans (hb6.mono HB5.out.size)).mono HB4.out.size));clear hb6))
 go_ret
 exact ⟨rfl,HB6.out⟩
set_option maxHeartbeats 3200000 in
theorem flips_rest (s:ByteArray) (ao:Option Addr) (cap n:Nat) (a:Int) (t:Nat) (w:World) (hT:TZ w) (ht:t<256) (_hn:n≤maxLen) (_hs:s.size≤maxLen)
  (h:nameF s false=true∨(nameF s false=false∧(byt s (s.size-1)=47∨2000<n∨a<0∨(n:Int)≤a∨t=0))) :
  Calls Tryz.prog 7 #[.string s,.slice ao n cap,.int .i64 a,.int .u8 (t:Nat)] w fun e w'=>e = .returned (.bool true)∧Below w.heap.size w w':=by
 have KA:=Lib.hid (alive_any w hT)
 have K18:=Lib.hid fun W=>rNameFault_all s false W
 rcases h with h | ⟨h,h2⟩
 ·rw [h] at K18
  clear h hT
  go_enter Tryz.func7,Tryz.ntmps7
  go_wp2_with (first
   | (go_at_call 9;refine KA.out.mono ?_;rintro e w1 ⟨rfl,hb1⟩;have HB1:=Lib.hid hb1;clear hb1)
   | (go_at_call 18;refine (K18.out w1).mono ?_;rintro e w2 ⟨rfl,rfl⟩))
  go_ret
  exact ⟨rfl,HB1.out⟩
 ·rw [h] at K18
  obtain ⟨z0,z255⟩:=nameF_fits h
  obtain ⟨Z,hZ⟩:∃ Z,Z=s.size:=⟨_,rfl⟩
  have hlen:∀ W,(Builtin.len_ #[9] 3 #[.string s]).run Tryz.prog W = .ok (.int .i64 (Z:Nat)) W:=fun W=>by
   rw [hZ];exact run_len_string W 9 3 s Tryz.underlying9
  obtain ⟨Z1,hZ1⟩:∃ Z1,Z1=s.size-1:=⟨_,rfl⟩
  have hidx:∀ W,(Instr.index 9 (.string s) (.int .i64 (Z1:Int))).run Tryz.prog W = .ok (.int .u8 (byt s Z1:Nat)) W:=fun W=>idx_byt s Z1 (by omega) W
  have hwz:IntKind.i64.wrap ((Z:Int)-1)=(Z1:Int):=by rw [wrapS _ (by omega) (by omega)];omega
  rw [←hZ1] at h2
  obtain ⟨lb,hlb⟩:∃ lb,lb=byt s Z1:=⟨_,rfl⟩
  rw [←hlb] at hidx h2
  clear h hT hZ hZ1 hlb z0 z255
  by_cases c1:lb=47
  ·have q1:((lb:Int) == 47)=true:=by simp;omega
   clear c1 h2
   go_enter Tryz.func7,Tryz.ntmps7
   go_wp2_with (first
    | (go_at_call 9;refine KA.out.mono ?_;rintro e w1 ⟨rfl,hb1⟩;have HB1:=Lib.hid hb1;clear hb1)
    | (go_at_call 18;refine (K18.out w1).mono ?_;rintro e w2 ⟨rfl,rfl⟩))
   go_ret
   exact ⟨rfl,HB1.out⟩
  have q1:((lb:Int) == 47)=false:=by simp;omega
  by_cases c2:2000<n
  ·have q2:(2000:Int)<n:=by omega
   clear c1 h2 c2
   go_enter Tryz.func7,Tryz.ntmps7
   go_wp2_with (first
    | (go_at_call 9;refine KA.out.mono ?_;rintro e w1 ⟨rfl,hb1⟩;have HB1:=Lib.hid hb1;clear hb1)
    | (go_at_call 18;refine (K18.out w1).mono ?_;rintro e w2 ⟨rfl,rfl⟩))
   go_ret
   exact ⟨rfl,HB1.out⟩
  have q2:¬(2000:Int)<n:=by omega
  by_cases c3:a<0
  ·clear c1 h2 c2
   go_enter Tryz.func7,Tryz.ntmps7
   go_wp2_with (first
    | (go_at_call 9;refine KA.out.mono ?_;rintro e w1 ⟨rfl,hb1⟩;have HB1:=Lib.hid hb1;clear hb1)
    | (go_at_call 18;refine (K18.out w1).mono ?_;rintro e w2 ⟨rfl,rfl⟩))
   go_ret
   exact ⟨rfl,HB1.out⟩
  by_cases c4:(n:Int)≤a
  ·clear c1 h2 c2
   go_enter Tryz.func7,Tryz.ntmps7
   go_wp2_with (first
    | (go_at_call 9;refine KA.out.mono ?_;rintro e w1 ⟨rfl,hb1⟩;have HB1:=Lib.hid hb1;clear hb1)
    | (go_at_call 18;refine (K18.out w1).mono ?_;rintro e w2 ⟨rfl,rfl⟩))
   go_ret
   exact ⟨rfl,HB1.out⟩
  have c5:t=0:=by rcases h2 with h | h | h | h | h <;> first | exact absurd h (by assumption) | exact h
  subst c5
  clear c1 h2 c2
  go_enter Tryz.func7,Tryz.ntmps7
  go_wp2_with (first
   | (go_at_call 9;refine KA.out.mono ?_;rintro e w1 ⟨rfl,hb1⟩;have HB1:=Lib.hid hb1;clear hb1)
   | (go_at_call 18;refine (K18.out w1).mono ?_;rintro e w2 ⟨rfl,rfl⟩))
  go_ret
  exact ⟨rfl,HB1.out⟩
theorem flips_all (s:ByteArray) (ao:Option Addr) (cap:Nat) (xs:List Nat) (a t:Int) (w:World) (hT:TZ w) (hs:s.size≤maxLen) (h:Cu.Sl w ao cap xs) (ht:(Lit.int .u8 t).wf=true) :
  Calls Tryz.prog 7 #[.string s,.slice ao xs.length cap,.int .i64 a,.int .u8 t] w fun e w'=>e = .returned (.bool true)∧Below w.heap.size w w':=by
 obtain ⟨b1,b2⟩:=bounds_u8 ht
 obtain ⟨t,rfl⟩:∃ k:Nat,t=(k:Int):=⟨t.toNat,by omega⟩
 have hlm:=Nat.le_trans h.le h.big
 cases hn:nameF s false with
 | true=>exact flips_rest s ao cap xs.length a t w hT (by omega) hlm hs (.inl hn)
 | false=>
  by_cases c:byt s (s.size-1)=47∨2000<xs.length∨a<0∨(xs.length:Int)≤a∨t=0
  ·exact flips_rest s ao cap xs.length a t w hT (by omega) hlm hs (.inr ⟨hn,c⟩)
  ·obtain ⟨a,rfl⟩:∃ k:Nat,a=(k:Int):=⟨a.toNat,by omega⟩
   exact flips_main s ao cap xs a t w hT hn (by omega) h (by omega) (by omega) (by omega) (by omega)
end
end Go.Proofs.YthbbpooobaahiaaGreatDoor.Zz
