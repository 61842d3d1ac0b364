/- Part 22. -/
import Derived.ChangeMaps5
import Derived.HandedShaped
import Derived.Lib.LaidU8
import Derived.Shelf.Vars
import Derived.Stop.LaidErr
import Derived.Test.YthbbpooobaahiaaGreatDoorXB21
namespace Go.Proofs.YthbbpooobaahiaaGreatDoor.Zz
set_option maxRecDepth 100000
section
open Go.ChangeShapes Go.WideShapes Go.ChangeAt Go.RowKit Go.ChangeMaps
abbrev laidZ:List (String × DataW Unit):=[("unicode/utf8.acceptRanges",Rows.laid_unicode_utf8_acceptRanges),("etui/inflate.ownOrder",Rows.laid_etui_inflate_ownOrder),("unicode/utf8.first",Rows.laid_unicode_utf8_first)]
theorem utf_first:Rows.laid_unicode_utf8_first=Lib.firstData:=by rfl
theorem utf_accept:(Rows.laid_unicode_utf8_acceptRanges:DataW Unit)=Lib.acceptData:=by rfl
theorem utf_tabs {w:World} (h3:Lib.VarReads Tryz.prog w "unicode/utf8.first" Lib.firstData) (h4:Lib.VarReads Tryz.prog w "unicode/utf8.acceptRanges" Lib.acceptData):Lib.Utf8Tabs 0 1 w:=by
 refine ⟨fun c hc=>?_,fun i hi=>?_⟩
 ·obtain ⟨g,t,cs,fuel,p,hg,hty,hvar,hd⟩:=h3
  obtain rfl:=Option.some.inj ((show Tryz.prog.globalNamed "unicode/utf8.first" = some 0 by kernel_rfl).symm.trans hg)
  obtain rfl:=Option.some.inj ((show (Tryz.prog.globals[0]?).map (·.type)=some 110 by kernel_rfl).symm.trans hty)
  have hcs:=Lib.cells_of_tab Tryz.underlying110 Tryz.underlying5 (by kernel_rfl) (by kernel_rfl) hd
  rw [World.var?_cell hg hvar c,←Array.getElem?_toList,hcs]
  simp [Lib.firstTab,hc]
 ·obtain ⟨g,t,cs,fuel,p,hg,hty,hvar,hd⟩:=h4
  obtain rfl:=Option.some.inj ((show Tryz.prog.globalNamed "unicode/utf8.acceptRanges" = some 1 by kernel_rfl).symm.trans hg)
  obtain rfl:=Option.some.inj ((show (Tryz.prog.globals[1]?).map (·.type)=some 113 by kernel_rfl).symm.trans hty)
  obtain ⟨fuel',d,q,hdi,he⟩:=Lib.array_elem Tryz.underlying113 hd i hi
  simp only [List.getElem?_map,List.getElem?_range hi,Option.map_some,Option.some.injEq] at hdi
  subst hdi
  have c112:Tryz.prog.cellsOf 112=2:=by kernel_rfl
  rw [c112] at he
  have hcs:=Lib.ints_of_struct Tryz.underlying112 (fun j f hj=>by
   match j,hj with
   | 0,hj=>simp at hj;subst hj;exact ⟨Tryz.underlying5,rfl,by kernel_rfl⟩
   | 1,hj=>simp at hj;subst hj;exact ⟨Tryz.underlying5,rfl,by kernel_rfl⟩
   | j+2,hj=>simp at hj) (by rw [c112];rfl) he
  have e0:=congrArg (·[0]?) hcs
  have e1:=congrArg (·[1]?) hcs
  simp only [List.getElem?_take,List.getElem?_drop] at e0 e1
  constructor
  ·rw [World.var?_cell hg hvar (2*i),←Array.getElem?_toList]
   simpa [Nat.mul_comm] using e0
  ·rw [World.var?_cell hg hvar (2*i+1),←Array.getElem?_toList]
   simpa [Nat.mul_comm] using e1
theorem tz_of {W:World} (h:laidMetH Tryz.prog laidZ W) (hs:W.ShapedOpen Tryz.prog):TZ W:=by
 rw [MakeChecks.laidMetH_plain _ _ _ (by kernel_rfl)] at h
 refine ⟨fun j hj=>?_,utf_tabs ?_ ?_,?_⟩
 ·have ht:=Lib.tabIs_of_head (P:=Tryz.prog) (name := "etui/inflate.ownOrder") (k := .i64) (zs:=[16,17,18,0,8,7,9,6,10,5,11,4,12,3,13,2,14,1,15]) (rest:=[("unicode/utf8.first",Rows.laid_unicode_utf8_first)]) (g:=3) (t:=232) (e:=3) (n:=19) (by kernel_rfl) (by kernel_rfl) Tryz.underlying232 Tryz.underlying3 (by kernel_rfl) (by kernel_rfl) h.tail
  have:=ht.cell (g:=3) (by kernel_rfl) j hj
  rw [ord_z j hj] at this
  exact this
 ·have:=Lib.laidMet.reads h (n := "unicode/utf8.first") (d:=Rows.laid_unicode_utf8_first) (by simp)
  rwa [utf_first] at this
 ·have:=Lib.laidMet.reads h (n := "unicode/utf8.acceptRanges") (d:=Rows.laid_unicode_utf8_acceptRanges) (by simp)
  rwa [utf_accept] at this
 ·exact Go.Proofs.cell_of_shapedOpen_int (zero := #[.int .i64 0]) (t:=3) hs (of_decide_eq_true (by kernel_rfl)) (by kernel_rfl) rfl (by kernel_rfl) (by kernel_rfl) Tryz.underlying3
theorem handed {H:Type} {enc:TypeId × Value→H} {a:Assume} {C:Checked} {os:Os} {f:FuncId} {fn:Func} {s:ChangeSpec} {conds:List PathCond} {apart fresh handsOn again:Bool} {X:World→Array Value→Prop}
  (hX:∀ (w w':World) (args:Array Value),w.heap=w'.heap→X w args→X w' args)
  (own:ownKnob C.prog.godebug=none) (started:os.Started) (noInit:C.prog.inits.idxOf? f=none) (hfn:C.prog.funcs[f]? = some fn)
  (witness:∃ (w:World) (tape:Tape) (i:Input),w.os=os∧(w.forCall tape i).Shaped C.prog∧i.vars=[]∧Input.okWide C.prog (w.forCall tape i) .any w.heap.size f i∧
   ((s.pre enc C.prog fn conds apart (w.forCall tape i).memory i.args∧X (w.forCall tape i).memory i.args)∧sizedMet enc C.prog fn (OpenSpec.ofChange s) apart (w.forCall tape i).memory i.args)∧a.holds C.prog (lone (Frame.enter C.prog f i.args .normal) [] (w.forCall tape i)))
  (contract:∀ (W:World) (base:Nat) (args:Array Value) (ds gs:List (DataW H)) (before:List MemPlace),
   (∀ (j:Nat) t v,fn.params[j]? = some t→args[j]? = some v→Value.okWide C.prog W .any base t v)→
   DataW.Whole enc C.prog fn.params.toList s.vars apart W args.toList ds gs before→X W args→W.ShapedOpen C.prog→
   Calls C.prog f args W fun e W'=>∃ v,e = .returned v∧s.post enc C.prog fn apart fresh handsOn again W args v W') :
  ReturnsInHanded a C os f .any (fun w args=>(s.pre enc C.prog fn conds apart w args∧X w args)∧sizedMet enc C.prog fn (OpenSpec.ofChange s) apart w args) (s.post enc C.prog fn apart fresh handsOn again):=by
 refine returnsInHanded_of_calls own started noInit witness ?_
 intro w tape i _ hsh _ hok hpre hholds
 obtain ⟨_,_,_,fn',hfn',_,_,_,_,hval⟩:=hok
 have e:fn'=fn:=Option.some.inj (hfn'.symm.trans hfn)
 subst e
 obtain ⟨⟨⟨ds,gs,before,hw,hc⟩,hx⟩,hz⟩:=hpre
 have hw':=DataW.Whole.of_heap (w':=w.forCall tape i) (by rfl) hw
 refine (contract (w.forCall tape i) w.heap.size i.args ds gs before hval hw' (hX _ _ _ (by rfl) hx) hsh).mono fun e W' ⟨v,he,hp⟩=>?_
 subst he
 exact ChangeSpec.post_blind hp
end
section
open Go.RowKit
theorem entsP_tot {ys:List Nat} (hb:Bs ys):∀ {rs:List Rw} {L:Nat} {ds:List (List Nat)},entsP ys rs L = .ok ds→totD ds≤L:=by
 intro rs
 induction rs with
 | nil=>intro L ds h;cases h;exact Nat.zero_le _
 | cons r t ih=>
  intro L ds h
  rw [entsP] at h
  cases hd:dataP ys r L with
  | error e=>rw [hd] at h;cases h
  | ok d=>
   have hdl:=dataP_len (fun x hx=>hb x (List.mem_of_mem_drop (List.mem_of_mem_take hx))) hd
   rw [hd] at h
   simp only at h
   split at h
   ·cases h
   ·cases he:entsP ys t (L-d.length) with
    | error e=>rw [he] at h;cases h
    | ok l=>
     rw [he] at h
     cases h
     have:=ih he
     simp [totD] at this ⊢
     omega
theorem totD_take (d:List (List Nat)) (i:Nat) (h:i<d.length):totD (d.take (i+1))=totD (d.take i)+d[i].length:=by
 unfold totD
 rw [List.take_succ_eq_append_getElem h,List.map_append,List.sum_append]
 simp
theorem totD_le (d:List (List Nat)) (i:Nat):totD (d.take i)≤totD d:=by
 conv=>rhs;rw [←List.take_append_drop i d]
 unfold totD
 rw [List.map_append,List.sum_append]
 omega
end
section
open Go.ChangeShapes Go.WideShapes Go.ChangeAt Go.RowKit
theorem txs_open {H:Type} {enc:TypeId × Value→H} {w:World} {base:Nat} {spare:Nat→Bool} {held:Bool} {fuel:Nat} {a:Option Addr} {len cap:Nat} {y:DataW H × List MemPlace}
  (h:DataW.trod enc Tryz.prog w base spare held fuel 52 [.slice a len cap]=some y):∃ nm,Txs w a len nm∧len≤maxLen∧∀ i,i<len→(nm i).size≤maxLen:=by
 rcases Go.Deep.open_strs Tryz.underlying52 Tryz.underlying9 (by kernel_rfl) h with ⟨h0,_⟩ | ⟨ad,l,c,m,Sx,hcs,_,hl,hm,hmm,_,hc⟩
 ·simp at h0
  exact ⟨fun _=>⟨#[]⟩,.inl h0.2.1,by omega,fun i hi=>by omega⟩
 ·simp at hcs
  obtain ⟨rfl,rfl,rfl⟩:=hcs
  have hlm:len≤m:=by rw [hmm];split <;> omega
  refine ⟨Sx,?_,by omega,fun i hi=>(hc i (by omega)).2⟩
  by_cases h0:len=0
  ·exact .inl h0
  ·obtain ⟨b,off,spot⟩:=ad
   have hc0:=(hc 0 (by omega)).1
   have hspot:spot=none:=by simpa [Addr.add] using World.cell?_spot hc0
   subst hspot
   refine .inr ⟨b,off,rfl,fun i hi=>?_⟩
   have:=(hc i (by omega)).1
   rwa [Addr.add_lit] at this
theorem stos_small {nm:Nat→ByteArray} {f:Nat→List Nat} {n:Nat} (hn:n≤12) (hs:∀ i,i<n→(nm i).size≤2000∧(f i).length≤2000) (hb:∀ i,i<n→Bs (f i)):Small (stos nm f n):=by
 have hlen:∀ k,k≤n→(HH (stos nm f k)).length≤k*4030∧(RR 0 (stos nm f k)).length≤k*2046:=by
  intro k
  induction k with
  | zero=>intro _;exact ⟨by simp [stos,HH],by simp [stos,RR]⟩
  | succ k ih=>
   intro hk
   obtain ⟨h1,h2⟩:=ih (by omega)
   obtain ⟨h3,h4⟩:=hs k (by omega)
   rw [HH_next,RR_next,List.length_append,List.length_append,hdB_len,rwB_len]
   simp only [stoOf]
   omega
 obtain ⟨h1,h2⟩:=hlen n (Nat.le_refl _)
 refine ⟨fun x hx=>?_,by rw [stos_len];omega,by omega,by omega⟩
 obtain ⟨i,hi,rfl⟩:=List.mem_map.1 hx
 have hin:=List.mem_range.1 hi
 obtain ⟨h3,h4⟩:=hs i hin
 exact ⟨by show (nm i).size<_;omega,by show (f i).length<_;omega,upd_lt _,hb i hin⟩
theorem stoP_rem (l:List Sto) (rem:List Nat) (hr:rem.length<65536):(stoP l).take ((stoP l).length-2)++[rem.length%256,rem.length/256]++rem=HH l++RR 0 l++stoE l.length (RR 0 l).length (HH l).length rem:=by
 have h:stoP l=(HH l++RR 0 l++([80,75,5,6,0,0,0,0]++Cu.le l.length 2++Cu.le l.length 2++Cu.le (RR 0 l).length 4++Cu.le (HH l).length 4))++[0,0]:=by
  unfold stoP stoE
  simp only [List.append_assoc,List.append_nil,List.length_nil]
  rfl
 have hl:(stoP l).length-2=(HH l++RR 0 l++([80,75,5,6,0,0,0,0]++Cu.le l.length 2++Cu.le l.length 2++Cu.le (RR 0 l).length 4++Cu.le (HH l).length 4)).length:=by
  rw [h,List.length_append];simp
 have he:Cu.le (rem.length:Nat) 2=[rem.length%256,rem.length/256]:=by rw [le2_is];simp;omega
 rw [hl]
 conv=>lhs;rw [h]
 rw [List.take_left]
 unfold stoE
 rw [he]
 simp only [List.append_assoc]
theorem readP_sizesR {xs:List Nat} (hb:Bs xs) {B E T:Int} {l:List Rw} {f:Nat} {d:List (List Nat)} (h:readP xs B E T = .ok (l,f,d)):l.length≤65535∧totD d≤T.toNat:=by
 obtain ⟨e,h1,h2,h3,h4⟩:=readP_is h
 exact ⟨(openP_fit hb h1).2.1,entsP_tot (fun x hx=>hb x (List.mem_of_mem_take hx)) h4⟩
theorem slice_to (ao:Option Addr) (len c b:Nat) (hbc:b≤c) (W:World):(Instr.slice 22 (.slice ao len c) none (some (.int .i64 (b:Int))) none).run Tryz.prog W = .ok (.slice ao b c) W:=by
 have:=Cu.slice_h ao len c b hbc W
 simpa using this
theorem by_take {w:World} {ao:Option Addr} {c:Nat} {xs:List Nat} (h:BySl w (.slice ao xs.length c) xs) (k:Nat) (hk:k≤xs.length) (hk0:0<k):BySl w (.slice ao k c) (xs.take k):=by
 rcases h with ⟨h0,rfl⟩ | ⟨ad,c',h1,h2,h3⟩
 ·simp at hk;omega
 ·injection h1 with e1 e2 e3
  subst e1 e3
  have hl:(xs.take k).length=k:=by rw [List.length_take];omega
  refine .inr ⟨ad,c,by rw [hl],by rw [hl];omega,fun j u hu=>h3 j u ?_⟩
  have hj:j<k:=by
   have:=(List.getElem?_eq_some_iff.1 hu).1
   simpa [u8s,hl] using (by simpa [u8s] using this:j<(xs.take k).length)
  rw [←hu]
  simp [u8s,hj]
set_option maxHeartbeats 3200000 in
theorem remark_many (no:Option Addr) (nc n:Nat) (d0:Option Addr) (dc m:Nat) (ro:Option Addr) (rc r:Nat) (w:World) (hT:TZ w) (h:12<n∨m<n∨100<m∨500<r) (_hn:n≤maxLen) (_hm:m≤maxLen) (_hr:r≤maxLen) :
  Calls Tryz.prog 8 #[.slice no n nc,.slice d0 m dc,.slice ro r rc] w fun e w'=>e = .returned (.bool true)∧Below w.heap.size w w':=by
 have KA:=Lib.hid (alive_any w hT)
 clear hT
 by_cases c1:12<n
 ·have q1:(12:Int)<n:=by omega
  clear h c1
  go_enter Tryz.func8,Tryz.ntmps8
  go_wp2_with (go_at_call 9;refine KA.out.mono ?_;rintro e w1 ⟨rfl,hb1⟩)
  go_ret
  exact ⟨rfl,hb1⟩
 have q1:¬(12:Int)<n:=by omega
 by_cases c2:m<n
 ·have q2:(m:Int)<n:=by omega
  clear h c1 c2
  go_enter Tryz.func8,Tryz.ntmps8
  go_wp2_with (go_at_call 9;refine KA.out.mono ?_;rintro e w1 ⟨rfl,hb1⟩)
  go_ret
  exact ⟨rfl,hb1⟩
 have q2:¬(m:Int)<n:=by omega
 by_cases c3:100<m
 ·have q3:(100:Int)<m:=by omega
  clear h c1 c2 c3
  go_enter Tryz.func8,Tryz.ntmps8
  go_wp2_with (go_at_call 9;refine KA.out.mono ?_;rintro e w1 ⟨rfl,hb1⟩)
  go_ret
  exact ⟨rfl,hb1⟩
 have q3:¬(100:Int)<m:=by omega
 have q4:(500:Int)<r:=by omega
 clear h c1 c2 c3
 go_enter Tryz.func8,Tryz.ntmps8
 go_wp2_with (go_at_call 9;refine KA.out.mono ?_;rintro e w1 ⟨rfl,hb1⟩)
 go_ret
 exact ⟨rfl,hb1⟩
set_option maxHeartbeats 3200000 in
theorem remark_walk (no:Option Addr) (nc n:Nat) (nm:Nat→ByteArray) (d0:Option Addr) (dc m:Nat) (f:Nat→List Nat) (A:Nat→Option Addr) (C:Nat→Nat) (ro:Option Addr) (rc:Nat) (rem:List Nat) (w:World) (hT:TZ w)
  (hN:Txs w no n nm) (hns:∀ i,i<n→(nm i).size≤maxLen) (hD:Lsb w d0 m f A C) (hR:Cu.Sl w ro rc rem) (h1:n≤12) (h2:n≤m) (h3:m≤100) (h4:rem.length≤500) :
  Calls Tryz.prog 8 #[.slice no n nc,.slice d0 m dc,.slice ro rem.length rc] w fun e w'=>e = .returned (.bool true)∧Below w.heap.size w w':=by
 have KA:=Lib.hid (alive_any w hT)
 have HT:=Lib.hid hT
 have HN:=Lib.hid hN
 have HD:=Lib.hid hD
 have HR:=Lib.hid hR
 have HNS:=Lib.hid hns
 have q1:¬(12:Int)<n:=by omega
 have q2:¬(m:Int)<n:=by omega
 have q3:¬(100:Int)<m:=by omega
 have q4:¬(500:Int)<rem.length:=by omega
 clear hT hN hD hR hns
 go_enter Tryz.func8,Tryz.ntmps8
 go_upto_region 5 with (go_at_call 9;refine KA.out.mono ?_;rintro e w1 ⟨rfl,hb1⟩;have HB1:=Lib.hid hb1;clear hb1)
 have HR1:=Lib.hid (HR.out.below HB1.out)
 go_wp2_with fail
 go_loop [7] (fun v7=>∃ i:Nat,i≤rem.length∧v7 = .int .i64 i∧Hid (∀ j (h:j<i) (h':j<rem.length),rem[j]≠80)) (fun v7=>rem.length-(intOf v7).toNat)
 case atStart=>exact ⟨0,Nat.zero_le _,rfl,Lib.hid fun j h=>absurd h (Nat.not_lt_zero _)⟩
 case round=>
  obtain ⟨i,hi,rfl,hrel⟩:=hrel
  by_cases hlt:i<rem.length
  ·have hii:(i:Int)<rem.length:=by omega
   obtain ⟨rb,roff,rfl,hrc⟩:∃ b off,ro=some ⟨b,off,none⟩∧∀ j,j<rem.length→w1.cell? ⟨b,off+j,none⟩=some (.int .u8 (rem.getD j 0:Nat)):=by
    rcases HR1.out.src with h | ⟨b,off,e,hc⟩
    ·rw [h] at hlt;simp at hlt
    ·exact ⟨b,off,e,hc⟩
   have hci:=hrc i hlt
   have hgd:rem.getD i 0=rem[i]:=by simp [List.getD,hlt]
   rw [hgd] at hci
   obtain ⟨x,hx⟩:∃ x,x=rem[i]:=⟨_,rfl⟩
   rw [←hx] at hci
   clear hrc hgd
   by_cases c:x=80
   ·have z:((x:Int) == 80)=true:=by simp;omega
    clear hx c hrel
    go_wp2
    go_ret
    exact ⟨rfl,HB1.out⟩
   ·have z:((x:Int) == 80)=false:=by simp;omega
    have HNX:Hid (∀ j (h:j<i+1) (h':j<rem.length),rem[j]≠80):=Lib.hid fun j hj h'=>by
     by_cases e:j=i
     ·subst e;rw [←hx];exact c
     ·exact hrel.out j (by omega) h'
    clear hx c hrel
    go_wp2
    go_round
    case rel=>exact ⟨i+1,by omega,by go_num,HNX⟩
    case measure=>simp [intOf];omega
  ·obtain rfl:i=rem.length:=by omega
   have hni:¬(rem.length:Int)<rem.length:=by omega
   have HP:Hid (∀ x∈rem,x≠80):=Lib.hid fun x hx=>by
    obtain ⟨j,hj,rfl⟩:=List.getElem_of_mem hx
    exact hrel.out j hj hj
   clear hrel
   go_wp2_with fail
   go_loop [8] (fun v8=>∃ i:Nat,i≤n∧v8 = .int .i64 i∧Hid (∀ j,j<i→(nm j).size≤300∧(f j).length≤1000)) (fun v8=>n-(intOf v8).toNat)
   case atStart=>exact ⟨0,Nat.zero_le _,rfl,Lib.hid fun j h=>absurd h (Nat.not_lt_zero _)⟩
   case round=>
    obtain ⟨i,hi,rfl,hrel⟩:=hrel
    by_cases hlt:i<n
    ·have hii:(i:Int)<n:=by omega
     have him:(i:Int)<m:=by omega
     obtain ⟨nb,noff,rfl,hnc⟩:∃ b off,no=some ⟨b,off,none⟩∧∀ i,i<n→w.cell? ⟨b,off+i,none⟩=some (.string (nm i)):=by
      rcases HN.out with h | h
      ·omega
      ·exact h
     obtain ⟨db,doff,rfl,hdc⟩:∃ b off,d0=some ⟨b,off,none⟩∧∀ i,i<m→El w ⟨b,off+i,none⟩ (A i) (C i) (f i):=by
      rcases HD.out with h | h
      ·omega
      ·exact h
     have hcn:=(HB1.out.cell (World.block_lt_of_cell? w _ (hnc i hlt))).trans (hnc i hlt)
     have hcd:=((hdc i (by omega)).below HB1.out).cell
     have hsz:=HNS.out i hlt
     obtain ⟨s,hs⟩:∃ s,s=nm i:=⟨_,rfl⟩
     obtain ⟨D,hDl⟩:∃ D,D=(f i).length:=⟨_,rfl⟩
     rw [←hs] at hcn hsz
     rw [←hDl] at hcd
     obtain ⟨Z,hZ⟩:∃ Z,Z=s.size:=⟨_,rfl⟩
     have hlen:∀ W,(Builtin.len_ #[9] 3 #[.string s]).run Tryz.prog W = .ok (.int .i64 (Z:Nat)) W:=fun W=>by
      rw [hZ];exact run_len_string W 9 3 s Tryz.underlying9
     generalize A i=da at hcd
     generalize C i=dcc at hcd
     have HS:=Lib.hid hs
     have HDl:=Lib.hid hDl
     have HZ:=Lib.hid hZ
     clear hs hDl hZ hnc hdc hsz
     by_cases c1:1000<D
     ·have z1:(1000:Int)<D:=by omega
      clear c1 hrel
      go_wp2
      go_ret
      exact ⟨rfl,HB1.out⟩
     have z1:¬(1000:Int)<D:=by omega
     by_cases c2:300<Z
     ·have z2:(300:Int)<Z:=by omega
      clear c1 c2 hrel
      go_wp2
      go_ret
      exact ⟨rfl,HB1.out⟩
     have z2:¬(300:Int)<Z:=by omega
     have HNX:Hid (∀ j,j<i+1→(nm j).size≤300∧(f j).length≤1000):=Lib.hid fun j hj=>by
      by_cases e:j=i
      ·subst e;rw [←HS.out,←HDl.out,←HZ.out];exact ⟨by omega,by omega⟩
      ·exact hrel.out j (by omega)
     clear c1 c2 hrel
     go_wp2
     go_round
     case rel=>exact ⟨i+1,by omega,by go_num,HNX⟩
     case measure=>simp [intOf];omega
    ·obtain rfl:i=n:=by omega
     have hni:¬(i:Int)<i:=by omega
     have HSZ:=Lib.hid hrel.out
     clear hrel
     have K21:=Lib.hid (stored_any no nc nm d0 dc f A C i m w1 (HN.out.below HB1.out) (HD.out.below HB1.out) h2 h1 (fun j hj=>by have:=HSZ.out j hj;omega))
     have hbs:∀ j,j<i→Bs (f j):=fun j hj=>by
      rcases HD.out with h | ⟨b,off,_,hc⟩
      ·omega
      ·exact (hc j (by omega)).sl.bs
     have HSM:=Lib.hid (stos_small (nm:=nm) (f:=f) h1 (fun j hj=>by have:=HSZ.out j hj;omega) hbs)
     obtain ⟨S,hS⟩:∃ S,S=stos nm f i:=⟨_,rfl⟩
     rw [←hS] at K21 HSM
     obtain ⟨L,hL⟩:∃ L,L=stoP S:=⟨_,rfl⟩
     rw [←hL] at K21
     have HLB:Hid (Bs L):=Lib.hid (by rw [hL];exact stoP_bs HSM.out)
     have hLl:22≤L.length∧L.length≤90000:=by
      obtain ⟨b1,b2⟩:=HH_small (nm:=nm) (f:=f) (n:=i) (fun j hj=>by have:=HSZ.out j hj;omega)
      have hh:=HSM.out.heads
      rw [hL,stoP_len]
      rw [hS] at hh ⊢
      have:i*5046≤60552:=by omega
      have b2':(RR 0 (stos nm f i)).length≤20000:=by
       have hr:∀ k,k≤i→(RR 0 (stos nm f k)).length≤k*346:=by
        intro k
        induction k with
        | zero=>intro _;simp [stos,RR]
        | succ k ih=>
         intro hk
         have h1:=ih (by omega)
         have h3:=(HSZ.out k (by omega)).1
         rw [RR_next,List.length_append,rwB_len]
         simp only [stoOf]
         omega
       have:=hr i (Nat.le_refl _)
       omega
      omega
     obtain ⟨M2,hM2⟩:∃ M2,M2=L.length-2:=⟨_,rfl⟩
     have hw2:IntKind.i64.wrap ((L.length:Int)-2)=(M2:Int):=by rw [wrapS _ (by omega) (by omega)];omega
     obtain ⟨lo,hlo⟩:∃ lo,lo=rem.length%256:=⟨_,rfl⟩
     obtain ⟨hi8,hhi⟩:∃ hi8,hi8=rem.length/256:=⟨_,rfl⟩
     obtain ⟨CB,hCB⟩:∃ CB,CB=L.take M2++[lo,hi8]++rem:=⟨_,rfl⟩
     have HCB:Hid (CB=HH S++RR 0 S++stoE S.length (RR 0 S).length (HH S).length rem):=Lib.hid (by rw [hCB,hlo,hhi,hM2,hL];exact stoP_rem S rem (by omega))
     have HCE:=Lib.hid hCB
     have HM2:=Lib.hid hM2
     have HLL:=Lib.hid hLl
     have HLE:=Lib.hid hL
     have hhb:hi8<256∧lo<256:=by omega
     have HHB:=Lib.hid hhb
     have hu1:IntKind.u8.wrap (rem.length:Int)=(lo:Int):=by rw [hlo,show IntKind.u8.wrap (rem.length:Int)=(rem.length:Int)%256 from rfl];omega
     have HLO:=Lib.hid hlo
     have HHI:=Lib.hid hhi
     clear hbs hS hL hM2 hlo hhi hCB hLl hhb
     go_upto_region 16 with (go_at_call 21;refine K21.out.mono ?_;rintro e w2 ⟨bo,bc,rfl,hown,hb2⟩;have HOWN:=Lib.hid hown;have HB2:=Lib.hid (HB1.out.trans (hb2.mono HB1.out.size));have HG1:Hid (w.heap.size≤w1.heap.size):=Lib.hid HB1.out.size;clear hown hb2)
     have hby:=BySl.own HOWN.out
     have hbc:L.length≤bc:=by
      rcases hby with ⟨h0,_⟩ | ⟨ad,c',e1,e2,_⟩
      ·injection h0 with _ h0 _;have:=HLL.out.1;omega
      ·injection e1 with _ _ e3;omega
     have hsl:=slice_to bo L.length bc M2 (by have:=HM2.out;omega)
     obtain ⟨TK,hTK⟩:∃ TK,TK=L.take M2:=⟨_,rfl⟩
     have hTl:TK.length=M2:=by rw [hTK,List.length_take];have:=HM2.out;omega
     have K11:Hid (Calls Tryz.prog 11 #[.slice bo M2 bc] w2 fun e w3=>∃ ao c,e = .returned (.slice ao TK.length c)∧w3.ownsRow w2.heap.size 5 1 (.slice ao TK.length c) TK.length (u8s TK)∧Below w2.heap.size w2 w3):=Lib.hid (by
      rw [hTK]
      exact copy_any (by_take hby M2 (by have:=HM2.out;omega) (by have:=HM2.out;have:=HLL.out.1;omega)) (by rw [List.length_take];have:=HM2.out;have:=HLL.out;omega))
     have hhq:(rem.length:Int)/256=(hi8:Int):=by have:=HHI.out;omega
     have hu2:IntKind.u8.wrap (hi8:Int)=(hi8:Int):=by rw [show IntKind.u8.wrap (hi8:Int)=(hi8:Int)%256 from rfl];have:=HHB.out;omega
     obtain ⟨X1,hX1⟩:∃ X1,X1=TK++[lo,hi8]:=⟨_,rfl⟩
     have EX1:=Lib.hid hX1
     have ECB:Hid (CB=X1++rem):=Lib.hid (by rw [HCE.out,hX1,hTK])
     have lX1:Hid (X1.length=M2+2):=Lib.hid (by rw [hX1,List.length_append,hTl];rfl)
     have HTl:=Lib.hid hTl
     have HRS:Hid (BySl w (.slice ro rem.length rc) rem):=Lib.hid (sl_by HR.out)
     clear hby hbc hTK hTl hX1
     go_upto_region 18 with (first
      | (go_at_call 11;refine K11.out.mono ?_;rintro e w3 ⟨co,cc,rfl,hown3,hb3⟩;have HO3:=Lib.hid hown3;have HB3:=Lib.hid hb3;clear hown3 hb3)
      | (refine wpList_append_x rfl (.tmp 77) (.tmp 85) rfl w2.heap.size (.slice co TK.length cc) (.slice (some ⟨w3.heap.size,0,none⟩) 2 2) TK [lo,hi8] rfl rfl (World.ownsRow.alloc (w:=w3) HO3.out _) (by_lit w3 [lo,hi8] _ 2 _ rfl rfl rfl) (by rw [alloc_size];have:=HB3.out.size;omega) (by rw [HTl.out];have:=HM2.out;have:=HLL.out;simp;omega) ?_;intro xo xc w4 hA;rw [←EX1.out] at hA ⊢;have HO4:=Lib.hid hA.own;have HB4:Hid (Below w2.heap.size w2 w4):=Lib.hid (HB3.out.trans (((Below.refl w3.heap.size w3).alloc (Nat.le_refl _) (.cells #[.int .u8 (lo:Nat),.int .u8 (hi8:Nat)] 5)).mono HB3.out.size |>.trans (hA.touch.below (by rw [alloc_size];have:=HB3.out.size;omega) fun k hk=>(HO3.out.lt k hk).1)));clear hA)
      | (refine wpList_append_x rfl (.tmp 87) (.tmp 88) rfl w2.heap.size (.slice xo X1.length xc) (.slice ro rem.length rc) X1 rem rfl rfl HO4.out (by_grow HRS.out (HB2.out.trans (HB4.out.mono HB2.out.size))) HB4.out.size (by rw [lX1.out];have:=HM2.out;have:=HLL.out;omega) ?_;intro yo yc w5 hA;rw [←ECB.out] at hA ⊢;have HO5:=Lib.hid hA.own;have HB5:Hid (Below w2.heap.size w2 w5):=Lib.hid (HB4.out.trans (hA.touch.below HB4.out.size fun k hk=>(HO4.out.lt k hk).1));clear hA))
     have hB25:Below w.heap.size w w5:=HB2.out.trans (HB5.out.mono HB2.out.size)
     have hCBl:CB.length=M2+2+rem.length:=by rw [ECB.out,List.length_append,lX1.out]
     have hrd:readP CB 1048576 1000 1048576=readP L 1048576 1000 1048576:=by
      have hsm:=HSM.out
      have hcl:(HH S++RR 0 S++stoE S.length (RR 0 S).length (HH S).length rem).length=CB.length:=by rw [HCB.out]
      rw [HCB.out,HLE.out]
      exact readP_remark hsm.bs HR.out.bs hsm.few hsm.rows hsm.heads (by omega) HP.out (by rw [hcl,hCBl];have:=HM2.out;have:=HLL.out;omega) (by rw [List.length_append];omega)
     have hslL:=(own_sl (ownsRow_touch HOWN.out (Touch.of_below HB5.out:Touch (fun _=>False) w2 w5) (fun _ _ h=>h)) HLB.out rfl).1
     have hCBb:Bs CB:=by
      rw [HCE.out]
      intro x hx
      rcases List.mem_append.1 hx with hx | hx
      ·rcases List.mem_append.1 hx with hx | hx
       ·exact HLB.out x (List.mem_of_mem_take hx)
       ·simp at hx;have:=HHB.out;omega
      ·exact HR.out.bs x hx
     have hslC:=(own_sl HO5.out hCBb rfl).1
     have KL:Hid (∀ W,Below w5.heap.size w5 W→Calls Tryz.prog 12 #[.slice bo L.length bc,.agg #[.int .i64 1048576,.int .i64 1000,.int .i64 1048576]] W (RdTo L (readP L 1048576 1000 1048576) W)):=Lib.hid fun W hW=>read_any bo bc L 1048576 1000 1048576 W (HT.out.grow (hB25.trans (hW.mono hB25.size))) (hslL.below hW) (by have:=HLL.out;omega) (by decide)
     have KC:Hid (∀ W,Below w5.heap.size w5 W→Calls Tryz.prog 12 #[.slice yo CB.length yc,.agg #[.int .i64 1048576,.int .i64 1000,.int .i64 1048576]] W (RdTo CB (readP L 1048576 1000 1048576) W)):=Lib.hid fun W hW=>by
      have:=read_any yo yc CB 1048576 1000 1048576 W (HT.out.grow (hB25.trans (hW.mono hB25.size))) (hslC.below hW) (by rw [hCBl];have:=HM2.out;have:=HLL.out;omega) (by decide)
      rwa [hrd] at this
     have HB25:=Lib.hid hB25
     clear hB25 hrd hslL hslC hCBb hCBl
     cases hres:readP L 1048576 1000 1048576 with
     | error er=>
      rw [hres] at KL KC
      have KL:Hid (∀ W,Below w5.heap.size w5 W→Calls Tryz.prog 12 #[.slice bo L.length bc,.agg #[.int .i64 1048576,.int .i64 1000,.int .i64 1048576]] W fun en w'=>Below W.heap.size W w'∧en = .returned (.tuple #[.slice none 0 0,.int .i64 (er:Nat)])):=Lib.hid KL.out
      have KC:Hid (∀ W,Below w5.heap.size w5 W→Calls Tryz.prog 12 #[.slice yo CB.length yc,.agg #[.int .i64 1048576,.int .i64 1000,.int .i64 1048576]] W fun en w'=>Below W.heap.size W w'∧en = .returned (.tuple #[.slice none 0 0,.int .i64 (er:Nat)])):=Lib.hid KC.out
      clear hres
      go_upto_region 22 with (first
       | (go_at_call 22;(with_reducible refine (all_any w5).mono ?_);rintro e w6 ⟨rfl,hb6⟩;have HB6:=Lib.hid hb6;clear hb6)
       | (go_at_call 12;(with_reducible refine (KL.out w6 HB6.out).mono ?_);rintro e w7 ⟨hb7,rfl⟩;have HB7:=Lib.hid (HB6.out.trans (hb7.mono HB6.out.size));clear hb7)
       | (go_at_call 22;(with_reducible refine (all_any w7).mono ?_);rintro e w8 ⟨rfl,hb8⟩;have HB8:=Lib.hid (HB7.out.trans (hb8.mono HB7.out.size));clear hb8)
       | (go_at_call 12;(with_reducible refine (KC.out w8 HB8.out).mono ?_);rintro e w9 ⟨hb9,rfl⟩;have HB9:=Lib.hid (HB8.out.trans (hb9.mono HB8.out.size));clear hb9))
      go_wp2_with fail
      go_loop [15] (fun v15=>v15 = .int .i64 0) (fun _=>0)
      case atStart=>rfl
      case round=>
       subst hrel
       go_wp2
       go_ret
       exact ⟨rfl,HB25.out.trans (HB9.out.mono HB25.out.size)⟩
     | ok x=>
      obtain ⟨l,fr,ds⟩:=x
      rw [hres] at KL KC
      obtain ⟨N,hNl⟩:∃ N,N=l.length:=⟨_,rfl⟩
      have KL:Hid (∀ W,Below w5.heap.size w5 W→Calls Tryz.prog 12 #[.slice bo L.length bc,.agg #[.int .i64 1048576,.int .i64 1000,.int .i64 1048576]] W fun en w'=>Below W.heap.size W w'∧∃ (ems:List Em) (a:Option Addr) (c:Nat),en = .returned (.tuple #[.slice a N c,.int .i64 0])∧Ems w' W.heap.size (.slice a N c) ems∧ems.map (fun x=>(x.nm,x.at_))=l.map (fun r=>(r.name,r.at_))∧ems.map (·.d)=ds):=Lib.hid fun W hW=>(KL.out W hW).mono fun en w' ⟨hb,ems,a,c,h1,h2,h3,h4⟩=>by
       rw [hNl]
       refine ⟨hb,ems,a,c,h1,h2,?_,h4⟩
       have:=congrArg (List.map fun t:ByteArray × Nat × Nat × Nat=>(t.1,t.2.2.2)) h3
       rw [List.map_map,List.map_map] at this
       exact this
      have KC:Hid (∀ W,Below w5.heap.size w5 W→Calls Tryz.prog 12 #[.slice yo CB.length yc,.agg #[.int .i64 1048576,.int .i64 1000,.int .i64 1048576]] W fun en w'=>Below W.heap.size W w'∧∃ (ems:List Em) (a:Option Addr) (c:Nat),en = .returned (.tuple #[.slice a N c,.int .i64 0])∧Ems w' W.heap.size (.slice a N c) ems∧ems.map (fun x=>(x.nm,x.at_))=l.map (fun r=>(r.name,r.at_))∧ems.map (·.d)=ds):=Lib.hid fun W hW=>(KC.out W hW).mono fun en w' ⟨hb,ems,a,c,h1,h2,h3,h4⟩=>by
       rw [hNl]
       refine ⟨hb,ems,a,c,h1,h2,?_,h4⟩
       have:=congrArg (List.map fun t:ByteArray × Nat × Nat × Nat=>(t.1,t.2.2.2)) h3
       rw [List.map_map,List.map_map] at this
       exact this
      have HNl:=Lib.hid hNl
      have hN65:N≤65535:=by rw [hNl];exact (readP_sizesR HLB.out hres).1
      have HDT:Hid (totD ds≤1048576):=Lib.hid (readP_sizesR HLB.out hres).2
      clear hres hNl
      go_upto_region 22 with (first
       | (go_at_call 22;(with_reducible refine (all_any w5).mono ?_);rintro e w6 ⟨rfl,hb6⟩;have HB6:=Lib.hid hb6;clear hb6)
       | (go_at_call 12;(with_reducible refine (KL.out w6 HB6.out).mono ?_);rintro e w7 ⟨hb7,ex,xa,xcp,rfl,hex,hxt,hxd⟩;have HB7:=Lib.hid (HB6.out.trans (hb7.mono HB6.out.size));have HEX:=Lib.hid hex;have HXT:=Lib.hid hxt;have HXD:=Lib.hid hxd;clear hb7 hex hxt hxd)
       | (go_at_call 22;(with_reducible refine (all_any w7).mono ?_);rintro e w8 ⟨rfl,hb8⟩;have HB8:=Lib.hid (HB7.out.trans (hb8.mono HB7.out.size));have HEX8:=Lib.hid (HEX.out.below hb8);clear hb8)
       | (go_at_call 12;(with_reducible refine (KC.out w8 HB8.out).mono ?_);rintro e w9 ⟨hb9,ey,ya,ycp,rfl,hey,hyt,hyd⟩;have HB9:=Lib.hid (HB8.out.trans (hb9.mono HB8.out.size));have HEX9:=Lib.hid (HEX8.out.below hb9);have HEY:=Lib.hid hey;have HYT:=Lib.hid hyt;have HYD:=Lib.hid hyd;clear hb9 hey hyt hyd))
      go_wp2_with fail
      have hB9:Below w.heap.size w w9:=HB25.out.trans (HB9.out.mono HB25.out.size)
      have HB99:=Lib.hid hB9
      clear hB9
      have hexl:ex.length=N:=by have:=congrArg List.length HXT.out;rw [List.length_map,List.length_map,←HNl.out] at this;exact this
      have heyl:ey.length=N:=by have:=congrArg List.length HYT.out;rw [List.length_map,List.length_map,←HNl.out] at this;exact this
      have HPR:Hid (∀ i (h:i<N),(ex[i]'(by omega)).nm=(ey[i]'(by omega)).nm∧(ex[i]'(by omega)).at_=(ey[i]'(by omega)).at_∧(ex[i]'(by omega)).d=(ey[i]'(by omega)).d∧(ex[i]'(by omega)).d.length≤1048576):=Lib.hid fun i hi=>by
       have h1:=HXT.out.trans HYT.out.symm
       have h2:=HXD.out.trans HYD.out.symm
       have e1:=congrArg (·[i]?) h1
       have e2:=congrArg (·[i]?) h2
       simp only [List.getElem?_map,List.getElem?_eq_getElem (show i<ex.length by omega),List.getElem?_eq_getElem (show i<ey.length by omega),Option.map_some,Option.some.injEq,Prod.mk.injEq] at e1 e2
       have e3:=HXD.out
       have hdl:i<ds.length:=by rw [←e3,List.length_map];omega
       have e4:(ex[i]'(by omega)).d=ds[i]:=by simp only [←e3,List.getElem_map]
       have e5:=totD_le ds (i+1)
       rw [totD_take ds i hdl] at e5
       have e6:=HDT.out
       exact ⟨e1.1,e1.2,e2,by rw [e4];omega⟩
      have hexl:=Lib.hid hexl
      have heyl:=Lib.hid heyl
      go_loopw [15] (fun v15 wr=>∃ i:Nat,i≤N∧v15 = .int .i64 i∧Hid (Below w9.heap.size w9 wr)) (fun v15 _=>N-(intOf v15).toNat)
      case atStart=>exact ⟨0,Nat.zero_le _,rfl,Lib.hid (Below.refl _ _)⟩
      case round=>
       obtain ⟨i,hi,rfl,hbel⟩:=hrel
       by_cases hlt:i<N
       ·have hii:(i:Int)<N:=by omega
        obtain ⟨p1,p2,p3,p4⟩:=HPR.out i hlt
        obtain ⟨g,gc,hgv,hgl,hg⟩:=HEX9.out.at (i:=i) (by rw [hexl.out];exact hlt)
        obtain ⟨k,kc,hkv,hkl,hk⟩:=HEY.out.at (i:=i) (by rw [heyl.out];exact hlt)
        obtain rfl:xa=some ⟨g,0,none⟩:=by injection hgv
        obtain rfl:ya=some ⟨k,0,none⟩:=by injection hkv
        have hxs:=HEX9.out.sl (ex[i]'(by rw [hexl.out];exact hlt)) (List.getElem_mem _)
        have hys:=HEY.out.sl (ey[i]'(by rw [heyl.out];exact hlt)) (List.getElem_mem _)
        generalize ex[i]'(by rw [hexl.out];exact hlt)=x at p1 p2 p3 p4 hg hxs
        generalize ey[i]'(by rw [heyl.out];exact hlt)=y at p1 p2 p3 hk hys
        obtain ⟨xn,xd,xda,xdc,xm,xe,xat⟩:=x
        obtain ⟨yn,yd,yda,ydc,ym,ye,yat⟩:=y
        simp only at p1 p2 p3 p4 hxs hys
        subst p1 p2 p3
        have gr:∀ {p:Addr} {v:Value},w9.cell? p=some v→wr.cell? p=some v:=fun h=>(hbel.out.cell (World.block_lt_of_cell? w9 _ h)).trans h
        have c1:wr.cell? ⟨g,i*5,none⟩=some (.string xn):=gr (hg 0 _ rfl)
        have c2:wr.cell? ⟨g,i*5+1,none⟩=some (.slice xda xd.length xdc):=gr (hg 1 _ rfl)
        have c3:wr.cell? ⟨g,i*5+4,none⟩=some (.int .i64 (xat:Nat)):=gr (hg 4 _ rfl)
        have d1:wr.cell? ⟨k,i*5,none⟩=some (.string xn):=gr (hk 0 _ rfl)
        have d2:wr.cell? ⟨k,i*5+1,none⟩=some (.slice yda xd.length ydc):=gr (hk 1 _ rfl)
        have d3:wr.cell? ⟨k,i*5+4,none⟩=some (.int .i64 (xat:Nat)):=gr (hk 4 _ rfl)
        have K14:Hid (∀ W,Below w9.heap.size w9 W→Calls Tryz.prog 14 #[.slice xda xd.length xdc,.slice yda xd.length ydc] W fun e w'=>e = .returned (.bool true)∧Below w9.heap.size w9 w'∧∃ nq,w'=W.drewN nq):=Lib.hid fun W hW=>by
         have:=same_any (w:=W) (by_grow (sl_by hxs) hW) (by_grow (sl_by hys) hW) (by omega)
         refine this.mono ?_
         rintro e w' ⟨rfl,nq,rfl⟩
         exact ⟨by simp,below_drewN hW nq,nq,rfl⟩
        clear hgv hkv hg hk hxs hys gr p4 HPR
        go_upto_region 25 with fail
        have AF:Hid (∀ W,Below wr.heap.size wr W→W.cell? ⟨g,i*5,none⟩=some (.string xn)∧W.cell? ⟨g,i*5+1,none⟩=some (.slice xda xd.length xdc)∧W.cell? ⟨g,i*5+4,none⟩=some (.int .i64 (xat:Nat))∧W.cell? ⟨k,i*5,none⟩=some (.string xn)∧W.cell? ⟨k,i*5+1,none⟩=some (.slice yda xd.length ydc)∧W.cell? ⟨k,i*5+4,none⟩=some (.int .i64 (xat:Nat))):=Lib.hid fun W hW=>by
         have gr:∀ {p:Addr} {v:Value},wr.cell? p=some v→W.cell? p=some v:=fun h=>(hW.cell (World.block_lt_of_cell? wr _ h)).trans h
         exact ⟨gr c1,gr c2,gr c3,gr d1,gr d2,gr d3⟩
        have hszr:w9.heap.size≤wr.heap.size:=hbel.out.size
        go_region_held3 (fun W=>W.cell? ⟨g,i*5,none⟩=some (.string xn)∧W.cell? ⟨g,i*5+1,none⟩=some (.slice xda xd.length xdc)∧W.cell? ⟨g,i*5+4,none⟩=some (.int .i64 (xat:Nat))∧W.cell? ⟨k,i*5,none⟩=some (.string xn)∧W.cell? ⟨k,i*5+1,none⟩=some (.slice yda xd.length ydc)∧W.cell? ⟨k,i*5+4,none⟩=some (.int .i64 (xat:Nat))) (exact AF.out _ (by first | with_reducible exact HX10.out | exact below_drewN (Below.refl _ _) 1)) (first | (go_at_call 14;refine (K14.out _ (below_drewN hbel.out 1)).mono ?_;rintro e w10 ⟨rfl,hb10,nq10,hq10⟩;have HB10:=Lib.hid hb10;have HX10:Hid (Below wr.heap.size wr w10):=Lib.hid (by rw [hq10];exact below_drewN (below_drewN (Below.refl _ _) 1) _);clear hb10 hq10))
        all_goals
         go_wp2_with fail
         go_roundw
         case rel=>exact ⟨i+1,by omega,by go_num,HB10⟩
         case measure=>simp [intOf];omega
       ·obtain rfl:i=N:=by omega
        have hni:¬(i:Int)<i:=by omega
        go_wp2_with fail
        go_ret
        exact ⟨rfl,HB99.out.trans (hbel.out.mono HB99.out.size)⟩
theorem remark_all (no:Option Addr) (nc n:Nat) (nm:Nat→ByteArray) (d0:Option Addr) (dc m:Nat) (f:Nat→List Nat) (A:Nat→Option Addr) (C:Nat→Nat) (ro:Option Addr) (rc:Nat) (rem:List Nat) (w:World) (hT:TZ w)
  (hN:Txs w no n nm) (hn:n≤maxLen∧∀ i,i<n→(nm i).size≤maxLen) (hD:Lsb w d0 m f A C) (hm:m≤maxLen) (hR:Cu.Sl w ro rc rem) :
  Calls Tryz.prog 8 #[.slice no n nc,.slice d0 m dc,.slice ro rem.length rc] w fun e w'=>e = .returned (.bool true)∧Below w.heap.size w w':=by
 by_cases h:12<n∨m<n∨100<m∨500<rem.length
 ·exact remark_many no nc n d0 dc m ro rc rem.length w hT h hn.1 hm (Nat.le_trans hR.le hR.big)
 ·exact remark_walk no nc n nm d0 dc m f A C ro rc rem w hT hN hn.2 hD hR (by omega) (by omega) (by omega) (by omega)
end
section
open Go.RowKit
theorem ends_byt (s:ByteArray) (h:0<s.size):endsSlash s=decide (byt s (s.size-1)=47):=by
 unfold endsSlash byt
 have hl:s.data.toList.length=s.size:=by simp
 rw [List.getLast?_eq_getElem?,hl,Bool.eq_iff_iff]
 have hlt:s.size-1<s.data.toList.length:=by omega
 simp only [List.getD_eq_getElem?_getD,List.getElem?_eq_getElem hlt,Option.getD_some,beq_iff_eq,Option.some.injEq,decide_eq_true_iff]
 rw [←UInt8.toNat_inj]
 rfl
theorem nameF_fits {s:ByteArray} {wide:Bool} (h:nameF s wide=false):s.size≠0∧s.size≤255:=by
 unfold nameF at h
 simp only [Bool.or_eq_false_iff,decide_eq_false_iff_not] at h
 exact ⟨h.1.1.1.1,by omega⟩
theorem rNameFault_big (s:ByteArray) (wide:Bool) (w:World) (h:255<s.size):Calls Tryz.prog 18 #[.string s,.bool wide] w fun e w'=>e = .returned (.bool (nameF s wide))∧w=w':=by
 have hA:nameF s wide=true:=by unfold nameF;simp [h]
 rw [hA]
 obtain ⟨Z,hZ⟩:∃ Z,Z=s.size:=⟨_,rfl⟩
 have hlen:∀ W,(Builtin.len_ #[9] 3 #[.string s]).run Tryz.prog W = .ok (.int .i64 (Z:Nat)) W:=fun W=>by
  rw [hZ];exact run_len_string W 9 3 s Tryz.underlying9
 have e1:(255:Int)<Z:=by omega
 have e0:s.toList.isEmpty=false:=by
  rw [ByteArray.toList_eq]
  have:s.data.toList.length=s.size:=by simp
  cases hl:s.data.toList with
  | nil=>rw [hl] at this;simp at this;omega
  | cons c r=>rfl
 clear h hA hZ
 go_enter Tryz.func18,Tryz.ntmps18
 go_wp2
 go_ret
 exact ⟨rfl,rfl⟩
theorem rNameFault_all (s:ByteArray) (wide:Bool) (w:World):Calls Tryz.prog 18 #[.string s,.bool wide] w fun e w'=>e = .returned (.bool (nameF s wide))∧w=w':=by
 by_cases h:255<s.size
 ·exact rNameFault_big s wide w h
 ·exact rNameFault_any s wide w (by omega)
end
end Go.Proofs.YthbbpooobaahiaaGreatDoor.Zz
