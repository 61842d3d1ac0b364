import Derived.Test.YtacpfpghokcdlaaGreatDoorXB29
namespace Go.Proofs.YtacpfpghokcdlaaGreatDoor.deflateBack
open Go.ChangeShapes Go.WideShapes Go.ChangeAt Go.RowKit
set_option maxRecDepth 100000
theorem k (ao:Option Addr) (c:Nat) (xs:List Nat) (a1:Int) (w:World) (hT:Tb8 w) (h:zi w (.slice ao xs.length c) xs) (hb:Bs xs) (z:xs.length≤9223372036854775807) :
  Calls Tryz.prog 3 #[.slice ao xs.length c,.int .i64 a1] w fun e w'=>e = .returned (.bool true)∧Below w.heap.size w w':=by
 by_cases h1:1500<xs.length
 ·exact zdk zfy ao xs.length c a1 w hT z h1
 ·exact zek zlY zfy ze7 ao c xs a1 w hT h hb (by omega)
theorem i (os:Os) (n:os.Started) (H:Type) (enc:TypeId × Value→H) :
  ReturnsInHanded {} Tryz.checked os 3 .any (fun w F=>(Rows.deflateBackSpec.pre enc Tryz.prog Tryz.f3 Rows.deflateBackRow.domain false w F∧laidMetH Tryz.prog uN w)∧sizedMet enc Tryz.prog Tryz.f3 (OpenSpec.ofChange Rows.deflateBackSpec) false w F)
   (Rows.deflateBackSpec.post enc Tryz.prog Tryz.f3 false true false false):=by
 refine returnsInHanded_of_change_and (C:=Tryz.checked) (X:=fun w _=>laidMetH Tryz.prog uN w) (fun _ _ _ hh h=>h.of_heap hh) own n (by kernel_rfl) Tryz.func3
  (ChangeSpec.witness_shaped (enc:=enc) (C:=Tryz.checked) (os:=os) (X:=fun w _=>laidMetH Tryz.prog uN w) false (World.laidAll Tryz.prog os uN) #[.slice none 0 0,.int .i64 0] 8 (World.laidAll_os _ _ _)
   (World.shaped_of_ZipB (by kernel_rfl) (by kernel_rfl)) (by kernel_rfl) (by kernel_rfl) (by kernel_rfl)
   (by rw [MakeChecks.laidMetH_plain _ _ _ (by kernel_rfl)];exact laidMet_laidAll _ (by kernel_rfl) (by kernel_rfl))) ?_
 intro W G F ds gs before A hW g _ hL _
 have B:∀ (j:Nat) t v,Tryz.f3.params[j]? = some t→F[j]? = some v→Value.okWide Tryz.prog W .any G t v:=A
 have o:=hW
 obtain ⟨p,q,Y,a,rfl,b,d⟩:=hW
 have Z:DataW.TrodAll enc Tryz.prog W 0 (fun _=>true) true Tryz.f3.params.toList F.toList ds p:=Y
 rw [Tryz.params3] at Z B
 obtain ⟨v0,xe,d0,xc,p0,q0,D,rfl,rfl,h0,r0⟩:=trodAll_cons Z
 obtain ⟨v1,xf,d1,xd,p1,q1,rfl,rfl,rfl,h1,r1⟩:=trodAll_cons r0
 obtain ⟨rfl,rfl,rfl⟩:=trodAll_nil r1
 obtain rfl:F = #[v0,v1]:=by cases F;simp_all
 obtain ⟨rfl,rfl⟩:=trodVars_none a
 obtain ⟨a0,M,J,rfl⟩:=okWide_slice Tryz.underlying22 (B 0 22 v0 rfl rfl)
 have k0:=h0
 have V:∀ x∈p0,x.block<W.heap.size:=by obtain ⟨m,r⟩:=k0;exact DataW.trod_lt m _ _ _ r
 obtain ⟨I,rfl,S,U,N,O⟩:∃ xs:List Nat,xs.length=M∧Bs xs∧zi W (.slice a0 M J) xs∧M≤J∧J≤maxLen:=by
  obtain ⟨y,hf⟩:=h0
  exact zi8 (by simpa [Value.cells] using hf)
 obtain ⟨a1,rfl,rfl,rfl,w1⟩:=open_int Tryz.underlying3 (B 1 3 v1 rfl rfl) h1
 unfold maxLen at O
 clear Y A
 refine (k a0 J I a1 W (zkV hL) U S (by omega)).mono fun e W' ⟨he,xa⟩=>?_
 subst he
 exact ⟨_,rfl,_,_,_,[],_,[],o,trodAll_mk1 (shut_bool Tryz.underlying4 _),(trodAll_cons_mk (Below.trod laidOut (by kernel_rfl) (of_decide_eq_true (by kernel_rfl)) k0 xa V) (trodAll_cons_mk (shut_int Tryz.underlying3 w1) trodAll_mk0)),rfl,xa.frame _,fun h=>by cases h⟩
theorem l:Rows.DeflateBackSaid:=
 OpenClaim.holds_of_wide 3 Tryz.f3 rfl rfl rfl rfl rfl rfl rfl ⟨rfl,rfl,rfl,rfl,rfl⟩ rfl rfl rfl rfl rfl (by kernel_rfl) Tryz.func3 (by kernel_rfl)
  (of_decide_eq_true (by kernel_rfl)) (by unfold Func.isWrapper;first | (rw [if_pos (by decide +kernel)];kernel_rfl) | (rw [if_neg (by decide +kernel)];exact ⟨rfl,rfl⟩))
  (fun os n H enc _=>i os n H enc)
theorem proved:Rows.DeflateBackCardSaid:=
 Claim7.holds_tied_plain_at .later [] [.data,.data,.data] true (true,"1a56c0dc031ecf278579e6d7364c14d3bc70c5a2c634fc577187c13e01df0045") true l (fun _ h=>by cases h) (by kernel_rfl) (fun _ h=>by cases h) deflateBack_row_tie rfl ⟨rfl,rfl⟩ (by kernel_rfl) rfl
  (fun f fn hf xb=>by
   obtain rfl:f=3:=Option.some.inj ((show Tryz.prog.funcNamed "etui/etuilaw08.DeflateBack" = some 3 by kernel_rfl).symm.trans hf) |>.symm
   obtain rfl:fn=Tryz.f3:=(Option.some.inj (Tryz.func3.symm.trans xb)).symm
   exact ⟨by kernel_rfl,fun j t ht=>by
    rw [Tryz.params3] at ht
    have r:t∈[22,3]:=by
     have:=Array.mem_of_getElem? ht
     simp at this ⊢
     omega
    have s:([22,3].all fun u => !Tryz.prog.wantsStandIn u)=true:=by kernel_rfl
    exact (show Tryz.prog.wantsStandIn t=false by simpa using List.all_eq_true.1 s t r)⟩)
  (by kernel_rfl)
end Go.Proofs.YtacpfpghokcdlaaGreatDoor.deflateBack
