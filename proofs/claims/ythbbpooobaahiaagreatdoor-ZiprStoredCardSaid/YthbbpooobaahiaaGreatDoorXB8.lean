/- Part 8. -/
import Derived.Test.YthbbpooobaahiaaGreatDoorXB7
namespace Go.Proofs.YthbbpooobaahiaaGreatDoor.Z
set_option maxRecDepth 100000
section
open Go.RowKit
theorem run_call1 {ρ : Operand→Value} {o:Oper} {w:World} (x y:Operand) (ts:Array TypeId) (f:Nat) (caps:Array Value) (v:Value) (hF:∀ A:Array Value,(callFunc f A).run Tryz.prog w = .ok (.enter f A) w) (ho:o.op = .call { callee := .value x,args := #[y],argTypes:=ts }) (hx : ρ x = .func (.func f) #[] caps) (hy : ρ y=v) :
  (execOp ρ o).run Tryz.prog w = .ok (.enter f (#[v]++caps)) w:=by
 unfold execOp
 simp [ho,hx,hy,hF,go_sem]
theorem run_call2 {ρ : Operand→Value} {o:Oper} {w:World} (x y z:Operand) (ts:Array TypeId) (f:Nat) (caps:Array Value) (v u:Value) (hF:∀ A:Array Value,(callFunc f A).run Tryz.prog w = .ok (.enter f A) w) (ho:o.op = .call { callee := .value x,args := #[y,z],argTypes:=ts }) (hx : ρ x = .func (.func f) #[] caps) (hy : ρ y=v) (hz : ρ z=u) :
  (execOp ρ o).run Tryz.prog w = .ok (.enter f (#[v,u]++caps)) w:=by
 unfold execOp
 simp [ho,hx,hy,hz,hF,go_sem]
theorem enter35 (A:Array Value) (w:World):(callFunc 197 A).run Tryz.prog w = .ok (.enter 197 A) w:=by kernel_rfl
theorem enter21 (A:Array Value) (w:World):(callFunc 194 A).run Tryz.prog w = .ok (.enter 194 A) w:=by kernel_rfl
theorem step_call {ops:Array Oper} {o:Oper} {a:Act} {w:World} {K:Act→World→Prop} {Q:Exit→Act→World→Prop} {E:Prop} (hw:Region.wanted o (yielded ops a.tmps)=true) (f:FuncId) (args:Array Value)
  (hr:(execOp a.eval o).run Tryz.prog w = .ok (.enter f args) w) (R:Value→World→Prop) (hc:Calls Tryz.prog f args w fun e w'=>∃ v,e = .returned v∧R v w') (h:∀ v w',R v w'→K (a.put o.dst v) w') :
  if Region.wanted o (yielded ops a.tmps)=true then Oper.wp Tryz.prog o a w K Q else E:=by
 rw [if_pos hw]
 unfold Oper.wp
 rw [hr]
 exact hc.mono (by rintro e w' ⟨v,rfl,hR⟩;exact h v w' hR)
end
end Go.Proofs.YthbbpooobaahiaaGreatDoor.Z
