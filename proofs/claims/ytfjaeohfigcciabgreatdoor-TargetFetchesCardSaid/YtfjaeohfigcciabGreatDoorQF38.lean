/- Texts in one: TC1b. -/
import Derived.Test.YtfjaeohfigcciabGreatDoorQF35
set_option linter.unusedVariables false
set_option linter.unusedSimpArgs false
set_option linter.unusedSectionVars false
set_option linter.unnecessarySimpa false
namespace Go.Proofs.YtfjaeohfigcciabGreatDoor
open Go.RowKit Go.Extern.Stop Go.Stop Go.Extern

theorem ci_comparable (w : World) : ((Extern.ReflectliteType.method fun t => do Extern.Rtype.noPackHeld "Comparable" t; pure (.bool (← typeInfo t).comparable)) #[.agg #[.pointer (some ⟨1, 74, none⟩)]]).run Tryz.prog w = .ok (.bool true) w := by kernel_rfl
theorem ci_call (w : World) : (callFunc 194 #[.agg #[.pointer (some ⟨1, 74, none⟩)]]).run Tryz.prog w = .ok (.value (.bool true)) w := by
  have h := @run_callFunc_extern Tryz.prog 194 _ (Extern.ReflectliteType.method fun t => do Extern.Rtype.noPackHeld "Comparable" t; pure (.bool (← typeInfo t).comparable)) Tryz.func194 (by kernel_rfl) (by kernel_rfl) (by kernel_rfl) (by kernel_rfl)
  rw [h, ci_comparable]
  rfl
theorem ci_method (v : Value) (w : World) : (Go.method 334 140 v "Comparable").run Tryz.prog w = .ok (194, v) w := by kernel_rfl
theorem ci_noIs (v : Value) (xT : TypeId) (w : World) : (Instr.typeAssert (.iface 74 v) xT 142 true).run Tryz.prog w = .ok (.tuple #[.nilIface, .bool false]) w := run_typeAssert_lacksB Tryz.underlying142 (by kernel_rfl) (by kernel_rfl) v xT w
theorem ci_noUnwrap (v : Value) (xT : TypeId) (w : World) : (Instr.typeAssert (.iface 74 v) xT 145 true).run Tryz.prog w = .ok (.tuple #[.nilIface, .bool false]) w := run_typeAssert_lacksB Tryz.underlying145 (by kernel_rfl) (by kernel_rfl) v xT w
theorem ci_noUnwraps (v : Value) (xT : TypeId) (w : World) : (Instr.typeAssert (.iface 74 v) xT 147 true).run Tryz.prog w = .ok (.tuple #[.nilIface, .bool false]) w := run_typeAssert_lacksB Tryz.underlying147 (by kernel_rfl) (by kernel_rfl) v xT w
theorem ci_comp : (Tryz.prog.info? 74).map (·.comparable) = some true := by kernel_rfl
theorem ci_eql (a b : Int) (w : World) : (binOp .eql 35 (.iface 74 (.int .i64 a)) (.iface 74 (.int .i64 b))).run Tryz.prog w = .ok (.bool (a == b)) w := by
  obtain ⟨i, hi, hcmp⟩ := Option.map_eq_some_iff.1 ci_comp
  have h1 : ∀ d : Nat, (Op.equalIn (d + 1) 74 (.int .i64 a) (.int .i64 b)).run Tryz.prog w = .ok (a == b) w := fun d => by simp [Op.equalIn, run_underlying Tryz.underlying74]
  have h2 : ∀ d : Nat, (Op.equalIn (d + 2) 35 (.iface 74 (.int .i64 a)) (.iface 74 (.int .i64 b))).run Tryz.prog w = .ok (a == b) w := fun d => by simp [Op.equalIn, run_underlying Tryz.underlying35, typeInfo, hi, hcmp, h1]
  simp only [binOp]
  simp [Op.equal, Op.maxDepth, h2 9998]

set_option maxHeartbeats 4000000 in
theorem is_code (a b : Int) (w : World) : Calls Tryz.prog 33 #[.iface 74 (.int .i64 a), .iface 74 (.int .i64 b)] w fun e w' => e = .returned (.bool (a == b)) ∧ w' = w := by
  have h8 := @run_callFunc_extern Tryz.prog 73 _ Extern.ReflectliteType.typeOf Tryz.func73 (by kernel_rfl) (by kernel_rfl) (by kernel_rfl) (by kernel_rfl)
  have h32 := ci_call
  have tT := cd_typeOfC
  have mR := ci_method
  have nE := ci_noIs
  have uE := ci_noUnwrap
  have vE := ci_noUnwraps
  have eq := ci_eql a b
  generalize (a == b) = t at eq ⊢
  cases t
  · go_enter Tryz.func33, Tryz.ntmps33
    go_wp2
    refine wp_loop_rounds 1 ?_
    rw [rounds_succ]
    go_wp2
    go_ret
    exact ⟨rfl, rfl⟩
  · go_enter Tryz.func33, Tryz.ntmps33
    go_wp2
    refine wp_loop_rounds 1 ?_
    rw [rounds_succ]
    go_wp2
    go_ret
    exact ⟨rfl, rfl⟩
theorem is_nil (u : Value) (w : World) : Calls Tryz.prog 33 #[.nilIface, .iface 74 u] w fun e w' => e = .returned (.bool false) ∧ w' = w := by
  have hn := run_eql_iface_nil_left (P := Tryz.prog) w 74 u Tryz.underlying35
  go_enter Tryz.func33, Tryz.ntmps33
  go_wp2
  go_ret
  exact ⟨rfl, rfl⟩
end Go.Proofs.YtfjaeohfigcciabGreatDoor

