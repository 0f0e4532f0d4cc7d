/- Two instructions held against each other. -/
import Derived.Test.YtolnaodlghahlaaGreatDoorDecWalk
import Derived.Laws.StructEq
namespace Go.Proofs.YtolnaodlghahlaaGreatDoor
open Go.ChangeShapes Go.WideShapes Go.ChangeAt Go.RowKit
set_option linter.unusedVariables false
set_option maxRecDepth 20000

deriving instance DecidableEq for Opd
deriving instance DecidableEq for Ins

theorem guardI (w : World) (a b : Operand) (A B : Array Value) : (eqGuard .eql 28 a b (.agg A) (.agg B)).run Tryz.prog w = .ok () w := run_eqGuard_agg w _ _ _ _ _ _ (by kernel_rfl)

/-- Two operands. -/
theorem eqlO (d : Nat) (w : World) (o p : Opd) : (Op.equalIn (d + 1 + 1) 26 (.agg o.vals) (.agg p.vals)).run Tryz.prog w = .ok (decide (o = p)) w := by
  have u3 := Tryz.underlying3
  have a3 := Tryz.isAgg3
  have z3 := Tryz.sizeOf3
  have u4 := Tryz.underlying24
  have a4 := Tryz.isAgg24
  have z4 := Tryz.sizeOf24
  rw [run_equalIn_struct w (d + 1) 26 _ _ (by kernel_rfl) (by kernel_rfl)]
  simp only [Program.fieldsOf, Tryz.underlying26, Opd.vals]
  go_simp
  by_cases h_kind : o.kind = p.kind
  case neg =>
    have hn : ¬ o = p := fun e => h_kind (by rw [e])
    simp [h_kind, hn]
  by_cases h_reg : o.reg = p.reg
  case neg =>
    have hn : ¬ o = p := fun e => h_reg (by rw [e])
    simp [h_kind, h_reg, hn]
  by_cases h_size : o.size = p.size
  case neg =>
    have hn : ¬ o = p := fun e => h_size (by rw [e])
    simp [h_kind, h_reg, h_size, hn]
  by_cases h_seg : o.seg = p.seg
  case neg =>
    have hn : ¬ o = p := fun e => h_seg (by rw [e])
    simp [h_kind, h_reg, h_size, h_seg, hn]
  by_cases h_base : o.base = p.base
  case neg =>
    have hn : ¬ o = p := fun e => h_base (by rw [e])
    simp [h_kind, h_reg, h_size, h_seg, h_base, hn]
  by_cases h_index : o.index = p.index
  case neg =>
    have hn : ¬ o = p := fun e => h_index (by rw [e])
    simp [h_kind, h_reg, h_size, h_seg, h_base, h_index, hn]
  by_cases h_scale : o.scale = p.scale
  case neg =>
    have hn : ¬ o = p := fun e => h_scale (by rw [e])
    simp [h_kind, h_reg, h_size, h_seg, h_base, h_index, h_scale, hn]
  by_cases h_disp : o.disp = p.disp
  case neg =>
    have hn : ¬ o = p := fun e => h_disp (by rw [e])
    simp [h_kind, h_reg, h_size, h_seg, h_base, h_index, h_scale, h_disp, hn]
  by_cases h_imm : o.imm = p.imm
  case neg =>
    have hn : ¬ o = p := fun e => h_imm (by rw [e])
    simp [h_kind, h_reg, h_size, h_seg, h_base, h_index, h_scale, h_disp, h_imm, hn]
  have he : o = p := by
    obtain ⟨o0, o1, o2, o3, o4, o5, o6, o7, o8⟩ := o
    obtain ⟨p0, p1, p2, p3, p4, p5, p6, p7, p8⟩ := p
    simp_all
  simp [he]

theorem partA (w : World) (x : Ins) : (part 26 (insV x) 3).run Tryz.prog w = .ok (.agg x.a.vals) w := by kernel_rfl
theorem partB (w : World) (x : Ins) : (part 26 (insV x) 12).run Tryz.prog w = .ok (.agg x.b.vals) w := by kernel_rfl
theorem partC (w : World) (x : Ins) : (part 26 (insV x) 21).run Tryz.prog w = .ok (.agg x.c.vals) w := by kernel_rfl

theorem eqlI (w : World) (x y : Ins) : (binOp .eql 28 (.agg (insV x)) (.agg (insV y))).run Tryz.prog w = .ok (.bool (decide (x = y))) w := by
  have u3 := Tryz.underlying3
  have a3 := Tryz.isAgg3
  have z3 := Tryz.sizeOf3
  have q1 : ∀ w z, (part 3 (insV z) 0).run Tryz.prog w = .ok (.int .i64 z.op) w := fun w z => by kernel_rfl
  have q2 : ∀ w z, (part 3 (insV z) 1).run Tryz.prog w = .ok (.int .i64 z.sub) w := fun w z => by kernel_rfl
  have q3 : ∀ w z, (part 3 (insV z) 2).run Tryz.prog w = .ok (.int .i64 z.size) w := fun w z => by kernel_rfl
  have q4 : ∀ w z, (part 3 (insV z) 30).run Tryz.prog w = .ok (.int .i64 z.rep) w := fun w z => by kernel_rfl
  have q5 : ∀ w z, (part 3 (insV z) 31).run Tryz.prog w = .ok (.int .i64 z.len) w := fun w z => by kernel_rfl
  rw [run_eql_struct, show (10000 : Nat) = 9999 + 1 from rfl, run_equalIn_struct w 9999 28 _ _ (by kernel_rfl) (by kernel_rfl)]
  have e0 : ∀ w a b, (Op.equalIn 9999 3 (.int .i64 a) (.int .i64 b)).run Tryz.prog w = .ok (a == b) w := fun w a b => run_equalIn_int w 9998 3 .i64 .i64 a b u3
  have eO : ∀ w o p, (Op.equalIn 9999 26 (.agg (Opd.vals o)) (.agg (Opd.vals p))).run Tryz.prog w = .ok (decide (o = p)) w := fun w o p => eqlO 9997 w o p
  simp only [Program.fieldsOf, Tryz.underlying28]
  simp only [Op.eqFields, Sem.run_bind, Sem.run_ite, q1, q2, q3, q4, q5, partA, partB, partC, e0, eO, Result.andThen_ok, Sem.run_pure]
  by_cases h_op : x.op = y.op
  case neg =>
    have hn : ¬ x = y := fun e => h_op (by rw [e])
    simp [h_op, hn]
  by_cases h_sub : x.sub = y.sub
  case neg =>
    have hn : ¬ x = y := fun e => h_sub (by rw [e])
    simp [h_op, h_sub, hn]
  by_cases h_size : x.size = y.size
  case neg =>
    have hn : ¬ x = y := fun e => h_size (by rw [e])
    simp [h_op, h_sub, h_size, hn]
  by_cases h_a : x.a = y.a
  case neg =>
    have hn : ¬ x = y := fun e => h_a (by rw [e])
    simp [h_op, h_sub, h_size, h_a, hn]
  by_cases h_b : x.b = y.b
  case neg =>
    have hn : ¬ x = y := fun e => h_b (by rw [e])
    simp [h_op, h_sub, h_size, h_a, h_b, hn]
  by_cases h_c : x.c = y.c
  case neg =>
    have hn : ¬ x = y := fun e => h_c (by rw [e])
    simp [h_op, h_sub, h_size, h_a, h_b, h_c, hn]
  by_cases h_rep : x.rep = y.rep
  case neg =>
    have hn : ¬ x = y := fun e => h_rep (by rw [e])
    simp [h_op, h_sub, h_size, h_a, h_b, h_c, h_rep, hn]
  by_cases h_len : x.len = y.len
  case neg =>
    have hn : ¬ x = y := fun e => h_len (by rw [e])
    simp [h_op, h_sub, h_size, h_a, h_b, h_c, h_rep, h_len, hn]
  have he : x = y := by
    obtain ⟨x0, x1, x2, x3, x4, x5, x6, x7⟩ := x
    obtain ⟨y0, y1, y2, y3, y4, y5, y6, y7⟩ := y
    simp_all
  simp [he]

end Go.Proofs.YtolnaodlghahlaaGreatDoor
