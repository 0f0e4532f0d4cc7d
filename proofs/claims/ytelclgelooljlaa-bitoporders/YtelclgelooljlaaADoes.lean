/- The contract of alu.Do: for every input within its kinds it returns the result, the flags and the error that are named, and the world has at most new blocks. -/
import Derived.Test.YtelclgelooljlaaADo
namespace Go.Proofs.Ytelclgelooljlaa
open Go.ChangeShapes Go.WideShapes Go.ChangeAt Go.RowKit
set_option linter.unusedVariables false


set_option maxRecDepth 20000 in
set_option maxHeartbeats 1000000 in
theorem Do_work {s H M sp bt : Int} (hS : Sz s H M sp bt) (op a b f : Int) (w : World) (o0 : 0 ≤ op) (o1 : op ≤ 11) (a0 : 0 ≤ a) (a1 : a < 4294967296) (b0 : 0 ≤ b) (b1 : b < 4294967296) (f0 : 0 ≤ f) (f1 : f < 4294967296) :
    Calls Try.prog 20 #[.int .i64 op, .int .i64 s, .int .u32 a, .int .u32 b, .int .u32 f] w fun e w' =>
      e = .returned (.tuple #[.int .u32 (doR op M (a % M) (b % M) f), .int .u32 (byF H (workR op M (a % M) (b % M) (f % 2)) (layF op M H (a % M) (b % M) f)), .int .i64 0]) ∧ Grown w w' := by
  have hk := hS.ok
  have m0 : 0 < M := by have := hS.top; omega
  have hx := mod_bd m0 a
  have hy := mod_bd m0 b
  obtain ⟨x0, x1⟩ := hx
  obtain ⟨y0, y1⟩ := hy
  have c0 : 0 ≤ f % 2 := by omega
  have c1 : f % 2 ≤ 1 := by omega
  have n12 : (op == 12) = false := by simp; omega
  have hf1 : bits .and .u32 f 1 = f % 2 := by
    have h := Nat.and_two_pow_sub_one_eq_mod f.toNat 1
    have e : (1 : Int).toNat = 2 ^ 1 - 1 := by decide
    rw [u32_and f 1 f0 f1 (by decide) (by decide), e, h]
    omega
  have hwa : IntKind.u64.wrap a = a := by rw [wrap_u64']; omega
  have hwb : IntKind.u64.wrap b = b := by rw [wrap_u64']; omega
  have hc3 : ∀ o1 o3, (((w.alloc o1).alloc (.cells #[.int .u64 sp] 50)).alloc o3).cell? ⟨w.heap.size + 1, 0, none⟩ = some (.int .u64 sp) := fun o1 o3 => by
    rw [World.cell?_alloc_lt _ _ _ (by simp), World.cell?_alloc_at _ _ _ _ (by simp)]; rfl
  unfold layF
  have g1 : decide (op < 0) = false := by simp; omega
  have g2 : decide (12 < op) = false := by simp; omega
  have t7 : op = 7 ∨ op = 8 ∨ (op == 7) = false ∧ (op == 8) = false := by simp; omega
  rcases t7 with rfl | rfl | ⟨h7, h8⟩
  all_goals
    go_enter Try.func20, Try.ntmps20
    go_wp2_with (first
      | (go_at_call 35; refine (isSize_any _ _).mono ?_; rintro e w1 ⟨rfl, hw⟩; replace hw := hw.symm; subst hw)
      | (go_at_call 36; refine (widthOf_any hS _).mono ?_; rintro e w1 ⟨rfl, hw⟩; replace hw := hw.symm; subst hw))
    go_quiet ((go_at_call 40; exact Calls.quiet_of_same (cut_any hS _ _ _ (by omega) (by exact hc3 _ _))))
    go_wp2_with fail
    refine (work_any hS _ _ _ _ _ _ o0 o1 x0 x1 y0 y1 c0 c1 (by simp) (by exact hc3 _ _)).mono ?_
    rintro e w1 ⟨rfl, hg⟩
    have hA : w1.cell? ⟨w.heap.size + 1 + 1, 0, none⟩ = some (.int .u32 H) := by rw [Grown.cell hg (by simp)]; simp [go_sem]
    have hB : w1.cell? ⟨w.heap.size + 1 + 1, 1, none⟩ = some (.func (.func 40) #[] #[.pointer (some ⟨w.heap.size + 1, 0, none⟩)]) := by rw [Grown.cell hg (by simp)]; simp [go_sem]
    have hgw : Grown w w1 := Grown.trans (Grown.drewN (Grown.alloc (Grown.alloc (Grown.alloc (Grown.refl _) _ _) _ _) _ _) _) hg
    clear hg hc3
    go_wp2_with (first
      | (go_at_call 38; refine (namedBy_any _ _).mono ?_; rintro e w2 ⟨rfl, hw⟩; replace hw := hw.symm; subst hw)
      | (go_at_call 39; refine (byResult_any hS _ _ _ _ (workR_bd hS x0 x1 y0 y1 _ _).1 (workR_bd hS x0 x1 y0 y1 _ _).2 (lay_bd _ _ _ _ _ _ f0 f1).1 (lay_bd _ _ _ _ _ _ f0 f1).2).mono ?_; rintro e w2 ⟨rfl, hg2⟩))
    go_ret3
  · exact ⟨rfl, Grown.trans hgw hg2⟩
  · exact ⟨rfl, Grown.trans hgw hg2⟩
  · exact ⟨ret_three (by unfold doR; rw [if_neg (by simpa using n12), if_neg (by simpa using h7), if_neg (by simpa using h8)]) rfl rfl, Grown.trans hgw hg2⟩

theorem Do_not {s H M sp bt : Int} (hS : Sz s H M sp bt) (a b f : Int) (w : World) (a0 : 0 ≤ a) (a1 : a < 4294967296) (b0 : 0 ≤ b) (b1 : b < 4294967296) (f0 : 0 ≤ f) (f1 : f < 4294967296) :
    Calls Try.prog 20 #[.int .i64 12, .int .i64 s, .int .u32 a, .int .u32 b, .int .u32 f] w fun e w' =>
      e = .returned (.tuple #[.int .u32 (M - 1 - a % M), .int .u32 f, .int .i64 0]) ∧ Grown w w' := by
  have hk := hS.ok
  have m0 : 0 < M := by have := hS.top; omega
  obtain ⟨x0, x1⟩ := mod_bd m0 a
  have hwa : IntKind.u64.wrap a = a := by rw [wrap_u64']; omega
  have hwb : IntKind.u64.wrap b = b := by rw [wrap_u64']; omega
  have hm : IntKind.u32.max = 4294967295 := rfl
  have hu : IntKind.u32.signed = false := rfl
  have hc3 : ∀ o1 o3, (((w.alloc o1).alloc (.cells #[.int .u64 sp] 50)).alloc o3).cell? ⟨w.heap.size + 1, 0, none⟩ = some (.int .u64 sp) := fun o1 o3 => by
    rw [World.cell?_alloc_lt _ _ _ (by simp), World.cell?_alloc_at _ _ _ _ (by simp)]; rfl
  have hn0 : 0 ≤ IntKind.u64.wrap (bits .xor .u32 4294967295 (a % M)) := by rw [wrap_u64']; omega
  have HN : Hid (IntKind.u64.wrap (bits .xor .u32 4294967295 (a % M)) % M = M - 1 - a % M) := not_cut hS x0 x1
  go_enter Try.func20, Try.ntmps20
  go_wp2_with (first
    | (go_at_call 35; refine (isSize_any _ _).mono ?_; rintro e w1 ⟨rfl, hw⟩; replace hw := hw.symm; subst hw)
    | (go_at_call 36; refine (widthOf_any hS _).mono ?_; rintro e w1 ⟨rfl, hw⟩; replace hw := hw.symm; subst hw))
  go_quiet ((go_at_call 40; exact Calls.quiet_of_same (cut_any hS _ _ _ (by omega) (by exact hc3 _ _))))
  go_wp2_with fail
  refine (cut_any hS _ _ _ hn0 (by exact hc3 _ _)).mono ?_
  rintro e w1 ⟨rfl, hw⟩
  replace hw := hw.symm
  subst hw
  go_wp2
  go_ret3
  exact ⟨ret_three HN.out rfl rfl, Grown.drewN (Grown.alloc (Grown.alloc (Grown.alloc (Grown.refl _) _ _) _ _) _ _) _⟩

theorem Do_size (op s a b f : Int) (w : World) (hk : okSize s = false) :
    Calls Try.prog 20 #[.int .i64 op, .int .i64 s, .int .u32 a, .int .u32 b, .int .u32 f] w fun e w' =>
      e = .returned (.tuple #[.int .u32 0, .int .u32 0, .int .i64 2]) ∧ Grown w w' := by
  go_enter Try.func20, Try.ntmps20
  go_wp2_with (go_at_call 35; refine (isSize_any _ _).mono ?_; rintro e w1 ⟨rfl, hw⟩; replace hw := hw.symm; subst hw)
  go_ret3
  exact ⟨rfl, Grown.refl _⟩

theorem Do_op (op s a b f : Int) (w : World) (hk : okSize s = true) (ho : op < 0 ∨ 12 < op) :
    Calls Try.prog 20 #[.int .i64 op, .int .i64 s, .int .u32 a, .int .u32 b, .int .u32 f] w fun e w' =>
      e = .returned (.tuple #[.int .u32 0, .int .u32 0, .int .i64 3]) ∧ Grown w w' := by
  rcases ho with ho | ho
  · have g1 : decide (op < 0) = true := by simpa using ho
    go_enter Try.func20, Try.ntmps20
    go_wp2_with (go_at_call 35; refine (isSize_any _ _).mono ?_; rintro e w1 ⟨rfl, hw⟩; replace hw := hw.symm; subst hw)
    go_ret3
    exact ⟨rfl, Grown.refl _⟩
  · have g1 : decide (op < 0) = false := by simp; omega
    have g2 : decide (12 < op) = true := by simpa using ho
    go_enter Try.func20, Try.ntmps20
    go_wp2_with (go_at_call 35; refine (isSize_any _ _).mono ?_; rintro e w1 ⟨rfl, hw⟩; replace hw := hw.symm; subst hw)
    go_ret3
    exact ⟨rfl, Grown.refl _⟩

theorem Do_ok {s H M sp bt : Int} (hS : Sz s H M sp bt) (op a b f : Int) (w : World) (o0 : 0 ≤ op) (o1 : op ≤ 12) (a0 : 0 ≤ a) (a1 : a < 4294967296) (b0 : 0 ≤ b) (b1 : b < 4294967296) (f0 : 0 ≤ f) (f1 : f < 4294967296) :
    Calls Try.prog 20 #[.int .i64 op, .int .i64 s, .int .u32 a, .int .u32 b, .int .u32 f] w fun e w' =>
      e = .returned (.tuple #[.int .u32 (doR op M (a % M) (b % M) f), .int .u32 (doF op M H (a % M) (b % M) f), .int .i64 0]) ∧ Grown w w' := by
  by_cases h : op = 12
  · subst h
    exact Do_not hS a b f w a0 a1 b0 b1 f0 f1
  · have e : doF op M H (a % M) (b % M) f = byF H (workR op M (a % M) (b % M) (f % 2)) (layF op M H (a % M) (b % M) f) := by unfold doF; rw [if_neg h]
    rw [e]
    exact Do_work hS op a b f w o0 (by omega) a0 a1 b0 b1 f0 f1
end Go.Proofs.Ytelclgelooljlaa
