/- The contracts of the document's value and Line. -/
import Derived.Test.YteodnlloilmoaaaRtBase
namespace Go.Proofs.Yteodnlloilmoaaa
open Go.ChangeShapes Go.WideShapes Go.ChangeAt Go.RowKit
set_option linter.unusedVariables false

theorem w64 (n : Int) : IntKind.u64.wrap n = n % 18446744073709551616 := by simp [IntKind.wrap, IntKind.bits, IntKind.signed]
theorem w64_in {n : Int} (h0 : 0 ≤ n) (h1 : n < 18446744073709551616) : IntKind.u64.wrap n = n := by rw [w64]; omega

theorem RC.steps_bd (r : RC) (now : Int) : 0 ≤ r.steps now ∧ r.steps now < 18446744073709551616 := by
  unfold RC.steps
  omega

set_option maxRecDepth 20000 in
set_option maxHeartbeats 1000000 in
theorem rval_st (w : World) (r : RC) (now : Int) (l0 : 1 ≤ r.len) (l1 : r.len ≤ 65536) (hs : r.st = true) : Calls Try.prog 23 #[.agg (chV r), .int .u64 now] w fun e w' => e = .returned (.int .u64 (r.len % 65536)) ∧ Kp noB w w' := by
  obtain ⟨T, nI, Z, fs, ps, V⟩ := vlC
  obtain ⟨vl, vs, va, vb⟩ := V.ops
  have v1 := V.agg
  have v2 := V.size
  have v3 := V.zero
  have v4 := V.under
  have v5 := V.map
  have v6 := V.zs
  have q0 : (chV r)[0]? = some (.int .i64 r.mode) := rfl
  have q2 : (chV r)[2]? = some (.int .u64 r.len) := rfl
  have q3 : (chV r)[3]? = some (.int .u64 r.began) := rfl
  have q4 : (chV r)[4]? = some (.bool r.st) := rfl
  have hN : IntKind.u64.wrap (now - r.began) = r.steps now := w64 _
  have bN := r.steps_bd now
  have hz : (r.len == 0) = false := by simp; omega
  have rb := rem_bd (n := r.steps now) l0
  have cs : ∀ r : RC, (chV r).size = nI := fun r => by rw [V.s]; rfl
  rw [hs] at q4
  obtain ⟨N, eN⟩ : ∃ N, N = r.steps now := ⟨_, rfl⟩
  rw [← eN] at hN bN rb
  try rw [← eN]
  obtain ⟨M, eM0⟩ : ∃ M, N % r.len = M := ⟨_, rfl⟩
  rw [eM0] at rb
  have eM : N.tmod r.len = M := by rw [Int.tmod_eq_emod_of_nonneg bN.1]; exact eM0
  have tL : r.len.tmod 65536 = r.len % 65536 := Int.tmod_eq_emod_of_nonneg (by omega)
  clear eN V
  go_enter Try.func23, Try.ntmps23
  simp only [vb]
  clear vl vs va vb
  go_wp2
  go_ret
  exact ⟨(ret_int (by first | rfl | simp only [tL])), Kp.alloc _ _ _⟩

set_option maxRecDepth 20000 in
set_option maxHeartbeats 1000000 in
theorem rval_0 (w : World) (r : RC) (now : Int) (l0 : 1 ≤ r.len) (l1 : r.len ≤ 65536) (hs : r.st = false) (hm : r.mode = 0) : Calls Try.prog 23 #[.agg (chV r), .int .u64 now] w fun e w' => e = .returned (.int .u64 ((r.len + 65536 - r.steps now % 65536) % 65536)) ∧ Kp noB w w' := by
  obtain ⟨T, nI, Z, fs, ps, V⟩ := vlC
  obtain ⟨vl, vs, va, vb⟩ := V.ops
  have v1 := V.agg
  have v2 := V.size
  have v3 := V.zero
  have v4 := V.under
  have v5 := V.map
  have v6 := V.zs
  have q0 : (chV r)[0]? = some (.int .i64 r.mode) := rfl
  have q2 : (chV r)[2]? = some (.int .u64 r.len) := rfl
  have q3 : (chV r)[3]? = some (.int .u64 r.began) := rfl
  have q4 : (chV r)[4]? = some (.bool r.st) := rfl
  have hN : IntKind.u64.wrap (now - r.began) = r.steps now := w64 _
  have bN := r.steps_bd now
  have hz : (r.len == 0) = false := by simp; omega
  have rb := rem_bd (n := r.steps now) l0
  have cs : ∀ r : RC, (chV r).size = nI := fun r => by rw [V.s]; rfl
  rw [hs] at q4
  rw [hm] at q0
  obtain ⟨N, eN⟩ : ∃ N, N = r.steps now := ⟨_, rfl⟩
  rw [← eN] at hN bN rb
  try rw [← eN]
  obtain ⟨M, eM0⟩ : ∃ M, N % r.len = M := ⟨_, rfl⟩
  rw [eM0] at rb
  have eM : N.tmod r.len = M := by rw [Int.tmod_eq_emod_of_nonneg bN.1]; exact eM0
  have tL : r.len.tmod 65536 = r.len % 65536 := Int.tmod_eq_emod_of_nonneg (by omega)
  obtain ⟨K, eK0⟩ : ∃ K, N % 65536 = K := ⟨_, rfl⟩
  have bK : 0 ≤ K ∧ K < 65536 := by omega
  rw [eK0]
  have eK : N.tmod 65536 = K := by rw [Int.tmod_eq_emod_of_nonneg bN.1]; exact eK0
  have a2 : IntKind.u64.wrap (r.len + 65536 - K) = r.len + 65536 - K := w64_in (by omega) (by omega)
  have t2 : (r.len + 65536 - K).tmod 65536 = (r.len + 65536 - K) % 65536 := Int.tmod_eq_emod_of_nonneg (by omega)
  clear bK bN rb eM eM0 eK0
  clear eN V
  go_enter Try.func23, Try.ntmps23
  simp only [vb]
  clear vl vs va vb
  go_wp2
  go_ret
  exact ⟨(ret_int (by first | rfl | simp only [hN, eK, a2, t2])), Kp.alloc _ _ _⟩

set_option maxRecDepth 20000 in
set_option maxHeartbeats 1000000 in
theorem rval_2 (w : World) (r : RC) (now : Int) (l0 : 1 ≤ r.len) (l1 : r.len ≤ 65536) (hs : r.st = false) (hm : r.mode = 2) : Calls Try.prog 23 #[.agg (chV r), .int .u64 now] w fun e w' => e = .returned (.int .u64 ((r.len - r.steps now % r.len) % 65536)) ∧ Kp noB w w' := by
  obtain ⟨T, nI, Z, fs, ps, V⟩ := vlC
  obtain ⟨vl, vs, va, vb⟩ := V.ops
  have v1 := V.agg
  have v2 := V.size
  have v3 := V.zero
  have v4 := V.under
  have v5 := V.map
  have v6 := V.zs
  have q0 : (chV r)[0]? = some (.int .i64 r.mode) := rfl
  have q2 : (chV r)[2]? = some (.int .u64 r.len) := rfl
  have q3 : (chV r)[3]? = some (.int .u64 r.began) := rfl
  have q4 : (chV r)[4]? = some (.bool r.st) := rfl
  have hN : IntKind.u64.wrap (now - r.began) = r.steps now := w64 _
  have bN := r.steps_bd now
  have hz : (r.len == 0) = false := by simp; omega
  have rb := rem_bd (n := r.steps now) l0
  have cs : ∀ r : RC, (chV r).size = nI := fun r => by rw [V.s]; rfl
  rw [hs] at q4
  rw [hm] at q0
  obtain ⟨N, eN⟩ : ∃ N, N = r.steps now := ⟨_, rfl⟩
  rw [← eN] at hN bN rb
  try rw [← eN]
  obtain ⟨M, eM0⟩ : ∃ M, N % r.len = M := ⟨_, rfl⟩
  rw [eM0] at rb
  have eM : N.tmod r.len = M := by rw [Int.tmod_eq_emod_of_nonneg bN.1]; exact eM0
  have tL : r.len.tmod 65536 = r.len % 65536 := Int.tmod_eq_emod_of_nonneg (by omega)
  rw [eM0]
  have a2 : IntKind.u64.wrap (r.len - M) = r.len - M := w64_in (by omega) (by omega)
  have t2 : (r.len - M).tmod 65536 = (r.len - M) % 65536 := Int.tmod_eq_emod_of_nonneg (by omega)
  clear eM0
  clear eN V
  go_enter Try.func23, Try.ntmps23
  simp only [vb]
  clear vl vs va vb
  go_wp2
  go_region
  all_goals
    go_wp2
    go_ret
    exact ⟨(ret_int (by first | rfl | simp only [hN, eM, a2, t2])), (Kp.alloc noB w _).drew⟩

set_option maxRecDepth 20000 in
set_option maxHeartbeats 1000000 in
theorem rval_3 (w : World) (r : RC) (now : Int) (l0 : 1 ≤ r.len) (l1 : r.len ≤ 65536) (hs : r.st = false) (hm : r.mode = 3) : Calls Try.prog 23 #[.agg (chV r), .int .u64 now] w fun e w' => e = .returned (.int .u64 ((r.len - r.steps now % r.len) % 65536)) ∧ Kp noB w w' := by
  obtain ⟨T, nI, Z, fs, ps, V⟩ := vlC
  obtain ⟨vl, vs, va, vb⟩ := V.ops
  have v1 := V.agg
  have v2 := V.size
  have v3 := V.zero
  have v4 := V.under
  have v5 := V.map
  have v6 := V.zs
  have q0 : (chV r)[0]? = some (.int .i64 r.mode) := rfl
  have q2 : (chV r)[2]? = some (.int .u64 r.len) := rfl
  have q3 : (chV r)[3]? = some (.int .u64 r.began) := rfl
  have q4 : (chV r)[4]? = some (.bool r.st) := rfl
  have hN : IntKind.u64.wrap (now - r.began) = r.steps now := w64 _
  have bN := r.steps_bd now
  have hz : (r.len == 0) = false := by simp; omega
  have rb := rem_bd (n := r.steps now) l0
  have cs : ∀ r : RC, (chV r).size = nI := fun r => by rw [V.s]; rfl
  rw [hs] at q4
  rw [hm] at q0
  obtain ⟨N, eN⟩ : ∃ N, N = r.steps now := ⟨_, rfl⟩
  rw [← eN] at hN bN rb
  try rw [← eN]
  obtain ⟨M, eM0⟩ : ∃ M, N % r.len = M := ⟨_, rfl⟩
  rw [eM0] at rb
  have eM : N.tmod r.len = M := by rw [Int.tmod_eq_emod_of_nonneg bN.1]; exact eM0
  have tL : r.len.tmod 65536 = r.len % 65536 := Int.tmod_eq_emod_of_nonneg (by omega)
  rw [eM0]
  have a2 : IntKind.u64.wrap (r.len - M) = r.len - M := w64_in (by omega) (by omega)
  have t2 : (r.len - M).tmod 65536 = (r.len - M) % 65536 := Int.tmod_eq_emod_of_nonneg (by omega)
  clear eM0
  clear eN V
  go_enter Try.func23, Try.ntmps23
  simp only [vb]
  clear vl vs va vb
  go_wp2
  go_region
  all_goals
    go_wp2
    go_ret
    exact ⟨(ret_int (by first | rfl | simp only [hN, eM, a2, t2])), (Kp.alloc noB w _).drew⟩

set_option maxRecDepth 20000 in
set_option maxHeartbeats 1000000 in
theorem rval_no (w : World) (r : RC) (now : Int) (l0 : 1 ≤ r.len) (l1 : r.len ≤ 65536) (hs : r.st = false) (hm : ¬ r.mode = 0 ∧ ¬ r.mode = 2 ∧ ¬ r.mode = 3) : Calls Try.prog 23 #[.agg (chV r), .int .u64 now] w fun e w' => e = .returned (.int .u64 (r.len % 65536)) ∧ Kp noB w w' := by
  obtain ⟨T, nI, Z, fs, ps, V⟩ := vlC
  obtain ⟨vl, vs, va, vb⟩ := V.ops
  have v1 := V.agg
  have v2 := V.size
  have v3 := V.zero
  have v4 := V.under
  have v5 := V.map
  have v6 := V.zs
  have q0 : (chV r)[0]? = some (.int .i64 r.mode) := rfl
  have q2 : (chV r)[2]? = some (.int .u64 r.len) := rfl
  have q3 : (chV r)[3]? = some (.int .u64 r.began) := rfl
  have q4 : (chV r)[4]? = some (.bool r.st) := rfl
  have hN : IntKind.u64.wrap (now - r.began) = r.steps now := w64 _
  have bN := r.steps_bd now
  have hz : (r.len == 0) = false := by simp; omega
  have rb := rem_bd (n := r.steps now) l0
  have cs : ∀ r : RC, (chV r).size = nI := fun r => by rw [V.s]; rfl
  rw [hs] at q4
  have m0 : (r.mode == 0) = false := by simp [hm.1]
  have m2 : (r.mode == 2) = false := by simp [hm.2.1]
  have m3 : (r.mode == 3) = false := by simp [hm.2.2]
  clear hm
  obtain ⟨N, eN⟩ : ∃ N, N = r.steps now := ⟨_, rfl⟩
  rw [← eN] at hN bN rb
  try rw [← eN]
  obtain ⟨M, eM0⟩ : ∃ M, N % r.len = M := ⟨_, rfl⟩
  rw [eM0] at rb
  have eM : N.tmod r.len = M := by rw [Int.tmod_eq_emod_of_nonneg bN.1]; exact eM0
  have tL : r.len.tmod 65536 = r.len % 65536 := Int.tmod_eq_emod_of_nonneg (by omega)
  clear eN V
  go_enter Try.func23, Try.ntmps23
  simp only [vb]
  clear vl vs va vb
  go_wp2
  go_ret
  exact ⟨(ret_int (by first | rfl | simp only [tL])), Kp.alloc _ _ _⟩

theorem rval_ok (w : World) (r : RC) (now : Int) (l0 : 1 ≤ r.len) (l1 : r.len ≤ 65536) : Calls Try.prog 23 #[.agg (chV r), .int .u64 now] w fun e w' => e = .returned (.int .u64 (r.val now)) ∧ Kp noB w w' := by
  unfold RC.val
  cases hs : r.st
  · simp only [Bool.false_eq_true, if_false]
    by_cases h0 : r.mode = 0
    · rw [if_pos h0]; exact rval_0 w r now l0 l1 hs h0
    · rw [if_neg h0]
      by_cases h2 : r.mode = 2
      · rw [if_pos h2]; exact rval_2 w r now l0 l1 hs h2
      · rw [if_neg h2]
        by_cases h3 : r.mode = 3
        · rw [if_pos h3]; exact rval_3 w r now l0 l1 hs h3
        · rw [if_neg h3]; exact rval_no w r now l0 l1 hs ⟨h0, h2, h3⟩
  · simp only [if_true]
    exact rval_st w r now l0 l1 hs

set_option maxRecDepth 20000 in
set_option maxHeartbeats 1000000 in
theorem rlin_st (w : World) (R : Nat) (g : Nat → RC) (r : RC) (h : RAt w R g) (hr : g 0 = r) (now : Int) (l0 : 1 ≤ r.len) (l1 : r.len ≤ 65536) (hs : r.st = true) : Calls Try.prog 16 #[.pointer (some ⟨R, 0, none⟩), .int .u64 now] w fun e w' => e = .returned (.bool (r.mode != 0)) ∧ Kp noB w w' := by
  obtain ⟨T, nI, Z, fs, ps, V⟩ := vlC
  obtain ⟨vl, vs, va, vb⟩ := V.ops
  have v1 := V.agg
  have v2 := V.size
  have v3 := V.zero
  have v4 := V.under
  have v5 := V.map
  have v6 := V.zs
  have q0 : (chV r)[0]? = some (.int .i64 r.mode) := rfl
  have q2 : (chV r)[2]? = some (.int .u64 r.len) := rfl
  have q3 : (chV r)[3]? = some (.int .u64 r.began) := rfl
  have q4 : (chV r)[4]? = some (.bool r.st) := rfl
  have hN : IntKind.u64.wrap (now - r.began) = r.steps now := w64 _
  have bN := r.steps_bd now
  have hz : (r.len == 0) = false := by simp; omega
  have rb := rem_bd (n := r.steps now) l0
  have cs : ∀ r : RC, (chV r).size = nI := fun r => by rw [V.s]; rfl
  have L := V.getR h 0 0 (by decide) (by decide)
  rw [hr] at L
  have vG := V.getNew
  have vN := V.new
  rw [hs] at q4
  obtain ⟨N, eN⟩ : ∃ N, N = r.steps now := ⟨_, rfl⟩
  rw [← eN] at hN bN rb
  try rw [← eN]
  obtain ⟨M, eM0⟩ : ∃ M, N % r.len = M := ⟨_, rfl⟩
  rw [eM0] at rb
  have eM : N.tmod r.len = M := by rw [Int.tmod_eq_emod_of_nonneg bN.1]; exact eM0
  have tL : r.len.tmod 65536 = r.len % 65536 := Int.tmod_eq_emod_of_nonneg (by omega)
  clear h
  clear eN V
  go_enter Try.func16, Try.ntmps16
  simp only [vl, vs, va]
  clear vl vs va vb
  go_wp2
  go_ret
  exact ⟨rfl, Kp.alloc _ _ _⟩

set_option maxRecDepth 20000 in
set_option maxHeartbeats 1000000 in
theorem rlin_0 (w : World) (R : Nat) (g : Nat → RC) (r : RC) (h : RAt w R g) (hr : g 0 = r) (now : Int) (l0 : 1 ≤ r.len) (l1 : r.len ≤ 65536) (hs : r.st = false) (hm : r.mode = 0) : Calls Try.prog 16 #[.pointer (some ⟨R, 0, none⟩), .int .u64 now] w fun e w' => e = .returned (.bool (decide (r.len ≤ r.steps now))) ∧ Kp noB w w' := by
  obtain ⟨T, nI, Z, fs, ps, V⟩ := vlC
  obtain ⟨vl, vs, va, vb⟩ := V.ops
  have v1 := V.agg
  have v2 := V.size
  have v3 := V.zero
  have v4 := V.under
  have v5 := V.map
  have v6 := V.zs
  have q0 : (chV r)[0]? = some (.int .i64 r.mode) := rfl
  have q2 : (chV r)[2]? = some (.int .u64 r.len) := rfl
  have q3 : (chV r)[3]? = some (.int .u64 r.began) := rfl
  have q4 : (chV r)[4]? = some (.bool r.st) := rfl
  have hN : IntKind.u64.wrap (now - r.began) = r.steps now := w64 _
  have bN := r.steps_bd now
  have hz : (r.len == 0) = false := by simp; omega
  have rb := rem_bd (n := r.steps now) l0
  have cs : ∀ r : RC, (chV r).size = nI := fun r => by rw [V.s]; rfl
  have L := V.getR h 0 0 (by decide) (by decide)
  rw [hr] at L
  have vG := V.getNew
  have vN := V.new
  rw [hs] at q4
  rw [hm] at q0
  obtain ⟨N, eN⟩ : ∃ N, N = r.steps now := ⟨_, rfl⟩
  rw [← eN] at hN bN rb
  try rw [← eN]
  obtain ⟨M, eM0⟩ : ∃ M, N % r.len = M := ⟨_, rfl⟩
  rw [eM0] at rb
  have eM : N.tmod r.len = M := by rw [Int.tmod_eq_emod_of_nonneg bN.1]; exact eM0
  have tL : r.len.tmod 65536 = r.len % 65536 := Int.tmod_eq_emod_of_nonneg (by omega)
  clear h
  clear eN V
  go_enter Try.func16, Try.ntmps16
  simp only [vl, vs, va]
  clear vl vs va vb
  go_wp2
  go_ret
  exact ⟨(ret_bool (by first | rfl | simp only [hN])), Kp.alloc _ _ _⟩

set_option maxRecDepth 20000 in
set_option maxHeartbeats 1000000 in
theorem rlin_2 (w : World) (R : Nat) (g : Nat → RC) (r : RC) (h : RAt w R g) (hr : g 0 = r) (now : Int) (l0 : 1 ≤ r.len) (l1 : r.len ≤ 65536) (hs : r.st = false) (hm : r.mode = 2) : Calls Try.prog 16 #[.pointer (some ⟨R, 0, none⟩), .int .u64 now] w fun e w' => e = .returned (.bool (r.steps now % r.len != r.len - 1)) ∧ Kp noB w w' := by
  obtain ⟨T, nI, Z, fs, ps, V⟩ := vlC
  obtain ⟨vl, vs, va, vb⟩ := V.ops
  have v1 := V.agg
  have v2 := V.size
  have v3 := V.zero
  have v4 := V.under
  have v5 := V.map
  have v6 := V.zs
  have q0 : (chV r)[0]? = some (.int .i64 r.mode) := rfl
  have q2 : (chV r)[2]? = some (.int .u64 r.len) := rfl
  have q3 : (chV r)[3]? = some (.int .u64 r.began) := rfl
  have q4 : (chV r)[4]? = some (.bool r.st) := rfl
  have hN : IntKind.u64.wrap (now - r.began) = r.steps now := w64 _
  have bN := r.steps_bd now
  have hz : (r.len == 0) = false := by simp; omega
  have rb := rem_bd (n := r.steps now) l0
  have cs : ∀ r : RC, (chV r).size = nI := fun r => by rw [V.s]; rfl
  have L := V.getR h 0 0 (by decide) (by decide)
  rw [hr] at L
  have vG := V.getNew
  have vN := V.new
  rw [hs] at q4
  rw [hm] at q0
  obtain ⟨N, eN⟩ : ∃ N, N = r.steps now := ⟨_, rfl⟩
  rw [← eN] at hN bN rb
  try rw [← eN]
  obtain ⟨M, eM0⟩ : ∃ M, N % r.len = M := ⟨_, rfl⟩
  rw [eM0] at rb
  have eM : N.tmod r.len = M := by rw [Int.tmod_eq_emod_of_nonneg bN.1]; exact eM0
  have tL : r.len.tmod 65536 = r.len % 65536 := Int.tmod_eq_emod_of_nonneg (by omega)
  rw [eM0]
  have a2 : IntKind.u64.wrap (r.len - 1) = r.len - 1 := w64_in (by omega) (by omega)
  clear eM0
  clear h
  clear eN V
  go_enter Try.func16, Try.ntmps16
  simp only [vl, vs, va]
  clear vl vs va vb
  go_wp2
  go_region
  all_goals
    go_wp2
    go_ret
    exact ⟨(ret_bool (by first | rfl | simp only [hN, eM, a2] | simp only [hN, eM, a2, t2])), (Kp.alloc noB w _).drew⟩

set_option maxRecDepth 20000 in
set_option maxHeartbeats 1000000 in
theorem rlin_3 (w : World) (R : Nat) (g : Nat → RC) (r : RC) (h : RAt w R g) (hr : g 0 = r) (now : Int) (l0 : 1 ≤ r.len) (l1 : r.len ≤ 65536) (hs : r.st = false) (hm : r.mode = 3) : Calls Try.prog 16 #[.pointer (some ⟨R, 0, none⟩), .int .u64 now] w fun e w' => e = .returned (.bool (decide (r.steps now % r.len < (r.len + 1) / 2))) ∧ Kp noB w w' := by
  obtain ⟨T, nI, Z, fs, ps, V⟩ := vlC
  obtain ⟨vl, vs, va, vb⟩ := V.ops
  have v1 := V.agg
  have v2 := V.size
  have v3 := V.zero
  have v4 := V.under
  have v5 := V.map
  have v6 := V.zs
  have q0 : (chV r)[0]? = some (.int .i64 r.mode) := rfl
  have q2 : (chV r)[2]? = some (.int .u64 r.len) := rfl
  have q3 : (chV r)[3]? = some (.int .u64 r.began) := rfl
  have q4 : (chV r)[4]? = some (.bool r.st) := rfl
  have hN : IntKind.u64.wrap (now - r.began) = r.steps now := w64 _
  have bN := r.steps_bd now
  have hz : (r.len == 0) = false := by simp; omega
  have rb := rem_bd (n := r.steps now) l0
  have cs : ∀ r : RC, (chV r).size = nI := fun r => by rw [V.s]; rfl
  have L := V.getR h 0 0 (by decide) (by decide)
  rw [hr] at L
  have vG := V.getNew
  have vN := V.new
  rw [hs] at q4
  rw [hm] at q0
  obtain ⟨N, eN⟩ : ∃ N, N = r.steps now := ⟨_, rfl⟩
  rw [← eN] at hN bN rb
  try rw [← eN]
  obtain ⟨M, eM0⟩ : ∃ M, N % r.len = M := ⟨_, rfl⟩
  rw [eM0] at rb
  have eM : N.tmod r.len = M := by rw [Int.tmod_eq_emod_of_nonneg bN.1]; exact eM0
  have tL : r.len.tmod 65536 = r.len % 65536 := Int.tmod_eq_emod_of_nonneg (by omega)
  rw [eM0]
  have a2 : IntKind.u64.wrap (r.len + 1) = r.len + 1 := w64_in (by omega) (by omega)
  have t2 : (r.len + 1).tdiv 2 = (r.len + 1) / 2 := Int.tdiv_eq_ediv_of_nonneg (by omega)
  clear eM0
  clear h
  clear eN V
  go_enter Try.func16, Try.ntmps16
  simp only [vl, vs, va]
  clear vl vs va vb
  go_wp2
  go_region
  all_goals
    go_wp2
    go_ret
    exact ⟨(ret_bool (by first | rfl | simp only [hN, eM, a2] | simp only [hN, eM, a2, t2])), (Kp.alloc noB w _).drew⟩

set_option maxRecDepth 20000 in
set_option maxHeartbeats 1000000 in
theorem rlin_no (w : World) (R : Nat) (g : Nat → RC) (r : RC) (h : RAt w R g) (hr : g 0 = r) (now : Int) (l0 : 1 ≤ r.len) (l1 : r.len ≤ 65536) (hs : r.st = false) (hm : ¬ r.mode = 0 ∧ ¬ r.mode = 2 ∧ ¬ r.mode = 3) : Calls Try.prog 16 #[.pointer (some ⟨R, 0, none⟩), .int .u64 now] w fun e w' => e = .returned (.bool true) ∧ Kp noB w w' := by
  obtain ⟨T, nI, Z, fs, ps, V⟩ := vlC
  obtain ⟨vl, vs, va, vb⟩ := V.ops
  have v1 := V.agg
  have v2 := V.size
  have v3 := V.zero
  have v4 := V.under
  have v5 := V.map
  have v6 := V.zs
  have q0 : (chV r)[0]? = some (.int .i64 r.mode) := rfl
  have q2 : (chV r)[2]? = some (.int .u64 r.len) := rfl
  have q3 : (chV r)[3]? = some (.int .u64 r.began) := rfl
  have q4 : (chV r)[4]? = some (.bool r.st) := rfl
  have hN : IntKind.u64.wrap (now - r.began) = r.steps now := w64 _
  have bN := r.steps_bd now
  have hz : (r.len == 0) = false := by simp; omega
  have rb := rem_bd (n := r.steps now) l0
  have cs : ∀ r : RC, (chV r).size = nI := fun r => by rw [V.s]; rfl
  have L := V.getR h 0 0 (by decide) (by decide)
  rw [hr] at L
  have vG := V.getNew
  have vN := V.new
  rw [hs] at q4
  have m0 : (r.mode == 0) = false := by simp [hm.1]
  have m2 : (r.mode == 2) = false := by simp [hm.2.1]
  have m3 : (r.mode == 3) = false := by simp [hm.2.2]
  clear hm
  obtain ⟨N, eN⟩ : ∃ N, N = r.steps now := ⟨_, rfl⟩
  rw [← eN] at hN bN rb
  try rw [← eN]
  obtain ⟨M, eM0⟩ : ∃ M, N % r.len = M := ⟨_, rfl⟩
  rw [eM0] at rb
  have eM : N.tmod r.len = M := by rw [Int.tmod_eq_emod_of_nonneg bN.1]; exact eM0
  have tL : r.len.tmod 65536 = r.len % 65536 := Int.tmod_eq_emod_of_nonneg (by omega)
  clear h
  clear eN V
  go_enter Try.func16, Try.ntmps16
  simp only [vl, vs, va]
  clear vl vs va vb
  go_wp2
  go_ret
  exact ⟨rfl, Kp.alloc _ _ _⟩

theorem rlin_ok (w : World) (R : Nat) (g : Nat → RC) (h : RAt w R g) (now : Int) (l0 : 1 ≤ (g 0).len) (l1 : (g 0).len ≤ 65536) : Calls Try.prog 16 #[.pointer (some ⟨R, 0, none⟩), .int .u64 now] w fun e w' => e = .returned (.bool ((g 0).line now)) ∧ Kp noB w w' := by
  unfold RC.line
  cases hs : (g 0).st
  · simp only [Bool.false_eq_true, if_false]
    by_cases h0 : (g 0).mode = 0
    · rw [if_pos h0]; exact rlin_0 w R g _ h rfl now l0 l1 hs h0
    · rw [if_neg h0]
      by_cases h2 : (g 0).mode = 2
      · rw [if_pos h2]; exact rlin_2 w R g _ h rfl now l0 l1 hs h2
      · rw [if_neg h2]
        by_cases h3 : (g 0).mode = 3
        · rw [if_pos h3]; exact rlin_3 w R g _ h rfl now l0 l1 hs h3
        · rw [if_neg h3]; exact rlin_no w R g _ h rfl now l0 l1 hs ⟨h0, h2, h3⟩
  · simp only [if_true]
    exact rlin_st w R g _ h rfl now l0 l1 hs
end Go.Proofs.Yteodnlloilmoaaa
