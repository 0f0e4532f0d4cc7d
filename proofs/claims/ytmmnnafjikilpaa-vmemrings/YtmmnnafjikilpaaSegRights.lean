/- rightsOf: what it answers, of any descriptor. -/
import Derived.Test.YtmmnnafjikilpaaSegIns
import Derived.Test.YtmmnnafjikilpaaSegMath
namespace Go.Proofs.Ytmmnnafjikilpaa.Sg
open Go.ChangeShapes Go.WideShapes Go.ChangeAt Go.RowKit
set_option linter.unusedVariables false

/-- A descriptor. -/
def dv (b l t : Int) (s : Bool) (d : Int) (p g : Bool) : Value := .agg #[.int .u32 b, .int .u32 l, .int .i64 t, .bool s, .int .i64 d, .bool p, .bool g]

def enR (i : Nat) : Int × Nat := ([(0, 0), (0, 0), (0, 0), (0, 0), (0, 0), (0, 0), (2, 1), (0, 0), (0, 0), (4, 2), (0, 0), (0, 0), (6, 3), (0, 0), (0, 0), (8, 4), (0, 0), (0, 0), (10, 5), (0, 0), (0, 0), (12, 6), (0, 0), (0, 0), (14, 7)] : List (Int × Nat)).getD i (0, 0)
def ixR : List Nat := [3, 6, 9, 12, 15, 18, 21, 24]
def LR : List (Int × Nat) := [(0, 0), (2, 1), (4, 2), (6, 3), (8, 4), (10, 5), (12, 6), (14, 7)]

theorem look_R (s : Bool) (t : Int) : num (if s then none else look LR (t - t % 2)) = kindN s t := by
  cases s with
  | true => simp [kindN, num]
  | false =>
    simp only [Bool.false_eq_true, if_false, kindN]
    by_cases h : 0 ≤ t ∧ t < 16
    · rw [if_pos ⟨trivial, h⟩]
      obtain ⟨n, rfl⟩ := Int.eq_ofNat_of_zero_le h.1
      have : ∀ n : Fin 16, num (look LR (((n : Nat) : Int) - ((n : Nat) : Int) % 2)) = (((n : Nat) : Int) / 2).toNat := by decide +kernel
      exact this ⟨n, by omega⟩
    · rw [if_neg (fun x => h x.2)]
      have ne : ∀ k : Int, 0 ≤ k → k ≤ 14 → k % 2 = 0 → ¬ t - t % 2 = k := fun k h0 h1 h2 => by omega
      simp [LR, look, num, ne 0 (by decide) (by decide) (by decide), ne 2 (by decide) (by decide) (by decide), ne 4 (by decide) (by decide) (by decide), ne 6 (by decide) (by decide) (by decide), ne 8 (by decide) (by decide) (by decide), ne 10 (by decide) (by decide) (by decide), ne 12 (by decide) (by decide) (by decide), ne 14 (by decide) (by decide) (by decide)]

theorem rv_R (s : Bool) (t : Int) : rv (kindN s t) = .agg #[.bool (isC s t), .bool (rF s t), .bool (rR s t), .bool (rW s t), .bool (rD s t)] := by
  unfold rF rR rW rD isC isD two four kindN
  by_cases h : s = false ∧ 0 ≤ t ∧ t < 16
  · obtain ⟨rfl, h0, h1⟩ := h
    rw [if_pos ⟨rfl, h0, h1⟩]
    have : t = 0 ∨ t = 1 ∨ t = 2 ∨ t = 3 ∨ t = 4 ∨ t = 5 ∨ t = 6 ∨ t = 7 ∨ t = 8 ∨ t = 9 ∨ t = 10 ∨ t = 11 ∨ t = 12 ∨ t = 13 ∨ t = 14 ∨ t = 15 := by omega
    rcases this with rfl | rfl | rfl | rfl | rfl | rfl | rfl | rfl | rfl | rfl | rfl | rfl | rfl | rfl | rfl | rfl <;> simp [rv]
  · rw [if_neg h]
    cases s with
    | true => simp [rv]
    | false =>
      have h0 : ¬ (0 ≤ t ∧ t < 16) := fun x => h ⟨rfl, x⟩
      have e1 : (decide (0 ≤ t) && decide (t < 8)) = false := by simp; omega
      have e2 : (decide (8 ≤ t) && decide (t < 16)) = false := by simp; omega
      simp [rv, e1, e2]

/-- The cells of the descriptor's box that are read. -/
def boxS (B : Nat) (s : Bool) (t : Int) (w : World) : Prop := w.cell? ⟨B, 3, none⟩ = some (.bool s) ∧ w.cell? ⟨B, 2, none⟩ = some (.int .i64 t)

theorem step_look {ops : Array Oper} {Q : Exit → Act → World → Prop} {i : Nat} {a : Act} {w : World} {o : Oper} {K : Act → World → Prop} {m k : Operand} {mv kx v : Value} {T : TypeId} (ho : ops[i]? = some o) (hg : o.guard = none) (hop : o.op = Op.lookup T m k false)
    (hm : a.eval m = mv) (hk : a.eval k = kx) (hrun : (Instr.lookup T mv kx false).run Try.prog w = .ok v w) (hK : K (a.put o.dst v) w) : wpOp Try.prog ops Q i K a w := by
  refine wpOp_step ho fun K' hK' => ?_
  have hw : Region.wanted o (yielded ops a.tmps) = true := by simp [Region.wanted, hg]
  rw [if_pos hw]
  unfold Oper.wp
  simp [execOp, hop, hm, hk, hrun, Result.andThen, Oper.upon]
  exact hK' _ _ hK

theorem step_store {ops : Array Oper} {Q : Exit → Act → World → Prop} {i : Nat} {a : Act} {w w' : World} {o : Oper} {K : Act → World → Prop} {m k : Operand} {mv kx : Value} {T : TypeId} (ho : ops[i]? = some o) (hg : o.guard = none) (hd : o.dst = none) (hop : o.op = Op.store T m k)
    (hm : a.eval m = mv) (hk : a.eval k = kx) (hrun : (Instr.storeAt T mv kx).run Try.prog w = .ok () w') (hK : K a w') : wpOp Try.prog ops Q i K a w := by
  refine wpOp_step ho fun K' hK' => ?_
  have hw : Region.wanted o (yielded ops a.tmps) = true := by simp [Region.wanted, hg]
  rw [if_pos hw]
  unfold Oper.wp
  simp [execOp, hop, hm, hk, hrun, Result.andThen, Oper.upon]
  have hp : a.put o.dst undef = a := by rw [hd]; rfl
  rw [hp]
  exact hK' _ _ hK

theorem st5 (w : World) (A M : Obj) (c1 c2 c3 c4 c5 : Bool) : (Instr.storeAt 132 (.pointer (some ⟨w.heap.size + 1, 0, none⟩)) (.agg #[.bool c1, .bool c2, .bool c3, .bool c4, .bool c5])).run Try.prog (((w.alloc A).alloc (.cells #[.bool false, .bool false, .bool false, .bool false, .bool false] 132)).alloc M).drew =
    .ok () (((w.alloc A).alloc (.cells #[.bool c1, .bool c2, .bool c3, .bool c4, .bool c5] 132)).alloc M).drew := by
  go_simp

def ffR : Array Bool := #[true, true, true, true, true, true, true, true, true, true, true, true, true, true, true, true, true, true, true, true, true, true, true, true, true, false, true, true, true, true, true, true, false, false]

set_option maxHeartbeats 2000000 in
theorem rights_any (b l t : Int) (s : Bool) (d : Int) (p g : Bool) (w : World) (t0 : -9223372036854775808 ≤ t) (t1 : t < 9223372036854775808) :
    Calls Try.prog 66 #[dv b l t s d p g] w fun e w' => e = .returned (.agg #[.bool (isC s t), .bool (rF s t), .bool (rR s t), .bool (rW s t), .bool (rD s t)]) ∧ Grown w w' := by
  have ht := type_even t t0 t1
  unfold dv
  go_enter Try.func66, Try.ntmps66
  go_wp2
  generalize hW : (w.alloc (.cells #[.int .u32 b, .int .u32 l, .int .i64 t, .bool s, .int .i64 d, .bool p, .bool g] 31)).alloc (.cells #[.bool false, .bool false, .bool false, .bool false, .bool false] 132) = W
  have hz : W.heap.size = w.heap.size + 2 := by rw [← hW]; simp
  have hS0 : boxS w.heap.size s t W.drew := by rw [← hW]; constructor <;> simp [go_sem]
  have hSm : ∀ L, boxS w.heap.size s t (md W L) := fun L => by
    unfold md mp
    rw [← hW]
    constructor <;> simp [go_sem]
  refine wp_region_held (S := boxS w.heap.size s t) (by kernel_rfl) ?_
  refine wpAnyH_take (i := 1) (v := .agg #[.bool false, .int .i64 0]) rfl (by kernel_rfl) (by kernel_rfl) (by kernel_rfl) (fun _ _ _ h => h) (Or.inl ⟨by rfl, by intro w _; go_simp⟩) hS0 ?_
  refine wpAnyH_take (i := 2) (v := .agg #[.bool false, .bool false, .bool true, .bool false, .bool false]) rfl (by kernel_rfl) (by kernel_rfl) (by kernel_rfl) (fun _ _ _ h => h) (Or.inl ⟨by rfl, by intro w _; go_simp⟩) hS0 ?_
  refine wpAnyH_take (i := 4) (v := .agg #[.bool false, .int .i64 2]) rfl (by kernel_rfl) (by kernel_rfl) (by kernel_rfl) (fun _ _ _ h => h) (Or.inl ⟨by rfl, by intro w _; go_simp⟩) hS0 ?_
  refine wpAnyH_take (i := 5) (v := .agg #[.bool false, .bool false, .bool true, .bool true, .bool false]) rfl (by kernel_rfl) (by kernel_rfl) (by kernel_rfl) (fun _ _ _ h => h) (Or.inl ⟨by rfl, by intro w _; go_simp⟩) hS0 ?_
  refine wpAnyH_take (i := 7) (v := .agg #[.bool false, .int .i64 4]) rfl (by kernel_rfl) (by kernel_rfl) (by kernel_rfl) (fun _ _ _ h => h) (Or.inl ⟨by rfl, by intro w _; go_simp⟩) hS0 ?_
  refine wpAnyH_take (i := 8) (v := .agg #[.bool false, .bool false, .bool true, .bool false, .bool true]) rfl (by kernel_rfl) (by kernel_rfl) (by kernel_rfl) (fun _ _ _ h => h) (Or.inl ⟨by rfl, by intro w _; go_simp⟩) hS0 ?_
  refine wpAnyH_take (i := 10) (v := .agg #[.bool false, .int .i64 6]) rfl (by kernel_rfl) (by kernel_rfl) (by kernel_rfl) (fun _ _ _ h => h) (Or.inl ⟨by rfl, by intro w _; go_simp⟩) hS0 ?_
  refine wpAnyH_take (i := 11) (v := .agg #[.bool false, .bool false, .bool true, .bool true, .bool true]) rfl (by kernel_rfl) (by kernel_rfl) (by kernel_rfl) (fun _ _ _ h => h) (Or.inl ⟨by rfl, by intro w _; go_simp⟩) hS0 ?_
  refine wpAnyH_take (i := 13) (v := .agg #[.bool false, .int .i64 8]) rfl (by kernel_rfl) (by kernel_rfl) (by kernel_rfl) (fun _ _ _ h => h) (Or.inl ⟨by rfl, by intro w _; go_simp⟩) hS0 ?_
  refine wpAnyH_take (i := 14) (v := .agg #[.bool true, .bool false, .bool false, .bool false, .bool false]) rfl (by kernel_rfl) (by kernel_rfl) (by kernel_rfl) (fun _ _ _ h => h) (Or.inl ⟨by rfl, by intro w _; go_simp⟩) hS0 ?_
  refine wpAnyH_take (i := 16) (v := .agg #[.bool false, .int .i64 10]) rfl (by kernel_rfl) (by kernel_rfl) (by kernel_rfl) (fun _ _ _ h => h) (Or.inl ⟨by rfl, by intro w _; go_simp⟩) hS0 ?_
  refine wpAnyH_take (i := 17) (v := .agg #[.bool true, .bool false, .bool true, .bool false, .bool false]) rfl (by kernel_rfl) (by kernel_rfl) (by kernel_rfl) (fun _ _ _ h => h) (Or.inl ⟨by rfl, by intro w _; go_simp⟩) hS0 ?_
  refine wpAnyH_take (i := 19) (v := .agg #[.bool false, .int .i64 12]) rfl (by kernel_rfl) (by kernel_rfl) (by kernel_rfl) (fun _ _ _ h => h) (Or.inl ⟨by rfl, by intro w _; go_simp⟩) hS0 ?_
  refine wpAnyH_take (i := 20) (v := .agg #[.bool true, .bool true, .bool false, .bool false, .bool false]) rfl (by kernel_rfl) (by kernel_rfl) (by kernel_rfl) (fun _ _ _ h => h) (Or.inl ⟨by rfl, by intro w _; go_simp⟩) hS0 ?_
  refine wpAnyH_take (i := 22) (v := .agg #[.bool false, .int .i64 14]) rfl (by kernel_rfl) (by kernel_rfl) (by kernel_rfl) (fun _ _ _ h => h) (Or.inl ⟨by rfl, by intro w _; go_simp⟩) hS0 ?_
  refine wpAnyH_take (i := 23) (v := .agg #[.bool true, .bool true, .bool true, .bool false, .bool false]) rfl (by kernel_rfl) (by kernel_rfl) (by kernel_rfl) (fun _ _ _ h => h) (Or.inl ⟨by rfl, by intro w _; go_simp⟩) hS0 ?_
  refine wpAnyH_take (i := 26) (v := .pointer (some ⟨w.heap.size, 3, none⟩)) rfl (by kernel_rfl) (by kernel_rfl) (by kernel_rfl) (fun _ _ _ h => h) (Or.inl ⟨by rfl, by intro w _; go_simp⟩) hS0 ?_
  refine wpAnyH_take (i := 27) (v := .bool s) rfl (by kernel_rfl) (by kernel_rfl) (by kernel_rfl) (fun _ _ _ h => h) (Or.inl ⟨by rfl, by intro w hS; have h1 := hS.1; go_simp⟩) hS0 ?_
  refine wpAnyH_take (i := 28) (v := .pointer (some ⟨w.heap.size, 2, none⟩)) rfl (by kernel_rfl) (by kernel_rfl) (by kernel_rfl) (fun _ _ _ h => h) (Or.inl ⟨by rfl, by intro w _; go_simp⟩) hS0 ?_
  refine wpAnyH_take (i := 29) (v := .int .i64 t) rfl (by kernel_rfl) (by kernel_rfl) (by kernel_rfl) (fun _ _ _ h => h) (Or.inl ⟨by rfl, by intro w hS; have h1 := hS.2; go_simp⟩) hS0 ?_
  refine wpAnyH_take (i := 30) (v := .int .i64 (t - t % 2)) rfl (by kernel_rfl) (by kernel_rfl) (by kernel_rfl) (fun _ _ _ h => h) (Or.inl ⟨by rfl, by intro w _; go_simp⟩) hS0 ?_
  refine wpAnyH_take (i := 31) (v := .agg #[.bool s, .int .i64 (t - t % 2)]) rfl (by kernel_rfl) (by kernel_rfl) (by kernel_rfl) (fun _ _ _ h => h) (Or.inl ⟨by rfl, by intro w _; go_simp⟩) hS0 ?_
  refine wpAnyH_all (rs := [0]) (by kernel_rfl) (by simp) ?_
  intro i hi
  rw [List.mem_singleton] at hi
  subst hi
  refine step_make (w := W) rfl rfl rfl rfl ⟨hSm [], ?_⟩
  refine ins_all (P := Try.prog) (md' := .any) _ W hSm enR ixR ffR _ (by kernel_rfl) rfl (by decide) (by decide) (by kernel_rfl) (by kernel_rfl) ?_ 3 _ rfl ?_
  · intro i hi L K hL hK
    simp [ixR] at hi
    rcases hi with rfl | rfl | rfl | rfl | rfl | rfl | rfl | rfl
    all_goals exact step_ins rfl rfl rfl rfl (by kernel_rfl) (by kernel_rfl) (by kernel_rfl) hL hK
  · intro L hL hLn
    have hlk : num (if s then none else look L (t - t % 2)) = kindN s t := by
      rw [look_same (L' := LR) hL hLn (by decide)]
      exact look_R s t
    have hv := look_md W L s (t - t % 2)
    rw [hlk, rv_R] at hv
    unfold kv at hv
    refine wpAnyH_take (i := 25) (v := .map (some W.heap.size)) rfl (by kernel_rfl) (by kernel_rfl) (by kernel_rfl) (fun _ _ _ h => h) (Or.inl ⟨by rfl, by intro w _; go_simp⟩) (hSm L) ?_
    refine wpAnyH_all (rs := [32]) (by kernel_rfl) (by simp) ?_
    intro i hi
    rw [List.mem_singleton] at hi
    subst hi
    refine step_look rfl rfl rfl (by kernel_rfl) (by kernel_rfl) hv ⟨hSm L, ?_⟩
    refine wpAnyH_all (rs := [33]) (by kernel_rfl) (by simp) ?_
    intro i hi
    rw [List.mem_singleton] at hi
    subst hi
    unfold md mp
    have hgM : ∀ {x : World}, Grown w x → Grown w (x.alloc (Obj.map (ents 0 L).toArray L.length)) := fun h => Grown.allocMap h _ _
    generalize (Obj.map (ents 0 L).toArray L.length) = M at hgM
    clear hSm hS0
    have hst : (Instr.storeAt 132 (.pointer (some ⟨w.heap.size + 1, 0, none⟩)) (.agg #[.bool (isC s t), .bool (rF s t), .bool (rR s t), .bool (rW s t), .bool (rD s t)])).run Try.prog (W.alloc M).drew = .ok () (((w.alloc (.cells #[.int .u32 b, .int .u32 l, .int .i64 t, .bool s, .int .i64 d, .bool p, .bool g] 31)).alloc (.cells #[.bool (isC s t), .bool (rF s t), .bool (rR s t), .bool (rW s t), .bool (rD s t)] 132)).alloc M).drew := by
      rw [← hW]
      exact st5 w _ M (isC s t) (rF s t) (rR s t) (rW s t) (rD s t)
    refine step_store rfl rfl rfl rfl (by kernel_rfl) (by kernel_rfl) hst ⟨?_, ?_⟩
    · constructor <;> simp [go_sem]
    clear hst hv
    refine wpAnyH_done (by kernel_rfl) ?_ _
    refine then_act (a := { tmps := #[.agg #[.int .u32 b, .int .u32 l, .int .i64 t, .bool s, .int .i64 d, .bool p, .bool g], .pointer (some ⟨w.heap.size, 0, none⟩), .pointer (some ⟨w.heap.size + 1, 0, none⟩), .map (some W.heap.size), .agg #[.bool false, .int .i64 0], .agg #[.bool false, .bool false, .bool true, .bool false, .bool false], .agg #[.bool false, .int .i64 2], .agg #[.bool false, .bool false, .bool true, .bool true, .bool false], .agg #[.bool false, .int .i64 4], .agg #[.bool false, .bool false, .bool true, .bool false, .bool true], .agg #[.bool false, .int .i64 6], .agg #[.bool false, .bool false, .bool true, .bool true, .bool true], .agg #[.bool false, .int .i64 8], .agg #[.bool true, .bool false, .bool false, .bool false, .bool false], .agg #[.bool false, .int .i64 10], .agg #[.bool true, .bool false, .bool true, .bool false, .bool false], .agg #[.bool false, .int .i64 12], .agg #[.bool true, .bool true, .bool false, .bool false, .bool false], .agg #[.bool false, .int .i64 14], .agg #[.bool true, .bool true, .bool true, .bool false, .bool false], .map (some W.heap.size), .pointer (some ⟨w.heap.size, 3, none⟩), .bool s, .pointer (some ⟨w.heap.size, 2, none⟩), .int .i64 t, .int .i64 (t - t % 2), .agg #[.bool s, .int .i64 (t - t % 2)], .agg #[.bool (isC s t), .bool (rF s t), .bool (rR s t), .bool (rW s t), .bool (rD s t)]], defers := [] }) (by kernel_rfl) ?_
    have HM : Hid (∀ {x : World}, Grown w x → Grown w (x.alloc M)) := hgM
    clear hW hz hgM hL hLn hlk
    go_wp2
    exact bodyPost_ret (v := .agg #[.bool (isC s t), .bool (rF s t), .bool (rR s t), .bool (rW s t), .bool (rD s t)]) (by simp [results, Try.results66, go_sem]) rfl ⟨rfl, Grown.drew (HM.out (Grown.alloc (Grown.alloc (Grown.refl _) _ _) _ _))⟩
end Go.Proofs.Ytmmnnafjikilpaa.Sg
