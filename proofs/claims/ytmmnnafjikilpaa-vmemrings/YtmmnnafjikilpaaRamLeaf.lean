/- Contracts of ram's small functions. -/
import Derived.Test.YtmmnnafjikilpaaRamBase
namespace Go.Proofs.Ytmmnnafjikilpaa
open Go.ChangeShapes Go.WideShapes Go.ChangeAt Go.RowKit Go.Maps
set_option linter.unusedVariables false

theorem granuleOf_any (w : World) (x : Int) (h0 : 0 ≤ x) (h1 : x < 4294967296) :
    Calls Try.prog 70 #[.int .u32 x] w fun e w' => e = .returned (.int .u32 (x - x % 64)) ∧ w' = w := by
  go_enter Try.func70, Try.ntmps70
  go_wp2
  go_ret
  refine ⟨ret_int ?_, rfl⟩
  omega

theorem isSize_any (w : World) (x : Int) (h0 : -9223372036854775808 ≤ x) (h1 : x ≤ 9223372036854775807) :
    Calls Try.prog 46 #[.int .i64 x] w fun e w' => e = .returned (.bool (decide (x = 1 ∨ x = 2 ∨ x = 4))) ∧ w' = w := by
  go_enter Try.func46, Try.ntmps46
  go_wp2 <;> go_ret <;> refine ⟨ret_bool ?_, rfl⟩ <;> first | (subst_vars; rfl) | (by_cases h4 : x = 4 <;> simp_all)

theorem lengthInPage_any (w : World) (x n : Int) (h0 : 0 ≤ x) (h1 : x < 4294967296) (n0 : 0 ≤ n) (n1 : n < 9223372036854775808) :
    Calls Try.prog 58 #[.int .u32 x, .int .i64 n] w fun e w' => e = .returned (.int .i64 (min n (4096 - x % 4096))) ∧ w' = w := by
  go_enter Try.func58, Try.ntmps58
  go_wp2 <;> go_ret <;> refine ⟨ret_int ?_, rfl⟩ <;> omega

theorem tbp20 (i : Nat) : tb 1048576 i = decide (i = 20) := by
  unfold tb
  show (1048576 : Nat).testBit i = _
  rw [show (1048576 : Nat) = 2 ^ 20 by decide, Nat.testBit_two_pow]
  by_cases h : i = 20
  · simp [h]
  · have : ¬ 20 = i := fun e => h e.symm
    simp [h, this]

theorem not20 {f : Int} (f0 : 0 ≤ f) (f1 : f < 4294967296) : bits .andNot .u32 f 1048576 = if f / 1048576 % 2 = 1 then f - 1048576 else f := by
  have a1 := andNot_bd f0 f1 (b := 1048576) (by decide) (by decide)
  have e : (if f / 1048576 % 2 = 1 then f - 1048576 else f) = setF f 1048576 false := by unfold setF flg; simp
  rw [e]
  refine tb_ext a1.1 (by unfold setF flg; simp; split <;> omega) fun i => ?_
  have k := tb_setF f f0 20 false i
  rw [show ((2 ^ 20 : Nat) : Int) = 1048576 by decide] at k
  rw [tb_andNot f0 f1 (by decide) (by decide), tbp20, k]
  by_cases h : i = 20
  · simp [h]
  · simp [h]

theorem place_any (w : World) (B : Nat) (M : Mem) (h : RamAt w B M) (x : Int) (h0 : 0 ≤ x) (h1 : x < 4294967296) :
    Calls Try.prog 57 #[.pointer (some ⟨B + 3, 0, none⟩), .int .u32 x] w fun e w' => e = .returned (.int .u32 (M.place x)) ∧ w' = w := by
  have c1 := h.c1
  go_enter Try.func57, Try.ntmps57
  go_wp2
  all_goals go_ret
  all_goals refine ⟨ret_int ?_, rfl⟩
  · rename_i hc
    rw [not20 h0 h1]; unfold Mem.place; simp [hc]
  · rename_i hc
    unfold Mem.place; simp [hc]

theorem Mem.place_bd (M : Mem) {x : Int} (h0 : 0 ≤ x) (h1 : x < 4294967296) : 0 ≤ M.place x ∧ M.place x < 4294967296 := by
  unfold Mem.place; split <;> omega

/-- A look-up in the map of pages. -/
theorem wpList_page {P : Program} (w : World) {ops : Array Oper} {rest : List Oper} {o : Oper} {a : Act} {Q : Exit → Act → World → Prop}
    (hg : o.guard = none) (m x : Operand) (t : TypeId) (hop : o.op = Op.lookup t m x false)
    (k e : TypeId) (K : Keyed P k) (ht : P.underlying t = some (.map k e)) (hz : (zeroValue e).run P w = .ok (.pointer none) w) (b n : Nat) (D : DataW Unit)
    (hm : a.eval m = .map (some b)) (hown : w.ownsMap P k ptrElem b n D) (key : Value) (kl : Lit) (hx : a.eval x = key) (hkey : keyOf P k key = some kl)
    (c : Int) (hc : D.atKey kl noPage = .lit (.int .i64 c))
    (hK : wpList P ops Q rest (a.put o.dst (.pointer (if 0 ≤ c then some ⟨c.toNat, 0, none⟩ else none))) w) :
    wpList P ops Q (o :: rest) a w := by
  refine wpList_plain hg fun K' hK' => ?_
  obtain ⟨v, ps, hrun, hv⟩ := hown.lookup K ht hz ptrElem_nil hkey
  have hc' := hc
  unfold noPage at hc'
  rw [hc'] at hv
  have e1 : v = .pointer (if 0 ≤ c then some ⟨c.toNat, 0, none⟩ else none) := by
    rcases ptrElem_inv hv with ⟨rfl, rfl⟩ | ⟨b', rfl, rfl⟩
    · simp
    · simp
  rw [e1] at hrun
  unfold Oper.wp
  simp [execOp, hop, hm, hx, hrun, Result.andThen]
  exact hK' _ _ (by simpa using hK)

theorem pageOf_some (w : World) (B : Nat) (M : Mem) (h : RamAt w B M) (x : Int) (h0 : 0 ≤ x) (h1 : x < 4294967296) (hx : x < 4096 * M.n) :
    Calls Try.prog 59 #[.pointer (some ⟨B + 3, 0, none⟩), .int .u32 x] w fun e w' => e = .returned (.pointer (some ⟨B + 4 + (x / 4096).toNat, 0, none⟩)) ∧ w' = w := by
  have c0 := h.c0
  obtain ⟨D, hown, hat, _, _⟩ := h.p
  have hp : pageAt B M.n (x / 4096) = (B : Int) + 4 + x / 4096 := by unfold pageAt; rw [if_pos (by omega)]
  go_enter Try.func59, Try.ntmps59
  go_wp2_with (first
    | (at_lookup; refine wpList_page _ rfl _ _ 89 rfl 3 97 (int_keyed intT) pagesT (zeroPtr _) B 256 D rfl hown _ _ rfl (keyI (x := x / 4096) (by omega) (by omega)) _ (hat _) ?_; rw [hp, if_pos (by omega)])
    | go_in)
  go_ret
  refine ⟨?_, rfl⟩
  have : ((B : Int) + 4 + x / 4096).toNat = B + 4 + (x / 4096).toNat := by omega
  rw [this]
  rfl

theorem pageOf_none (w : World) (B : Nat) (M : Mem) (h : RamAt w B M) (x : Int) (h0 : 0 ≤ x) (h1 : x < 4294967296) (hx : 4096 * M.n ≤ x) :
    Calls Try.prog 59 #[.pointer (some ⟨B + 3, 0, none⟩), .int .u32 x] w fun e w' => e = .returned (.pointer none) ∧ w' = w := by
  have c0 := h.c0
  obtain ⟨D, hown, hat, _, _⟩ := h.p
  have hp : pageAt B M.n (x / 4096) = -1 := by unfold pageAt; rw [if_neg (by omega)]
  go_enter Try.func59, Try.ntmps59
  go_wp2_with (first
    | (at_lookup; refine wpList_page _ rfl _ _ 89 rfl 3 97 (int_keyed intT) pagesT (zeroPtr _) B 256 D rfl hown _ _ rfl (keyI (x := x / 4096) (by omega) (by omega)) _ (hat _) ?_; rw [hp, if_neg (by omega)])
    | go_in)
  go_ret
  exact ⟨rfl, rfl⟩
end Go.Proofs.Ytmmnnafjikilpaa
