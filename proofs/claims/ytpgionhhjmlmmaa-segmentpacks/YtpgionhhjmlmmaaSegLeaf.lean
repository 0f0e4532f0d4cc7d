/- Contracts of what a segment lets: Reach, Fit, Code and what they stand on. -/
import Derived.Test.YtpgionhhjmlmmaaSegRights
namespace Go.Proofs.Ytpgionhhjmlmmaa
open Go.ChangeShapes Go.WideShapes Go.ChangeAt Go.RowKit
set_option linter.unusedVariables false

theorem Grown.holds {W w' : World} (h : Grown W w') {p : Addr} {v : Value} (hv : W.cell? p = some v) : w'.cell? p = some v := by
  have hb : p.block < W.heap.size := by
    rcases Nat.lt_or_ge p.block W.heap.size with h | h
    · exact h
    · exfalso
      simp [World.cell?, Array.getElem?_eq_none h] at hv
  rw [Grown.cell h hb, hv]

theorem frozen_of {W w' : World} (h : Grown W w') {p : Addr} (hf : W.frozen? p = false) : w'.frozen? p = false := (h.2.1 p).trans hf

theorem canReach_any (n : Int) (w : World) : Calls Try.prog 24 #[.int .i64 n] w fun e w' => e = .returned (.bool (szB n)) ∧ w' = w := by
  go_enter Try.func24, Try.ntmps24
  go_wp2
  all_goals go_ret
  all_goals exact ⟨ret_bool (by simp [szB, *]), rfl⟩

theorem ringOf_any (x : Int) (w : World) (x0 : 0 ≤ x) (x1 : x < 65536) : Calls Try.prog 29 #[.int .u16 x] w fun e w' => e = .returned (.int .i64 (x % 4)) ∧ w' = w := by
  have h : bits .and .u16 x 3 = x % 4 := by
    have h := Nat.and_two_pow_sub_one_eq_mod x.toNat 2
    have e : (3 : Int).toNat = 2 ^ 2 - 1 := by decide
    rw [u16_and x 3 x0 x1 (by decide) (by decide), e, h]
    omega
  go_enter Try.func29, Try.ntmps29
  go_wp2
  go_ret
  exact ⟨rfl, rfl⟩

theorem ringsLet_any (f : Bool) (r d c : Int) (w : World) : Calls Try.prog 28 #[.bool f, .int .i64 r, .int .i64 d, .int .i64 c] w fun e w' => e = .returned (.bool (ringsB f r d c)) ∧ w' = w := by
  go_enter Try.func28, Try.ntmps28
  go_wp2
  all_goals go_ret
  all_goals exact ⟨ret_bool (by simp [ringsB, *]), rfl⟩


theorem topOf_any (b l t : Int) (s : Bool) (d : Int) (p g : Bool) (w : World) : Calls Try.prog 25 #[.agg #[.int .u32 b, .int .u32 l, .int .i64 t, .bool s, .int .i64 d, .bool p, .bool g]] w fun e w' => e = .returned (.int .u64 (topB g)) ∧ Grown w w' := by
  go_enter Try.func25, Try.ntmps25
  go_wp2
  all_goals go_ret
  all_goals exact ⟨ret_int (by simp [topB, *]), Grown.alloc (Grown.refl _) _ _⟩


theorem ifPresent_any (b l t : Int) (s : Bool) (d : Int) (p g : Bool) (v : Int) (w : World) : Calls Try.prog 30 #[.agg #[.int .u32 b, .int .u32 l, .int .i64 t, .bool s, .int .i64 d, .bool p, .bool g], .int .i64 v] w fun e w' => e = .returned (.int .i64 (presB p v)) ∧ Grown w w' := by
  go_enter Try.func30, Try.ntmps30
  go_wp2
  all_goals go_ret
  all_goals exact ⟨ret_int (by cases p <;> simp_all [presB]), Grown.alloc (Grown.refl _) _ _⟩

end Go.Proofs.Ytpgionhhjmlmmaa
