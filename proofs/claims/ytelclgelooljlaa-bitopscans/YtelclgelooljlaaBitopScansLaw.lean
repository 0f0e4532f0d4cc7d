/- The walk of the statement BitopScans: for every input within its kinds it returns true, and the world has at most new blocks. -/
import Derived.Test.YtelclgelooljlaaBitAwake
import Derived.Test.YtelclgelooljlaaBitRefScan
import Derived.Test.YtelclgelooljlaaBitRefExt
import Derived.Test.YtelclgelooljlaaBitRefCond
namespace Go.Proofs.Ytelclgelooljlaa
open Go.ChangeShapes Go.WideShapes Go.ChangeAt Go.RowKit
set_option linter.unusedVariables false

theorem wide_ok' {s : Int} (h : wideSize s = true) : okSize s = true := by
  have hs : s = 2 ∨ s = 4 := by simpa [wideSize] using h
  rcases hs with rfl | rfl <;> rfl

/-- what Scan answers, both ways: a row of four -/
theorem scans (up : Bool) (s a f : Int) (a0 : 0 ≤ a) (a1 : a < 4294967296) (f0 : 0 ≤ f) (f1 : f < 4294967296) :
    ∃ (n : Int) (b : Bool) (g e : Int), (∀ w, Calls Try.prog 14 #[.bool up, .int .i64 s, .int .u32 a, .int .u32 f] w fun r w' => r = .returned (.tuple #[.int .u32 n, .bool b, .int .u32 g, .int .i64 e]) ∧ w' = w) ∧
      ∀ w, Calls Try.prog 15 #[.bool up, .int .i64 s, .int .u32 a, .int .u32 f] w fun r w' => r = .returned (.tuple #[.int .u32 n, .bool b, .int .u32 g, .int .i64 e]) ∧ w' = w := by
  rcases two_ways (wideSize s) with hk | hk
  · obtain ⟨H, M, W, hS⟩ := Sw_of (wide_ok' hk)
    by_cases h : a % M = 0
    · exact ⟨_, _, _, _, fun w => btScan_zero hS up a f w hk a0 a1 f0 f1 h, fun w => rScan_zero hS up a f w hk a0 a1 f0 f1 h⟩
    · exact ⟨_, _, _, _, fun w => btScan_ok hS up a f w hk a0 a1 f0 f1 h, fun w => rScan_ok hS up a f w hk a0 a1 f0 f1 h⟩
  · exact ⟨_, _, _, _, fun w => btScan_no up s a f w hk, fun w => rScan_no up s a f w hk⟩

/-- what Extend answers, both ways -/
theorem extends_ (sg : Bool) (s t a : Int) (a0 : 0 ≤ a) (a1 : a < 4294967296) :
    ∃ n e : Int, (∀ w, Calls Try.prog 16 #[.bool sg, .int .i64 s, .int .i64 t, .int .u32 a] w fun r w' => r = .returned (.tuple #[.int .u32 n, .int .i64 e]) ∧ w' = w) ∧
      ∀ w, Calls Try.prog 17 #[.bool sg, .int .i64 s, .int .i64 t, .int .u32 a] w fun r w' => r = .returned (.tuple #[.int .u32 n, .int .i64 e]) ∧ w' = w := by
  by_cases h : okSize s = false ∨ okSize t = false ∨ t < s
  · exact ⟨_, _, fun w => btExt_no sg s t a w h, fun w => rExt_no sg s t a w h⟩
  · have hs : okSize s = true := by rcases two_ways (okSize s) with q | q; exact q; exact absurd (Or.inl q) h
    have ht : okSize t = true := by rcases two_ways (okSize t) with q | q; exact q; exact absurd (Or.inr (Or.inl q)) h
    have hl : s ≤ t := by
      refine Int.not_lt.1 fun q => h (Or.inr (Or.inr q))
    obtain ⟨H, M, W, hS⟩ := Sw_of hs
    obtain ⟨G, N, V, hT⟩ := Sw_of ht
    exact ⟨_, _, fun w => btExt_ok hS hT hl sg a w a0 a1, fun w => rExt_ok hS hT hl sg a w a0 a1⟩

theorem BitopScans_walk (a0 : Bool) (a1 a2 a3 a4 : Int) (w1 : (Lit.int .i64 a1).wf = true) (w2 : (Lit.int .i64 a2).wf = true) (w3 : (Lit.int .u32 a3).wf = true) (w4 : (Lit.int .u32 a4).wf = true) (w : World) :
    Calls Try.prog 6 #[.bool a0, .int .i64 a1, .int .i64 a2, .int .u32 a3, .int .u32 a4] w fun e w' => e = .returned (.bool true) ∧ Grown w w' := by
  have b3 := bounds_u32 w3
  have b4 := bounds_u32 w4
  have x0 : 0 ≤ a3 := b3.1
  have x1 : a3 < 4294967296 := by omega
  have f0 : 0 ≤ a4 := b4.1
  have f1 : a4 < 4294967296 := by omega
  clear w1 w2 w3 w4 b3 b4
  obtain ⟨n, b, g, e, hA, hB⟩ := scans a0 a1 a3 a4 x0 x1 f0 f1
  obtain ⟨m, d, hC, hD⟩ := extends_ a0 a1 a2 a3 x0 x1
  go_enter Try.func6, Try.ntmps6
  go_wp2_with fail
  refine (awake_any _).mono ?_; rintro e w1 ⟨rfl, h1⟩
  go_wp2_with fail
  refine (hA _).mono ?_; rintro e w2 ⟨rfl, hw⟩; replace hw := hw.symm; subst hw
  go_wp2_with fail
  refine (hB _).mono ?_; rintro e w2 ⟨rfl, hw⟩; replace hw := hw.symm; subst hw
  go_wp2_with fail
  refine (hC _).mono ?_; rintro e w2 ⟨rfl, hw⟩; replace hw := hw.symm; subst hw
  go_wp2_with fail
  refine (hD _).mono ?_; rintro e w2 ⟨rfl, hw⟩; replace hw := hw.symm; subst hw
  go_wp2_with fail
  refine (btSwap_any _ _ x0 x1).mono ?_; rintro e w2 ⟨rfl, hw⟩; replace hw := hw.symm; subst hw
  go_wp2_with fail
  refine (rSwap_any _ _ x0 x1).mono ?_; rintro e w2 ⟨rfl, hw⟩; replace hw := hw.symm; subst hw
  go_wp2
  go_ret
  exact ⟨rfl, h1⟩
end Go.Proofs.Ytelclgelooljlaa
