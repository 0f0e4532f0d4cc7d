/- Contracts of the small functions of package alu: for every input within their kinds they return what is named, and the world has at most new blocks. -/
import Derived.Test.YtelclgelooljlaaRows
import Derived.Test.YtelclgelooljlaaGrow
import Derived.WalkKit
import Derived.ProofKit
import Derived.OpenShut
import Derived.Laws.EntriesVeiled
import Derived.Deep.QuietTactic
import Derived.BigQuiet
import Derived.Lib.Tables
namespace Go.Proofs.Ytelclgelooljlaa
open Go.ChangeShapes Go.WideShapes Go.ChangeAt Go.RowKit
set_option linter.unusedVariables false


theorem flagIf_any (b : Bool) (f : Int) (w : World) :
    Calls Try.prog 44 #[.bool b, .int .u32 f] w fun e w' => e = .returned (.int .u32 (flg b f)) ∧ w' = w := by
  cases b
  · go_enter Try.func44, Try.ntmps44
    go_wp2
    go_ret
    exact ⟨rfl, rfl⟩
  · go_enter Try.func44, Try.ntmps44
    go_wp2
    go_ret
    exact ⟨rfl, rfl⟩

theorem onesCount_any (x : Int) (w : World) :
    Calls Try.prog 43 #[.int .u8 (x % 256)] w fun e w' => e = .returned (.int .i64 (ones x)) ∧ w' = w := by
  unfold ones
  have h0 : 0 ≤ x % 256 := by omega
  have h1 : x % 256 ≤ 255 := by omega
  revert h0 h1
  generalize x % 256 = y
  intro h0 h1
  have e : wrap64 (Lib.pop8 y) = (Lib.onesCount y.toNat : Int) := by
    rw [← Lib.pop8_int y h0 h1]
    unfold wrap64
    omega
  go_enter Try.func43, Try.ntmps43
  go_wp2
  go_ret
  exact ⟨ret_int e, rfl⟩

theorem isSize_any (s : Int) (w : World) :
    Calls Try.prog 35 #[.int .i64 s] w fun e w' => e = .returned (.bool (okSize s)) ∧ w' = w := by
  by_cases h1 : s = 1
  · subst h1
    go_enter Try.func35, Try.ntmps35
    go_wp2
    go_ret
    exact ⟨rfl, rfl⟩
  · by_cases h2 : s = 2
    · subst h2
      go_enter Try.func35, Try.ntmps35
      go_wp2
      go_ret
      exact ⟨rfl, rfl⟩
    · by_cases h4 : s = 4
      · subst h4
        go_enter Try.func35, Try.ntmps35
        go_wp2
        go_ret
        exact ⟨rfl, rfl⟩
      · have e : okSize s = false := by simp [okSize, h1, h2, h4]
        rw [e]
        have g1 : (s == 1) = false := by simp [h1]
        have g2 : (s == 2) = false := by simp [h2]
        have g4 : (s == 4) = false := by simp [h4]
        go_enter Try.func35, Try.ntmps35
        go_wp2
        go_ret
        exact ⟨rfl, rfl⟩

theorem cut_any {s H M sp bt : Int} (hS : Sz s H M sp bt) (n : Int) (w : World) (b : Nat) (h0 : 0 ≤ n) (hc : w.cell? ⟨b, 0, none⟩ = some (.int .u64 sp)) :
    Calls Try.prog 40 #[.int .u64 n, .pointer (some ⟨b, 0, none⟩)] w fun e w' => e = .returned (.int .u32 (n % M)) ∧ w' = w := by
  rcases hS with ⟨rfl, rfl, rfl, rfl, rfl⟩ | ⟨rfl, rfl, rfl, rfl, rfl⟩ | ⟨rfl, rfl, rfl, rfl, rfl⟩
  · have e : n % 4294967296 * 16777216 % 4294967296 / 16777216 = n % 256 := by omega
    go_enter Try.func40, Try.ntmps40
    go_wp2
    go_ret
    exact ⟨rfl, rfl⟩
  · have e : n % 4294967296 * 65536 % 4294967296 / 65536 = n % 65536 := by omega
    go_enter Try.func40, Try.ntmps40
    go_wp2
    go_ret
    exact ⟨rfl, rfl⟩
  · go_enter Try.func40, Try.ntmps40
    go_wp2
    go_ret
    exact ⟨rfl, rfl⟩

theorem widthOf_any {s H M sp bt : Int} (hS : Sz s H M sp bt) (w : World) :
    Calls Try.prog 36 #[.int .i64 s] w fun e w' => e = .returned (.agg #[.int .u32 H, .func (.func 40) #[] #[.pointer (some ⟨w.heap.size + 1, 0, none⟩)]]) ∧
      w' = (w.alloc (.cells #[.int .u32 H, .func (.func 40) #[] #[.pointer (some ⟨w.heap.size + 1, 0, none⟩)]] 55)).alloc (.cells #[.int .u64 sp] 50) := by
  rcases hS with ⟨rfl, rfl, rfl, rfl, rfl⟩ | ⟨rfl, rfl, rfl, rfl, rfl⟩ | ⟨rfl, rfl, rfl, rfl, rfl⟩
  · go_enter Try.func36, Try.ntmps36
    go_wp2
    exact bodyPost_ret (v := .agg #[.int .u32 128, .func (.func 40) #[] #[.pointer (some ⟨w.heap.size + 1, 0, none⟩)]]) (by simp [results, Try.results36, go_sem]) rfl ⟨rfl, rfl⟩
  · go_enter Try.func36, Try.ntmps36
    go_wp2
    exact bodyPost_ret (v := .agg #[.int .u32 32768, .func (.func 40) #[] #[.pointer (some ⟨w.heap.size + 1, 0, none⟩)]]) (by simp [results, Try.results36, go_sem]) rfl ⟨rfl, rfl⟩
  · go_enter Try.func36, Try.ntmps36
    go_wp2
    exact bodyPost_ret (v := .agg #[.int .u32 2147483648, .func (.func 40) #[] #[.pointer (some ⟨w.heap.size + 1, 0, none⟩)]]) (by simp [results, Try.results36, go_sem]) rfl ⟨rfl, rfl⟩

theorem namedBy_any (op : Int) (w : World) :
    Calls Try.prog 38 #[.int .i64 op] w fun e w' => e = .returned (.int .u32 (namedF op)) ∧ w' = w := by
  by_cases h1 : op = 9
  · subst h1
    go_enter Try.func38, Try.ntmps38
    go_wp2
    go_ret
    exact ⟨rfl, rfl⟩
  · by_cases h2 : op = 10
    · subst h2
      go_enter Try.func38, Try.ntmps38
      go_wp2
      go_ret
      exact ⟨rfl, rfl⟩
    · have e : namedF op = 2065 := by simp [namedF, h1, h2]
      rw [e]
      have g1 : (op == 9) = false := by simp [h1]
      have g2 : (op == 10) = false := by simp [h2]
      go_enter Try.func38, Try.ntmps38
      go_wp2
      go_ret
      exact ⟨rfl, rfl⟩

theorem ones_bd (x : Int) : 0 ≤ ones x := by unfold ones; omega

theorem byResult_any {s H M sp bt : Int} (hS : Sz s H M sp bt) (x f : Int) (c : Value) (w : World) (h0 : 0 ≤ x) (h1 : x < M) (h2 : 0 ≤ f) (h3 : f < 4294967296) :
    Calls Try.prog 39 #[.agg #[.int .u32 H, c], .int .u32 x, .int .u32 f] w fun e w' => e = .returned (.int .u32 (byF H x f)) ∧ Grown w w' := by
  have ho := ones_bd x
  go_enter Try.func39, Try.ntmps39
  go_wp2_with (go_at_call 43; refine (onesCount_any _ _).mono ?_; rintro e w' ⟨rfl, rfl⟩)
  go_quiet ((go_at_call 44; exact Calls.quiet_of_same (flagIf_any _ _ _)))
  go_wp2
  go_ret
  refine ⟨?_, Grown.drewN (Grown.alloc (Grown.refl _) _ _) _⟩
  rw [and_sign hS x h0 h1, by_bits h2 h3]
  rfl

theorem add_any {s H M sp bt : Int} (hS : Sz s H M sp bt) (x y c : Int) (b : Nat) (w : World) (x0 : 0 ≤ x) (x1 : x < M) (y0 : 0 ≤ y) (y1 : y < M) (c0 : 0 ≤ c) (c1 : c ≤ 1) (hb : b < w.heap.size) (hc : w.cell? ⟨b, 0, none⟩ = some (.int .u64 sp)) :
    Calls Try.prog 41 #[.agg #[.int .u32 H, .func (.func 40) #[] #[.pointer (some ⟨b, 0, none⟩)]], .int .u32 x, .int .u32 y, .int .u32 c] w fun e w' =>
      e = .returned (.tuple #[.int .u32 (addR M x y c), .int .u32 (addM M H x y c)]) ∧ Grown w w' := by
  have mt : M ≤ 4294967296 := hS.top.1
  have mp : 0 < M := by have := hS.top; omega
  have hV := add_over hS x0 x1 y0 y1 c
  have hC := add_carry x0 x1 y0 y1 c0 c1
  have hr0 : 0 ≤ (x + y + c) % M := Int.emod_nonneg _ (by omega)
  have hr1 : (x + y + c) % M < M := Int.emod_lt_of_pos _ mp
  have hx15 : bits .and .u32 x 15 = x % 16 := and_15 x0 (by omega)
  have hy15 : bits .and .u32 y 15 = y % 16 := and_15 y0 (by omega)
  have hm : IntKind.u32.max = 4294967295 := rfl
  have hu : IntKind.u32.signed = false := rfl
  have hc' : ∀ o, (w.alloc o).cell? ⟨b, 0, none⟩ = some (.int .u64 sp) := fun o => by rw [World.cell?_alloc_lt _ _ _ hb]; exact hc
  unfold addM addC addA addR
  unfold addR at hV
  revert hV hC hr0 hr1
  generalize hr : (x + y + c) % M = r
  intro hV hC hr0 hr1
  have HV : Hid _ := hV
  have HC : Hid _ := hC
  clear hV hC
  go_enter Try.func41, Try.ntmps41
  go_wp2_with (go_at_call 40; refine (cut_any hS _ _ _ (by omega) (hc' _)).mono ?_; rintro e w' ⟨rfl, rfl⟩)
  go_quiet ((go_at_call 44; exact Calls.quiet_of_same (flagIf_any _ _ _)))
  go_wp2
  go_ret2
  exact ⟨ret_two rfl (by rw [HC.out, HV.out]; exact or_marks _ _ _), Grown.drewN (Grown.alloc (Grown.refl _) _ _) _⟩

theorem subtract_any {s H M sp bt : Int} (hS : Sz s H M sp bt) (x y c : Int) (b : Nat) (w : World) (x0 : 0 ≤ x) (x1 : x < M) (y0 : 0 ≤ y) (y1 : y < M) (c0 : 0 ≤ c) (c1 : c ≤ 1) (hb : b < w.heap.size) (hc : w.cell? ⟨b, 0, none⟩ = some (.int .u64 sp)) :
    Calls Try.prog 42 #[.agg #[.int .u32 H, .func (.func 40) #[] #[.pointer (some ⟨b, 0, none⟩)]], .int .u32 x, .int .u32 y, .int .u32 c] w fun e w' =>
      e = .returned (.tuple #[.int .u32 (subR M x y c), .int .u32 (subM M H x y c)]) ∧ Grown w w' := by
  have mt : M ≤ 4294967296 := hS.top.1
  have mp : 0 < M := by have := hS.top; omega
  have hV := sub_over hS x0 x1 y0 y1 c
  have hr0 : 0 ≤ subR M x y c := Int.emod_nonneg _ (by omega)
  have hr1 : subR M x y c < M := Int.emod_lt_of_pos _ mp
  have hw0 : 0 ≤ IntKind.u64.wrap (x - (y + c)) := by rw [wrap_u64']; omega
  have hr : IntKind.u64.wrap (x - (y + c)) % M = subR M x y c := by rw [wrap_u64']; unfold subR; rcases hS with ⟨rfl, rfl, rfl, rfl, rfl⟩ | ⟨rfl, rfl, rfl, rfl, rfl⟩ | ⟨rfl, rfl, rfl, rfl, rfl⟩ <;> omega
  have hx15 : bits .and .u32 x 15 = x % 16 := and_15 x0 (by omega)
  have hy15 : bits .and .u32 y 15 = y % 16 := and_15 y0 (by omega)
  have hc' : ∀ o, (w.alloc o).cell? ⟨b, 0, none⟩ = some (.int .u64 sp) := fun o => by rw [World.cell?_alloc_lt _ _ _ hb]; exact hc
  unfold subM subC subA
  revert hV hr hr0 hr1
  generalize subR M x y c = r
  intro hV hr hr0 hr1
  have HV : Hid _ := hV
  clear hV
  go_enter Try.func42, Try.ntmps42
  go_wp2_with (go_at_call 40; refine (cut_any hS _ _ _ hw0 (hc' _)).mono ?_; rintro e w' ⟨rfl, rfl⟩)
  go_quiet ((go_at_call 44; exact Calls.quiet_of_same (flagIf_any _ _ _)))
  go_wp2
  go_ret2
  exact ⟨ret_two rfl (by rw [HV.out]; exact or_marks _ _ _), Grown.drewN (Grown.alloc (Grown.refl _) _ _) _⟩
end Go.Proofs.Ytelclgelooljlaa
