/- Contracts of alu.Flags and of what it stands on, for later layers: for every input within their kinds they return what is named, and the world has at most new blocks. -/
import Derived.Test.YtecfkgnffhiemabBase
namespace Go.Proofs.Ytecfkgnffhiemab
open Go.ChangeShapes Go.WideShapes Go.ChangeAt Go.RowKit
set_option linter.unusedVariables false

theorem flagIf_any (b : Bool) (f : Int) (w : World) :
    Calls Try.prog 38 #[.bool b, .int .u32 f] w fun e w' => e = .returned (.int .u32 (flg b f)) ∧ w' = w := by
  cases b
  · go_enter Try.func38, Try.ntmps38
    go_wp2
    go_ret
    exact ⟨rfl, rfl⟩
  · go_enter Try.func38, Try.ntmps38
    go_wp2
    go_ret
    exact ⟨rfl, rfl⟩

theorem isSize_any (s : Int) (w : World) :
    Calls Try.prog 30 #[.int .i64 s] w fun e w' => e = .returned (.bool (okSize s)) ∧ w' = w := by
  by_cases h1 : s = 1
  · subst h1
    go_enter Try.func30, Try.ntmps30
    go_wp2
    go_ret
    exact ⟨rfl, rfl⟩
  · by_cases h2 : s = 2
    · subst h2
      go_enter Try.func30, Try.ntmps30
      go_wp2
      go_ret
      exact ⟨rfl, rfl⟩
    · by_cases h4 : s = 4
      · subst h4
        go_enter Try.func30, Try.ntmps30
        go_wp2
        go_ret
        exact ⟨rfl, rfl⟩
      · have e : okSize s = false := by simp [okSize, h1, h2, h4]
        rw [e]
        have g1 : (s == 1) = false := by simp [h1]
        have g2 : (s == 2) = false := by simp [h2]
        have g4 : (s == 4) = false := by simp [h4]
        go_enter Try.func30, Try.ntmps30
        go_wp2
        go_ret
        exact ⟨rfl, rfl⟩

theorem cut_any {s H M sp bt : Int} (hS : Sz s H M sp bt) (n : Int) (w : World) (b : Nat) (h0 : 0 ≤ n) (hc : w.cell? ⟨b, 0, none⟩ = some (.int .u64 sp)) :
    Calls Try.prog 36 #[.int .u64 n, .pointer (some ⟨b, 0, none⟩)] w fun e w' => e = .returned (.int .u32 (n % M)) ∧ w' = w := by
  rcases hS with ⟨rfl, rfl, rfl, rfl, rfl⟩ | ⟨rfl, rfl, rfl, rfl, rfl⟩ | ⟨rfl, rfl, rfl, rfl, rfl⟩
  · have e : n % 4294967296 * 16777216 % 4294967296 / 16777216 = n % 256 := by omega
    go_enter Try.func36, Try.ntmps36
    go_wp2
    go_ret
    exact ⟨rfl, rfl⟩
  · have e : n % 4294967296 * 65536 % 4294967296 / 65536 = n % 65536 := by omega
    go_enter Try.func36, Try.ntmps36
    go_wp2
    go_ret
    exact ⟨rfl, rfl⟩
  · go_enter Try.func36, Try.ntmps36
    go_wp2
    go_ret
    exact ⟨rfl, rfl⟩

theorem widthOf_any {s H M sp bt : Int} (hS : Sz s H M sp bt) (w : World) :
    Calls Try.prog 31 #[.int .i64 s] w fun e w' => e = .returned (.agg #[.int .u32 H, .func (.func 36) #[] #[.pointer (some ⟨w.heap.size + 1, 0, none⟩)]]) ∧
      w' = (w.alloc (.cells #[.int .u32 H, .func (.func 36) #[] #[.pointer (some ⟨w.heap.size + 1, 0, none⟩)]] 63)).alloc (.cells #[.int .u64 sp] 31) := by
  rcases hS with ⟨rfl, rfl, rfl, rfl, rfl⟩ | ⟨rfl, rfl, rfl, rfl, rfl⟩ | ⟨rfl, rfl, rfl, rfl, rfl⟩
  · go_enter Try.func31, Try.ntmps31
    go_wp2
    exact bodyPost_ret (v := .agg #[.int .u32 128, .func (.func 36) #[] #[.pointer (some ⟨w.heap.size + 1, 0, none⟩)]]) (by simp [results, Try.results31, go_sem]) rfl ⟨rfl, rfl⟩
  · go_enter Try.func31, Try.ntmps31
    go_wp2
    exact bodyPost_ret (v := .agg #[.int .u32 32768, .func (.func 36) #[] #[.pointer (some ⟨w.heap.size + 1, 0, none⟩)]]) (by simp [results, Try.results31, go_sem]) rfl ⟨rfl, rfl⟩
  · go_enter Try.func31, Try.ntmps31
    go_wp2
    exact bodyPost_ret (v := .agg #[.int .u32 2147483648, .func (.func 36) #[] #[.pointer (some ⟨w.heap.size + 1, 0, none⟩)]]) (by simp [results, Try.results31, go_sem]) rfl ⟨rfl, rfl⟩

theorem byResult_any {s H M sp bt : Int} (hS : Sz s H M sp bt) (x f : Int) (c : Value) (w : World) (h0 : 0 ≤ x) (h1 : x < M) (h2 : 0 ≤ f) (h3 : f < 4294967296) :
    Calls Try.prog 32 #[.agg #[.int .u32 H, c], .int .u32 x, .int .u32 f] w fun e w' => e = .returned (.int .u32 (byF H x f)) ∧ Grown w w' := by
  have ho := ones_bd x
  go_enter Try.func32, Try.ntmps32
  go_wp2_with (go_at_call 37; refine (onesCount_any _ _).mono ?_; rintro e w' ⟨rfl, rfl⟩)
  go_quiet ((go_at_call 38; exact Calls.quiet_of_same (flagIf_any _ _ _)))
  go_wp2
  go_ret
  refine ⟨?_, Grown.drewN (Grown.alloc (Grown.refl _) _ _) _⟩
  rw [and_sign hS x h0 h1, by_bits h2 h3]
  rfl

theorem Flags_ok {s H M sp bt : Int} (hS : Sz s H M sp bt) (x f : Int) (w : World) (x0 : 0 ≤ x) (x1 : x < 4294967296) (f0 : 0 ≤ f) (f1 : f < 4294967296) :
    Calls Try.prog 11 #[.int .i64 s, .int .u32 x, .int .u32 f] w fun e w' =>
      e = .returned (.tuple #[.int .u32 (byF H (x % M) f), .int .i64 0]) ∧ Grown w w' := by
  have hk := hS.ok
  have m0 : 0 < M := by have := hS.top; omega
  have hr0 : 0 ≤ x % M := Int.emod_nonneg _ (by omega)
  have hr1 : x % M < M := Int.emod_lt_of_pos _ m0
  have hwx : IntKind.u64.wrap x = x := by rw [wrap_u64']; omega
  have hc3 : ∀ o1 o3, (((w.alloc o1).alloc (.cells #[.int .u64 sp] 31)).alloc o3).cell? ⟨w.heap.size + 1, 0, none⟩ = some (.int .u64 sp) := fun o1 o3 => by
    rw [World.cell?_alloc_lt _ _ _ (by simp), World.cell?_alloc_at _ _ _ _ (by simp)]; rfl
  go_enter Try.func11, Try.ntmps11
  go_wp2_with (first
    | (go_at_call 30; refine (isSize_any _ _).mono ?_; rintro e w1 ⟨rfl, hw⟩; replace hw := hw.symm; subst hw)
    | (go_at_call 31; refine (widthOf_any hS _).mono ?_; rintro e w1 ⟨rfl, hw⟩; replace hw := hw.symm; subst hw))
  go_region_held3 (fun w' => w'.cell? ⟨w.heap.size + 1 + 1, 0, none⟩ = some (.int .u32 H) ∧ w'.cell? ⟨w.heap.size + 1 + 1, 1, none⟩ = some (.func (.func 36) #[] #[.pointer (some ⟨w.heap.size + 1, 0, none⟩)]))
    (first | (simp [go_sem]; done) | (refine ⟨?_, ?_⟩ <;> (rw [Grown.cell hg (by simp)]; simp [go_sem])))
    ((first
    | (go_at_call 36; refine (cut_any hS _ _ _ (by omega) (by exact hc3 _ _)).mono ?_; rintro e w1 ⟨rfl, hw⟩; replace hw := hw.symm; subst hw)
    | (go_at_call 32; refine (byResult_any hS _ _ _ _ (by omega) (by omega) (by omega) (by omega)).mono ?_; rintro e w1 ⟨rfl, hg⟩)))
  go_wp2
  go_ret2
  exact ⟨rfl, Grown.trans (Grown.alloc (Grown.alloc (Grown.alloc (Grown.refl _) _ _) _ _) _ _).drew hg⟩

theorem Flags_no (s x f : Int) (w : World) (hk : okSize s = false) :
    Calls Try.prog 11 #[.int .i64 s, .int .u32 x, .int .u32 f] w fun e w' =>
      e = .returned (.tuple #[.int .u32 0, .int .i64 2]) ∧ Grown w w' := by
  go_enter Try.func11, Try.ntmps11
  go_wp2_with (go_at_call 30; refine (isSize_any _ _).mono ?_; rintro e w1 ⟨rfl, hw⟩; replace hw := hw.symm; subst hw)
  go_ret2
  exact ⟨rfl, Grown.refl _⟩
end Go.Proofs.Ytecfkgnffhiemab
