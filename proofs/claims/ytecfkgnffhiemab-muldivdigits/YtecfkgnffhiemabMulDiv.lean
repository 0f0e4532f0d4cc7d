/- Contracts of muldiv.Div: for every input within their kinds they return what is named, and the world has at most new blocks. -/
import Derived.Test.YtecfkgnffhiemabMulQuo
namespace Go.Proofs.Ytecfkgnffhiemab
open Go.ChangeShapes Go.WideShapes Go.ChangeAt Go.RowKit
set_option linter.unusedVariables false

theorem ret_iibi {k l m : IntKind} {a b c d e f : Int} {p : Bool} (h : a = b) (g : c = d) (j : e = f) : Ending.returned (.tuple #[.int k a, .int l c, .bool p, .int m e]) = .returned (.tuple #[.int k b, .int l d, .bool p, .int m f]) := by rw [h, g, j]

theorem mdDiv_no (s : Int) (sg : Bool) (lo hi b : Int) (w : World) (hk : okSize s = false) :
    Calls Try.prog 8 #[.bool sg, .int .i64 s, .int .u32 lo, .int .u32 hi, .int .u32 b] w fun e w' => e = .returned (.tuple #[.int .u32 0, .int .u32 0, .bool false, .int .i64 2]) ∧ Grown w w' := by
  go_enter Try.func8, Try.ntmps8
  go_wp2_with fail
  refine (mdSize_any _ _).mono ?_; rintro e w1 ⟨rfl, hw⟩; replace hw := hw.symm; subst hw
  go_wp2
  exact bodyPost_ret (v := .tuple #[.int .u32 0, .int .u32 0, .bool false, .int .i64 2]) (by simp [results, Try.results8, go_sem]) rfl ⟨rfl, Grown.refl _⟩

theorem mdDiv_zero {s H M : Int} {W : Nat} (hS : Sw s H M W) (sg : Bool) (lo hi b : Int) (w : World) (b0 : 0 ≤ b) (b1 : b < 4294967296) (hz : b % M = 0) :
    Calls Try.prog 8 #[.bool sg, .int .i64 s, .int .u32 lo, .int .u32 hi, .int .u32 b] w fun e w' => e = .returned (.tuple #[.int .u32 0, .int .u32 0, .bool false, .int .i64 0]) ∧ Grown w w' := by
  have hk := hS.ok
  have wb : IntKind.u64.wrap b = b := by rw [wrap_u64']; omega
  have b2 : b < 18446744073709551616 := by omega
  go_enter Try.func8, Try.ntmps8
  go_wp2_with fail
  refine (mdSize_any _ _).mono ?_; rintro e w1 ⟨rfl, hw⟩; replace hw := hw.symm; subst hw
  go_wp2_with fail
  refine (mdWidth_any hS _).mono ?_; rintro e w1 ⟨rfl, hw⟩; replace hw := hw.symm; subst hw
  go_wp2_with fail
  refine (mdCut_any hS _ _ b0 b2).mono ?_; rintro e w1 ⟨rfl, hw⟩; replace hw := hw.symm; subst hw
  go_wp2
  exact bodyPost_ret (v := .tuple #[.int .u32 0, .int .u32 0, .bool false, .int .i64 0]) (by simp [results, Try.results8, go_sem]) rfl
    ⟨rfl, by repeat (first | exact Grown.refl _ | apply Grown.drew | apply Grown.alloc)⟩

/-- what the two divisions promise, as far as muldiv.Div leans on it -/
def quoSays (sg : Bool) (s : Int) (W : Nat) (n d Q R : Int) (o : Bool) : Prop :=
  ∀ w : World, Calls Try.prog (if sg = true then 19 else 18) #[.agg #[.int .i64 s, .int .u64 (W : Int)], .int .u64 n, .int .u64 d] w fun e w' => e = .returned (.tuple #[.int .u64 Q, .int .u64 R, .bool o]) ∧ Grown w w'

theorem quo_f {s : Int} {W : Nat} {n d Q R : Int} {o : Bool} (h : quoSays false s W n d Q R o) (w : World) : Calls Try.prog 18 #[.agg #[.int .i64 s, .int .u64 (W : Int)], .int .u64 n, .int .u64 d] w fun e w' => e = .returned (.tuple #[.int .u64 Q, .int .u64 R, .bool o]) ∧ Grown w w' := h w
theorem quo_t {s : Int} {W : Nat} {n d Q R : Int} {o : Bool} (h : quoSays true s W n d Q R o) (w : World) : Calls Try.prog 19 #[.agg #[.int .i64 s, .int .u64 (W : Int)], .int .u64 n, .int .u64 d] w fun e w' => e = .returned (.tuple #[.int .u64 Q, .int .u64 R, .bool o]) ∧ Grown w w' := h w

theorem mdDiv_none {s H M : Int} {W : Nat} (hS : Sw s H M W) (sg : Bool) (lo hi b Q R : Int) (w : World) (l0 : 0 ≤ lo) (l1 : lo < 4294967296) (h0 : 0 ≤ hi) (h1 : hi < 4294967296) (b0 : 0 ≤ b) (b1 : b < 4294967296) (hz : b % M ≠ 0)
    (HQ : quoSays sg s W (divN M lo hi) (b % M) Q R false) :
    Calls Try.prog 8 #[.bool sg, .int .i64 s, .int .u32 lo, .int .u32 hi, .int .u32 b] w fun e w' => e = .returned (.tuple #[.int .u32 0, .int .u32 0, .bool false, .int .i64 0]) ∧ Grown w w' := by
  have hk := hS.ok
  have mt := hS.pow.2.2.2.2.1
  have d0 := (mod_bd hS.pow.2.2.2.2.2.1 b).1
  have d1 := (mod_bd hS.pow.2.2.2.2.2.1 b).2
  have wb : IntKind.u64.wrap b = b := by rw [wrap_u64']; omega
  have wd : IntKind.u64.wrap (b % M) = b % M := by rw [wrap_u64']; omega
  have b2 : b < 18446744073709551616 := by omega
  have hz' : (b % M == 0) = false := by simp; omega
  cases sg
  · have HQ' := quo_f HQ
    have HH : Hid (∀ w : World, Calls Try.prog 18 #[.agg #[.int .i64 s, .int .u64 (W : Int)], .int .u64 (divN M lo hi), .int .u64 (b % M)] w fun e w' => e = .returned (.tuple #[.int .u64 Q, .int .u64 R, .bool false]) ∧ Grown w w') := HQ'
    clear HQ HQ'
    go_enter Try.func8, Try.ntmps8
    go_wp2_with fail
    refine (mdSize_any _ _).mono ?_; rintro e w1 ⟨rfl, hw⟩; replace hw := hw.symm; subst hw
    go_wp2_with fail
    refine (mdWidth_any hS _).mono ?_; rintro e w1 ⟨rfl, hw⟩; replace hw := hw.symm; subst hw
    go_wp2_with fail
    refine (mdCut_any hS _ _ b0 b2).mono ?_; rintro e w1 ⟨rfl, hw⟩; replace hw := hw.symm; subst hw
    go_wp2_with fail
    refine (mdWhole_any hS _ _ _ l0 l1 h0 h1).mono ?_; rintro e w1 ⟨rfl, hg1⟩
    go_wp2_with fail
    refine (HH.out _).mono ?_; rintro e w2 ⟨rfl, hg2⟩
    go_wp2
    exact bodyPost_ret (v := .tuple #[.int .u32 0, .int .u32 0, .bool false, .int .i64 0]) (by simp [results, Try.results8, go_sem]) rfl
      ⟨rfl, Grown.trans (Grown.trans (by repeat (first | exact Grown.refl _ | apply Grown.drew | apply Grown.alloc)) hg1) hg2⟩
  · have HQ' := quo_t HQ
    have HH : Hid (∀ w : World, Calls Try.prog 19 #[.agg #[.int .i64 s, .int .u64 (W : Int)], .int .u64 (divN M lo hi), .int .u64 (b % M)] w fun e w' => e = .returned (.tuple #[.int .u64 Q, .int .u64 R, .bool false]) ∧ Grown w w') := HQ'
    clear HQ HQ'
    go_enter Try.func8, Try.ntmps8
    go_wp2_with fail
    refine (mdSize_any _ _).mono ?_; rintro e w1 ⟨rfl, hw⟩; replace hw := hw.symm; subst hw
    go_wp2_with fail
    refine (mdWidth_any hS _).mono ?_; rintro e w1 ⟨rfl, hw⟩; replace hw := hw.symm; subst hw
    go_wp2_with fail
    refine (mdCut_any hS _ _ b0 b2).mono ?_; rintro e w1 ⟨rfl, hw⟩; replace hw := hw.symm; subst hw
    go_wp2_with fail
    refine (mdWhole_any hS _ _ _ l0 l1 h0 h1).mono ?_; rintro e w1 ⟨rfl, hg1⟩
    go_wp2_with fail
    refine (HH.out _).mono ?_; rintro e w2 ⟨rfl, hg2⟩
    go_wp2
    exact bodyPost_ret (v := .tuple #[.int .u32 0, .int .u32 0, .bool false, .int .i64 0]) (by simp [results, Try.results8, go_sem]) rfl
      ⟨rfl, Grown.trans (Grown.trans (by repeat (first | exact Grown.refl _ | apply Grown.drew | apply Grown.alloc)) hg1) hg2⟩
end Go.Proofs.Ytecfkgnffhiemab
