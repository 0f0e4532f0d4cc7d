/- Contracts of the document's answers Flags and Do for layer 1 (package drawloomref01): for every input within their kinds they return what is named, and the world stays. -/
import Derived.Test.YtllegaigfpfdkaaAluRef
namespace Go.Proofs.Ytllegaigfpfdkaa
open Go.ChangeShapes Go.WideShapes Go.ChangeAt Go.RowKit
set_option linter.unusedVariables false


theorem By_any {s H M sp bt : Int} (hS : Sz s H M sp bt) (n f : Int) (w : World) (n0 : 0 ≤ n) (n1 : n < M) (f0 : 0 ≤ f) (f1 : f < 4294967296) :
    Calls Try.prog 27 #[.int .u64 n, .int .i64 bt, .int .u32 f] w fun e w' => e = .returned (.int .u32 (byF H n f)) ∧ w' = w := by
  have mt := hS.top.1
  have b1 := setF_bd f0 f1 64 (by simp) (n == 0)
  have b2 := setF_bd b1.1 b1.2 128 (by simp) (sgn H n)
  go_enter Try.func27, Try.ntmps27
  go_wp2_with fail
  refine (Set_any _ _ _ _ f0 f1 (by simp [isFlag])).mono ?_; rintro e w1 ⟨rfl, hw⟩; replace hw := hw.symm; subst hw
  go_wp2_with fail
  refine (Sign_any hS _ _ n0 n1).mono ?_; rintro e w1 ⟨rfl, hw⟩; replace hw := hw.symm; subst hw
  go_wp2_with fail
  refine (Set_any _ _ _ _ b1.1 b1.2 (by simp [isFlag])).mono ?_; rintro e w1 ⟨rfl, hw⟩; replace hw := hw.symm; subst hw
  go_wp2_with fail
  refine (even_is _ _ n0 (by omega)).mono ?_; rintro e w1 ⟨rfl, hw⟩; replace hw := hw.symm; subst hw
  go_wp2_with fail
  refine (Set_any _ _ _ _ b2.1 b2.2 (by simp [isFlag])).mono ?_; rintro e w1 ⟨rfl, hw⟩; replace hw := hw.symm; subst hw
  go_wp2
  go_ret
  exact ⟨rfl, rfl⟩

theorem Flags_ref_ok {s H M sp bt : Int} (hS : Sz s H M sp bt) (x f : Int) (w : World) (x0 : 0 ≤ x) (x1 : x < 4294967296) (f0 : 0 ≤ f) (f1 : f < 4294967296) :
    Calls Try.prog 13 #[.int .i64 s, .int .u32 x, .int .u32 f] w fun e w' =>
      e = .returned (.tuple #[.int .u32 (byF H (x % M) f), .int .i64 0]) ∧ w' = w := by
  have m0 : 0 < M := by have := hS.top; omega
  have hr := mod_bd m0 x
  have nb : (bt == 0) = false := by have : bt ≠ 0 := by unfold Sz at hS; omega
                                    simp [this]
  go_enter Try.func13, Try.ntmps13
  go_wp2_with fail
  refine (Bits_ok hS _).mono ?_; rintro e w1 ⟨rfl, hw⟩; replace hw := hw.symm; subst hw
  go_wp2_with fail
  refine (Cut_any hS _ _ x0 (by omega)).mono ?_; rintro e w1 ⟨rfl, hw⟩; replace hw := hw.symm; subst hw
  go_wp2_with fail
  refine (By_any hS _ _ _ hr.1 hr.2 f0 f1).mono ?_; rintro e w1 ⟨rfl, hw⟩; replace hw := hw.symm; subst hw
  go_wp2
  go_ret2
  exact ⟨rfl, rfl⟩

theorem Flags_ref_no (s x f : Int) (w : World) (hk : okSize s = false) :
    Calls Try.prog 13 #[.int .i64 s, .int .u32 x, .int .u32 f] w fun e w' =>
      e = .returned (.tuple #[.int .u32 0, .int .i64 2]) ∧ w' = w := by
  go_enter Try.func13, Try.ntmps13
  go_wp2_with fail
  refine (Bits_no _ _ hk).mono ?_; rintro e w1 ⟨rfl, hw⟩; replace hw := hw.symm; subst hw
  go_wp2
  go_ret2
  exact ⟨rfl, rfl⟩

theorem add_ref {s H M sp bt : Int} (hS : Sz s H M sp bt) (x y c f : Int) (w : World) (x0 : 0 ≤ x) (x1 : x < M) (y0 : 0 ≤ y) (y1 : y < M) (c0 : 0 ≤ c) (c1 : c ≤ 1) (f0 : 0 ≤ f) (f1 : f < 4294967296) :
    Calls Try.prog 23 #[.int .u64 x, .int .u64 y, .int .u64 c, .int .i64 bt, .int .u32 f] w fun e w' =>
      e = .returned (.tuple #[.int .u64 (addR M x y c), .int .u32 (addF M H x y c f)]) ∧ w' = w := by
  have mt : M ≤ 4294967296 := hS.top.1
  have m0 : 0 < M := by have := hS.top; omega
  have r0 : 0 ≤ (x + y + c) % M := (mod_bd m0 _).1
  have r1 : (x + y + c) % M < M := (mod_bd m0 _).2
  have HC : Hid _ := add_carry x0 x1 y0 y1 c0 c1
  cases hst : (sgn H x == sgn H y)
  · have HV : Hid (addV M H x y c = false) := (by unfold addV; rw [hst]; rfl : addV M H x y c = false)
    have HF : Hid _ := hst
    go_enter Try.func23, Try.ntmps23
    go_wp2_with fail
    refine (Cut_any hS _ _ (by omega) (by omega)).mono ?_; rintro e w1 ⟨rfl, hw⟩; replace hw := hw.symm; subst hw
    go_wp2_with fail
    refine (Set_any _ _ _ _ f0 f1 fl1).mono ?_; rintro e w1 ⟨rfl, hw⟩; replace hw := hw.symm; subst hw
    go_wp2_with fail
    refine (Set_any _ _ _ _ (bd1 f0 f1 _ fl1 _).1 (bd1 f0 f1 _ fl1 _).2 fl16).mono ?_; rintro e w1 ⟨rfl, hw⟩; replace hw := hw.symm; subst hw
    go_wp2_with fail
    refine (Sign_any hS _ _ x0 x1).mono ?_; rintro e w1 ⟨rfl, hw⟩; replace hw := hw.symm; subst hw
    go_wp2_with fail
    refine (Sign_any hS _ _ y0 y1).mono ?_; rintro e w1 ⟨rfl, hw⟩; replace hw := hw.symm; subst hw
    go_wp2_with fail
    refine (Set_any _ _ _ _ (bd2 f0 f1 _ _ fl1 fl16 _ _).1 (bd2 f0 f1 _ _ fl1 fl16 _ _).2 fl2048).mono ?_; rintro e w1 ⟨rfl, hw⟩; replace hw := hw.symm; subst hw
    go_wp2_with fail
    refine (By_any hS _ _ _ r0 r1 (bd3 f0 f1 _ _ _ fl1 fl16 fl2048 _ _ _).1 (bd3 f0 f1 _ _ _ fl1 fl16 fl2048 _ _ _).2).mono ?_; rintro e w1 ⟨rfl, hw⟩; replace hw := hw.symm; subst hw
    go_wp2
    go_ret2
    exact ⟨ret_two rfl (by unfold addF; rw [HV.out, HC.out]; rfl), rfl⟩
  · have HV : Hid (addV M H x y c = (sgn H ((x + y + c) % M) != sgn H x)) := (by unfold addV; rw [hst]; rfl : addV M H x y c = (sgn H ((x + y + c) % M) != sgn H x))
    go_enter Try.func23, Try.ntmps23
    go_wp2_with fail
    refine (Cut_any hS _ _ (by omega) (by omega)).mono ?_; rintro e w1 ⟨rfl, hw⟩; replace hw := hw.symm; subst hw
    go_wp2_with fail
    refine (Set_any _ _ _ _ f0 f1 fl1).mono ?_; rintro e w1 ⟨rfl, hw⟩; replace hw := hw.symm; subst hw
    go_wp2_with fail
    refine (Set_any _ _ _ _ (bd1 f0 f1 _ fl1 _).1 (bd1 f0 f1 _ fl1 _).2 fl16).mono ?_; rintro e w1 ⟨rfl, hw⟩; replace hw := hw.symm; subst hw
    go_wp2_with fail
    refine (Sign_any hS _ _ x0 x1).mono ?_; rintro e w1 ⟨rfl, hw⟩; replace hw := hw.symm; subst hw
    go_wp2_with fail
    refine (Sign_any hS _ _ y0 y1).mono ?_; rintro e w1 ⟨rfl, hw⟩; replace hw := hw.symm; subst hw
    go_wp2_with fail
    refine (Sign_any hS _ _ r0 r1).mono ?_; rintro e w1 ⟨rfl, hw⟩; replace hw := hw.symm; subst hw
    go_wp2_with fail
    refine (Set_any _ _ _ _ (bd2 f0 f1 _ _ fl1 fl16 _ _).1 (bd2 f0 f1 _ _ fl1 fl16 _ _).2 fl2048).mono ?_; rintro e w1 ⟨rfl, hw⟩; replace hw := hw.symm; subst hw
    go_wp2_with fail
    refine (By_any hS _ _ _ r0 r1 (bd3 f0 f1 _ _ _ fl1 fl16 fl2048 _ _ _).1 (bd3 f0 f1 _ _ _ fl1 fl16 fl2048 _ _ _).2).mono ?_; rintro e w1 ⟨rfl, hw⟩; replace hw := hw.symm; subst hw
    go_wp2
    go_ret2
    exact ⟨ret_two rfl (by unfold addF; rw [HV.out, HC.out]; rfl), rfl⟩

set_option maxHeartbeats 2000000 in
theorem sub_ref {s H M sp bt : Int} (hS : Sz s H M sp bt) (x y c f : Int) (w : World) (x0 : 0 ≤ x) (x1 : x < M) (y0 : 0 ≤ y) (y1 : y < M) (c0 : 0 ≤ c) (c1 : c ≤ 1) (f0 : 0 ≤ f) (f1 : f < 4294967296) :
    Calls Try.prog 24 #[.int .u64 x, .int .u64 y, .int .u64 c, .int .i64 bt, .int .u32 f] w fun e w' =>
      e = .returned (.tuple #[.int .u64 (subR M x y c), .int .u32 (subF M H x y c f)]) ∧ w' = w := by
  have m0 : 0 < M := by have := hS.top; omega
  have r0 : 0 ≤ subR M x y c := (mod_bd m0 _).1
  have r1 : subR M x y c < M := (mod_bd m0 _).2
  have hS' := hS
  cases hst : (sgn H x == sgn H y)
  · have HV : Hid (subV M H x y c = (sgn H (subR M x y c) == sgn H y)) := (by unfold subV bne; rw [hst]; rfl : subV M H x y c = (sgn H (subR M x y c) == sgn H y))
    rcases hS with ⟨rfl, rfl, rfl, rfl, rfl⟩ | ⟨rfl, rfl, rfl, rfl, rfl⟩ | ⟨rfl, rfl, rfl, rfl, rfl⟩
    · have hr : (x + 512 - y - c) % 256 = subR 256 x y c := by unfold subR; omega
      go_enter Try.func24, Try.ntmps24
      go_wp2_with fail
      refine (Cut_any hS' _ _ (by omega) (by omega)).mono ?_; rintro e w1 ⟨rfl, hw⟩; replace hw := hw.symm; subst hw
      go_wp2_with fail
      refine (Set_any _ _ _ _ f0 f1 fl1).mono ?_; rintro e w1 ⟨rfl, hw⟩; replace hw := hw.symm; subst hw
      go_wp2_with fail
      refine (Set_any _ _ _ _ (bd1 f0 f1 _ fl1 _).1 (bd1 f0 f1 _ fl1 _).2 fl16).mono ?_; rintro e w1 ⟨rfl, hw⟩; replace hw := hw.symm; subst hw
      go_wp2_with fail
      refine (Sign_any hS' _ _ x0 x1).mono ?_; rintro e w1 ⟨rfl, hw⟩; replace hw := hw.symm; subst hw
      go_wp2_with fail
      refine (Sign_any hS' _ _ y0 y1).mono ?_; rintro e w1 ⟨rfl, hw⟩; replace hw := hw.symm; subst hw
      go_wp2_with fail
      refine (Sign_any hS' _ _ r0 r1).mono ?_; rintro e w1 ⟨rfl, hw⟩; replace hw := hw.symm; subst hw
      go_wp2_with fail
      refine (Set_any _ _ _ _ (bd2 f0 f1 _ _ fl1 fl16 _ _).1 (bd2 f0 f1 _ _ fl1 fl16 _ _).2 fl2048).mono ?_; rintro e w1 ⟨rfl, hw⟩; replace hw := hw.symm; subst hw
      go_wp2_with fail
      refine (By_any hS' _ _ _ r0 r1 (bd3 f0 f1 _ _ _ fl1 fl16 fl2048 _ _ _).1 (bd3 f0 f1 _ _ _ fl1 fl16 fl2048 _ _ _).2).mono ?_; rintro e w1 ⟨rfl, hw⟩; replace hw := hw.symm; subst hw
      go_wp2
      go_ret2
      exact ⟨ret_two rfl (by unfold subF; rw [HV.out]; rfl), rfl⟩
    · have hr : (x + 131072 - y - c) % 65536 = subR 65536 x y c := by unfold subR; omega
      go_enter Try.func24, Try.ntmps24
      go_wp2_with fail
      refine (Cut_any hS' _ _ (by omega) (by omega)).mono ?_; rintro e w1 ⟨rfl, hw⟩; replace hw := hw.symm; subst hw
      go_wp2_with fail
      refine (Set_any _ _ _ _ f0 f1 fl1).mono ?_; rintro e w1 ⟨rfl, hw⟩; replace hw := hw.symm; subst hw
      go_wp2_with fail
      refine (Set_any _ _ _ _ (bd1 f0 f1 _ fl1 _).1 (bd1 f0 f1 _ fl1 _).2 fl16).mono ?_; rintro e w1 ⟨rfl, hw⟩; replace hw := hw.symm; subst hw
      go_wp2_with fail
      refine (Sign_any hS' _ _ x0 x1).mono ?_; rintro e w1 ⟨rfl, hw⟩; replace hw := hw.symm; subst hw
      go_wp2_with fail
      refine (Sign_any hS' _ _ y0 y1).mono ?_; rintro e w1 ⟨rfl, hw⟩; replace hw := hw.symm; subst hw
      go_wp2_with fail
      refine (Sign_any hS' _ _ r0 r1).mono ?_; rintro e w1 ⟨rfl, hw⟩; replace hw := hw.symm; subst hw
      go_wp2_with fail
      refine (Set_any _ _ _ _ (bd2 f0 f1 _ _ fl1 fl16 _ _).1 (bd2 f0 f1 _ _ fl1 fl16 _ _).2 fl2048).mono ?_; rintro e w1 ⟨rfl, hw⟩; replace hw := hw.symm; subst hw
      go_wp2_with fail
      refine (By_any hS' _ _ _ r0 r1 (bd3 f0 f1 _ _ _ fl1 fl16 fl2048 _ _ _).1 (bd3 f0 f1 _ _ _ fl1 fl16 fl2048 _ _ _).2).mono ?_; rintro e w1 ⟨rfl, hw⟩; replace hw := hw.symm; subst hw
      go_wp2
      go_ret2
      exact ⟨ret_two rfl (by unfold subF; rw [HV.out]; rfl), rfl⟩
    · have hr : (x + 8589934592 - y - c) % 4294967296 = subR 4294967296 x y c := by unfold subR; omega
      go_enter Try.func24, Try.ntmps24
      go_wp2_with fail
      refine (Cut_any hS' _ _ (by omega) (by omega)).mono ?_; rintro e w1 ⟨rfl, hw⟩; replace hw := hw.symm; subst hw
      go_wp2_with fail
      refine (Set_any _ _ _ _ f0 f1 fl1).mono ?_; rintro e w1 ⟨rfl, hw⟩; replace hw := hw.symm; subst hw
      go_wp2_with fail
      refine (Set_any _ _ _ _ (bd1 f0 f1 _ fl1 _).1 (bd1 f0 f1 _ fl1 _).2 fl16).mono ?_; rintro e w1 ⟨rfl, hw⟩; replace hw := hw.symm; subst hw
      go_wp2_with fail
      refine (Sign_any hS' _ _ x0 x1).mono ?_; rintro e w1 ⟨rfl, hw⟩; replace hw := hw.symm; subst hw
      go_wp2_with fail
      refine (Sign_any hS' _ _ y0 y1).mono ?_; rintro e w1 ⟨rfl, hw⟩; replace hw := hw.symm; subst hw
      go_wp2_with fail
      refine (Sign_any hS' _ _ r0 r1).mono ?_; rintro e w1 ⟨rfl, hw⟩; replace hw := hw.symm; subst hw
      go_wp2_with fail
      refine (Set_any _ _ _ _ (bd2 f0 f1 _ _ fl1 fl16 _ _).1 (bd2 f0 f1 _ _ fl1 fl16 _ _).2 fl2048).mono ?_; rintro e w1 ⟨rfl, hw⟩; replace hw := hw.symm; subst hw
      go_wp2_with fail
      refine (By_any hS' _ _ _ r0 r1 (bd3 f0 f1 _ _ _ fl1 fl16 fl2048 _ _ _).1 (bd3 f0 f1 _ _ _ fl1 fl16 fl2048 _ _ _).2).mono ?_; rintro e w1 ⟨rfl, hw⟩; replace hw := hw.symm; subst hw
      go_wp2
      go_ret2
      exact ⟨ret_two rfl (by unfold subF; rw [HV.out]; rfl), rfl⟩
  · have HV : Hid (subV M H x y c = false) := (by unfold subV bne; rw [hst]; rfl : subV M H x y c = false)
    rcases hS with ⟨rfl, rfl, rfl, rfl, rfl⟩ | ⟨rfl, rfl, rfl, rfl, rfl⟩ | ⟨rfl, rfl, rfl, rfl, rfl⟩
    · have hr : (x + 512 - y - c) % 256 = subR 256 x y c := by unfold subR; omega
      go_enter Try.func24, Try.ntmps24
      go_wp2_with fail
      refine (Cut_any hS' _ _ (by omega) (by omega)).mono ?_; rintro e w1 ⟨rfl, hw⟩; replace hw := hw.symm; subst hw
      go_wp2_with fail
      refine (Set_any _ _ _ _ f0 f1 fl1).mono ?_; rintro e w1 ⟨rfl, hw⟩; replace hw := hw.symm; subst hw
      go_wp2_with fail
      refine (Set_any _ _ _ _ (bd1 f0 f1 _ fl1 _).1 (bd1 f0 f1 _ fl1 _).2 fl16).mono ?_; rintro e w1 ⟨rfl, hw⟩; replace hw := hw.symm; subst hw
      go_wp2_with fail
      refine (Sign_any hS' _ _ x0 x1).mono ?_; rintro e w1 ⟨rfl, hw⟩; replace hw := hw.symm; subst hw
      go_wp2_with fail
      refine (Sign_any hS' _ _ y0 y1).mono ?_; rintro e w1 ⟨rfl, hw⟩; replace hw := hw.symm; subst hw
      go_wp2_with fail
      refine (Set_any _ _ _ _ (bd2 f0 f1 _ _ fl1 fl16 _ _).1 (bd2 f0 f1 _ _ fl1 fl16 _ _).2 fl2048).mono ?_; rintro e w1 ⟨rfl, hw⟩; replace hw := hw.symm; subst hw
      go_wp2_with fail
      refine (By_any hS' _ _ _ r0 r1 (bd3 f0 f1 _ _ _ fl1 fl16 fl2048 _ _ _).1 (bd3 f0 f1 _ _ _ fl1 fl16 fl2048 _ _ _).2).mono ?_; rintro e w1 ⟨rfl, hw⟩; replace hw := hw.symm; subst hw
      go_wp2
      go_ret2
      exact ⟨ret_two rfl (by unfold subF; rw [HV.out]; rfl), rfl⟩
    · have hr : (x + 131072 - y - c) % 65536 = subR 65536 x y c := by unfold subR; omega
      go_enter Try.func24, Try.ntmps24
      go_wp2_with fail
      refine (Cut_any hS' _ _ (by omega) (by omega)).mono ?_; rintro e w1 ⟨rfl, hw⟩; replace hw := hw.symm; subst hw
      go_wp2_with fail
      refine (Set_any _ _ _ _ f0 f1 fl1).mono ?_; rintro e w1 ⟨rfl, hw⟩; replace hw := hw.symm; subst hw
      go_wp2_with fail
      refine (Set_any _ _ _ _ (bd1 f0 f1 _ fl1 _).1 (bd1 f0 f1 _ fl1 _).2 fl16).mono ?_; rintro e w1 ⟨rfl, hw⟩; replace hw := hw.symm; subst hw
      go_wp2_with fail
      refine (Sign_any hS' _ _ x0 x1).mono ?_; rintro e w1 ⟨rfl, hw⟩; replace hw := hw.symm; subst hw
      go_wp2_with fail
      refine (Sign_any hS' _ _ y0 y1).mono ?_; rintro e w1 ⟨rfl, hw⟩; replace hw := hw.symm; subst hw
      go_wp2_with fail
      refine (Set_any _ _ _ _ (bd2 f0 f1 _ _ fl1 fl16 _ _).1 (bd2 f0 f1 _ _ fl1 fl16 _ _).2 fl2048).mono ?_; rintro e w1 ⟨rfl, hw⟩; replace hw := hw.symm; subst hw
      go_wp2_with fail
      refine (By_any hS' _ _ _ r0 r1 (bd3 f0 f1 _ _ _ fl1 fl16 fl2048 _ _ _).1 (bd3 f0 f1 _ _ _ fl1 fl16 fl2048 _ _ _).2).mono ?_; rintro e w1 ⟨rfl, hw⟩; replace hw := hw.symm; subst hw
      go_wp2
      go_ret2
      exact ⟨ret_two rfl (by unfold subF; rw [HV.out]; rfl), rfl⟩
    · have hr : (x + 8589934592 - y - c) % 4294967296 = subR 4294967296 x y c := by unfold subR; omega
      go_enter Try.func24, Try.ntmps24
      go_wp2_with fail
      refine (Cut_any hS' _ _ (by omega) (by omega)).mono ?_; rintro e w1 ⟨rfl, hw⟩; replace hw := hw.symm; subst hw
      go_wp2_with fail
      refine (Set_any _ _ _ _ f0 f1 fl1).mono ?_; rintro e w1 ⟨rfl, hw⟩; replace hw := hw.symm; subst hw
      go_wp2_with fail
      refine (Set_any _ _ _ _ (bd1 f0 f1 _ fl1 _).1 (bd1 f0 f1 _ fl1 _).2 fl16).mono ?_; rintro e w1 ⟨rfl, hw⟩; replace hw := hw.symm; subst hw
      go_wp2_with fail
      refine (Sign_any hS' _ _ x0 x1).mono ?_; rintro e w1 ⟨rfl, hw⟩; replace hw := hw.symm; subst hw
      go_wp2_with fail
      refine (Sign_any hS' _ _ y0 y1).mono ?_; rintro e w1 ⟨rfl, hw⟩; replace hw := hw.symm; subst hw
      go_wp2_with fail
      refine (Set_any _ _ _ _ (bd2 f0 f1 _ _ fl1 fl16 _ _).1 (bd2 f0 f1 _ _ fl1 fl16 _ _).2 fl2048).mono ?_; rintro e w1 ⟨rfl, hw⟩; replace hw := hw.symm; subst hw
      go_wp2_with fail
      refine (By_any hS' _ _ _ r0 r1 (bd3 f0 f1 _ _ _ fl1 fl16 fl2048 _ _ _).1 (bd3 f0 f1 _ _ _ fl1 fl16 fl2048 _ _ _).2).mono ?_; rintro e w1 ⟨rfl, hw⟩; replace hw := hw.symm; subst hw
      go_wp2
      go_ret2
      exact ⟨ret_two rfl (by unfold subF; rw [HV.out]; rfl), rfl⟩

theorem logic_ref {s H M sp bt : Int} (hS : Sz s H M sp bt) (r f : Int) (w : World) (r0 : 0 ≤ r) (r1 : r < M) (f0 : 0 ≤ f) (f1 : f < 4294967296) :
    Calls Try.prog 25 #[.int .u64 r, .int .i64 bt, .int .u32 f] w fun e w' =>
      e = .returned (.tuple #[.int .u64 r, .int .u32 (logF H r f)]) ∧ w' = w := by
  go_enter Try.func25, Try.ntmps25
  go_wp2_with fail
  refine (Set_any _ _ _ _ f0 f1 fl1).mono ?_; rintro e w1 ⟨rfl, hw⟩; replace hw := hw.symm; subst hw
  go_wp2_with fail
  refine (Set_any _ _ _ _ (bd1 f0 f1 _ fl1 _).1 (bd1 f0 f1 _ fl1 _).2 fl2048).mono ?_; rintro e w1 ⟨rfl, hw⟩; replace hw := hw.symm; subst hw
  go_wp2_with fail
  refine (Set_any _ _ _ _ (bd2 f0 f1 _ _ fl1 fl2048 _ _).1 (bd2 f0 f1 _ _ fl1 fl2048 _ _).2 fl16).mono ?_; rintro e w1 ⟨rfl, hw⟩; replace hw := hw.symm; subst hw
  go_wp2_with fail
  refine (By_any hS _ _ _ r0 r1 (bd3 f0 f1 _ _ _ fl1 fl2048 fl16 _ _ _).1 (bd3 f0 f1 _ _ _ fl1 fl2048 fl16 _ _ _).2).mono ?_; rintro e w1 ⟨rfl, hw⟩; replace hw := hw.symm; subst hw
  go_wp2
  go_ret2
  exact ⟨rfl, rfl⟩

theorem keep_ref (f was : Int) (w : World) (f0 : 0 ≤ f) (f1 : f < 4294967296) (g0 : 0 ≤ was) (g1 : was < 4294967296) :
    Calls Try.prog 26 #[.int .u32 f, .int .u32 was] w fun e w' => e = .returned (.int .u32 (setF f 1 (hasF was 1))) ∧ w' = w := by
  go_enter Try.func26, Try.ntmps26
  go_wp2_with fail
  refine (Has_any _ _ _ g0 g1 fl1).mono ?_; rintro e w1 ⟨rfl, hw⟩; replace hw := hw.symm; subst hw
  go_wp2_with fail
  refine (Set_any _ _ _ _ f0 f1 fl1).mono ?_; rintro e w1 ⟨rfl, hw⟩; replace hw := hw.symm; subst hw
  go_wp2
  go_ret
  exact ⟨rfl, rfl⟩
end Go.Proofs.Ytllegaigfpfdkaa
