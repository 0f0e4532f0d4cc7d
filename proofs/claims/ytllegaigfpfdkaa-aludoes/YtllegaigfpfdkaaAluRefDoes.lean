/- The contract of the document's answer Do for layer 1: for every input within its kinds it returns the same result, flags and error as alu.Do is proved to return, and the world stays. -/
import Derived.Test.YtllegaigfpfdkaaAluDoes
import Derived.Test.YtllegaigfpfdkaaAluRefDo
namespace Go.Proofs.Ytllegaigfpfdkaa
open Go.ChangeShapes Go.WideShapes Go.ChangeAt Go.RowKit
set_option linter.unusedVariables false


set_option maxRecDepth 20000 in
set_option maxHeartbeats 1000000 in
theorem Do_ref_not {s H M sp bt : Int} (hS : Sz s H M sp bt) (a b f : Int) (w : World) (a0 : 0 ≤ a) (a1 : a < 4294967296) (b0 : 0 ≤ b) (b1 : b < 4294967296) (f0 : 0 ≤ f) (f1 : f < 4294967296) :
    Calls Try.prog 11 #[.int .i64 12, .int .i64 s, .int .u32 a, .int .u32 b, .int .u32 f] w fun e w' =>
      e = .returned (.tuple #[.int .u32 (M - 1 - a % M), .int .u32 f, .int .i64 0]) ∧ w' = w := by
  have hS' := hS
  rcases hS with ⟨rfl, rfl, rfl, rfl, rfl⟩ | ⟨rfl, rfl, rfl, rfl, rfl⟩ | ⟨rfl, rfl, rfl, rfl, rfl⟩
  · have HN : Hid ((255 - a) % 256 = 256 - 1 - a % 256) := (by omega : (255 - a) % 256 = 256 - 1 - a % 256)
    go_enter Try.func11, Try.ntmps11
    go_wp2_with fail
    refine (Bits_ok hS' _).mono ?_; rintro e w1 ⟨rfl, hw⟩; replace hw := hw.symm; subst hw
    go_wp2_with fail
    refine (Cut_any hS' _ _ a0 (by omega)).mono ?_; rintro e w1 ⟨rfl, hw⟩; replace hw := hw.symm; subst hw
    go_wp2_with fail
    refine (Cut_any hS' _ _ b0 (by omega)).mono ?_; rintro e w1 ⟨rfl, hw⟩; replace hw := hw.symm; subst hw
    go_wp2_with fail
    refine (Cut_any hS' _ _ (by omega) (by omega)).mono ?_; rintro e w1 ⟨rfl, hw⟩; replace hw := hw.symm; subst hw
    go_wp2
    go_ret3
    exact ⟨ret_three HN.out rfl rfl, rfl⟩
  · have HN : Hid ((65535 - a) % 65536 = 65536 - 1 - a % 65536) := (by omega : (65535 - a) % 65536 = 65536 - 1 - a % 65536)
    go_enter Try.func11, Try.ntmps11
    go_wp2_with fail
    refine (Bits_ok hS' _).mono ?_; rintro e w1 ⟨rfl, hw⟩; replace hw := hw.symm; subst hw
    go_wp2_with fail
    refine (Cut_any hS' _ _ a0 (by omega)).mono ?_; rintro e w1 ⟨rfl, hw⟩; replace hw := hw.symm; subst hw
    go_wp2_with fail
    refine (Cut_any hS' _ _ b0 (by omega)).mono ?_; rintro e w1 ⟨rfl, hw⟩; replace hw := hw.symm; subst hw
    go_wp2_with fail
    refine (Cut_any hS' _ _ (by omega) (by omega)).mono ?_; rintro e w1 ⟨rfl, hw⟩; replace hw := hw.symm; subst hw
    go_wp2
    go_ret3
    exact ⟨ret_three HN.out rfl rfl, rfl⟩
  · have HN : Hid ((4294967295 - a) % 4294967296 = 4294967296 - 1 - a % 4294967296) := (by omega : (4294967295 - a) % 4294967296 = 4294967296 - 1 - a % 4294967296)
    go_enter Try.func11, Try.ntmps11
    go_wp2_with fail
    refine (Bits_ok hS' _).mono ?_; rintro e w1 ⟨rfl, hw⟩; replace hw := hw.symm; subst hw
    go_wp2_with fail
    refine (Cut_any hS' _ _ a0 (by omega)).mono ?_; rintro e w1 ⟨rfl, hw⟩; replace hw := hw.symm; subst hw
    go_wp2_with fail
    refine (Cut_any hS' _ _ b0 (by omega)).mono ?_; rintro e w1 ⟨rfl, hw⟩; replace hw := hw.symm; subst hw
    go_wp2_with fail
    refine (Cut_any hS' _ _ (by omega) (by omega)).mono ?_; rintro e w1 ⟨rfl, hw⟩; replace hw := hw.symm; subst hw
    go_wp2
    go_ret3
    exact ⟨ret_three HN.out rfl rfl, rfl⟩

set_option maxRecDepth 20000 in
set_option maxHeartbeats 4000000 in
theorem Do_ref_ok {s H M sp bt : Int} (hS : Sz s H M sp bt) (op a b f : Int) (w : World) (o0 : 0 ≤ op) (o1 : op ≤ 12) (a0 : 0 ≤ a) (a1 : a < 4294967296) (b0 : 0 ≤ b) (b1 : b < 4294967296) (f0 : 0 ≤ f) (f1 : f < 4294967296) :
    Calls Try.prog 11 #[.int .i64 op, .int .i64 s, .int .u32 a, .int .u32 b, .int .u32 f] w fun e w' =>
      e = .returned (.tuple #[.int .u32 (doR op M (a % M) (b % M) f), .int .u32 (doF op M H (a % M) (b % M) f), .int .i64 0]) ∧ w' = w := by
  have mt : M ≤ 4294967296 := hS.top.1
  have m0 : 0 < M := by have := hS.top; omega
  have m1 : 1 < M := by have := hS.top; omega
  have x0 : 0 ≤ a % M := (mod_bd m0 a).1
  have x1 : a % M < M := (mod_bd m0 a).2
  have y0 : 0 ≤ b % M := (mod_bd m0 b).1
  have y1 : b % M < M := (mod_bd m0 b).2
  have c0 : 0 ≤ f % 2 := by omega
  have c1 : f % 2 ≤ 1 := by omega
  have nb : (bt == 0) = false := by have : bt ≠ 0 := by unfold Sz at hS; omega
                                    simp [this]
  have hB := bits64 x0 (by omega) y0 (by omega : b % M < 4294967296)
  have hL := bits_lt hS x0 x1 y0 y1
  have hD := doF_is f0 f1 M H (a % M) (b % M)
  have cases : op = 0 ∨ op = 1 ∨ op = 2 ∨ op = 3 ∨ op = 4 ∨ op = 5 ∨ op = 6 ∨ op = 7 ∨ op = 8 ∨ op = 9 ∨ op = 10 ∨ op = 11 ∨ op = 12 := by omega
  rcases cases with rfl | rfl | rfl | rfl | rfl | rfl | rfl | rfl | rfl | rfl | rfl | rfl | rfl
  · have HF : Hid _ := hD.1
    have r0 : 0 ≤ addR M (a % M) (b % M) 0 := (mod_bd m0 _).1
    have r1 : addR M (a % M) (b % M) 0 < 4294967296 := by have := (mod_bd m0 (a % M + b % M + 0)).2; unfold addR; omega
    clear hD hB hL
    go_enter Try.func11, Try.ntmps11
    go_wp2_with fail
    refine (Bits_ok hS _).mono ?_; rintro e w1 ⟨rfl, hw⟩; replace hw := hw.symm; subst hw
    go_wp2_with fail
    refine (Cut_any hS _ _ a0 (by omega)).mono ?_; rintro e w1 ⟨rfl, hw⟩; replace hw := hw.symm; subst hw
    go_wp2_with fail
    refine (Cut_any hS _ _ b0 (by omega)).mono ?_; rintro e w1 ⟨rfl, hw⟩; replace hw := hw.symm; subst hw
    go_wp2_with fail
    refine (add_ref hS _ _ _ _ _ (by omega) (by omega) (by omega) (by omega) (by omega) (by omega) f0 f1).mono ?_; rintro e w1 ⟨rfl, hw⟩; replace hw := hw.symm; subst hw
    go_wp2
    go_ret3
    exact ⟨ret_three rfl HF.out.symm rfl, rfl⟩
  · have HF : Hid _ := hD.2.2.2.2.2.1
    have hb : bits .or .u64 (a % M) (b % M) = bits .or .u32 (a % M) (b % M) := hB.1
    have r0 := hL.1.1
    have r1 : bits .or .u32 (a % M) (b % M) < M := hL.1.2
    clear hD hB hL
    go_enter Try.func11, Try.ntmps11
    go_wp2_with fail
    refine (Bits_ok hS _).mono ?_; rintro e w1 ⟨rfl, hw⟩; replace hw := hw.symm; subst hw
    go_wp2_with fail
    refine (Cut_any hS _ _ a0 (by omega)).mono ?_; rintro e w1 ⟨rfl, hw⟩; replace hw := hw.symm; subst hw
    go_wp2_with fail
    refine (Cut_any hS _ _ b0 (by omega)).mono ?_; rintro e w1 ⟨rfl, hw⟩; replace hw := hw.symm; subst hw
    go_wp2_with fail
    refine (logic_ref hS _ _ _ r0 r1 f0 f1).mono ?_; rintro e w1 ⟨rfl, hw⟩; replace hw := hw.symm; subst hw
    go_wp2
    go_ret3
    exact ⟨ret_three rfl HF.out.symm rfl, rfl⟩
  · have HF : Hid _ := hD.2.1
    have r0 : 0 ≤ addR M (a % M) (b % M) (f % 2) := (mod_bd m0 _).1
    have r1 : addR M (a % M) (b % M) (f % 2) < 4294967296 := by have := (mod_bd m0 (a % M + b % M + f % 2)).2; unfold addR; omega
    clear hD hB hL
    go_enter Try.func11, Try.ntmps11
    go_wp2_with fail
    refine (Bits_ok hS _).mono ?_; rintro e w1 ⟨rfl, hw⟩; replace hw := hw.symm; subst hw
    go_wp2_with fail
    refine (Cut_any hS _ _ a0 (by omega)).mono ?_; rintro e w1 ⟨rfl, hw⟩; replace hw := hw.symm; subst hw
    go_wp2_with fail
    refine (Cut_any hS _ _ b0 (by omega)).mono ?_; rintro e w1 ⟨rfl, hw⟩; replace hw := hw.symm; subst hw
    go_wp2_with fail
    refine (add_ref hS _ _ _ _ _ (by omega) (by omega) (by omega) (by omega) (by omega) (by omega) f0 f1).mono ?_; rintro e w1 ⟨rfl, hw⟩; replace hw := hw.symm; subst hw
    go_wp2
    go_ret3
    exact ⟨ret_three rfl HF.out.symm rfl, rfl⟩
  · have HF : Hid _ := hD.2.2.2.1
    have r0 : 0 ≤ subR M (a % M) (b % M) (f % 2) := (mod_bd m0 _).1
    have r1 : subR M (a % M) (b % M) (f % 2) < 4294967296 := by have := (mod_bd m0 (a % M - b % M - f % 2)).2; unfold subR; omega
    clear hD hB hL
    go_enter Try.func11, Try.ntmps11
    go_wp2_with fail
    refine (Bits_ok hS _).mono ?_; rintro e w1 ⟨rfl, hw⟩; replace hw := hw.symm; subst hw
    go_wp2_with fail
    refine (Cut_any hS _ _ a0 (by omega)).mono ?_; rintro e w1 ⟨rfl, hw⟩; replace hw := hw.symm; subst hw
    go_wp2_with fail
    refine (Cut_any hS _ _ b0 (by omega)).mono ?_; rintro e w1 ⟨rfl, hw⟩; replace hw := hw.symm; subst hw
    go_wp2_with fail
    refine (sub_ref hS _ _ _ _ _ (by omega) (by omega) (by omega) (by omega) (by omega) (by omega) f0 f1).mono ?_; rintro e w1 ⟨rfl, hw⟩; replace hw := hw.symm; subst hw
    go_wp2
    go_ret3
    exact ⟨ret_three rfl HF.out.symm rfl, rfl⟩
  · have HF : Hid _ := hD.2.2.2.2.2.2.1
    have hb : bits .and .u64 (a % M) (b % M) = bits .and .u32 (a % M) (b % M) := hB.2.2
    have r0 := hL.2.2.1
    have r1 : bits .and .u32 (a % M) (b % M) < M := hL.2.2.2
    clear hD hB hL
    go_enter Try.func11, Try.ntmps11
    go_wp2_with fail
    refine (Bits_ok hS _).mono ?_; rintro e w1 ⟨rfl, hw⟩; replace hw := hw.symm; subst hw
    go_wp2_with fail
    refine (Cut_any hS _ _ a0 (by omega)).mono ?_; rintro e w1 ⟨rfl, hw⟩; replace hw := hw.symm; subst hw
    go_wp2_with fail
    refine (Cut_any hS _ _ b0 (by omega)).mono ?_; rintro e w1 ⟨rfl, hw⟩; replace hw := hw.symm; subst hw
    go_wp2_with fail
    refine (logic_ref hS _ _ _ r0 r1 f0 f1).mono ?_; rintro e w1 ⟨rfl, hw⟩; replace hw := hw.symm; subst hw
    go_wp2
    go_ret3
    exact ⟨ret_three rfl HF.out.symm rfl, rfl⟩
  · have HF : Hid _ := hD.2.2.1
    have r0 : 0 ≤ subR M (a % M) (b % M) 0 := (mod_bd m0 _).1
    have r1 : subR M (a % M) (b % M) 0 < 4294967296 := by have := (mod_bd m0 (a % M - b % M - 0)).2; unfold subR; omega
    clear hD hB hL
    go_enter Try.func11, Try.ntmps11
    go_wp2_with fail
    refine (Bits_ok hS _).mono ?_; rintro e w1 ⟨rfl, hw⟩; replace hw := hw.symm; subst hw
    go_wp2_with fail
    refine (Cut_any hS _ _ a0 (by omega)).mono ?_; rintro e w1 ⟨rfl, hw⟩; replace hw := hw.symm; subst hw
    go_wp2_with fail
    refine (Cut_any hS _ _ b0 (by omega)).mono ?_; rintro e w1 ⟨rfl, hw⟩; replace hw := hw.symm; subst hw
    go_wp2_with fail
    refine (sub_ref hS _ _ _ _ _ (by omega) (by omega) (by omega) (by omega) (by omega) (by omega) f0 f1).mono ?_; rintro e w1 ⟨rfl, hw⟩; replace hw := hw.symm; subst hw
    go_wp2
    go_ret3
    exact ⟨ret_three rfl HF.out.symm rfl, rfl⟩
  · have HF : Hid _ := hD.2.2.2.2.2.2.2.1
    have hb : bits .xor .u64 (a % M) (b % M) = bits .xor .u32 (a % M) (b % M) := hB.2.1
    have r0 := hL.2.1.1
    have r1 : bits .xor .u32 (a % M) (b % M) < M := hL.2.1.2
    clear hD hB hL
    go_enter Try.func11, Try.ntmps11
    go_wp2_with fail
    refine (Bits_ok hS _).mono ?_; rintro e w1 ⟨rfl, hw⟩; replace hw := hw.symm; subst hw
    go_wp2_with fail
    refine (Cut_any hS _ _ a0 (by omega)).mono ?_; rintro e w1 ⟨rfl, hw⟩; replace hw := hw.symm; subst hw
    go_wp2_with fail
    refine (Cut_any hS _ _ b0 (by omega)).mono ?_; rintro e w1 ⟨rfl, hw⟩; replace hw := hw.symm; subst hw
    go_wp2_with fail
    refine (logic_ref hS _ _ _ r0 r1 f0 f1).mono ?_; rintro e w1 ⟨rfl, hw⟩; replace hw := hw.symm; subst hw
    go_wp2
    go_ret3
    exact ⟨ret_three rfl HF.out.symm rfl, rfl⟩
  · have HF : Hid _ := hD.2.2.2.2.1
    have r0 : 0 ≤ subR M (a % M) (b % M) 0 := (mod_bd m0 _).1
    have r1 : subR M (a % M) (b % M) 0 < 4294967296 := by have := (mod_bd m0 (a % M - b % M - 0)).2; unfold subR; omega
    clear hD hB hL
    go_enter Try.func11, Try.ntmps11
    go_wp2_with fail
    refine (Bits_ok hS _).mono ?_; rintro e w1 ⟨rfl, hw⟩; replace hw := hw.symm; subst hw
    go_wp2_with fail
    refine (Cut_any hS _ _ a0 (by omega)).mono ?_; rintro e w1 ⟨rfl, hw⟩; replace hw := hw.symm; subst hw
    go_wp2_with fail
    refine (Cut_any hS _ _ b0 (by omega)).mono ?_; rintro e w1 ⟨rfl, hw⟩; replace hw := hw.symm; subst hw
    go_wp2_with fail
    refine (sub_ref hS _ _ _ _ _ (by omega) (by omega) (by omega) (by omega) (by omega) (by omega) f0 f1).mono ?_; rintro e w1 ⟨rfl, hw⟩; replace hw := hw.symm; subst hw
    go_wp2
    go_ret3
    exact ⟨ret_three rfl HF.out.symm rfl, rfl⟩
  · have HF : Hid _ := hD.2.2.2.2.2.2.2.2.1
    have hb : bits .and .u64 (a % M) (b % M) = bits .and .u32 (a % M) (b % M) := hB.2.2
    have r0 := hL.2.2.1
    have r1 : bits .and .u32 (a % M) (b % M) < M := hL.2.2.2
    clear hD hB hL
    go_enter Try.func11, Try.ntmps11
    go_wp2_with fail
    refine (Bits_ok hS _).mono ?_; rintro e w1 ⟨rfl, hw⟩; replace hw := hw.symm; subst hw
    go_wp2_with fail
    refine (Cut_any hS _ _ a0 (by omega)).mono ?_; rintro e w1 ⟨rfl, hw⟩; replace hw := hw.symm; subst hw
    go_wp2_with fail
    refine (Cut_any hS _ _ b0 (by omega)).mono ?_; rintro e w1 ⟨rfl, hw⟩; replace hw := hw.symm; subst hw
    go_wp2_with fail
    refine (logic_ref hS _ _ _ r0 r1 f0 f1).mono ?_; rintro e w1 ⟨rfl, hw⟩; replace hw := hw.symm; subst hw
    go_wp2
    go_ret3
    exact ⟨ret_three rfl HF.out.symm rfl, rfl⟩
  · have HF : Hid _ := hD.2.2.2.2.2.2.2.2.2.1
    have r0 : 0 ≤ addR M (a % M) 1 0 := (mod_bd m0 _).1
    have r1 : addR M (a % M) 1 0 < 4294967296 := by have := (mod_bd m0 (a % M + 1 + 0)).2; unfold addR; omega
    clear hD hB hL
    go_enter Try.func11, Try.ntmps11
    go_wp2_with fail
    refine (Bits_ok hS _).mono ?_; rintro e w1 ⟨rfl, hw⟩; replace hw := hw.symm; subst hw
    go_wp2_with fail
    refine (Cut_any hS _ _ a0 (by omega)).mono ?_; rintro e w1 ⟨rfl, hw⟩; replace hw := hw.symm; subst hw
    go_wp2_with fail
    refine (Cut_any hS _ _ b0 (by omega)).mono ?_; rintro e w1 ⟨rfl, hw⟩; replace hw := hw.symm; subst hw
    go_wp2_with fail
    refine (add_ref hS _ _ _ _ _ (by omega) (by omega) (by omega) (by omega) (by omega) (by omega) f0 f1).mono ?_; rintro e w1 ⟨rfl, hw⟩; replace hw := hw.symm; subst hw
    go_wp2_with fail
    refine (keep_ref _ _ _ (addF_bd f0 f1 _ _ _ _ _).1 (addF_bd f0 f1 _ _ _ _ _).2 f0 f1).mono ?_; rintro e w1 ⟨rfl, hw⟩; replace hw := hw.symm; subst hw
    go_wp2
    go_ret3
    exact ⟨ret_three rfl HF.out.symm rfl, rfl⟩
  · have HF : Hid _ := hD.2.2.2.2.2.2.2.2.2.2.1
    have r0 : 0 ≤ subR M (a % M) 1 0 := (mod_bd m0 _).1
    have r1 : subR M (a % M) 1 0 < 4294967296 := by have := (mod_bd m0 (a % M - 1 - 0)).2; unfold subR; omega
    clear hD hB hL
    go_enter Try.func11, Try.ntmps11
    go_wp2_with fail
    refine (Bits_ok hS _).mono ?_; rintro e w1 ⟨rfl, hw⟩; replace hw := hw.symm; subst hw
    go_wp2_with fail
    refine (Cut_any hS _ _ a0 (by omega)).mono ?_; rintro e w1 ⟨rfl, hw⟩; replace hw := hw.symm; subst hw
    go_wp2_with fail
    refine (Cut_any hS _ _ b0 (by omega)).mono ?_; rintro e w1 ⟨rfl, hw⟩; replace hw := hw.symm; subst hw
    go_wp2_with fail
    refine (sub_ref hS _ _ _ _ _ (by omega) (by omega) (by omega) (by omega) (by omega) (by omega) f0 f1).mono ?_; rintro e w1 ⟨rfl, hw⟩; replace hw := hw.symm; subst hw
    go_wp2_with fail
    refine (keep_ref _ _ _ (subF_bd f0 f1 _ _ _ _ _).1 (subF_bd f0 f1 _ _ _ _ _).2 f0 f1).mono ?_; rintro e w1 ⟨rfl, hw⟩; replace hw := hw.symm; subst hw
    go_wp2
    go_ret3
    exact ⟨ret_three rfl HF.out.symm rfl, rfl⟩
  · have HF : Hid _ := hD.2.2.2.2.2.2.2.2.2.2.2.1
    have r0 : 0 ≤ subR M 0 (a % M) 0 := (mod_bd m0 _).1
    have r1 : subR M 0 (a % M) 0 < 4294967296 := by have := (mod_bd m0 (0 - a % M - 0)).2; unfold subR; omega
    clear hD hB hL
    go_enter Try.func11, Try.ntmps11
    go_wp2_with fail
    refine (Bits_ok hS _).mono ?_; rintro e w1 ⟨rfl, hw⟩; replace hw := hw.symm; subst hw
    go_wp2_with fail
    refine (Cut_any hS _ _ a0 (by omega)).mono ?_; rintro e w1 ⟨rfl, hw⟩; replace hw := hw.symm; subst hw
    go_wp2_with fail
    refine (Cut_any hS _ _ b0 (by omega)).mono ?_; rintro e w1 ⟨rfl, hw⟩; replace hw := hw.symm; subst hw
    go_wp2_with fail
    refine (sub_ref hS _ _ _ _ _ (by omega) (by omega) (by omega) (by omega) (by omega) (by omega) f0 f1).mono ?_; rintro e w1 ⟨rfl, hw⟩; replace hw := hw.symm; subst hw
    go_wp2
    go_ret3
    exact ⟨ret_three rfl HF.out.symm rfl, rfl⟩
  · exact Do_ref_not hS a b f w a0 a1 b0 b1 f0 f1

set_option maxRecDepth 20000 in
theorem Do_ref_size (op s a b f : Int) (w : World) (hk : okSize s = false) :
    Calls Try.prog 11 #[.int .i64 op, .int .i64 s, .int .u32 a, .int .u32 b, .int .u32 f] w fun e w' =>
      e = .returned (.tuple #[.int .u32 0, .int .u32 0, .int .i64 2]) ∧ w' = w := by
  go_enter Try.func11, Try.ntmps11
  go_wp2_with fail
  refine (Bits_no _ _ hk).mono ?_; rintro e w1 ⟨rfl, hw⟩; replace hw := hw.symm; subst hw
  go_wp2
  go_ret3
  exact ⟨rfl, rfl⟩

set_option maxRecDepth 20000 in
theorem Do_ref_op {s H M sp bt : Int} (hS : Sz s H M sp bt) (op a b f : Int) (w : World) (ho : op < 0 ∨ 12 < op) :
    Calls Try.prog 11 #[.int .i64 op, .int .i64 s, .int .u32 a, .int .u32 b, .int .u32 f] w fun e w' =>
      e = .returned (.tuple #[.int .u32 0, .int .u32 0, .int .i64 3]) ∧ w' = w := by
  have nb : (bt == 0) = false := by have : bt ≠ 0 := by unfold Sz at hS; omega
                                    simp [this]
  rcases ho with ho | ho
  · have g1 : decide (op < 0) = true := by simpa using ho
    go_enter Try.func11, Try.ntmps11
    go_wp2_with fail
    refine (Bits_ok hS _).mono ?_; rintro e w1 ⟨rfl, hw⟩; replace hw := hw.symm; subst hw
    go_wp2
    go_ret3
    exact ⟨rfl, rfl⟩
  · have g1 : decide (op < 0) = false := by simp; omega
    have g2 : decide (12 < op) = true := by simpa using ho
    go_enter Try.func11, Try.ntmps11
    go_wp2_with fail
    refine (Bits_ok hS _).mono ?_; rintro e w1 ⟨rfl, hw⟩; replace hw := hw.symm; subst hw
    go_wp2
    go_ret3
    exact ⟨rfl, rfl⟩
end Go.Proofs.Ytllegaigfpfdkaa
