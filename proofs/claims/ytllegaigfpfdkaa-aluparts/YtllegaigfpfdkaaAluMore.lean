/- The walks of the statements AluBack, AluOrders and AluParts: for every input within its kinds each returns true, and the world has at most new blocks. -/
import Derived.Test.YtllegaigfpfdkaaAluAwake
import Derived.Test.YtllegaigfpfdkaaAluRef
namespace Go.Proofs.Ytllegaigfpfdkaa
open Go.ChangeShapes Go.WideShapes Go.ChangeAt Go.RowKit
set_option linter.unusedVariables false


set_option maxRecDepth 20000 in
set_option maxHeartbeats 2000000 in
theorem AluBack_walk (a0 a1 a2 a3 : Int) (w0 : (Lit.int .i64 a0).wf = true) (w1 : (Lit.int .u32 a1).wf = true) (w2 : (Lit.int .u32 a2).wf = true) (w3 : (Lit.int .u32 a3).wf = true) (w : World) :
    Calls Try.prog 6 #[.int .i64 a0, .int .u32 a1, .int .u32 a2, .int .u32 a3] w fun e w' => e = .returned (.bool true) ∧ Grown w w' := by
  have b1 := bounds_u32 w1
  have b2 := bounds_u32 w2
  have b3 := bounds_u32 w3
  have x0 : 0 ≤ a1 := b1.1
  have x1 : a1 < 4294967296 := by omega
  have y0 : 0 ≤ a2 := b2.1
  have y1 : a2 < 4294967296 := by omega
  have f0 : 0 ≤ a3 := b3.1
  have f1 : a3 < 4294967296 := by omega
  clear w0 w1 w2 w3 b1 b2 b3
  cases hk : okSize a0
  · go_enter Try.func6, Try.ntmps6
    go_wp2_with fail
    refine (awake_any _).mono ?_; rintro e w1 ⟨rfl, h1⟩
    go_wp2_with fail
    refine (Do_size _ _ _ _ _ _ hk).mono ?_; rintro e w2 ⟨rfl, h2⟩
    go_wp2
    go_ret
    exact ⟨rfl, Grown.trans h1 h2⟩
  · obtain ⟨H, M, sp, bt, hS⟩ := Sz_of hk
    have m0 : 0 < M := by have := hS.top; omega
    have bx := mod_bd m0 a1
    have bY := mod_bd m0 a2
    have bz := mod_bd m0 0
    have hx := back_or hS bx.1 bx.2 a3
    have hp := back_add hS bx.1 bx.2 bY.1 bY.2 a3
    have hq := back_adc hS bx.1 bx.2 bY.1 bY.2 a3
    have hr := back_xor hS bx.1 bx.2 bY.1 bY.2 a3
    have hs := back_not hS bx.1 bx.2 0 a3
    have ht := back_neg hS bx.1 bx.2 0 a3
    have hu := back_inc hS bx.1 bx.2 0 a3
    have hz : (0 : Int) % M = 0 := by simp
    have dP := lt32 hS (doR_bd hS bx.1 bx.2 bY.1 bY.2 0 a3)
    have dQ := lt32 hS (doR_bd hS bx.1 bx.2 bY.1 bY.2 2 a3)
    have dR := lt32 hS (doR_bd hS bx.1 bx.2 bY.1 bY.2 6 a3)
    have dS := lt32 hS (doR_bd hS bx.1 bx.2 bz.1 bz.2 12 a3)
    have dT := lt32 hS (doR_bd hS bx.1 bx.2 bz.1 bz.2 11 a3)
    have dU := lt32 hS (doR_bd hS bx.1 bx.2 bz.1 bz.2 9 a3)
    rw [hz] at dS dT dU
    have HP : Hid _ := dP
    have HQ : Hid _ := dQ
    have HR : Hid _ := dR
    have HS : Hid _ := dS
    have HT : Hid _ := dT
    have HU : Hid _ := dU
    clear dP dQ dR dS dT dU bx bY bz
    go_enter Try.func6, Try.ntmps6
    go_wp2_with fail
    refine (awake_any _).mono ?_; rintro e w1 ⟨rfl, h1⟩
    go_wp2_with fail
    refine (Do_ok hS _ _ _ _ _ (by decide) (by decide) x0 x1 x0 x1 f0 f1).mono ?_; rintro e w2 ⟨rfl, h2⟩
    go_wp2_with fail
    refine (Do_ok hS _ _ _ _ _ (by decide) (by decide) x0 x1 y0 y1 f0 f1).mono ?_; rintro e w3 ⟨rfl, h3⟩
    go_wp2_with fail
    refine (Do_ok hS _ _ _ _ _ (by decide) (by decide) HP.out.1 HP.out.2 y0 y1 f0 f1).mono ?_; rintro e w4 ⟨rfl, h4⟩
    go_wp2_with fail
    refine (Do_ok hS _ _ _ _ _ (by decide) (by decide) x0 x1 y0 y1 f0 f1).mono ?_; rintro e w5 ⟨rfl, h5⟩
    go_wp2_with fail
    refine (Do_ok hS _ _ _ _ _ (by decide) (by decide) HQ.out.1 HQ.out.2 y0 y1 f0 f1).mono ?_; rintro e w6 ⟨rfl, h6⟩
    go_wp2_with fail
    refine (Do_ok hS _ _ _ _ _ (by decide) (by decide) x0 x1 y0 y1 f0 f1).mono ?_; rintro e w7 ⟨rfl, h7⟩
    go_wp2_with fail
    refine (Do_ok hS _ _ _ _ _ (by decide) (by decide) HR.out.1 HR.out.2 y0 y1 f0 f1).mono ?_; rintro e w8 ⟨rfl, h8⟩
    go_wp2_with fail
    refine (Do_ok hS _ _ _ _ _ (by decide) (by decide) x0 x1 (by decide) (by decide) f0 f1).mono ?_; rintro e w9 ⟨rfl, h9⟩
    go_wp2_with fail
    refine (Do_ok hS _ _ _ _ _ (by decide) (by decide) HS.out.1 HS.out.2 (by decide) (by decide) f0 f1).mono ?_; rintro e w10 ⟨rfl, h10⟩
    go_wp2_with fail
    refine (Do_ok hS _ _ _ _ _ (by decide) (by decide) x0 x1 (by decide) (by decide) f0 f1).mono ?_; rintro e w11 ⟨rfl, h11⟩
    go_wp2_with fail
    refine (Do_ok hS _ _ _ _ _ (by decide) (by decide) HT.out.1 HT.out.2 (by decide) (by decide) f0 f1).mono ?_; rintro e w12 ⟨rfl, h12⟩
    go_wp2_with fail
    refine (Do_ok hS _ _ _ _ _ (by decide) (by decide) x0 x1 (by decide) (by decide) f0 f1).mono ?_; rintro e w13 ⟨rfl, h13⟩
    go_wp2_with fail
    refine (Do_ok hS _ _ _ _ _ (by decide) (by decide) HU.out.1 HU.out.2 (by decide) (by decide) f0 f1).mono ?_; rintro e w14 ⟨rfl, h14⟩
    go_wp2_with fail
    go_ret
    exact ⟨rfl, (Grown.trans (Grown.trans (Grown.trans (Grown.trans (Grown.trans (Grown.trans (Grown.trans (Grown.trans (Grown.trans (Grown.trans (Grown.trans (Grown.trans (Grown.trans h1 h2) h3) h4) h5) h6) h7) h8) h9) h10) h11) h12) h13) h14)⟩

theorem signed_any {s H M sp bt : Int} (hS : Sz s H M sp bt) (x : Int) (w : World) (x0 : 0 ≤ x) (x1 : x < M) :
    Calls Try.prog 15 #[.int .u32 x, .int .i64 s] w fun e w' => e = .returned (.int .i64 (sgv M H x)) ∧ w' = w := by
  rcases hS with ⟨rfl, rfl, rfl, rfl, rfl⟩ | ⟨rfl, rfl, rfl, rfl, rfl⟩ | ⟨rfl, rfl, rfl, rfl, rfl⟩
  all_goals
    go_enter Try.func15, Try.ntmps15
    go_wp2
    go_ret
    refine ⟨ret_int ?_, rfl⟩
    unfold sgv
    first | rw [wrap_i8'] | rw [wrap_i16'] | unfold wrap32
    unfold wrap64
    split <;> omega

set_option maxRecDepth 20000 in
set_option maxHeartbeats 2000000 in
theorem AluOrders_walk (a0 a1 a2 a3 : Int) (w0 : (Lit.int .i64 a0).wf = true) (w1 : (Lit.int .u32 a1).wf = true) (w2 : (Lit.int .u32 a2).wf = true) (w3 : (Lit.int .u32 a3).wf = true) (w : World) :
    Calls Try.prog 7 #[.int .i64 a0, .int .u32 a1, .int .u32 a2, .int .u32 a3] w fun e w' => e = .returned (.bool true) ∧ Grown w w' := by
  have b1 := bounds_u32 w1
  have b2 := bounds_u32 w2
  have b3 := bounds_u32 w3
  have x0 : 0 ≤ a1 := b1.1
  have x1 : a1 < 4294967296 := by omega
  have y0 : 0 ≤ a2 := b2.1
  have y1 : a2 < 4294967296 := by omega
  have f0 : 0 ≤ a3 := b3.1
  have f1 : a3 < 4294967296 := by omega
  clear w0 w1 w2 w3 b1 b2 b3
  cases hk : okSize a0
  · go_enter Try.func7, Try.ntmps7
    go_wp2_with fail
    refine (awake_any _).mono ?_; rintro e w1 ⟨rfl, h1⟩
    go_wp2_with fail
    refine (Do_size _ _ _ _ _ _ hk).mono ?_; rintro e w2 ⟨rfl, h2⟩
    go_wp2_with fail
    refine (Do_size _ _ _ _ _ _ hk).mono ?_; rintro e w3 ⟨rfl, h3⟩
    go_wp2_with fail
    refine (Do_size _ _ _ _ _ _ hk).mono ?_; rintro e w4 ⟨rfl, h4⟩
    go_wp2
    go_ret
    exact ⟨rfl, Grown.trans (Grown.trans (Grown.trans h1 h2) h3) h4⟩
  · obtain ⟨H, M, sp, bt, hS⟩ := Sz_of hk
    have m0 : 0 < M := by have := hS.top; omega
    have bx := mod_bd m0 a1
    have bY := mod_bd m0 a2
    have hx := back_or hS bx.1 bx.2 a3
    have hy := back_or hS bY.1 bY.2 a3
    obtain ⟨hless, hsame, hbelow⟩ := orders hS bx.1 bx.2 bY.1 bY.2 f0 f1
    have HD : Hid _ := doF_bd f0 f1 7 M H (a1 % M) (a2 % M)
    have HX : Hid _ := bx
    have HY : Hid _ := bY
    have hb : (hasF (doF 7 M H (a1 % M) (a2 % M) a3) 128 == hasF (doF 7 M H (a1 % M) (a2 % M) a3) 2048) = !decide (sgv M H (a1 % M) < sgv M H (a2 % M)) := by
      rw [← hbelow]; simp [bne]
    clear bx bY hbelow
    go_enter Try.func7, Try.ntmps7
    go_wp2_with fail
    refine (awake_any _).mono ?_; rintro e w1 ⟨rfl, h1⟩
    go_wp2_with fail
    refine (Do_ok hS _ _ _ _ _ (by decide) (by decide) x0 x1 x0 x1 f0 f1).mono ?_; rintro e w2 ⟨rfl, h2⟩
    go_wp2_with fail
    refine (Do_ok hS _ _ _ _ _ (by decide) (by decide) y0 y1 y0 y1 f0 f1).mono ?_; rintro e w3 ⟨rfl, h3⟩
    go_wp2_with fail
    refine (Do_ok hS _ _ _ _ _ (by decide) (by decide) x0 x1 y0 y1 f0 f1).mono ?_; rintro e w4 ⟨rfl, h4⟩
    go_wp2_with fail
    refine (Has_any _ _ _ HD.out.1 HD.out.2 fl1).mono ?_; rintro e w5 ⟨rfl, hw⟩; replace hw := hw.symm; subst hw
    go_wp2_with fail
    refine (Has_any _ _ _ HD.out.1 HD.out.2 fl64).mono ?_; rintro e w5 ⟨rfl, hw⟩; replace hw := hw.symm; subst hw
    go_wp2_with fail
    refine (Has_any _ _ _ HD.out.1 HD.out.2 fl128).mono ?_; rintro e w5 ⟨rfl, hw⟩; replace hw := hw.symm; subst hw
    go_wp2_with fail
    refine (Has_any _ _ _ HD.out.1 HD.out.2 fl2048).mono ?_; rintro e w5 ⟨rfl, hw⟩; replace hw := hw.symm; subst hw
    go_wp2_with fail
    refine (signed_any hS _ _ HX.out.1 HX.out.2).mono ?_; rintro e w5 ⟨rfl, hw⟩; replace hw := hw.symm; subst hw
    go_wp2_with fail
    refine (signed_any hS _ _ HY.out.1 HY.out.2).mono ?_; rintro e w5 ⟨rfl, hw⟩; replace hw := hw.symm; subst hw
    go_wp2
    go_ret
    exact ⟨rfl, Grown.trans (Grown.trans (Grown.trans h1 h2) h3) h4⟩

theorem Do4 (op a b f : Int) (w : World) (o0 : 0 ≤ op) (o1 : op ≤ 12) (a0 : 0 ≤ a) (a1 : a < 4294967296) (b0 : 0 ≤ b) (b1 : b < 4294967296) (f0 : 0 ≤ f) (f1 : f < 4294967296) :
    Calls Try.prog 10 #[.int .i64 op, .int .i64 4, .int .u32 a, .int .u32 b, .int .u32 f] w fun e w' =>
      e = .returned (.tuple #[.int .u32 (doR op 4294967296 a b f), .int .u32 (doF op 4294967296 2147483648 a b f), .int .i64 0]) ∧ Grown w w' := by
  have h := Do_ok sz4 op a b f w o0 o1 a0 a1 b0 b1 f0 f1
  rw [Int.emod_eq_of_lt a0 a1, Int.emod_eq_of_lt b0 b1] at h
  exact h

theorem Do2 (op a b f : Int) (w : World) (o0 : 0 ≤ op) (o1 : op ≤ 12) (a0 : 0 ≤ a) (a1 : a < 65536) (b0 : 0 ≤ b) (b1 : b < 65536) (f0 : 0 ≤ f) (f1 : f < 4294967296) :
    Calls Try.prog 10 #[.int .i64 op, .int .i64 2, .int .u32 a, .int .u32 b, .int .u32 f] w fun e w' =>
      e = .returned (.tuple #[.int .u32 (doR op 65536 a b f), .int .u32 (doF op 65536 32768 a b f), .int .i64 0]) ∧ Grown w w' := by
  have h := Do_ok sz2 op a b f w o0 o1 a0 (by omega) b0 (by omega) f0 f1
  rw [Int.emod_eq_of_lt a0 a1, Int.emod_eq_of_lt b0 b1] at h
  exact h

set_option maxRecDepth 20000 in
set_option maxHeartbeats 2000000 in
theorem AluParts_walk (a0 a1 a2 : Int) (w0 : (Lit.int .u32 a0).wf = true) (w1 : (Lit.int .u32 a1).wf = true) (w2 : (Lit.int .u32 a2).wf = true) (w : World) :
    Calls Try.prog 8 #[.int .u32 a0, .int .u32 a1, .int .u32 a2] w fun e w' => e = .returned (.bool true) ∧ Grown w w' := by
  have b1 := bounds_u32 w0
  have b2 := bounds_u32 w1
  have b3 := bounds_u32 w2
  have x0 : 0 ≤ a0 := b1.1
  have x1 : a0 < 4294967296 := by omega
  have y0 : 0 ≤ a1 := b2.1
  have y1 : a1 < 4294967296 := by omega
  have f0 : 0 ≤ a2 := b3.1
  have f1 : a2 < 4294967296 := by omega
  clear w0 w1 w2 b1 b2 b3
  have HF : Hid _ := doF_bd f0 f1 0 65536 32768 (a0 % 65536) (a1 % 65536)
  have HG : Hid _ := doF_bd HF.out.1 HF.out.2 2 65536 32768 (a0 / 65536) (a1 / 65536)
  have HI : Hid _ := doF_bd f0 f1 0 4294967296 2147483648 a0 a1
  have HJ : Hid _ := doF_bd f0 f1 5 65536 32768 (a0 % 65536) (a1 % 65536)
  have HK : Hid _ := doF_bd HJ.out.1 HJ.out.2 3 65536 32768 (a0 / 65536) (a1 / 65536)
  have HL : Hid _ := doF_bd f0 f1 5 4294967296 2147483648 a0 a1
  obtain ⟨s1, s2, s3⟩ := parts_sum x0 x1 y0 y1 f0 f1
  obtain ⟨d1, d2, d3⟩ := parts_diff x0 x1 y0 y1 f0 f1
  go_enter Try.func8, Try.ntmps8
  go_wp2_with fail
  refine (awake_any _).mono ?_; rintro e w1 ⟨rfl, h1⟩
  go_wp2_with fail
  refine (Do_ok sz2 _ _ _ _ _ (by decide) (by decide) x0 x1 y0 y1 f0 f1).mono ?_; rintro e w2 ⟨rfl, h2⟩
  go_wp2_with fail
  refine (Do2 _ _ _ _ _ (by decide) (by decide) (by omega) (by omega) (by omega) (by omega) HF.out.1 HF.out.2).mono ?_; rintro e w3 ⟨rfl, h3⟩
  go_wp2_with fail
  refine (Do4 _ _ _ _ _ (by decide) (by decide) x0 x1 y0 y1 f0 f1).mono ?_; rintro e w4 ⟨rfl, h4⟩
  go_wp2_with fail
  refine (Has_any _ _ _ HI.out.1 HI.out.2 fl1).mono ?_; rintro e w9 ⟨rfl, hw⟩; replace hw := hw.symm; subst hw
  go_wp2_with fail
  refine (Has_any _ _ _ HG.out.1 HG.out.2 fl1).mono ?_; rintro e w9 ⟨rfl, hw⟩; replace hw := hw.symm; subst hw
  go_wp2_with fail
  refine (Has_any _ _ _ HI.out.1 HI.out.2 fl2048).mono ?_; rintro e w9 ⟨rfl, hw⟩; replace hw := hw.symm; subst hw
  go_wp2_with fail
  refine (Has_any _ _ _ HG.out.1 HG.out.2 fl2048).mono ?_; rintro e w9 ⟨rfl, hw⟩; replace hw := hw.symm; subst hw
  go_wp2_with fail
  refine (Do_ok sz2 _ _ _ _ _ (by decide) (by decide) x0 x1 y0 y1 f0 f1).mono ?_; rintro e w5 ⟨rfl, h5⟩
  go_wp2_with fail
  refine (Do2 _ _ _ _ _ (by decide) (by decide) (by omega) (by omega) (by omega) (by omega) HJ.out.1 HJ.out.2).mono ?_; rintro e w6 ⟨rfl, h6⟩
  go_wp2_with fail
  refine (Do4 _ _ _ _ _ (by decide) (by decide) x0 x1 y0 y1 f0 f1).mono ?_; rintro e w7 ⟨rfl, h7⟩
  go_wp2_with fail
  refine (Has_any _ _ _ HL.out.1 HL.out.2 fl1).mono ?_; rintro e w9 ⟨rfl, hw⟩; replace hw := hw.symm; subst hw
  go_wp2_with fail
  refine (Has_any _ _ _ HK.out.1 HK.out.2 fl1).mono ?_; rintro e w9 ⟨rfl, hw⟩; replace hw := hw.symm; subst hw
  go_wp2_with fail
  refine (Has_any _ _ _ HL.out.1 HL.out.2 fl2048).mono ?_; rintro e w9 ⟨rfl, hw⟩; replace hw := hw.symm; subst hw
  go_wp2_with fail
  refine (Has_any _ _ _ HK.out.1 HK.out.2 fl2048).mono ?_; rintro e w9 ⟨rfl, hw⟩; replace hw := hw.symm; subst hw
  go_wp2
  go_ret
  exact ⟨rfl, Grown.trans (Grown.trans (Grown.trans (Grown.trans (Grown.trans (Grown.trans h1 h2) h3) h4) h5) h6) h7⟩
end Go.Proofs.Ytllegaigfpfdkaa
