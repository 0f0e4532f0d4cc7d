/- The contract of awake. -/
import Derived.Test.YtafnlaamfpjolaaUtW
namespace Go.Proofs.Ytafnlaamfpjolaa
open Go.ChangeShapes Go.WideShapes Go.ChangeAt Go.RowKit
set_option linter.unusedVariables false

def ua1 : U := u0.out 0 65
def ua2 : U := ua1.hush
def ua3 : U := ua2.push 7
def ua4 : U := ua3.push 8
def ua5 : U := ua4.inn 5
def ua6 : U := ua5.inn 0
theorem by_of {v : Int} (h : 0 ≤ v) (g : v < 256) : By v := ⟨h, g⟩
theorem ua1_ok : ua1.Ok := u0_ok.out 0 (by_of (by decide) (by decide))
theorem ua2_ok : ua2.Ok := ua1_ok.hush
theorem ua3_ok : ua3.Ok := ua2_ok.push (by_of (by decide) (by decide))
theorem ua4_ok : ua4.Ok := ua3_ok.push (by_of (by decide) (by decide))
theorem ua5_ok : ua5.Ok := ua4_ok.inn 5
theorem ua4_5 : ua4.inV 5 = 99 := by decide +kernel
theorem ua5_0 : ua5.inV 0 = 7 := by decide +kernel
theorem ua1_sent : ua1.sent = [65] := by decide +kernel

set_option maxRecDepth 20000 in
set_option maxHeartbeats 1000000 in
theorem awake_ok (w : World) : Calls Try.prog 8 #[] w fun e w' => e = .returned (.bool true) ∧ Kp noB w w' := by
  have HN : Hid _ := wNew w
  have HO : Hid (∀ {w : World} {S : Nat → Prop} {B : Nat} (_ : UW w S B u0), Calls _ _ _ _ _) := fun h => wOut h u0_ok 0 65 (by_of (by decide) (by decide)) (by decide)
  have HS : Hid (∀ {w : World} {S : Nat → Prop} {B : Nat} (_ : UW w S B ua1), Calls _ _ _ _ _) := fun h => wSent h
  have HP : Hid (∀ {w : World} {S : Nat → Prop} {B : Nat} (_ : UW w S B ua2), Calls _ _ _ _ _) := fun h => wPush h ua2_ok 7
  have HQ : Hid (∀ {w : World} {S : Nat → Prop} {B : Nat} (_ : UW w S B ua3), Calls _ _ _ _ _) := fun h => wPush h ua3_ok 8
  have HI : Hid (∀ {w : World} {S : Nat → Prop} {B : Nat} (_ : UW w S B ua4), Calls _ _ _ _ _) := fun h => wIn h ua4_ok 5
  have HJ : Hid (∀ {w : World} {S : Nat → Prop} {B : Nat} (_ : UW w S B ua5), Calls _ _ _ _ _) := fun h => wIn h ua5_ok 0
  have HX : Hid (∀ (w : World) (a : Addr), Calls Try.prog 11 #[.pointer (some a), .int .i64 8, .int .u8 0] w _) := fun w a => out_no w (some a) 8 0 (by omega)
  simp only [show (0 ≤ (0 : Int) ∧ (0 : Int) < 8) = True from by simp, show (0 ≤ (5 : Int) ∧ (5 : Int) < 8) = True from by simp, if_true, ua4_5, ua5_0, ua1_sent, List.length_singleton] at HO HI HJ HS
  go_enter Try.func8, Try.ntmps8
  go_wp2_with fail
  refine Calls.mono HN.out ?_; rintro e w0 ⟨B, S0, rfl, h0, n0, k0⟩
  have q0 : Hid (Bs w w0 S0) := ⟨n0, k0⟩
  clear n0 k0
  go_wp2_with fail
  refine Calls.mono (HO.out h0) ?_; rintro e w1 ⟨rfl, S1, h1, n1⟩
  have q1 : Hid (Bs w w1 S1) := q0.out.next n1
  clear q0 n1 h0
  go_wp2_with fail
  refine Calls.mono (HS.out h1) ?_; rintro e w2 ⟨p, c, rfl, S2, h2, n2, a2, _⟩
  have q2 : Hid (Bs w w2 S2) := q1.out.next n2
  have A2 : Hid (Aside w2 S2 (.slice p 1 c) [65]) := a2
  clear q1 n2 h1 a2
  go_wp2_with fail
  refine Calls.mono (HP.out h2) ?_; rintro e w3 ⟨rfl, S3, h3, n3⟩
  have q3 : Hid (Bs w w3 S3) := q2.out.next n3
  have A3 : Hid (Aside w3 S3 (.slice p 1 c) [65]) := A2.out.next n3
  clear q2 n3 h2 A2
  go_wp2_with fail
  refine Calls.mono (HQ.out h3) ?_; rintro e w4 ⟨rfl, S4, h4, n4⟩
  have q4 : Hid (Bs w w4 S4) := q3.out.next n4
  have A4 : Hid (Aside w4 S4 (.slice p 1 c) [65]) := A3.out.next n4
  clear q3 n4 h3 A3
  go_wp2_with fail
  refine Calls.mono (HI.out h4) ?_; rintro e w5 ⟨rfl, S5, h5, n5⟩
  have q5 : Hid (Bs w w5 S5) := q4.out.next n5
  have A5 : Hid (Aside w5 S5 (.slice p 1 c) [65]) := A4.out.next n5
  clear q4 n5 h4 A4
  go_wp2_with fail
  refine Calls.mono (HJ.out h5) ?_; rintro e w6 ⟨rfl, S6, h6, n6⟩
  have q6 : Hid (Bs w w6 S6) := q5.out.next n6
  have A6 := A5.out.next n6
  clear q5 n6 h5 A5
  obtain ⟨g, rfl, cl, _⟩ := A6.own.at (i := 0) (by decide)
  replace cl : w6.cell? ⟨g, 0, none⟩ = some (.int .u8 65) := cl
  clear A6
  go_wp2_with fail
  refine Calls.mono (HX.out _ _) ?_; rintro e w7 ⟨rfl, hw⟩; replace hw := hw.symm; subst hw
  go_wp2
  go_ret
  exact ⟨rfl, q6.out.kp⟩
end Go.Proofs.Ytafnlaamfpjolaa
