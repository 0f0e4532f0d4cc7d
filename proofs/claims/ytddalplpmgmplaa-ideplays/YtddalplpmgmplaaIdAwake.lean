/- The contract of awake. -/
import Derived.Test.YtddalplpmgmplaaIdDisk
namespace Go.Proofs.Ytddalplpmgmplaa
open Go.ChangeShapes Go.WideShapes Go.ChangeAt Go.RowKit
set_option linter.unusedVariables false

def da0 : Id := id0 (1024 / 512) (dB 1024 (dskS 0))
def da1 : Id := da0.o 6 1 64
def da2 : Id := da1.o 3 1 1
def da3 : Id := da2.o 7 1 32
def da4 : Id := da3.i 7 1
theorem da0_ok : da0.Ok := idN_ok (by decide) (fun j _ => dskS_byt 0 j)
theorem da1_ok : da1.Ok := da0_ok.o _ _ _
theorem da2_ok : da2.Ok := da1_ok.o _ _ _
theorem da3_ok : da3.Ok := da2_ok.o _ _ _
theorem da4_ok : da4.Ok := da3_ok.i _ _
theorem da0_w : da0.work = 0 := rfl
theorem da1_w : da1.work ≤ 4 := by have := o_work da0_ok 6 1 64; rw [da0_w] at this; exact this
theorem da2_w : da2.work ≤ 8 := by have := o_work da1_ok 3 1 1; have := da1_w; unfold da2; omega
theorem da3_7 : da3.iV 7 1 = 88 := by decide +kernel
theorem da4_0 : da4.iV 0 2 = 8737 := by decide +kernel
theorem ck61 : ck 6 1 = 0 := by decide
theorem ck31 : ck 3 1 = 0 := by decide
theorem ck71 : ck 7 1 = 0 := by decide
theorem ck02 : ck 0 2 = 0 := by decide
theorem ck91 : ck 9 1 = 1 := by decide
theorem sec2 : secN 2 = 2 := by decide

set_option maxRecDepth 20000 in
set_option maxHeartbeats 1000000 in
theorem awake_ok (w : World) : Calls Try.prog 4 #[] w fun e w' => e = .returned (.bool true) ∧ Kp noB w w' := by
  have HD : Hid _ := lDisk_any w 2 0 (by decide) (by decide) byt0
  rw [sec2] at HD
  simp only [Nat.reduceMul] at HD
  have HM : ∀ w, (Instr.makeSlice 22 (.int .i64 511) (.int .i64 511)).run Try.prog w = .ok (.slice (some ⟨w.heap.size, 0, none⟩) 511 511) (w.alloc (.cells (made8 511) 5)) := fun w => make8 w 511 (by decide)
  have HX : Hid (∀ w (g : Nat), Calls Try.prog 5 #[.slice (some ⟨g, 0, none⟩) 511 511] w _) := fun w g => new_no w (some ⟨g, 0, none⟩) 511 511 (by decide) (by decide)
  have HO : Hid (∀ {w : World} {S : Nat → Prop} {B : Nat} (_ : IW w S B da0), Calls _ _ _ _ _) := fun h => wOut h da0_ok 6 1 64 (by decide) (by decide) (by rw [da0_w]; decide)
  have HP : Hid (∀ {w : World} {S : Nat → Prop} {B : Nat} (_ : IW w S B da1), Calls _ _ _ _ _) := fun h => wOut h da1_ok 3 1 1 (by decide) (by decide) (by have := da1_w; omega)
  have HQ : Hid (∀ {w : World} {S : Nat → Prop} {B : Nat} (_ : IW w S B da2), Calls _ _ _ _ _) := fun h => wOut h da2_ok 7 1 32 (by decide) (by decide) (by have := da2_w; omega)
  have HI : Hid (∀ {w : World} {S : Nat → Prop} {B : Nat} (_ : IW w S B da3), Calls _ _ _ _ _) := fun h => wIn h da3_ok 7 1
  have HJ : Hid (∀ {w : World} {S : Nat → Prop} {B : Nat} (_ : IW w S B da4), Calls _ _ _ _ _) := fun h => wIn h da4_ok 0 2
  have HZ : Hid (∀ (w : World) (a : Addr), Calls Try.prog 7 #[.pointer (some a), .int .i64 9, .int .i64 1, .int .u32 0] w _) := fun w a => out_no w (some a) 9 1 0 (by rw [chk_ck]; decide)
  simp only [ck61, ck31, ck71, ck02, da3_7, da4_0, chk_ck, ck91] at HO HP HQ HI HJ HZ
  go_enter Try.func4, Try.ntmps4
  go_wp2_with fail
  refine Calls.mono HD.out ?_; rintro e w0 ⟨rfl, r0, k0⟩
  have HN : Hid _ := wNew w0 _ 1024 1024 _ r0.at (by decide) (by decide)
  have K0 : Hid (Kp noB w w0) := k0
  clear HD r0 k0
  go_wp2_with fail
  refine Calls.mono HN.out ?_; rintro e w1 ⟨rfl, S1, h1, n1, k1⟩
  have B1 : Hid (Bs w w1 S1) := ⟨fun k g => Nat.le_trans K0.out.size (n1 k g), K0.out.trans k1⟩
  have h1' : Hid (IW w1 S1 w0.heap.size da0) := h1
  clear HN h1 n1 k1 K0
  have hm := HM w1
  go_wp2_with fail
  refine Calls.mono (HX.out _ _) ?_; rintro e w2 ⟨rfl, rfl⟩
  have h2 := h1'.out.keep (Kp.alloc noB w1 (.cells (made8 511) 5))
  have B2 : Hid (Bs w (w1.alloc (.cells (made8 511) 5)) S1) := B1.out.keep (Kp.alloc noB w1 _)
  clear B1 h1' hm HM HX
  generalize w1.alloc (.cells (made8 511) 5) = w2 at *
  generalize w0.heap.size = B at *
  go_wp2_with fail
  refine Calls.mono (HO.out h2) ?_; rintro e w3 ⟨rfl, S3, h3, n3⟩
  have B3 : Hid (Bs w w3 S3) := B2.out.next n3
  clear B2 n3 h2
  go_wp2_with fail
  refine Calls.mono (HP.out h3) ?_; rintro e w4 ⟨rfl, S4, h4, n4⟩
  have B4 : Hid (Bs w w4 S4) := B3.out.next n4
  clear B3 n4 h3
  go_wp2_with fail
  refine Calls.mono (HQ.out h4) ?_; rintro e w5 ⟨rfl, S5, h5, n5⟩
  have B5 : Hid (Bs w w5 S5) := B4.out.next n5
  clear B4 n5 h4
  go_wp2_with fail
  refine Calls.mono (HI.out h5) ?_; rintro e w6 ⟨rfl, S6, h6, n6⟩
  have B6 : Hid (Bs w w6 S6) := B5.out.next n6
  clear B5 n6 h5
  go_wp2_with fail
  refine Calls.mono (HJ.out h6) ?_; rintro e w7 ⟨rfl, S7, h7, n7⟩
  have B7 : Hid (Bs w w7 S7) := B6.out.next n7
  clear B6 n7 h6 h7
  go_wp2_with fail
  refine Calls.mono (HZ.out _ _) ?_; rintro e w8 ⟨rfl, hw⟩; replace hw := hw.symm; subst hw
  go_wp2
  go_ret
  exact ⟨rfl, B7.out.kp⟩
end Go.Proofs.Ytddalplpmgmplaa
