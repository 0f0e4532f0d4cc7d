/- Contracts of the document's answer to adjustments (drawloomref03.Adjust): for every input within its kinds it returns what is named, and the world stays. -/
import Derived.Test.YtecfkgnffhiemaaMulRefDaa
namespace Go.Proofs.Ytecfkgnffhiemaa
open Go.ChangeShapes Go.WideShapes Go.ChangeAt Go.RowKit
set_option linter.unusedVariables false

theorem two_ways (b : Bool) : b = false ∨ b = true := by cases b <;> simp

theorem off_g {al : Int} (h : 9 < al % 16) (v : Bool) : dOff al v = true := by unfold dOff; rw [decide_eq_true h]; rfl
theorem off_n {al : Int} (h : ¬ 9 < al % 16) (v : Bool) : dOff al v = v := by unfold dOff; rw [decide_eq_false h]; rfl
theorem hi_a {al : Int} (h : 153 < al) (v : Bool) : dHi al v = true := by unfold dHi; rw [decide_eq_true h]; rfl
theorem hi_b {al : Int} (h : ¬ 153 < al) (v : Bool) : dHi al v = v := by unfold dHi; rw [decide_eq_false h]; rfl

theorem daa0_says (al f Y B : Int) (w : World) (a0 : 0 ≤ al) (a1 : al < 256) (f0 : 0 ≤ f) (f1 : f < 4294967296) :
    Calls Try.prog 37 #[.bool false, .int .u64 al, .int .u32 f] w fun e w' => e = .returned (.tuple #[.int .u64 (adX 0 al Y B (dOff al (hasF f 16)) (dHi al (hasF f 1))), .int .u32 (setF (setF f 16 (adA 0 (dOff al (hasF f 16)))) 1 (adC 0 al (dOff al (hasF f 16)) (dHi al (hasF f 1))))]) ∧ w' = w := by
  by_cases hg : 9 < al % 16
  · by_cases h153 : 153 < al
    · have eo : dOff al (hasF f 16) = true := off_g hg _
      have eh : dHi al (hasF f 1) = true := hi_a h153 _
      rw [eo, eh]
      refine (daa_fGA al f w a0 a1 f0 f1 hg h153).mono ?_
      rintro e w1 ⟨rfl, hw⟩
      have ex : (al + 6 + 96) % 256 = adX 0 al Y B true true := (by omega : (al + 6 + 96) % 256 = (al + 6 + 96) % 256)
      have ec : (true) = adC 0 al true true := rfl
      exact ⟨ret_xf ex (by rw [← ec]; rfl), hw⟩
    · rcases two_ways (hasF f 1) with hc | hc
      · have eo : dOff al (hasF f 16) = true := off_g hg _
        have eh : dHi al (hasF f 1) = false := (hi_b h153 _).trans hc
        rw [eo, eh]
        refine (daa_fGBF al f w a0 a1 f0 f1 hg h153 hc).mono ?_
        rintro e w1 ⟨rfl, hw⟩
        have ex : (al + 6) % 256 = adX 0 al Y B true false := (by omega : (al + 6) % 256 = (al + 6 + 0) % 256)
        have ec : (false) = adC 0 al true false := rfl
        exact ⟨ret_xf ex (by rw [← ec]; rfl), hw⟩
      · have eo : dOff al (hasF f 16) = true := off_g hg _
        have eh : dHi al (hasF f 1) = true := (hi_b h153 _).trans hc
        rw [eo, eh]
        refine (daa_fGBT al f w a0 a1 f0 f1 hg h153 hc).mono ?_
        rintro e w1 ⟨rfl, hw⟩
        have ex : (al + 6 + 96) % 256 = adX 0 al Y B true true := (by omega : (al + 6 + 96) % 256 = (al + 6 + 96) % 256)
        have ec : (true) = adC 0 al true true := rfl
        exact ⟨ret_xf ex (by rw [← ec]; rfl), hw⟩
  · rcases two_ways (hasF f 16) with hv | hv
    · by_cases h153 : 153 < al
      · have eo : dOff al (hasF f 16) = false := (off_n hg _).trans hv
        have eh : dHi al (hasF f 1) = true := hi_a h153 _
        rw [eo, eh]
        refine (daa_fNFA al f w a0 a1 f0 f1 hg hv h153).mono ?_
        rintro e w1 ⟨rfl, hw⟩
        have ex : (al + 96) % 256 = adX 0 al Y B false true := (by omega : (al + 96) % 256 = (al + 0 + 96) % 256)
        have ec : (true) = adC 0 al false true := rfl
        exact ⟨ret_xf ex (by rw [← ec]; rfl), hw⟩
      · rcases two_ways (hasF f 1) with hc | hc
        · have eo : dOff al (hasF f 16) = false := (off_n hg _).trans hv
          have eh : dHi al (hasF f 1) = false := (hi_b h153 _).trans hc
          rw [eo, eh]
          refine (daa_fNFBF al f w a0 a1 f0 f1 hg hv h153 hc).mono ?_
          rintro e w1 ⟨rfl, hw⟩
          have ex : al = adX 0 al Y B false false := (by omega : al = (al + 0 + 0) % 256)
          have ec : (false) = adC 0 al false false := rfl
          exact ⟨ret_xf ex (by rw [← ec]; rfl), hw⟩
        · have eo : dOff al (hasF f 16) = false := (off_n hg _).trans hv
          have eh : dHi al (hasF f 1) = true := (hi_b h153 _).trans hc
          rw [eo, eh]
          refine (daa_fNFBT al f w a0 a1 f0 f1 hg hv h153 hc).mono ?_
          rintro e w1 ⟨rfl, hw⟩
          have ex : (al + 96) % 256 = adX 0 al Y B false true := (by omega : (al + 96) % 256 = (al + 0 + 96) % 256)
          have ec : (true) = adC 0 al false true := rfl
          exact ⟨ret_xf ex (by rw [← ec]; rfl), hw⟩
    · by_cases h153 : 153 < al
      · have eo : dOff al (hasF f 16) = true := (off_n hg _).trans hv
        have eh : dHi al (hasF f 1) = true := hi_a h153 _
        rw [eo, eh]
        refine (daa_fNTA al f w a0 a1 f0 f1 hg hv h153).mono ?_
        rintro e w1 ⟨rfl, hw⟩
        have ex : (al + 6 + 96) % 256 = adX 0 al Y B true true := (by omega : (al + 6 + 96) % 256 = (al + 6 + 96) % 256)
        have ec : (true) = adC 0 al true true := rfl
        exact ⟨ret_xf ex (by rw [← ec]; rfl), hw⟩
      · rcases two_ways (hasF f 1) with hc | hc
        · have eo : dOff al (hasF f 16) = true := (off_n hg _).trans hv
          have eh : dHi al (hasF f 1) = false := (hi_b h153 _).trans hc
          rw [eo, eh]
          refine (daa_fNTBF al f w a0 a1 f0 f1 hg hv h153 hc).mono ?_
          rintro e w1 ⟨rfl, hw⟩
          have ex : (al + 6) % 256 = adX 0 al Y B true false := (by omega : (al + 6) % 256 = (al + 6 + 0) % 256)
          have ec : (false) = adC 0 al true false := rfl
          exact ⟨ret_xf ex (by rw [← ec]; rfl), hw⟩
        · have eo : dOff al (hasF f 16) = true := (off_n hg _).trans hv
          have eh : dHi al (hasF f 1) = true := (hi_b h153 _).trans hc
          rw [eo, eh]
          refine (daa_fNTBT al f w a0 a1 f0 f1 hg hv h153 hc).mono ?_
          rintro e w1 ⟨rfl, hw⟩
          have ex : (al + 6 + 96) % 256 = adX 0 al Y B true true := (by omega : (al + 6 + 96) % 256 = (al + 6 + 96) % 256)
          have ec : (true) = adC 0 al true true := rfl
          exact ⟨ret_xf ex (by rw [← ec]; rfl), hw⟩

theorem daa1_says (al f Y B : Int) (w : World) (a0 : 0 ≤ al) (a1 : al < 256) (f0 : 0 ≤ f) (f1 : f < 4294967296) :
    Calls Try.prog 37 #[.bool true, .int .u64 al, .int .u32 f] w fun e w' => e = .returned (.tuple #[.int .u64 (adX 1 al Y B (dOff al (hasF f 16)) (dHi al (hasF f 1))), .int .u32 (setF (setF f 16 (adA 1 (dOff al (hasF f 16)))) 1 (adC 1 al (dOff al (hasF f 16)) (dHi al (hasF f 1))))]) ∧ w' = w := by
  by_cases hg : 9 < al % 16
  · by_cases h153 : 153 < al
    · have eo : dOff al (hasF f 16) = true := off_g hg _
      have eh : dHi al (hasF f 1) = true := hi_a h153 _
      rw [eo, eh]
      refine (daa_tGA al f w a0 a1 f0 f1 hg h153).mono ?_
      rintro e w1 ⟨rfl, hw⟩
      have ex : (al - 6 - 96) % 256 = adX 1 al Y B true true := (by omega : (al - 6 - 96) % 256 = (al - 6 - 96) % 256)
      have ec : (true) = adC 1 al true true := (by simp : (true) = (true || (true && decide (al < 6))))
      exact ⟨ret_xf ex (by rw [← ec]; rfl), hw⟩
    · rcases two_ways (hasF f 1) with hc | hc
      · have eo : dOff al (hasF f 16) = true := off_g hg _
        have eh : dHi al (hasF f 1) = false := (hi_b h153 _).trans hc
        rw [eo, eh]
        refine (daa_tGBF al f w a0 a1 f0 f1 hg h153 hc).mono ?_
        rintro e w1 ⟨rfl, hw⟩
        have ex : (al - 6) % 256 = adX 1 al Y B true false := (by omega : (al - 6) % 256 = (al - 6 - 0) % 256)
        have ec : (decide (al < 6)) = adC 1 al true false := (by simp : (decide (al < 6)) = (false || (true && decide (al < 6))))
        exact ⟨ret_xf ex (by rw [← ec]; rfl), hw⟩
      · have eo : dOff al (hasF f 16) = true := off_g hg _
        have eh : dHi al (hasF f 1) = true := (hi_b h153 _).trans hc
        rw [eo, eh]
        refine (daa_tGBT al f w a0 a1 f0 f1 hg h153 hc).mono ?_
        rintro e w1 ⟨rfl, hw⟩
        have ex : (al - 6 - 96) % 256 = adX 1 al Y B true true := (by omega : (al - 6 - 96) % 256 = (al - 6 - 96) % 256)
        have ec : (true) = adC 1 al true true := (by simp : (true) = (true || (true && decide (al < 6))))
        exact ⟨ret_xf ex (by rw [← ec]; rfl), hw⟩
  · rcases two_ways (hasF f 16) with hv | hv
    · by_cases h153 : 153 < al
      · have eo : dOff al (hasF f 16) = false := (off_n hg _).trans hv
        have eh : dHi al (hasF f 1) = true := hi_a h153 _
        rw [eo, eh]
        refine (daa_tNFA al f w a0 a1 f0 f1 hg hv h153).mono ?_
        rintro e w1 ⟨rfl, hw⟩
        have ex : (al - 96) % 256 = adX 1 al Y B false true := (by omega : (al - 96) % 256 = (al - 0 - 96) % 256)
        have ec : (true) = adC 1 al false true := (by simp : (true) = (true || (false && decide (al < 6))))
        exact ⟨ret_xf ex (by rw [← ec]; rfl), hw⟩
      · rcases two_ways (hasF f 1) with hc | hc
        · have eo : dOff al (hasF f 16) = false := (off_n hg _).trans hv
          have eh : dHi al (hasF f 1) = false := (hi_b h153 _).trans hc
          rw [eo, eh]
          refine (daa_tNFBF al f w a0 a1 f0 f1 hg hv h153 hc).mono ?_
          rintro e w1 ⟨rfl, hw⟩
          have ex : al = adX 1 al Y B false false := (by omega : al = (al - 0 - 0) % 256)
          have ec : (false) = adC 1 al false false := (by simp : (false) = (false || (false && decide (al < 6))))
          exact ⟨ret_xf ex (by rw [← ec]; rfl), hw⟩
        · have eo : dOff al (hasF f 16) = false := (off_n hg _).trans hv
          have eh : dHi al (hasF f 1) = true := (hi_b h153 _).trans hc
          rw [eo, eh]
          refine (daa_tNFBT al f w a0 a1 f0 f1 hg hv h153 hc).mono ?_
          rintro e w1 ⟨rfl, hw⟩
          have ex : (al - 96) % 256 = adX 1 al Y B false true := (by omega : (al - 96) % 256 = (al - 0 - 96) % 256)
          have ec : (true) = adC 1 al false true := (by simp : (true) = (true || (false && decide (al < 6))))
          exact ⟨ret_xf ex (by rw [← ec]; rfl), hw⟩
    · by_cases h153 : 153 < al
      · have eo : dOff al (hasF f 16) = true := (off_n hg _).trans hv
        have eh : dHi al (hasF f 1) = true := hi_a h153 _
        rw [eo, eh]
        refine (daa_tNTA al f w a0 a1 f0 f1 hg hv h153).mono ?_
        rintro e w1 ⟨rfl, hw⟩
        have ex : (al - 6 - 96) % 256 = adX 1 al Y B true true := (by omega : (al - 6 - 96) % 256 = (al - 6 - 96) % 256)
        have ec : (true) = adC 1 al true true := (by simp : (true) = (true || (true && decide (al < 6))))
        exact ⟨ret_xf ex (by rw [← ec]; rfl), hw⟩
      · rcases two_ways (hasF f 1) with hc | hc
        · have eo : dOff al (hasF f 16) = true := (off_n hg _).trans hv
          have eh : dHi al (hasF f 1) = false := (hi_b h153 _).trans hc
          rw [eo, eh]
          refine (daa_tNTBF al f w a0 a1 f0 f1 hg hv h153 hc).mono ?_
          rintro e w1 ⟨rfl, hw⟩
          have ex : (al - 6) % 256 = adX 1 al Y B true false := (by omega : (al - 6) % 256 = (al - 6 - 0) % 256)
          have ec : (decide (al < 6)) = adC 1 al true false := (by simp : (decide (al < 6)) = (false || (true && decide (al < 6))))
          exact ⟨ret_xf ex (by rw [← ec]; rfl), hw⟩
        · have eo : dOff al (hasF f 16) = true := (off_n hg _).trans hv
          have eh : dHi al (hasF f 1) = true := (hi_b h153 _).trans hc
          rw [eo, eh]
          refine (daa_tNTBT al f w a0 a1 f0 f1 hg hv h153 hc).mono ?_
          rintro e w1 ⟨rfl, hw⟩
          have ex : (al - 6 - 96) % 256 = adX 1 al Y B true true := (by omega : (al - 6 - 96) % 256 = (al - 6 - 96) % 256)
          have ec : (true) = adC 1 al true true := (by simp : (true) = (true || (true && decide (al < 6))))
          exact ⟨ret_xf ex (by rw [← ec]; rfl), hw⟩
end Go.Proofs.Ytecfkgnffhiemaa
