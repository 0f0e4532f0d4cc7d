/- The contract of muldiv.Adjust, whole: for every input within its kinds it returns what is named, and the world has at most new blocks. -/
import Derived.Test.YtecfkgnffhiemabMulAdjB
import Derived.Test.YtecfkgnffhiemabMulSum
import Derived.Test.YtecfkgnffhiemabMulDif
import Derived.Test.YtecfkgnffhiemabMulSng
import Derived.Test.YtecfkgnffhiemabMulPart
namespace Go.Proofs.Ytecfkgnffhiemab
open Go.ChangeShapes Go.WideShapes Go.ChangeAt Go.RowKit
set_option linter.unusedVariables false

/-- the result, of bytes A, Y and B -/
def adX (op A Y B : Int) (o h : Bool) : Int :=
  if op = 0 then (A + flg o 6 + flg h 96) % 256 else if op = 1 then (A - flg o 6 - flg h 96) % 256
  else if op = 2 then (A + flg o 6) % 256 % 16 else if op = 3 then (A + flg o 250) % 256 % 16
  else if op = 4 then A % B else (A + Y * B) % 256
def adY (op A Y B : Int) (o : Bool) : Int :=
  if op = 0 then Y else if op = 1 then Y else if op = 2 then (Y + flg o 1) % 256 else if op = 3 then (Y + flg o 255) % 256
  else if op = 4 then A / B else 0
def adA (op : Int) (o : Bool) : Bool := if op < 4 then o else false
def adC (op A : Int) (o h : Bool) : Bool := if op = 0 then h else if op = 1 then h || (o && decide (A < 6)) else if op < 4 then o else false

theorem adX_bd {op A Y B : Int} (o h : Bool) (o0 : 0 ≤ op) (o1 : op ≤ 5) (A0 : 0 ≤ A) (A1 : A < 256) (B0 : 0 ≤ B) (B1 : B < 256) (hB : op = 4 → B ≠ 0) : 0 ≤ adX op A Y B o h ∧ adX op A Y B o h < 256 := by
  unfold adX
  by_cases h4 : op = 4
  · subst h4
    have b := mod_bd (M := B) (by have := hB rfl; omega) A
    simp only [show ¬ ((4 : Int) = 0) by decide, show ¬ ((4 : Int) = 1) by decide, show ¬ ((4 : Int) = 2) by decide, show ¬ ((4 : Int) = 3) by decide, if_false, if_true]
    omega
  · repeat' split
    all_goals omega

theorem adY_bd {op A Y B : Int} (o : Bool) (o0 : 0 ≤ op) (o1 : op ≤ 5) (A0 : 0 ≤ A) (A1 : A < 256) (Y0 : 0 ≤ Y) (Y1 : Y < 256) (B0 : 0 ≤ B) : 0 ≤ adY op A Y B o ∧ adY op A Y B o < 256 := by
  have q0 : 0 ≤ A / B := Int.ediv_nonneg A0 B0
  have q1 : A / B ≤ A := Int.ediv_le_self _ A0
  unfold adY
  repeat' split
  all_goals omega

theorem ret_ag {x y x' y' : Int} {a c a' c' : Bool} (h1 : x = x') (h2 : y = y') (h3 : a = a') (h4 : c = c') : Ending.returned (.agg #[.int .u8 x, .int .u8 y, .bool a, .bool c]) = .returned (.agg #[.int .u8 x', .int .u8 y', .bool a', .bool c']) := by rw [h1, h2, h3, h4]

theorem sum_says (al ah bs : Int) (af cf : Bool) (w : World) (a0 : 0 ≤ al) (a1 : al < 256) :
    Calls Try.prog 22 #[.agg #[.int .u8 al, .int .u8 ah, .bool af, .bool cf]] w fun e w' => e = .returned (.agg #[.int .u8 (adX 0 al ah bs (dOff al af) (dHi al cf)), .int .u8 (adY 0 al ah bs (dOff al af)), .bool (adA 0 (dOff al af)), .bool (adC 0 al (dOff al af) (dHi al cf))]) ∧ Grown w w' := by
  cases ho : dOff al af <;> cases hh : dHi al cf
  · refine (packedSum_ff al ah af cf w a0 a1 ho hh).mono ?_
    rintro e w1 ⟨rfl, hg⟩
    exact ⟨ret_ag (by show al = (al + 0 + 0) % 256; omega) rfl rfl rfl, hg⟩
  · refine (packedSum_ft al ah af cf w a0 a1 ho hh).mono ?_
    rintro e w1 ⟨rfl, hg⟩
    exact ⟨ret_ag (by show (al + 96) % 256 = (al + 0 + 96) % 256; omega) rfl rfl rfl, hg⟩
  · refine (packedSum_tf al ah af cf w a0 a1 ho hh).mono ?_
    rintro e w1 ⟨rfl, hg⟩
    exact ⟨ret_ag (by show (al + 6) % 256 = (al + 6 + 0) % 256; omega) rfl rfl rfl, hg⟩
  · refine (packedSum_tt al ah af cf w a0 a1 ho hh).mono ?_
    rintro e w1 ⟨rfl, hg⟩
    exact ⟨ret_ag rfl rfl rfl rfl, hg⟩

theorem diff_says (al ah bs : Int) (af cf : Bool) (w : World) (a0 : 0 ≤ al) (a1 : al < 256) :
    Calls Try.prog 24 #[.agg #[.int .u8 al, .int .u8 ah, .bool af, .bool cf]] w fun e w' => e = .returned (.agg #[.int .u8 (adX 1 al ah bs (dOff al af) (dHi al cf)), .int .u8 (adY 1 al ah bs (dOff al af)), .bool (adA 1 (dOff al af)), .bool (adC 1 al (dOff al af) (dHi al cf))]) ∧ Grown w w' := by
  cases ho : dOff al af <;> cases hh : dHi al cf
  · refine (packedDiff_ff al ah af cf w a0 a1 ho hh).mono ?_
    rintro e w1 ⟨rfl, hg⟩
    exact ⟨ret_ag (by show al = (al - 0 - 0) % 256; omega) rfl rfl rfl, hg⟩
  · refine (packedDiff_ft al ah af cf w a0 a1 ho hh).mono ?_
    rintro e w1 ⟨rfl, hg⟩
    exact ⟨ret_ag (by show (al - 96) % 256 = (al - 0 - 96) % 256; omega) rfl rfl rfl, hg⟩
  · by_cases hb : al < 6
    · refine (packedDiff_tfb al ah af cf w a0 a1 ho hh hb).mono ?_
      rintro e w1 ⟨rfl, hg⟩
      exact ⟨ret_ag (by show (al - 6) % 256 = (al - 6 - 0) % 256; omega) rfl rfl (by show true = (false || (true && decide (al < 6))); rw [decide_eq_true hb]; rfl), hg⟩
    · refine (packedDiff_tfn al ah af cf w a0 a1 ho hh hb).mono ?_
      rintro e w1 ⟨rfl, hg⟩
      exact ⟨ret_ag (by show (al - 6) % 256 = (al - 6 - 0) % 256; omega) rfl rfl (by show false = (false || (true && decide (al < 6))); rw [decide_eq_false hb]; rfl), hg⟩
  · refine (packedDiff_tt al ah af cf w a0 a1 ho hh).mono ?_
    rintro e w1 ⟨rfl, hg⟩
    exact ⟨ret_ag rfl rfl rfl rfl, hg⟩

theorem up_says (al ah bs : Int) (af cf : Bool) (w : World) (a0 : 0 ≤ al) (a1 : al < 256) (h0 : 0 ≤ ah) (h1 : ah < 256) :
    Calls Try.prog 26 #[.agg #[.int .u8 al, .int .u8 ah, .bool af, .bool cf], .int .i8 6, .int .i8 1] w fun e w' => e = .returned (.agg #[.int .u8 (adX 2 al ah bs (dOff al af) (dHi al cf)), .int .u8 (adY 2 al ah bs (dOff al af)), .bool (adA 2 (dOff al af)), .bool (adC 2 al (dOff al af) (dHi al cf))]) ∧ Grown w w' := by
  cases ho : dOff al af
  · refine (single_pf al ah af cf w a0 a1 h0 h1 ho).mono ?_
    rintro e w1 ⟨rfl, hg⟩
    exact ⟨ret_ag (by show al % 16 = (al + 0) % 256 % 16; omega) (by show ah = (ah + 0) % 256; omega) rfl rfl, hg⟩
  · refine (single_pt al ah af cf w a0 a1 h0 h1 ho).mono ?_
    rintro e w1 ⟨rfl, hg⟩
    exact ⟨ret_ag rfl rfl rfl rfl, hg⟩

theorem down_says (al ah bs : Int) (af cf : Bool) (w : World) (a0 : 0 ≤ al) (a1 : al < 256) (h0 : 0 ≤ ah) (h1 : ah < 256) :
    Calls Try.prog 26 #[.agg #[.int .u8 al, .int .u8 ah, .bool af, .bool cf], .int .i8 (-6), .int .i8 (-1)] w fun e w' => e = .returned (.agg #[.int .u8 (adX 3 al ah bs (dOff al af) (dHi al cf)), .int .u8 (adY 3 al ah bs (dOff al af)), .bool (adA 3 (dOff al af)), .bool (adC 3 al (dOff al af) (dHi al cf))]) ∧ Grown w w' := by
  cases ho : dOff al af
  · refine (single_mf al ah af cf w a0 a1 h0 h1 ho).mono ?_
    rintro e w1 ⟨rfl, hg⟩
    exact ⟨ret_ag (by show al % 16 = (al + 0) % 256 % 16; omega) (by show ah = (ah + 0) % 256; omega) rfl rfl, hg⟩
  · refine (single_mt al ah af cf w a0 a1 h0 h1 ho).mono ?_
    rintro e w1 ⟨rfl, hg⟩
    exact ⟨ret_ag rfl rfl rfl rfl, hg⟩

/-- what muldiv.Adjust answers -/
def rX (op al ah b f : Int) : Int := adX op (al % 256) (ah % 256) (b % 256) (dOff (al % 256) (hasF f 16)) (dHi (al % 256) (hasF f 1))
def rY (op al ah b f : Int) : Int := adY op (al % 256) (ah % 256) (b % 256) (dOff (al % 256) (hasF f 16))
def rF (op al ah b f : Int) : Int := adF (rX op al ah b f) (adA op (dOff (al % 256) (hasF f 16))) (adC op (al % 256) (dOff (al % 256) (hasF f 16)) (dHi (al % 256) (hasF f 1))) f

theorem rX_bd {op : Int} (al ah b f : Int) (o0 : 0 ≤ op) (o1 : op ≤ 5) (hb : op = 4 → b % 256 ≠ 0) : 0 ≤ rX op al ah b f ∧ rX op al ah b f < 256 :=
  adX_bd _ _ o0 o1 (mod_bd (by decide) _).1 (mod_bd (by decide) _).2 (mod_bd (by decide) _).1 (mod_bd (by decide) _).2 hb
theorem rY_bd {op : Int} (al ah b f : Int) (o0 : 0 ≤ op) (o1 : op ≤ 5) : 0 ≤ rY op al ah b f ∧ rY op al ah b f < 256 :=
  adY_bd _ o0 o1 (mod_bd (by decide) _).1 (mod_bd (by decide) _).2 (mod_bd (by decide) _).1 (mod_bd (by decide) _).2 (mod_bd (by decide) _).1

theorem adj_ok (op al ah b f : Int) (w : World) (o0 : 0 ≤ op) (o1 : op ≤ 5) (al0 : 0 ≤ al) (al1 : al < 4294967296) (ah0 : 0 ≤ ah) (ah1 : ah < 4294967296) (b0 : 0 ≤ b) (b1 : b < 4294967296) (f0 : 0 ≤ f) (f1 : f < 4294967296) (hb : op = 4 → b % 256 ≠ 0) :
    Calls Try.prog 6 #[.int .i64 op, .int .u32 al, .int .u32 ah, .int .u32 b, .int .u32 f] w fun e w' => e = .returned (.tuple #[.int .u32 (rX op al ah b f), .int .u32 (rY op al ah b f), .int .u32 (rF op al ah b f), .bool true, .int .i64 0]) ∧ Grown w w' := by
  have bx := rX_bd al ah b f o0 o1 hb
  have bY := rY_bd al ah b f o0 o1
  have A0 := (mod_bd (M := 256) (by decide) al).1
  have A1 := (mod_bd (M := 256) (by decide) al).2
  have Y0 := (mod_bd (M := 256) (by decide) ah).1
  have Y1 := (mod_bd (M := 256) (by decide) ah).2
  have B0 := (mod_bd (M := 256) (by decide) b).1
  have B1 := (mod_bd (M := 256) (by decide) b).2
  have cases : op = 0 ∨ op = 1 ∨ op = 2 ∨ op = 3 ∨ op = 4 ∨ op = 5 := by omega
  rcases cases with rfl | rfl | rfl | rfl | rfl | rfl
  · exact adj0_of al ah b f _ _ _ _ w al0 al1 ah0 ah1 b0 b1 f0 f1 bx.1 bx.2 bY.1 bY.2 (fun w => clo1_any _ _ _ _ _ _ _ _ _ w (fun w => sum_says _ _ (b % 256) _ _ w A0 A1))
  · exact adj1_of al ah b f _ _ _ _ w al0 al1 ah0 ah1 b0 b1 f0 f1 bx.1 bx.2 bY.1 bY.2 (fun w => clo2_any _ _ _ _ _ _ _ _ _ w (fun w => diff_says _ _ (b % 256) _ _ w A0 A1))
  · exact adj2_of al ah b f _ _ _ _ w al0 al1 ah0 ah1 b0 b1 f0 f1 bx.1 bx.2 bY.1 bY.2 (fun w => clo3_any _ _ _ _ _ _ _ _ _ w (fun w => up_says _ _ (b % 256) _ _ w A0 A1 Y0 Y1))
  · exact adj3_of al ah b f _ _ _ _ w al0 al1 ah0 ah1 b0 b1 f0 f1 bx.1 bx.2 bY.1 bY.2 (fun w => clo4_any _ _ _ _ _ _ _ _ _ w (fun w => down_says _ _ (b % 256) _ _ w A0 A1 Y0 Y1))
  · exact adj4_of al ah b f _ _ _ _ w al0 al1 ah0 ah1 b0 b1 f0 f1 bx.1 bx.2 bY.1 bY.2 (fun w => part_any _ _ _ _ _ w A0 A1 (by have := hb rfl; omega) B1)
  · exact adj5_of al ah b f _ _ _ _ w al0 al1 ah0 ah1 b0 b1 f0 f1 bx.1 bx.2 bY.1 bY.2 (fun w => join_any _ _ _ _ _ w A0 A1 Y0 Y1 B0 B1)
end Go.Proofs.Ytecfkgnffhiemab
