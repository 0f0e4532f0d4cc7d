/- The document's reader, and the code's (RfAgC). -/
import Derived.Test.YtbfccfhjgopnbaaGreatDr19
import Derived.Test.YtbfccfhjgopnbaaGreatDr26
import Derived.Test.YtbfccfhjgopnbaaGreatDr33
import Derived.Test.YtbfccfhjgopnbaaGreatDr15
import Derived.Test.YtbfccfhjgopnbaaGreatDr10
import Derived.Test.YtbfccfhjgopnbaaGreatDr31
import Derived.Test.YtbfccfhjgopnbaaGreatDr11
import Derived.Test.YtbfccfhjgopnbaaGreatDr34
import Derived.Test.YtbfccfhjgopnbaaGreatDr35
set_option linter.unusedSimpArgs false
namespace Go.Proofs.YtbfccfhjgopnbaaGreat
open Go.ChangeShapes Go.WideShapes Go.ChangeAt Go.RowKit
set_option linter.unusedVariables false
set_option linter.unusedSimpArgs false
set_option linter.unusedSectionVars false
set_option maxHeartbeats 4000000
theorem rule_198 : ruleOf 198 = some (.row ⟨(.only [0]), 8, (.k 0), (.k 1), [.E, .I]⟩) := by decide +kernel
theorem rule_199 : ruleOf 199 = some (.row ⟨(.only [0]), 8, (.k 0), .v, [.E, .I]⟩) := by decide +kernel
theorem rule_192 : ruleOf 192 = some (.row ⟨.no, 2, .mn, (.k 1), [.E, .Ib]⟩) := by decide +kernel
theorem rule_193 : ruleOf 193 = some (.row ⟨.no, 2, .mn, .v, [.E, .Ib]⟩) := by decide +kernel
theorem rule_194 : ruleOf 194 = some (.row ⟨.no, 30, (.k 0), .v, [.Iw]⟩) := by decide +kernel
theorem rule_195 : ruleOf 195 = some (.row ⟨.no, 30, (.k 0), .v, [(.Num 0)]⟩) := by decide +kernel
theorem rule_196 : ruleOf 196 = none := by decide +kernel
theorem rule_197 : ruleOf 197 = none := by decide +kernel
theorem rule_200 : ruleOf 200 = none := by decide +kernel
theorem rule_201 : ruleOf 201 = some (.row ⟨.no, 35, (.k 0), .v, []⟩) := by decide +kernel
theorem rule_202 : ruleOf 202 = none := by decide +kernel
theorem rule_203 : ruleOf 203 = none := by decide +kernel
theorem rule_204 : ruleOf 204 = some (.row ⟨.no, 32, (.k 1), (.k 4), [(.Num 3)]⟩) := by decide +kernel
theorem rule_205 : ruleOf 205 = some (.row ⟨.no, 32, (.k 0), (.k 4), [.Ib]⟩) := by decide +kernel
theorem rule_206 : ruleOf 206 = some (.row ⟨.no, 32, (.k 2), (.k 4), [(.Num 4)]⟩) := by decide +kernel
theorem rule_207 : ruleOf 207 = some (.row ⟨.no, 33, (.k 0), .v, []⟩) := by decide +kernel
theorem rule_208 : ruleOf 208 = some (.row ⟨.no, 2, .mn, (.k 1), [.E, (.Num 1)]⟩) := by decide +kernel
theorem rule_209 : ruleOf 209 = some (.row ⟨.no, 2, .mn, .v, [.E, (.Num 1)]⟩) := by decide +kernel
theorem rule_210 : ruleOf 210 = some (.row ⟨.no, 2, .mn, (.k 1), [.E, .CL]⟩) := by decide +kernel
theorem rule_211 : ruleOf 211 = some (.row ⟨.no, 2, .mn, .v, [.E, .CL]⟩) := by decide +kernel
theorem rule_212 : ruleOf 212 = some (.row ⟨.no, 7, (.k 4), (.k 1), [.I]⟩) := by decide +kernel
theorem rule_213 : ruleOf 213 = some (.row ⟨.no, 7, (.k 5), (.k 1), [.I]⟩) := by decide +kernel
theorem rule_214 : ruleOf 214 = none := by decide +kernel
theorem rule_215 : ruleOf 215 = none := by decide +kernel
theorem rule_216 : ruleOf 216 = none := by decide +kernel
theorem rule_217 : ruleOf 217 = none := by decide +kernel
theorem rule_218 : ruleOf 218 = none := by decide +kernel
theorem rule_219 : ruleOf 219 = none := by decide +kernel
theorem rule_220 : ruleOf 220 = none := by decide +kernel
theorem rule_221 : ruleOf 221 = none := by decide +kernel
theorem rule_222 : ruleOf 222 = none := by decide +kernel
theorem rule_223 : ruleOf 223 = none := by decide +kernel
theorem rule_224 : ruleOf 224 = some (.row ⟨.no, 31, (.k 0), .v, [.Jb]⟩) := by decide +kernel
theorem rule_225 : ruleOf 225 = some (.row ⟨.no, 31, (.k 1), .v, [.Jb]⟩) := by decide +kernel
theorem rule_226 : ruleOf 226 = some (.row ⟨.no, 31, (.k 2), .v, [.Jb]⟩) := by decide +kernel
theorem rule_227 : ruleOf 227 = some (.row ⟨.no, 31, (.k 3), .v, [.Jb]⟩) := by decide +kernel
theorem rule_228 : ruleOf 228 = some (.row ⟨.no, 37, (.k 0), (.k 1), [.A, .Ib]⟩) := by decide +kernel
theorem rule_229 : ruleOf 229 = some (.row ⟨.no, 37, (.k 0), .v, [.A, .Ib]⟩) := by decide +kernel
theorem rule_230 : ruleOf 230 = some (.row ⟨.no, 38, (.k 0), (.k 1), [.Ib, .A]⟩) := by decide +kernel
theorem rule_231 : ruleOf 231 = some (.row ⟨.no, 38, (.k 0), .v, [.Ib, .A]⟩) := by decide +kernel
theorem rule_232 : ruleOf 232 = some (.row ⟨.no, 29, (.k 0), .v, [.J]⟩) := by decide +kernel
theorem rule_233 : ruleOf 233 = some (.row ⟨.no, 27, (.k 0), .v, [.J]⟩) := by decide +kernel
theorem rule_234 : ruleOf 234 = some (.row ⟨.no, 34, (.k 0), .v, [.Far]⟩) := by decide +kernel
theorem rule_235 : ruleOf 235 = some (.row ⟨.no, 27, (.k 0), .v, [.Jb]⟩) := by decide +kernel
theorem rule_236 : ruleOf 236 = some (.row ⟨.no, 37, (.k 0), (.k 1), [.A, .DX]⟩) := by decide +kernel
theorem rule_237 : ruleOf 237 = some (.row ⟨.no, 37, (.k 0), .v, [.A, .DX]⟩) := by decide +kernel
theorem rule_238 : ruleOf 238 = some (.row ⟨.no, 38, (.k 0), (.k 1), [.DX, .A]⟩) := by decide +kernel
theorem rule_239 : ruleOf 239 = some (.row ⟨.no, 38, (.k 0), .v, [.DX, .A]⟩) := by decide +kernel
theorem rule_246 : ruleOf 246 = some (.un (.k 1)) := by decide +kernel
theorem rule_247 : ruleOf 247 = some (.un .v) := by decide +kernel
theorem rule_254 : ruleOf 254 = some (.row ⟨(.only [0, 1]), 1, .mp9, (.k 1), [.E]⟩) := by decide +kernel
theorem rule_255 : ruleOf 255 = some .ff := by decide +kernel
theorem rule_240 : ruleOf 240 = none := by decide +kernel
theorem rule_241 : ruleOf 241 = none := by decide +kernel
theorem rule_244 : ruleOf 244 = some (.row ⟨.no, 40, (.k 0), (.k 4), []⟩) := by decide +kernel
theorem rule_245 : ruleOf 245 = some (.row ⟨.no, 39, (.k 2), (.k 4), []⟩) := by decide +kernel
theorem rule_248 : ruleOf 248 = some (.row ⟨.no, 39, (.k 0), (.k 4), []⟩) := by decide +kernel
theorem rule_249 : ruleOf 249 = some (.row ⟨.no, 39, (.k 1), (.k 4), []⟩) := by decide +kernel
theorem rule_250 : ruleOf 250 = some (.row ⟨.no, 39, (.k 5), (.k 4), []⟩) := by decide +kernel
theorem rule_251 : ruleOf 251 = some (.row ⟨.no, 39, (.k 6), (.k 4), []⟩) := by decide +kernel
theorem rule_252 : ruleOf 252 = some (.row ⟨.no, 39, (.k 3), (.k 4), []⟩) := by decide +kernel
theorem rule_253 : ruleOf 253 = some (.row ⟨.no, 39, (.k 4), (.k 4), []⟩) := by decide +kernel
section
variable (X : Cx) (σ : Sg) (hf : σ.fl = none) (hi : σ.ins = Ins.zero) (hg : -1 ≤ σ.seg)
include hf hi hg
theorem ag_198 (hb : MidOk X σ) : Ag X σ 198 := by
  by_cases hm : (modrm X σ).1.2.1 = 0
  · refine ⟨_, _, fun w f h => ag_call (one_of_jumps w X σ f 198 h (by decide) _ _ _ _ (fun W hW => jumps_198 W X σ f hW hf hm)), ?_⟩
    all_goals
      simp only [opM, behM, rule_198, hm, reduceIte, Int.reduceEq, Int.reduceAdd, Rule.g, Row.g, Gt.g, onlyM, opS_re, modrm_re, List.contains, List.elem, Int.reduceBEq, Bool.false_eq_true, refuse_re]
      first
        | with_reducible exact same_ref _ _ _ _
        | with_reducible exact same_stuck (rdRowIs _) _ _ _ _ _
        | skip
    all_goals
      simp only [hm, gUn, gFF, gSys, gTo, gFrom, onlyM, onlyMem, List.contains, List.elem, Int.reduceBEq, true_or, or_true, or_self, false_or, or_false, Row.is, Gt.g, Szk.of, isM, List.map, Pt.f, stpF, setI, opS_re, hi, re_v, re_op, re_ins, re_seg, re_rep, re_re, hdS_re, E_re, O_re, setA_re, setB_re, setC_re, pA, pCL, pDX, pR, pG, pRm, pCr, pI, pIb, pIw, pIs, pJ, pJb, pFar, pEb, pEw, pSeg, pNum, modrm_re, modrm_E, modrm_twice, modrm_refuse, refuse_two, modrm_v, take_v, bytes_v, E_v, refuse_v, E_again, bytes_re, refuse_re, egM, szM, oddI, strI, mem9, ← rsegD_eq hg, segD, memO, isStr, pString, Int.reduceMod, Int.reduceDiv, Bool.false_eq_true, Int.reduceSub, Int.reduceAdd, reduceIte, Int.reduceEq]
      first
        | with_reducible exact same_re _ _ _
        | with_reducible exact same_ref _ _ _ _
        | with_reducible exact same_E _ _ _ _ _ _
        | with_reducible exact same_refE _ _ _ _ _ _
        | with_reducible exact same_EE _ _ _ _ _ _
        | ((with_reducible refine same_re' _ _ _ _ ?_); exact rfl)
        | exact ⟨rfl, fun _ => ⟨rfl, rfl⟩⟩
  · refine ⟨_, _, fun w f h => ag_call (one_of_jumps w X σ f 198 h (by decide) _ _ _ _ (fun W hW => jumps_198u W X σ f hW hf hm)), ?_⟩
    have hm := beq_false_of_ne hm
    all_goals
      simp only [opM, behM, rule_198, hm, reduceIte, Int.reduceEq, Int.reduceAdd, Rule.g, Row.g, Gt.g, onlyM, opS_re, modrm_re, List.contains, List.elem, Int.reduceBEq, Bool.false_eq_true, refuse_re]
      first
        | with_reducible exact same_ref _ _ _ _
        | with_reducible exact same_stuck (rdRowIs _) _ _ _ _ _
        | skip
    all_goals
      simp only [hm, gUn, gFF, gSys, gTo, gFrom, onlyM, onlyMem, List.contains, List.elem, Int.reduceBEq, true_or, or_true, or_self, false_or, or_false, Row.is, Gt.g, Szk.of, isM, List.map, Pt.f, stpF, setI, opS_re, hi, re_v, re_op, re_ins, re_seg, re_rep, re_re, hdS_re, E_re, O_re, setA_re, setB_re, setC_re, pA, pCL, pDX, pR, pG, pRm, pCr, pI, pIb, pIw, pIs, pJ, pJb, pFar, pEb, pEw, pSeg, pNum, modrm_re, modrm_E, modrm_twice, modrm_refuse, refuse_two, modrm_v, take_v, bytes_v, E_v, refuse_v, E_again, bytes_re, refuse_re, egM, szM, oddI, strI, mem9, ← rsegD_eq hg, segD, memO, isStr, pString, Int.reduceMod, Int.reduceDiv, Bool.false_eq_true, Int.reduceSub, Int.reduceAdd, reduceIte, Int.reduceEq]
      first
        | with_reducible exact same_re _ _ _
        | with_reducible exact same_ref _ _ _ _
        | with_reducible exact same_E _ _ _ _ _ _
        | with_reducible exact same_refE _ _ _ _ _ _
        | with_reducible exact same_EE _ _ _ _ _ _
        | ((with_reducible refine same_re' _ _ _ _ ?_); exact rfl)
        | exact ⟨rfl, fun _ => ⟨rfl, rfl⟩⟩
theorem ag_199 (hb : MidOk X σ) : Ag X σ 199 := by
  by_cases hm : (modrm X σ).1.2.1 = 0
  · refine ⟨_, _, fun w f h => ag_call (one_of_jumps w X σ f 199 h (by decide) _ _ _ _ (fun W hW => jumps_199 W X σ f hW hf hm)), ?_⟩
    all_goals
      simp only [opM, behM, rule_199, hm, reduceIte, Int.reduceEq, Int.reduceAdd, Rule.g, Row.g, Gt.g, onlyM, opS_re, modrm_re, List.contains, List.elem, Int.reduceBEq, Bool.false_eq_true, refuse_re]
      first
        | with_reducible exact same_ref _ _ _ _
        | with_reducible exact same_stuck (rdRowIs _) _ _ _ _ _
        | skip
    all_goals
      simp only [hm, gUn, gFF, gSys, gTo, gFrom, onlyM, onlyMem, List.contains, List.elem, Int.reduceBEq, true_or, or_true, or_self, false_or, or_false, Row.is, Gt.g, Szk.of, isM, List.map, Pt.f, stpF, setI, opS_re, hi, re_v, re_op, re_ins, re_seg, re_rep, re_re, hdS_re, E_re, O_re, setA_re, setB_re, setC_re, pA, pCL, pDX, pR, pG, pRm, pCr, pI, pIb, pIw, pIs, pJ, pJb, pFar, pEb, pEw, pSeg, pNum, modrm_re, modrm_E, modrm_twice, modrm_refuse, refuse_two, modrm_v, take_v, bytes_v, E_v, refuse_v, E_again, bytes_re, refuse_re, egM, szM, oddI, strI, mem9, ← rsegD_eq hg, segD, memO, isStr, pString, Int.reduceMod, Int.reduceDiv, Bool.false_eq_true, Int.reduceSub, Int.reduceAdd, reduceIte, Int.reduceEq]
      first
        | with_reducible exact same_re _ _ _
        | with_reducible exact same_ref _ _ _ _
        | with_reducible exact same_E _ _ _ _ _ _
        | with_reducible exact same_refE _ _ _ _ _ _
        | with_reducible exact same_EE _ _ _ _ _ _
        | ((with_reducible refine same_re' _ _ _ _ ?_); exact rfl)
        | exact ⟨rfl, fun _ => ⟨rfl, rfl⟩⟩
  · refine ⟨_, _, fun w f h => ag_call (one_of_jumps w X σ f 199 h (by decide) _ _ _ _ (fun W hW => jumps_199u W X σ f hW hf hm)), ?_⟩
    have hm := beq_false_of_ne hm
    all_goals
      simp only [opM, behM, rule_199, hm, reduceIte, Int.reduceEq, Int.reduceAdd, Rule.g, Row.g, Gt.g, onlyM, opS_re, modrm_re, List.contains, List.elem, Int.reduceBEq, Bool.false_eq_true, refuse_re]
      first
        | with_reducible exact same_ref _ _ _ _
        | with_reducible exact same_stuck (rdRowIs _) _ _ _ _ _
        | skip
    all_goals
      simp only [hm, gUn, gFF, gSys, gTo, gFrom, onlyM, onlyMem, List.contains, List.elem, Int.reduceBEq, true_or, or_true, or_self, false_or, or_false, Row.is, Gt.g, Szk.of, isM, List.map, Pt.f, stpF, setI, opS_re, hi, re_v, re_op, re_ins, re_seg, re_rep, re_re, hdS_re, E_re, O_re, setA_re, setB_re, setC_re, pA, pCL, pDX, pR, pG, pRm, pCr, pI, pIb, pIw, pIs, pJ, pJb, pFar, pEb, pEw, pSeg, pNum, modrm_re, modrm_E, modrm_twice, modrm_refuse, refuse_two, modrm_v, take_v, bytes_v, E_v, refuse_v, E_again, bytes_re, refuse_re, egM, szM, oddI, strI, mem9, ← rsegD_eq hg, segD, memO, isStr, pString, Int.reduceMod, Int.reduceDiv, Bool.false_eq_true, Int.reduceSub, Int.reduceAdd, reduceIte, Int.reduceEq]
      first
        | with_reducible exact same_re _ _ _
        | with_reducible exact same_ref _ _ _ _
        | with_reducible exact same_E _ _ _ _ _ _
        | with_reducible exact same_refE _ _ _ _ _ _
        | with_reducible exact same_EE _ _ _ _ _ _
        | ((with_reducible refine same_re' _ _ _ _ ?_); exact rfl)
        | exact ⟨rfl, fun _ => ⟨rfl, rfl⟩⟩
theorem ag_c12 (b : Int) (hp : isPre b = false) (h0 : 192 ≤ b) (h1 : b < 208) : Ag X σ b := by
  rcases (by omega : b = 192 ∨ b = 193 ∨ b = 194 ∨ b = 195 ∨ b = 196 ∨ b = 197 ∨ b = 198 ∨ b = 199 ∨ b = 200 ∨ b = 201 ∨ b = 202 ∨ b = 203 ∨ b = 204 ∨ b = 205 ∨ b = 206 ∨ b = 207) with rfl | rfl | rfl | rfl | rfl | rfl | rfl | rfl | rfl | rfl | rfl | rfl | rfl | rfl | rfl | rfl
  refine ⟨_, _, fun w f h => ag_call (one_of_shifts w X σ f 192 h (by decide) _ _ _ _ (fun W hW => shifts_192 W X σ f hW hf)), ?_⟩
  rotate_left
  refine ⟨_, _, fun w f h => ag_call (one_of_shifts w X σ f 193 h (by decide) _ _ _ _ (fun W hW => shifts_193 W X σ f hW hf)), ?_⟩
  rotate_left
  refine ⟨_, _, fun w f h => ag_call (one_of_jumps w X σ f 194 h (by decide) _ _ _ _ (fun W hW => jumps_194 W X σ f hW)), ?_⟩
  rotate_left
  refine ⟨_, _, fun w f h => ag_call (one_of_jumps w X σ f 195 h (by decide) _ _ _ _ (fun W hW => jumps_195 W X σ f hW)), ?_⟩
  rotate_left
  refine ⟨_, _, fun w f h => ag_call (one_of_jumps w X σ f 196 h (by decide) _ _ _ _ (fun W hW => jumps_u W X σ f hW (by decide))), ?_⟩
  rotate_left
  refine ⟨_, _, fun w f h => ag_call (one_of_jumps w X σ f 197 h (by decide) _ _ _ _ (fun W hW => jumps_u W X σ f hW (by decide))), ?_⟩
  rotate_left
  exact ag_198 X σ hf hi hg (mid_ok X hf)
  exact ag_199 X σ hf hi hg (mid_ok X hf)
  refine ⟨_, _, fun w f h => ag_call (one_of_jumps w X σ f 200 h (by decide) _ _ _ _ (fun W hW => jumps_u W X σ f hW (by decide))), ?_⟩
  rotate_left
  refine ⟨_, _, fun w f h => ag_call (one_of_jumps w X σ f 201 h (by decide) _ _ _ _ (fun W hW => jumps_201 W X σ f hW)), ?_⟩
  rotate_left
  refine ⟨_, _, fun w f h => ag_call (one_of_jumps w X σ f 202 h (by decide) _ _ _ _ (fun W hW => jumps_u W X σ f hW (by decide))), ?_⟩
  rotate_left
  refine ⟨_, _, fun w f h => ag_call (one_of_jumps w X σ f 203 h (by decide) _ _ _ _ (fun W hW => jumps_u W X σ f hW (by decide))), ?_⟩
  rotate_left
  refine ⟨_, _, fun w f h => ag_call (one_of_jumps w X σ f 204 h (by decide) _ _ _ _ (fun W hW => jumps_204 W X σ f hW)), ?_⟩
  rotate_left
  refine ⟨_, _, fun w f h => ag_call (one_of_jumps w X σ f 205 h (by decide) _ _ _ _ (fun W hW => jumps_205 W X σ f hW)), ?_⟩
  rotate_left
  refine ⟨_, _, fun w f h => ag_call (one_of_jumps w X σ f 206 h (by decide) _ _ _ _ (fun W hW => jumps_206 W X σ f hW)), ?_⟩
  rotate_left
  refine ⟨_, _, fun w f h => ag_call (one_of_jumps w X σ f 207 h (by decide) _ _ _ _ (fun W hW => jumps_207 W X σ f hW)), ?_⟩
  rotate_left
  all_goals
    simp only [opM, behM, rule_192, rule_193, rule_194, rule_195, rule_196, rule_197, rule_200, rule_201, rule_202, rule_203, rule_204, rule_205, rule_206, rule_207, reduceIte, Int.reduceEq, Int.reduceAdd, Rule.g, Row.g]
    simp only [Row.is, Gt.g, Szk.of, isM, List.map, Pt.f, stpF, setI, opS_re, hi, re_v, re_op, re_ins, re_seg, re_rep, re_re, hdS_re, E_re, O_re, setA_re, setB_re, setC_re, pA, pCL, pDX, pR, pG, pRm, pCr, pI, pIb, pIw, pIs, pJ, pJb, pFar, pEb, pEw, pSeg, pNum, modrm_re, modrm_E, modrm_twice, modrm_refuse, refuse_two, modrm_v, take_v, bytes_v, E_v, refuse_v, E_again, bytes_re, refuse_re, egM, szM, oddI, strI, mem9, ← rsegD_eq hg, segD, memO, isStr, pString, Int.reduceMod, Int.reduceDiv, Bool.false_eq_true, Int.reduceSub, Int.reduceAdd, reduceIte, Int.reduceEq]
    first
      | with_reducible exact same_re _ _ _
      | with_reducible exact same_ref _ _ _ _
      | with_reducible exact same_E _ _ _ _ _ _
      | with_reducible exact same_refE _ _ _ _ _ _
      | with_reducible exact same_EE _ _ _ _ _ _
      | ((with_reducible refine same_re' _ _ _ _ ?_); exact rfl)
      | exact ⟨rfl, fun _ => ⟨rfl, rfl⟩⟩
theorem ag_c13 (b : Int) (hp : isPre b = false) (h0 : 208 ≤ b) (h1 : b < 224) : Ag X σ b := by
  rcases (by omega : b = 208 ∨ b = 209 ∨ b = 210 ∨ b = 211 ∨ b = 212 ∨ b = 213 ∨ b = 214 ∨ b = 215 ∨ b = 216 ∨ b = 217 ∨ b = 218 ∨ b = 219 ∨ b = 220 ∨ b = 221 ∨ b = 222 ∨ b = 223) with rfl | rfl | rfl | rfl | rfl | rfl | rfl | rfl | rfl | rfl | rfl | rfl | rfl | rfl | rfl | rfl
  refine ⟨_, _, fun w f h => ag_call (one_of_shifts w X σ f 208 h (by decide) _ _ _ _ (fun W hW => shifts_208 W X σ f hW hf)), ?_⟩
  rotate_left
  refine ⟨_, _, fun w f h => ag_call (one_of_shifts w X σ f 209 h (by decide) _ _ _ _ (fun W hW => shifts_209 W X σ f hW hf)), ?_⟩
  rotate_left
  refine ⟨_, _, fun w f h => ag_call (one_of_shifts w X σ f 210 h (by decide) _ _ _ _ (fun W hW => shifts_210 W X σ f hW hf)), ?_⟩
  rotate_left
  refine ⟨_, _, fun w f h => ag_call (one_of_shifts w X σ f 211 h (by decide) _ _ _ _ (fun W hW => shifts_211 W X σ f hW hf)), ?_⟩
  rotate_left
  refine ⟨_, _, fun w f h => ag_call (one_of_jumps w X σ f 212 h (by decide) _ _ _ _ (fun W hW => jumps_212 W X σ f hW)), ?_⟩
  rotate_left
  refine ⟨_, _, fun w f h => ag_call (one_of_jumps w X σ f 213 h (by decide) _ _ _ _ (fun W hW => jumps_213 W X σ f hW)), ?_⟩
  rotate_left
  refine ⟨_, _, fun w f h => ag_call (one_of_jumps w X σ f 214 h (by decide) _ _ _ _ (fun W hW => jumps_u W X σ f hW (by decide))), ?_⟩
  rotate_left
  refine ⟨_, _, fun w f h => ag_call (one_of_jumps w X σ f 215 h (by decide) _ _ _ _ (fun W hW => jumps_u W X σ f hW (by decide))), ?_⟩
  rotate_left
  refine ⟨_, _, fun w f h => ag_call (one_of_jumps w X σ f 216 h (by decide) _ _ _ _ (fun W hW => jumps_u W X σ f hW (by decide))), ?_⟩
  rotate_left
  refine ⟨_, _, fun w f h => ag_call (one_of_jumps w X σ f 217 h (by decide) _ _ _ _ (fun W hW => jumps_u W X σ f hW (by decide))), ?_⟩
  rotate_left
  refine ⟨_, _, fun w f h => ag_call (one_of_jumps w X σ f 218 h (by decide) _ _ _ _ (fun W hW => jumps_u W X σ f hW (by decide))), ?_⟩
  rotate_left
  refine ⟨_, _, fun w f h => ag_call (one_of_jumps w X σ f 219 h (by decide) _ _ _ _ (fun W hW => jumps_u W X σ f hW (by decide))), ?_⟩
  rotate_left
  refine ⟨_, _, fun w f h => ag_call (one_of_jumps w X σ f 220 h (by decide) _ _ _ _ (fun W hW => jumps_u W X σ f hW (by decide))), ?_⟩
  rotate_left
  refine ⟨_, _, fun w f h => ag_call (one_of_jumps w X σ f 221 h (by decide) _ _ _ _ (fun W hW => jumps_u W X σ f hW (by decide))), ?_⟩
  rotate_left
  refine ⟨_, _, fun w f h => ag_call (one_of_jumps w X σ f 222 h (by decide) _ _ _ _ (fun W hW => jumps_u W X σ f hW (by decide))), ?_⟩
  rotate_left
  refine ⟨_, _, fun w f h => ag_call (one_of_jumps w X σ f 223 h (by decide) _ _ _ _ (fun W hW => jumps_u W X σ f hW (by decide))), ?_⟩
  rotate_left
  all_goals
    simp only [opM, behM, rule_208, rule_209, rule_210, rule_211, rule_212, rule_213, rule_214, rule_215, rule_216, rule_217, rule_218, rule_219, rule_220, rule_221, rule_222, rule_223, reduceIte, Int.reduceEq, Int.reduceAdd, Rule.g, Row.g]
    simp only [Row.is, Gt.g, Szk.of, isM, List.map, Pt.f, stpF, setI, opS_re, hi, re_v, re_op, re_ins, re_seg, re_rep, re_re, hdS_re, E_re, O_re, setA_re, setB_re, setC_re, pA, pCL, pDX, pR, pG, pRm, pCr, pI, pIb, pIw, pIs, pJ, pJb, pFar, pEb, pEw, pSeg, pNum, modrm_re, modrm_E, modrm_twice, modrm_refuse, refuse_two, modrm_v, take_v, bytes_v, E_v, refuse_v, E_again, bytes_re, refuse_re, egM, szM, oddI, strI, mem9, ← rsegD_eq hg, segD, memO, isStr, pString, Int.reduceMod, Int.reduceDiv, Bool.false_eq_true, Int.reduceSub, Int.reduceAdd, reduceIte, Int.reduceEq]
    first
      | with_reducible exact same_re _ _ _
      | with_reducible exact same_ref _ _ _ _
      | with_reducible exact same_E _ _ _ _ _ _
      | with_reducible exact same_refE _ _ _ _ _ _
      | with_reducible exact same_EE _ _ _ _ _ _
      | ((with_reducible refine same_re' _ _ _ _ ?_); exact rfl)
      | exact ⟨rfl, fun _ => ⟨rfl, rfl⟩⟩
theorem ag_c14 (b : Int) (hp : isPre b = false) (h0 : 224 ≤ b) (h1 : b < 240) : Ag X σ b := by
  rcases (by omega : b = 224 ∨ b = 225 ∨ b = 226 ∨ b = 227 ∨ b = 228 ∨ b = 229 ∨ b = 230 ∨ b = 231 ∨ b = 232 ∨ b = 233 ∨ b = 234 ∨ b = 235 ∨ b = 236 ∨ b = 237 ∨ b = 238 ∨ b = 239) with rfl | rfl | rfl | rfl | rfl | rfl | rfl | rfl | rfl | rfl | rfl | rfl | rfl | rfl | rfl | rfl
  refine ⟨_, _, fun w f h => ag_call (one_of_jumps w X σ f 224 h (by decide) _ _ _ _ (fun W hW => jumps_224 W X σ f hW)), ?_⟩
  rotate_left
  refine ⟨_, _, fun w f h => ag_call (one_of_jumps w X σ f 225 h (by decide) _ _ _ _ (fun W hW => jumps_225 W X σ f hW)), ?_⟩
  rotate_left
  refine ⟨_, _, fun w f h => ag_call (one_of_jumps w X σ f 226 h (by decide) _ _ _ _ (fun W hW => jumps_226 W X σ f hW)), ?_⟩
  rotate_left
  refine ⟨_, _, fun w f h => ag_call (one_of_jumps w X σ f 227 h (by decide) _ _ _ _ (fun W hW => jumps_227 W X σ f hW)), ?_⟩
  rotate_left
  refine ⟨_, _, fun w f h => ag_call (one_of_ports w X σ f 228 h (by decide) _ _ _ _ (fun W hW => ports_228 W X σ f hW)), ?_⟩
  rotate_left
  refine ⟨_, _, fun w f h => ag_call (one_of_ports w X σ f 229 h (by decide) _ _ _ _ (fun W hW => ports_229 W X σ f hW)), ?_⟩
  rotate_left
  refine ⟨_, _, fun w f h => ag_call (one_of_ports w X σ f 230 h (by decide) _ _ _ _ (fun W hW => ports_230 W X σ f hW)), ?_⟩
  rotate_left
  refine ⟨_, _, fun w f h => ag_call (one_of_ports w X σ f 231 h (by decide) _ _ _ _ (fun W hW => ports_231 W X σ f hW)), ?_⟩
  rotate_left
  refine ⟨_, _, fun w f h => ag_call (one_of_jumps w X σ f 232 h (by decide) _ _ _ _ (fun W hW => jumps_232 W X σ f hW)), ?_⟩
  rotate_left
  refine ⟨_, _, fun w f h => ag_call (one_of_jumps w X σ f 233 h (by decide) _ _ _ _ (fun W hW => jumps_233 W X σ f hW)), ?_⟩
  rotate_left
  refine ⟨_, _, fun w f h => ag_call (one_of_jumps w X σ f 234 h (by decide) _ _ _ _ (fun W hW => jumps_234 W X σ f hW)), ?_⟩
  rotate_left
  refine ⟨_, _, fun w f h => ag_call (one_of_jumps w X σ f 235 h (by decide) _ _ _ _ (fun W hW => jumps_235 W X σ f hW)), ?_⟩
  rotate_left
  refine ⟨_, _, fun w f h => ag_call (one_of_ports w X σ f 236 h (by decide) _ _ _ _ (fun W hW => ports_236 W X σ f hW)), ?_⟩
  rotate_left
  refine ⟨_, _, fun w f h => ag_call (one_of_ports w X σ f 237 h (by decide) _ _ _ _ (fun W hW => ports_237 W X σ f hW)), ?_⟩
  rotate_left
  refine ⟨_, _, fun w f h => ag_call (one_of_ports w X σ f 238 h (by decide) _ _ _ _ (fun W hW => ports_238 W X σ f hW)), ?_⟩
  rotate_left
  refine ⟨_, _, fun w f h => ag_call (one_of_ports w X σ f 239 h (by decide) _ _ _ _ (fun W hW => ports_239 W X σ f hW)), ?_⟩
  rotate_left
  all_goals
    simp only [opM, behM, rule_224, rule_225, rule_226, rule_227, rule_228, rule_229, rule_230, rule_231, rule_232, rule_233, rule_234, rule_235, rule_236, rule_237, rule_238, rule_239, reduceIte, Int.reduceEq, Int.reduceAdd, Rule.g, Row.g]
    simp only [Row.is, Gt.g, Szk.of, isM, List.map, Pt.f, stpF, setI, opS_re, hi, re_v, re_op, re_ins, re_seg, re_rep, re_re, hdS_re, E_re, O_re, setA_re, setB_re, setC_re, pA, pCL, pDX, pR, pG, pRm, pCr, pI, pIb, pIw, pIs, pJ, pJb, pFar, pEb, pEw, pSeg, pNum, modrm_re, modrm_E, modrm_twice, modrm_refuse, refuse_two, modrm_v, take_v, bytes_v, E_v, refuse_v, E_again, bytes_re, refuse_re, egM, szM, oddI, strI, mem9, ← rsegD_eq hg, segD, memO, isStr, pString, Int.reduceMod, Int.reduceDiv, Bool.false_eq_true, Int.reduceSub, Int.reduceAdd, reduceIte, Int.reduceEq]
    first
      | with_reducible exact same_re _ _ _
      | with_reducible exact same_ref _ _ _ _
      | with_reducible exact same_E _ _ _ _ _ _
      | with_reducible exact same_refE _ _ _ _ _ _
      | with_reducible exact same_EE _ _ _ _ _ _
      | ((with_reducible refine same_re' _ _ _ _ ?_); exact rfl)
      | exact ⟨rfl, fun _ => ⟨rfl, rfl⟩⟩
theorem ag_246 (hb : MidOk X σ) : Ag X σ 246 := by
  rcases mid8 X σ hb with hm | hm | hm | hm | hm | hm | hm | hm
  refine ⟨_, _, fun w f h => ag_call (one_of_last w X σ f 246 h (by decide) _ _ _ _ (fun W hW => last_246_0 W X σ f hW hf hm)), ?_⟩
  rotate_left
  refine ⟨_, _, fun w f h => ag_call (one_of_last w X σ f 246 h (by decide) _ _ _ _ (fun W hW => last_246_1 W X σ f hW hf hm)), ?_⟩
  rotate_left
  refine ⟨_, _, fun w f h => ag_call (one_of_last w X σ f 246 h (by decide) _ _ _ _ (fun W hW => last_246_2 W X σ f hW hf hm)), ?_⟩
  rotate_left
  refine ⟨_, _, fun w f h => ag_call (one_of_last w X σ f 246 h (by decide) _ _ _ _ (fun W hW => last_246_3 W X σ f hW hf hm)), ?_⟩
  rotate_left
  refine ⟨_, _, fun w f h => ag_call (one_of_last w X σ f 246 h (by decide) _ _ _ _ (fun W hW => last_246_4 W X σ f hW hf hm)), ?_⟩
  rotate_left
  refine ⟨_, _, fun w f h => ag_call (one_of_last w X σ f 246 h (by decide) _ _ _ _ (fun W hW => last_246_5 W X σ f hW hf hm)), ?_⟩
  rotate_left
  refine ⟨_, _, fun w f h => ag_call (one_of_last w X σ f 246 h (by decide) _ _ _ _ (fun W hW => last_246_6 W X σ f hW hf hm)), ?_⟩
  rotate_left
  refine ⟨_, _, fun w f h => ag_call (one_of_last w X σ f 246 h (by decide) _ _ _ _ (fun W hW => last_246_7 W X σ f hW hf hm)), ?_⟩
  rotate_left
  all_goals
    simp only [opM, behM, rule_246, hm, reduceIte, Int.reduceEq, Int.reduceAdd, Rule.g, Row.g, Gt.g, onlyM, opS_re, modrm_re, List.contains, List.elem, Int.reduceBEq, Bool.false_eq_true, refuse_re]
    first
      | with_reducible exact same_ref _ _ _ _
      | with_reducible exact same_stuck (rdRowIs _) _ _ _ _ _
      | skip
  all_goals
    simp only [hm, gUn, gFF, gSys, gTo, gFrom, onlyM, onlyMem, List.contains, List.elem, Int.reduceBEq, true_or, or_true, or_self, false_or, or_false, Row.is, Gt.g, Szk.of, isM, List.map, Pt.f, stpF, setI, opS_re, hi, re_v, re_op, re_ins, re_seg, re_rep, re_re, hdS_re, E_re, O_re, setA_re, setB_re, setC_re, pA, pCL, pDX, pR, pG, pRm, pCr, pI, pIb, pIw, pIs, pJ, pJb, pFar, pEb, pEw, pSeg, pNum, modrm_re, modrm_E, modrm_twice, modrm_refuse, refuse_two, modrm_v, take_v, bytes_v, E_v, refuse_v, E_again, bytes_re, refuse_re, egM, szM, oddI, strI, mem9, ← rsegD_eq hg, segD, memO, isStr, pString, Int.reduceMod, Int.reduceDiv, Bool.false_eq_true, Int.reduceSub, Int.reduceAdd, reduceIte, Int.reduceEq]
    first
      | with_reducible exact same_re _ _ _
      | with_reducible exact same_ref _ _ _ _
      | with_reducible exact same_E _ _ _ _ _ _
      | with_reducible exact same_refE _ _ _ _ _ _
      | with_reducible exact same_EE _ _ _ _ _ _
      | ((with_reducible refine same_re' _ _ _ _ ?_); exact rfl)
      | exact ⟨rfl, fun _ => ⟨rfl, rfl⟩⟩
theorem ag_247 (hb : MidOk X σ) : Ag X σ 247 := by
  rcases mid8 X σ hb with hm | hm | hm | hm | hm | hm | hm | hm
  refine ⟨_, _, fun w f h => ag_call (one_of_last w X σ f 247 h (by decide) _ _ _ _ (fun W hW => last_247_0 W X σ f hW hf hm)), ?_⟩
  rotate_left
  refine ⟨_, _, fun w f h => ag_call (one_of_last w X σ f 247 h (by decide) _ _ _ _ (fun W hW => last_247_1 W X σ f hW hf hm)), ?_⟩
  rotate_left
  refine ⟨_, _, fun w f h => ag_call (one_of_last w X σ f 247 h (by decide) _ _ _ _ (fun W hW => last_247_2 W X σ f hW hf hm)), ?_⟩
  rotate_left
  refine ⟨_, _, fun w f h => ag_call (one_of_last w X σ f 247 h (by decide) _ _ _ _ (fun W hW => last_247_3 W X σ f hW hf hm)), ?_⟩
  rotate_left
  refine ⟨_, _, fun w f h => ag_call (one_of_last w X σ f 247 h (by decide) _ _ _ _ (fun W hW => last_247_4 W X σ f hW hf hm)), ?_⟩
  rotate_left
  refine ⟨_, _, fun w f h => ag_call (one_of_last w X σ f 247 h (by decide) _ _ _ _ (fun W hW => last_247_5 W X σ f hW hf hm)), ?_⟩
  rotate_left
  refine ⟨_, _, fun w f h => ag_call (one_of_last w X σ f 247 h (by decide) _ _ _ _ (fun W hW => last_247_6 W X σ f hW hf hm)), ?_⟩
  rotate_left
  refine ⟨_, _, fun w f h => ag_call (one_of_last w X σ f 247 h (by decide) _ _ _ _ (fun W hW => last_247_7 W X σ f hW hf hm)), ?_⟩
  rotate_left
  all_goals
    simp only [opM, behM, rule_247, hm, reduceIte, Int.reduceEq, Int.reduceAdd, Rule.g, Row.g, Gt.g, onlyM, opS_re, modrm_re, List.contains, List.elem, Int.reduceBEq, Bool.false_eq_true, refuse_re]
    first
      | with_reducible exact same_ref _ _ _ _
      | with_reducible exact same_stuck (rdRowIs _) _ _ _ _ _
      | skip
  all_goals
    simp only [hm, gUn, gFF, gSys, gTo, gFrom, onlyM, onlyMem, List.contains, List.elem, Int.reduceBEq, true_or, or_true, or_self, false_or, or_false, Row.is, Gt.g, Szk.of, isM, List.map, Pt.f, stpF, setI, opS_re, hi, re_v, re_op, re_ins, re_seg, re_rep, re_re, hdS_re, E_re, O_re, setA_re, setB_re, setC_re, pA, pCL, pDX, pR, pG, pRm, pCr, pI, pIb, pIw, pIs, pJ, pJb, pFar, pEb, pEw, pSeg, pNum, modrm_re, modrm_E, modrm_twice, modrm_refuse, refuse_two, modrm_v, take_v, bytes_v, E_v, refuse_v, E_again, bytes_re, refuse_re, egM, szM, oddI, strI, mem9, ← rsegD_eq hg, segD, memO, isStr, pString, Int.reduceMod, Int.reduceDiv, Bool.false_eq_true, Int.reduceSub, Int.reduceAdd, reduceIte, Int.reduceEq]
    first
      | with_reducible exact same_re _ _ _
      | with_reducible exact same_ref _ _ _ _
      | with_reducible exact same_E _ _ _ _ _ _
      | with_reducible exact same_refE _ _ _ _ _ _
      | with_reducible exact same_EE _ _ _ _ _ _
      | ((with_reducible refine same_re' _ _ _ _ ?_); exact rfl)
      | exact ⟨rfl, fun _ => ⟨rfl, rfl⟩⟩
theorem ag_254 (hb : MidOk X σ) : Ag X σ 254 := by
  rcases mid8 X σ hb with hm | hm | hm | hm | hm | hm | hm | hm
  refine ⟨_, _, fun w f h => ag_call (one_of_last w X σ f 254 h (by decide) _ _ _ _ (fun W hW => last_254_0 W X σ f hW hf hm)), ?_⟩
  rotate_left
  refine ⟨_, _, fun w f h => ag_call (one_of_last w X σ f 254 h (by decide) _ _ _ _ (fun W hW => last_254_1 W X σ f hW hf hm)), ?_⟩
  rotate_left
  refine ⟨_, _, fun w f h => ag_call (one_of_last w X σ f 254 h (by decide) _ _ _ _ (fun W hW => last_254_u W X σ f hW hf (.inl hm))), ?_⟩
  rotate_left
  refine ⟨_, _, fun w f h => ag_call (one_of_last w X σ f 254 h (by decide) _ _ _ _ (fun W hW => last_254_u W X σ f hW hf (.inr (.inl hm)))), ?_⟩
  rotate_left
  refine ⟨_, _, fun w f h => ag_call (one_of_last w X σ f 254 h (by decide) _ _ _ _ (fun W hW => last_254_u W X σ f hW hf (.inr (.inr (.inl hm))))), ?_⟩
  rotate_left
  refine ⟨_, _, fun w f h => ag_call (one_of_last w X σ f 254 h (by decide) _ _ _ _ (fun W hW => last_254_u W X σ f hW hf (.inr (.inr (.inr (.inl hm)))))), ?_⟩
  rotate_left
  refine ⟨_, _, fun w f h => ag_call (one_of_last w X σ f 254 h (by decide) _ _ _ _ (fun W hW => last_254_u W X σ f hW hf (.inr (.inr (.inr (.inr (.inl hm))))))), ?_⟩
  rotate_left
  refine ⟨_, _, fun w f h => ag_call (one_of_last w X σ f 254 h (by decide) _ _ _ _ (fun W hW => last_254_u W X σ f hW hf (.inr (.inr (.inr (.inr (.inr hm))))))), ?_⟩
  rotate_left
  all_goals
    simp only [opM, behM, rule_254, hm, reduceIte, Int.reduceEq, Int.reduceAdd, Rule.g, Row.g, Gt.g, onlyM, opS_re, modrm_re, List.contains, List.elem, Int.reduceBEq, Bool.false_eq_true, refuse_re]
    first
      | with_reducible exact same_ref _ _ _ _
      | with_reducible exact same_stuck (rdRowIs _) _ _ _ _ _
      | skip
  all_goals
    simp only [hm, gUn, gFF, gSys, gTo, gFrom, onlyM, onlyMem, List.contains, List.elem, Int.reduceBEq, true_or, or_true, or_self, false_or, or_false, Row.is, Gt.g, Szk.of, isM, List.map, Pt.f, stpF, setI, opS_re, hi, re_v, re_op, re_ins, re_seg, re_rep, re_re, hdS_re, E_re, O_re, setA_re, setB_re, setC_re, pA, pCL, pDX, pR, pG, pRm, pCr, pI, pIb, pIw, pIs, pJ, pJb, pFar, pEb, pEw, pSeg, pNum, modrm_re, modrm_E, modrm_twice, modrm_refuse, refuse_two, modrm_v, take_v, bytes_v, E_v, refuse_v, E_again, bytes_re, refuse_re, egM, szM, oddI, strI, mem9, ← rsegD_eq hg, segD, memO, isStr, pString, Int.reduceMod, Int.reduceDiv, Bool.false_eq_true, Int.reduceSub, Int.reduceAdd, reduceIte, Int.reduceEq]
    first
      | with_reducible exact same_re _ _ _
      | with_reducible exact same_ref _ _ _ _
      | with_reducible exact same_E _ _ _ _ _ _
      | with_reducible exact same_refE _ _ _ _ _ _
      | with_reducible exact same_EE _ _ _ _ _ _
      | ((with_reducible refine same_re' _ _ _ _ ?_); exact rfl)
      | exact ⟨rfl, fun _ => ⟨rfl, rfl⟩⟩
theorem ag_255 (hb : MidOk X σ) : Ag X σ 255 := by
  rcases mid8 X σ hb with hm | hm | hm | hm | hm | hm | hm | hm
  refine ⟨_, _, fun w f h => ag_call (one_of_last w X σ f 255 h (by decide) _ _ _ _ (fun W hW => last_255_0 W X σ f hW hf hm)), ?_⟩
  rotate_left
  refine ⟨_, _, fun w f h => ag_call (one_of_last w X σ f 255 h (by decide) _ _ _ _ (fun W hW => last_255_1 W X σ f hW hf hm)), ?_⟩
  rotate_left
  refine ⟨_, _, fun w f h => ag_call (one_of_last w X σ f 255 h (by decide) _ _ _ _ (fun W hW => last_255_2 W X σ f hW hf hm)), ?_⟩
  rotate_left
  refine ⟨_, _, fun w f h => ag_call (one_of_last w X σ f 255 h (by decide) _ _ _ _ (fun W hW => last_255_u W X σ f hW hf (.inl hm))), ?_⟩
  rotate_left
  refine ⟨_, _, fun w f h => ag_call (one_of_last w X σ f 255 h (by decide) _ _ _ _ (fun W hW => last_255_4 W X σ f hW hf hm)), ?_⟩
  rotate_left
  refine ⟨_, _, fun w f h => ag_call (one_of_last w X σ f 255 h (by decide) _ _ _ _ (fun W hW => last_255_u W X σ f hW hf (.inr (.inl hm)))), ?_⟩
  rotate_left
  refine ⟨_, _, fun w f h => ag_call (one_of_last w X σ f 255 h (by decide) _ _ _ _ (fun W hW => last_255_6 W X σ f hW hf hm)), ?_⟩
  rotate_left
  refine ⟨_, _, fun w f h => ag_call (one_of_last w X σ f 255 h (by decide) _ _ _ _ (fun W hW => last_255_u W X σ f hW hf (.inr (.inr hm)))), ?_⟩
  rotate_left
  all_goals
    simp only [opM, behM, rule_255, hm, reduceIte, Int.reduceEq, Int.reduceAdd, Rule.g, Row.g, Gt.g, onlyM, opS_re, modrm_re, List.contains, List.elem, Int.reduceBEq, Bool.false_eq_true, refuse_re]
    first
      | with_reducible exact same_ref _ _ _ _
      | with_reducible exact same_stuck (rdRowIs _) _ _ _ _ _
      | skip
  all_goals
    simp only [hm, gUn, gFF, gSys, gTo, gFrom, onlyM, onlyMem, List.contains, List.elem, Int.reduceBEq, true_or, or_true, or_self, false_or, or_false, Row.is, Gt.g, Szk.of, isM, List.map, Pt.f, stpF, setI, opS_re, hi, re_v, re_op, re_ins, re_seg, re_rep, re_re, hdS_re, E_re, O_re, setA_re, setB_re, setC_re, pA, pCL, pDX, pR, pG, pRm, pCr, pI, pIb, pIw, pIs, pJ, pJb, pFar, pEb, pEw, pSeg, pNum, modrm_re, modrm_E, modrm_twice, modrm_refuse, refuse_two, modrm_v, take_v, bytes_v, E_v, refuse_v, E_again, bytes_re, refuse_re, egM, szM, oddI, strI, mem9, ← rsegD_eq hg, segD, memO, isStr, pString, Int.reduceMod, Int.reduceDiv, Bool.false_eq_true, Int.reduceSub, Int.reduceAdd, reduceIte, Int.reduceEq]
    first
      | with_reducible exact same_re _ _ _
      | with_reducible exact same_ref _ _ _ _
      | with_reducible exact same_E _ _ _ _ _ _
      | with_reducible exact same_refE _ _ _ _ _ _
      | with_reducible exact same_EE _ _ _ _ _ _
      | ((with_reducible refine same_re' _ _ _ _ ?_); exact rfl)
      | exact ⟨rfl, fun _ => ⟨rfl, rfl⟩⟩
theorem ag_c15 (b : Int) (hp : isPre b = false) (h0 : 240 ≤ b) (h1 : b < 256) : Ag X σ b := by
  rcases (by omega : b = 240 ∨ b = 241 ∨ b = 242 ∨ b = 243 ∨ b = 244 ∨ b = 245 ∨ b = 246 ∨ b = 247 ∨ b = 248 ∨ b = 249 ∨ b = 250 ∨ b = 251 ∨ b = 252 ∨ b = 253 ∨ b = 254 ∨ b = 255) with rfl | rfl | rfl | rfl | rfl | rfl | rfl | rfl | rfl | rfl | rfl | rfl | rfl | rfl | rfl | rfl
  refine ⟨_, _, fun w f h => ag_call (one_of_ud w X σ f 240 h (by decide) Ins.zero _ _ _ (fun W hW => ud_ok W X σ f 240 hW)), ?_⟩
  rotate_left
  refine ⟨_, _, fun w f h => ag_call (one_of_ud w X σ f 241 h (by decide) Ins.zero _ _ _ (fun W hW => ud_ok W X σ f 241 hW)), ?_⟩
  rotate_left
  exact absurd hp (by decide)
  exact absurd hp (by decide)
  refine ⟨_, _, fun w f h => ag_call (one_of_last w X σ f 244 h (by decide) _ _ _ _ (fun W hW => last_244 W X σ f hW)), ?_⟩
  rotate_left
  refine ⟨_, _, fun w f h => ag_call (one_of_last w X σ f 245 h (by decide) _ _ _ _ (fun W hW => last_245 W X σ f hW)), ?_⟩
  rotate_left
  exact ag_246 X σ hf hi hg (mid_ok X hf)
  exact ag_247 X σ hf hi hg (mid_ok X hf)
  refine ⟨_, _, fun w f h => ag_call (one_of_last w X σ f 248 h (by decide) _ _ _ _ (fun W hW => last_248 W X σ f hW)), ?_⟩
  rotate_left
  refine ⟨_, _, fun w f h => ag_call (one_of_last w X σ f 249 h (by decide) _ _ _ _ (fun W hW => last_249 W X σ f hW)), ?_⟩
  rotate_left
  refine ⟨_, _, fun w f h => ag_call (one_of_last w X σ f 250 h (by decide) _ _ _ _ (fun W hW => last_250 W X σ f hW)), ?_⟩
  rotate_left
  refine ⟨_, _, fun w f h => ag_call (one_of_last w X σ f 251 h (by decide) _ _ _ _ (fun W hW => last_251 W X σ f hW)), ?_⟩
  rotate_left
  refine ⟨_, _, fun w f h => ag_call (one_of_last w X σ f 252 h (by decide) _ _ _ _ (fun W hW => last_252 W X σ f hW)), ?_⟩
  rotate_left
  refine ⟨_, _, fun w f h => ag_call (one_of_last w X σ f 253 h (by decide) _ _ _ _ (fun W hW => last_253 W X σ f hW)), ?_⟩
  rotate_left
  exact ag_254 X σ hf hi hg (mid_ok X hf)
  exact ag_255 X σ hf hi hg (mid_ok X hf)
  all_goals
    simp only [opM, behM, rule_240, rule_241, rule_244, rule_245, rule_248, rule_249, rule_250, rule_251, rule_252, rule_253, reduceIte, Int.reduceEq, Int.reduceAdd, Rule.g, Row.g]
    simp only [Row.is, Gt.g, Szk.of, isM, List.map, Pt.f, stpF, setI, opS_re, hi, re_v, re_op, re_ins, re_seg, re_rep, re_re, hdS_re, E_re, O_re, setA_re, setB_re, setC_re, pA, pCL, pDX, pR, pG, pRm, pCr, pI, pIb, pIw, pIs, pJ, pJb, pFar, pEb, pEw, pSeg, pNum, modrm_re, modrm_E, modrm_twice, modrm_refuse, refuse_two, modrm_v, take_v, bytes_v, E_v, refuse_v, E_again, bytes_re, refuse_re, egM, szM, oddI, strI, mem9, ← rsegD_eq hg, segD, memO, isStr, pString, Int.reduceMod, Int.reduceDiv, Bool.false_eq_true, Int.reduceSub, Int.reduceAdd, reduceIte, Int.reduceEq]
    first
      | with_reducible exact same_re _ _ _
      | with_reducible exact same_ref _ _ _ _
      | with_reducible exact same_E _ _ _ _ _ _
      | with_reducible exact same_refE _ _ _ _ _ _
      | with_reducible exact same_EE _ _ _ _ _ _
      | ((with_reducible refine same_re' _ _ _ _ ?_); exact rfl)
      | exact ⟨rfl, fun _ => ⟨rfl, rfl⟩⟩
end
end Go.Proofs.YtbfccfhjgopnbaaGreat
