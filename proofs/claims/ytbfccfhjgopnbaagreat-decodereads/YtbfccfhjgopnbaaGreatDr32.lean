/- The document's reader, and the code's (RfAgB). -/
import Derived.Test.YtbfccfhjgopnbaaGreatDr19
import Derived.Test.YtbfccfhjgopnbaaGreatDr15
import Derived.Test.YtbfccfhjgopnbaaGreatDr14
import Derived.Test.YtbfccfhjgopnbaaGreatDr27
import Derived.Test.YtbfccfhjgopnbaaGreatDr28
import Derived.Test.YtbfccfhjgopnbaaGreatDr29
import Derived.Test.YtbfccfhjgopnbaaGreatDr13
import Derived.Test.YtbfccfhjgopnbaaGreatDr10
import Derived.Test.YtbfccfhjgopnbaaGreatDr25
import Derived.Test.YtbfccfhjgopnbaaGreatDr30
import Derived.Test.YtbfccfhjgopnbaaGreatDr11
set_option linter.unusedSimpArgs false
namespace Go.Proofs.YtbfccfhjgopnbaaGreat
open Go.ChangeShapes Go.WideShapes Go.ChangeAt Go.RowKit
set_option linter.unusedVariables false
set_option linter.unusedSimpArgs false
set_option linter.unusedSectionVars false
set_option maxHeartbeats 4000000
theorem rule_140 : ruleOf 140 = some .frm := by decide +kernel
theorem rule_141 : ruleOf 141 = some (.row ⟨.mem, 11, (.k 0), .v, [.G, .E]⟩) := by decide +kernel
theorem rule_142 : ruleOf 142 = some .to := by decide +kernel
theorem rule_143 : ruleOf 143 = some (.row ⟨(.only [0]), 13, (.k 0), .v, [.E]⟩) := by decide +kernel
theorem rule_128 : ruleOf 128 = some (.row ⟨.no, 1, .mn, (.k 1), [.E, .I]⟩) := by decide +kernel
theorem rule_129 : ruleOf 129 = some (.row ⟨.no, 1, .mn, .v, [.E, .I]⟩) := by decide +kernel
theorem rule_130 : ruleOf 130 = none := by decide +kernel
theorem rule_131 : ruleOf 131 = some (.row ⟨.no, 1, .mn, .v, [.E, .Is]⟩) := by decide +kernel
theorem rule_132 : ruleOf 132 = some (.row ⟨.no, 1, (.k 8), (.k 1), [.E, .G]⟩) := by decide +kernel
theorem rule_133 : ruleOf 133 = some (.row ⟨.no, 1, (.k 8), .v, [.E, .G]⟩) := by decide +kernel
theorem rule_134 : ruleOf 134 = some (.row ⟨.no, 10, (.k 0), (.k 1), [.E, .G]⟩) := by decide +kernel
theorem rule_135 : ruleOf 135 = some (.row ⟨.no, 10, (.k 0), .v, [.E, .G]⟩) := by decide +kernel
theorem rule_136 : ruleOf 136 = some (.row ⟨.no, 8, (.k 0), (.k 1), [.E, .G]⟩) := by decide +kernel
theorem rule_137 : ruleOf 137 = some (.row ⟨.no, 8, (.k 0), .v, [.E, .G]⟩) := by decide +kernel
theorem rule_138 : ruleOf 138 = some (.row ⟨.no, 8, (.k 0), (.k 1), [.G, .E]⟩) := by decide +kernel
theorem rule_139 : ruleOf 139 = some (.row ⟨.no, 8, (.k 0), .v, [.G, .E]⟩) := by decide +kernel
theorem rule_144 : ruleOf 144 = some (.row ⟨.no, 41, (.k 0), (.k 4), []⟩) := by decide +kernel
theorem rule_145 : ruleOf 145 = some (.row ⟨.no, 10, (.k 0), .v, [.R, .A]⟩) := by decide +kernel
theorem rule_146 : ruleOf 146 = some (.row ⟨.no, 10, (.k 0), .v, [.R, .A]⟩) := by decide +kernel
theorem rule_147 : ruleOf 147 = some (.row ⟨.no, 10, (.k 0), .v, [.R, .A]⟩) := by decide +kernel
theorem rule_148 : ruleOf 148 = some (.row ⟨.no, 10, (.k 0), .v, [.R, .A]⟩) := by decide +kernel
theorem rule_149 : ruleOf 149 = some (.row ⟨.no, 10, (.k 0), .v, [.R, .A]⟩) := by decide +kernel
theorem rule_150 : ruleOf 150 = some (.row ⟨.no, 10, (.k 0), .v, [.R, .A]⟩) := by decide +kernel
theorem rule_151 : ruleOf 151 = some (.row ⟨.no, 10, (.k 0), .v, [.R, .A]⟩) := by decide +kernel
theorem rule_152 : ruleOf 152 = some (.row ⟨.no, 20, (.k 0), .v, []⟩) := by decide +kernel
theorem rule_153 : ruleOf 153 = some (.row ⟨.no, 21, (.k 0), .v, []⟩) := by decide +kernel
theorem rule_154 : ruleOf 154 = none := by decide +kernel
theorem rule_155 : ruleOf 155 = none := by decide +kernel
theorem rule_156 : ruleOf 156 = some (.row ⟨.no, 16, (.k 0), .v, []⟩) := by decide +kernel
theorem rule_157 : ruleOf 157 = some (.row ⟨.no, 17, (.k 0), .v, []⟩) := by decide +kernel
theorem rule_158 : ruleOf 158 = some (.row ⟨.no, 18, (.k 0), (.k 1), []⟩) := by decide +kernel
theorem rule_159 : ruleOf 159 = some (.row ⟨.no, 19, (.k 0), (.k 1), []⟩) := by decide +kernel
theorem rule_160 : ruleOf 160 = some (.row ⟨.no, 8, (.k 0), (.k 1), [.A, .O]⟩) := by decide +kernel
theorem rule_161 : ruleOf 161 = some (.row ⟨.no, 8, (.k 0), .v, [.A, .O]⟩) := by decide +kernel
theorem rule_162 : ruleOf 162 = some (.row ⟨.no, 8, (.k 0), (.k 1), [.O, .A]⟩) := by decide +kernel
theorem rule_163 : ruleOf 163 = some (.row ⟨.no, 8, (.k 0), .v, [.O, .A]⟩) := by decide +kernel
theorem rule_164 : ruleOf 164 = some (.str 0 (.k 1)) := by decide +kernel
theorem rule_165 : ruleOf 165 = some (.str 0 .v) := by decide +kernel
theorem rule_166 : ruleOf 166 = some (.str 1 (.k 1)) := by decide +kernel
theorem rule_167 : ruleOf 167 = some (.str 1 .v) := by decide +kernel
theorem rule_168 : ruleOf 168 = some (.row ⟨.no, 1, (.k 8), (.k 1), [.A, .I]⟩) := by decide +kernel
theorem rule_169 : ruleOf 169 = some (.row ⟨.no, 1, (.k 8), .v, [.A, .I]⟩) := by decide +kernel
theorem rule_170 : ruleOf 170 = some (.str 2 (.k 1)) := by decide +kernel
theorem rule_171 : ruleOf 171 = some (.str 2 .v) := by decide +kernel
theorem rule_172 : ruleOf 172 = some (.str 3 (.k 1)) := by decide +kernel
theorem rule_173 : ruleOf 173 = some (.str 3 .v) := by decide +kernel
theorem rule_174 : ruleOf 174 = some (.str 4 (.k 1)) := by decide +kernel
theorem rule_175 : ruleOf 175 = some (.str 4 .v) := by decide +kernel
theorem rule_176 : ruleOf 176 = some (.row ⟨.no, 8, (.k 0), (.k 1), [.R, .I]⟩) := by decide +kernel
theorem rule_177 : ruleOf 177 = some (.row ⟨.no, 8, (.k 0), (.k 1), [.R, .I]⟩) := by decide +kernel
theorem rule_178 : ruleOf 178 = some (.row ⟨.no, 8, (.k 0), (.k 1), [.R, .I]⟩) := by decide +kernel
theorem rule_179 : ruleOf 179 = some (.row ⟨.no, 8, (.k 0), (.k 1), [.R, .I]⟩) := by decide +kernel
theorem rule_180 : ruleOf 180 = some (.row ⟨.no, 8, (.k 0), (.k 1), [.R, .I]⟩) := by decide +kernel
theorem rule_181 : ruleOf 181 = some (.row ⟨.no, 8, (.k 0), (.k 1), [.R, .I]⟩) := by decide +kernel
theorem rule_182 : ruleOf 182 = some (.row ⟨.no, 8, (.k 0), (.k 1), [.R, .I]⟩) := by decide +kernel
theorem rule_183 : ruleOf 183 = some (.row ⟨.no, 8, (.k 0), (.k 1), [.R, .I]⟩) := by decide +kernel
theorem rule_184 : ruleOf 184 = some (.row ⟨.no, 8, (.k 0), .v, [.R, .I]⟩) := by decide +kernel
theorem rule_185 : ruleOf 185 = some (.row ⟨.no, 8, (.k 0), .v, [.R, .I]⟩) := by decide +kernel
theorem rule_186 : ruleOf 186 = some (.row ⟨.no, 8, (.k 0), .v, [.R, .I]⟩) := by decide +kernel
theorem rule_187 : ruleOf 187 = some (.row ⟨.no, 8, (.k 0), .v, [.R, .I]⟩) := by decide +kernel
theorem rule_188 : ruleOf 188 = some (.row ⟨.no, 8, (.k 0), .v, [.R, .I]⟩) := by decide +kernel
theorem rule_189 : ruleOf 189 = some (.row ⟨.no, 8, (.k 0), .v, [.R, .I]⟩) := by decide +kernel
theorem rule_190 : ruleOf 190 = some (.row ⟨.no, 8, (.k 0), .v, [.R, .I]⟩) := by decide +kernel
theorem rule_191 : ruleOf 191 = some (.row ⟨.no, 8, (.k 0), .v, [.R, .I]⟩) := by decide +kernel
section
variable (X : Cx) (σ : Sg) (hf : σ.fl = none) (hi : σ.ins = Ins.zero) (hg : -1 ≤ σ.seg)
include hf hi hg
theorem ag_140 (hb : MidOk X σ) : Ag X σ 140 := by
  rcases mid8 X σ hb with hm | hm | hm | hm | hm | hm | hm | hm
  all_goals by_cases hn : (modrm X σ).1.1 = 3
  refine ⟨_, _, fun w f h => ag_call (one_group w X σ f 140 h (by decide) (by decide) _ _ _ _ (fun W hW => group_140_r W X σ f hW hf (by rw [hm]; decide) hn)), ?_⟩
  rotate_left
  refine ⟨_, _, fun w f h => ag_call (one_group w X σ f 140 h (by decide) (by decide) _ _ _ _ (fun W hW => group_140_m W X σ f hW hf (by rw [hm]; decide) hn)), ?_⟩
  rotate_left
  refine ⟨_, _, fun w f h => ag_call (one_group w X σ f 140 h (by decide) (by decide) _ _ _ _ (fun W hW => group_140_r W X σ f hW hf (by rw [hm]; decide) hn)), ?_⟩
  rotate_left
  refine ⟨_, _, fun w f h => ag_call (one_group w X σ f 140 h (by decide) (by decide) _ _ _ _ (fun W hW => group_140_m W X σ f hW hf (by rw [hm]; decide) hn)), ?_⟩
  rotate_left
  refine ⟨_, _, fun w f h => ag_call (one_group w X σ f 140 h (by decide) (by decide) _ _ _ _ (fun W hW => group_140_r W X σ f hW hf (by rw [hm]; decide) hn)), ?_⟩
  rotate_left
  refine ⟨_, _, fun w f h => ag_call (one_group w X σ f 140 h (by decide) (by decide) _ _ _ _ (fun W hW => group_140_m W X σ f hW hf (by rw [hm]; decide) hn)), ?_⟩
  rotate_left
  refine ⟨_, _, fun w f h => ag_call (one_group w X σ f 140 h (by decide) (by decide) _ _ _ _ (fun W hW => group_140_r W X σ f hW hf (by rw [hm]; decide) hn)), ?_⟩
  rotate_left
  refine ⟨_, _, fun w f h => ag_call (one_group w X σ f 140 h (by decide) (by decide) _ _ _ _ (fun W hW => group_140_m W X σ f hW hf (by rw [hm]; decide) hn)), ?_⟩
  rotate_left
  refine ⟨_, _, fun w f h => ag_call (one_group w X σ f 140 h (by decide) (by decide) _ _ _ _ (fun W hW => group_140_r W X σ f hW hf (by rw [hm]; decide) hn)), ?_⟩
  rotate_left
  refine ⟨_, _, fun w f h => ag_call (one_group w X σ f 140 h (by decide) (by decide) _ _ _ _ (fun W hW => group_140_m W X σ f hW hf (by rw [hm]; decide) hn)), ?_⟩
  rotate_left
  refine ⟨_, _, fun w f h => ag_call (one_group w X σ f 140 h (by decide) (by decide) _ _ _ _ (fun W hW => group_140_r W X σ f hW hf (by rw [hm]; decide) hn)), ?_⟩
  rotate_left
  refine ⟨_, _, fun w f h => ag_call (one_group w X σ f 140 h (by decide) (by decide) _ _ _ _ (fun W hW => group_140_m W X σ f hW hf (by rw [hm]; decide) hn)), ?_⟩
  rotate_left
  refine ⟨_, _, fun w f h => ag_call (one_group w X σ f 140 h (by decide) (by decide) _ _ _ _ (fun W hW => group_140_u W X σ f hW hf (.inl hm))), ?_⟩
  rotate_left
  refine ⟨_, _, fun w f h => ag_call (one_group w X σ f 140 h (by decide) (by decide) _ _ _ _ (fun W hW => group_140_u W X σ f hW hf (.inl hm))), ?_⟩
  rotate_left
  refine ⟨_, _, fun w f h => ag_call (one_group w X σ f 140 h (by decide) (by decide) _ _ _ _ (fun W hW => group_140_u W X σ f hW hf (.inr hm))), ?_⟩
  rotate_left
  refine ⟨_, _, fun w f h => ag_call (one_group w X σ f 140 h (by decide) (by decide) _ _ _ _ (fun W hW => group_140_u W X σ f hW hf (.inr hm))), ?_⟩
  rotate_left
  all_goals
    simp only [opM, behM, rule_140, hm, hn, reduceIte, Int.reduceEq, Int.reduceAdd, Rule.g, Row.g, Gt.g, onlyM, opS_re, modrm_re, List.contains, List.elem, Int.reduceBEq, Bool.false_eq_true, refuse_re]
    first
      | with_reducible exact same_ref _ _ _ _
      | with_reducible exact same_stuck (rdRowIs _) _ _ _ _ _
      | skip
  all_goals
    simp only [hm, hn, gUn, gFF, gSys, gTo, gFrom, onlyM, onlyMem, List.contains, List.elem, Int.reduceBEq, true_or, or_true, or_self, false_or, or_false, Row.is, Gt.g, Szk.of, isM, List.map, Pt.f, stpF, setI, opS_re, hi, re_v, re_op, re_ins, re_seg, re_rep, re_re, hdS_re, E_re, O_re, setA_re, setB_re, setC_re, pA, pCL, pDX, pR, pG, pRm, pCr, pI, pIb, pIw, pIs, pJ, pJb, pFar, pEb, pEw, pSeg, pNum, modrm_re, modrm_E, modrm_twice, modrm_refuse, refuse_two, modrm_v, take_v, bytes_v, E_v, refuse_v, E_again, bytes_re, refuse_re, egM, szM, oddI, strI, mem9, ← rsegD_eq hg, segD, memO, isStr, pString, Int.reduceMod, Int.reduceDiv, Bool.false_eq_true, Int.reduceSub, Int.reduceAdd, reduceIte, Int.reduceEq]
    first
      | with_reducible exact same_re _ _ _
      | with_reducible exact same_ref _ _ _ _
      | with_reducible exact same_E _ _ _ _ _ _
      | with_reducible exact same_refE _ _ _ _ _ _
      | with_reducible exact same_EE _ _ _ _ _ _
      | ((with_reducible refine same_re' _ _ _ _ ?_); exact rfl)
      | exact ⟨rfl, fun _ => ⟨rfl, rfl⟩⟩
theorem ag_141 (hb : MidOk X σ) : Ag X σ 141 := by
  by_cases hm : (modrm X σ).1.1 = 3
  refine ⟨_, _, fun w f h => ag_call (one_group w X σ f 141 h (by decide) (by decide) _ _ _ _ (fun W hW => group_141_3 W X σ f hW hf hm)), ?_⟩
  rotate_left
  refine ⟨_, _, fun w f h => ag_call (one_group w X σ f 141 h (by decide) (by decide) _ _ _ _ (fun W hW => group_141 W X σ f hW hf hm)), ?_⟩
  rotate_left
  all_goals
    simp only [opM, behM, rule_141, onlyMem, hm, reduceIte, Int.reduceEq, Int.reduceAdd, Rule.g, Row.g, Gt.g, onlyM, opS_re, modrm_re, List.contains, List.elem, Int.reduceBEq, Bool.false_eq_true, refuse_re]
    first
      | with_reducible exact same_ref _ _ _ _
      | with_reducible exact same_stuck (rdRowIs _) _ _ _ _ _
      | skip
  all_goals
    simp only [onlyMem, hm, gUn, gFF, gSys, gTo, gFrom, onlyM, onlyMem, List.contains, List.elem, Int.reduceBEq, true_or, or_true, or_self, false_or, or_false, Row.is, Gt.g, Szk.of, isM, List.map, Pt.f, stpF, setI, opS_re, hi, re_v, re_op, re_ins, re_seg, re_rep, re_re, hdS_re, E_re, O_re, setA_re, setB_re, setC_re, pA, pCL, pDX, pR, pG, pRm, pCr, pI, pIb, pIw, pIs, pJ, pJb, pFar, pEb, pEw, pSeg, pNum, modrm_re, modrm_E, modrm_twice, modrm_refuse, refuse_two, modrm_v, take_v, bytes_v, E_v, refuse_v, E_again, bytes_re, refuse_re, egM, szM, oddI, strI, mem9, ← rsegD_eq hg, segD, memO, isStr, pString, Int.reduceMod, Int.reduceDiv, Bool.false_eq_true, Int.reduceSub, Int.reduceAdd, reduceIte, Int.reduceEq]
    first
      | with_reducible exact same_re _ _ _
      | with_reducible exact same_ref _ _ _ _
      | with_reducible exact same_E _ _ _ _ _ _
      | with_reducible exact same_refE _ _ _ _ _ _
      | with_reducible exact same_EE _ _ _ _ _ _
      | ((with_reducible refine same_re' _ _ _ _ ?_); exact rfl)
      | exact ⟨rfl, fun _ => ⟨rfl, rfl⟩⟩
theorem ag_142 (hb : MidOk X σ) : Ag X σ 142 := by
  rcases mid8 X σ hb with hm | hm | hm | hm | hm | hm | hm | hm
  refine ⟨_, _, fun w f h => ag_call (one_group w X σ f 142 h (by decide) (by decide) _ _ _ _ (fun W hW => group_142 W X σ f hW hf (by rw [hm]; decide))), ?_⟩
  rotate_left
  refine ⟨_, _, fun w f h => ag_call (one_group w X σ f 142 h (by decide) (by decide) _ _ _ _ (fun W hW => group_142_u W X σ f hW hf (.inl hm))), ?_⟩
  rotate_left
  refine ⟨_, _, fun w f h => ag_call (one_group w X σ f 142 h (by decide) (by decide) _ _ _ _ (fun W hW => group_142 W X σ f hW hf (by rw [hm]; decide))), ?_⟩
  rotate_left
  refine ⟨_, _, fun w f h => ag_call (one_group w X σ f 142 h (by decide) (by decide) _ _ _ _ (fun W hW => group_142 W X σ f hW hf (by rw [hm]; decide))), ?_⟩
  rotate_left
  refine ⟨_, _, fun w f h => ag_call (one_group w X σ f 142 h (by decide) (by decide) _ _ _ _ (fun W hW => group_142 W X σ f hW hf (by rw [hm]; decide))), ?_⟩
  rotate_left
  refine ⟨_, _, fun w f h => ag_call (one_group w X σ f 142 h (by decide) (by decide) _ _ _ _ (fun W hW => group_142 W X σ f hW hf (by rw [hm]; decide))), ?_⟩
  rotate_left
  refine ⟨_, _, fun w f h => ag_call (one_group w X σ f 142 h (by decide) (by decide) _ _ _ _ (fun W hW => group_142_u W X σ f hW hf (.inr (.inl hm)))), ?_⟩
  rotate_left
  refine ⟨_, _, fun w f h => ag_call (one_group w X σ f 142 h (by decide) (by decide) _ _ _ _ (fun W hW => group_142_u W X σ f hW hf (.inr (.inr hm)))), ?_⟩
  rotate_left
  all_goals
    simp only [opM, behM, rule_142, hm, reduceIte, Int.reduceEq, Int.reduceAdd, Rule.g, Row.g, Gt.g, onlyM, opS_re, modrm_re, List.contains, List.elem, Int.reduceBEq, Bool.false_eq_true, refuse_re]
    first
      | with_reducible exact same_ref _ _ _ _
      | with_reducible exact same_stuck (rdRowIs _) _ _ _ _ _
      | skip
  all_goals
    simp only [hm, gUn, gFF, gSys, gTo, gFrom, onlyM, onlyMem, List.contains, List.elem, Int.reduceBEq, true_or, or_true, or_self, false_or, or_false, Row.is, Gt.g, Szk.of, isM, List.map, Pt.f, stpF, setI, opS_re, hi, re_v, re_op, re_ins, re_seg, re_rep, re_re, hdS_re, E_re, O_re, setA_re, setB_re, setC_re, pA, pCL, pDX, pR, pG, pRm, pCr, pI, pIb, pIw, pIs, pJ, pJb, pFar, pEb, pEw, pSeg, pNum, modrm_re, modrm_E, modrm_twice, modrm_refuse, refuse_two, modrm_v, take_v, bytes_v, E_v, refuse_v, E_again, bytes_re, refuse_re, egM, szM, oddI, strI, mem9, ← rsegD_eq hg, segD, memO, isStr, pString, Int.reduceMod, Int.reduceDiv, Bool.false_eq_true, Int.reduceSub, Int.reduceAdd, reduceIte, Int.reduceEq]
    first
      | with_reducible exact same_re _ _ _
      | with_reducible exact same_ref _ _ _ _
      | with_reducible exact same_E _ _ _ _ _ _
      | with_reducible exact same_refE _ _ _ _ _ _
      | with_reducible exact same_EE _ _ _ _ _ _
      | ((with_reducible refine same_re' _ _ _ _ ?_); exact rfl)
      | exact ⟨rfl, fun _ => ⟨rfl, rfl⟩⟩
theorem ag_143 (hb : MidOk X σ) : Ag X σ 143 := by
  rcases mid8 X σ hb with hm | hm | hm | hm | hm | hm | hm | hm
  refine ⟨_, _, fun w f h => ag_call (one_group w X σ f 143 h (by decide) (by decide) _ _ _ _ (fun W hW => group_143_0 W X σ f hW hf hm)), ?_⟩
  rotate_left
  refine ⟨_, _, fun w f h => ag_call (one_group w X σ f 143 h (by decide) (by decide) _ _ _ _ (fun W hW => group_143_u W X σ f hW hf (.inl hm))), ?_⟩
  rotate_left
  refine ⟨_, _, fun w f h => ag_call (one_group w X σ f 143 h (by decide) (by decide) _ _ _ _ (fun W hW => group_143_u W X σ f hW hf (.inr (.inl hm)))), ?_⟩
  rotate_left
  refine ⟨_, _, fun w f h => ag_call (one_group w X σ f 143 h (by decide) (by decide) _ _ _ _ (fun W hW => group_143_u W X σ f hW hf (.inr (.inr (.inl hm))))), ?_⟩
  rotate_left
  refine ⟨_, _, fun w f h => ag_call (one_group w X σ f 143 h (by decide) (by decide) _ _ _ _ (fun W hW => group_143_u W X σ f hW hf (.inr (.inr (.inr (.inl hm)))))), ?_⟩
  rotate_left
  refine ⟨_, _, fun w f h => ag_call (one_group w X σ f 143 h (by decide) (by decide) _ _ _ _ (fun W hW => group_143_u W X σ f hW hf (.inr (.inr (.inr (.inr (.inl hm))))))), ?_⟩
  rotate_left
  refine ⟨_, _, fun w f h => ag_call (one_group w X σ f 143 h (by decide) (by decide) _ _ _ _ (fun W hW => group_143_u W X σ f hW hf (.inr (.inr (.inr (.inr (.inr (.inl hm)))))))), ?_⟩
  rotate_left
  refine ⟨_, _, fun w f h => ag_call (one_group w X σ f 143 h (by decide) (by decide) _ _ _ _ (fun W hW => group_143_u W X σ f hW hf (.inr (.inr (.inr (.inr (.inr (.inr hm)))))))), ?_⟩
  rotate_left
  all_goals
    simp only [opM, behM, rule_143, hm, reduceIte, Int.reduceEq, Int.reduceAdd, Rule.g, Row.g, Gt.g, onlyM, opS_re, modrm_re, List.contains, List.elem, Int.reduceBEq, Bool.false_eq_true, refuse_re]
    first
      | with_reducible exact same_ref _ _ _ _
      | with_reducible exact same_stuck (rdRowIs _) _ _ _ _ _
      | skip
  all_goals
    simp only [hm, gUn, gFF, gSys, gTo, gFrom, onlyM, onlyMem, List.contains, List.elem, Int.reduceBEq, true_or, or_true, or_self, false_or, or_false, Row.is, Gt.g, Szk.of, isM, List.map, Pt.f, stpF, setI, opS_re, hi, re_v, re_op, re_ins, re_seg, re_rep, re_re, hdS_re, E_re, O_re, setA_re, setB_re, setC_re, pA, pCL, pDX, pR, pG, pRm, pCr, pI, pIb, pIw, pIs, pJ, pJb, pFar, pEb, pEw, pSeg, pNum, modrm_re, modrm_E, modrm_twice, modrm_refuse, refuse_two, modrm_v, take_v, bytes_v, E_v, refuse_v, E_again, bytes_re, refuse_re, egM, szM, oddI, strI, mem9, ← rsegD_eq hg, segD, memO, isStr, pString, Int.reduceMod, Int.reduceDiv, Bool.false_eq_true, Int.reduceSub, Int.reduceAdd, reduceIte, Int.reduceEq]
    first
      | with_reducible exact same_re _ _ _
      | with_reducible exact same_ref _ _ _ _
      | with_reducible exact same_E _ _ _ _ _ _
      | with_reducible exact same_refE _ _ _ _ _ _
      | with_reducible exact same_EE _ _ _ _ _ _
      | ((with_reducible refine same_re' _ _ _ _ ?_); exact rfl)
      | exact ⟨rfl, fun _ => ⟨rfl, rfl⟩⟩
theorem ag_c8 (b : Int) (hp : isPre b = false) (h0 : 128 ≤ b) (h1 : b < 144) : Ag X σ b := by
  rcases (by omega : b = 128 ∨ b = 129 ∨ b = 130 ∨ b = 131 ∨ b = 132 ∨ b = 133 ∨ b = 134 ∨ b = 135 ∨ b = 136 ∨ b = 137 ∨ b = 138 ∨ b = 139 ∨ b = 140 ∨ b = 141 ∨ b = 142 ∨ b = 143) with rfl | rfl | rfl | rfl | rfl | rfl | rfl | rfl | rfl | rfl | rfl | rfl | rfl | rfl | rfl | rfl
  refine ⟨_, _, fun w f h => ag_call (one_group w X σ f 128 h (by decide) (by decide) _ _ _ _ (fun W hW => group_128 W X σ f hW hf)), ?_⟩
  rotate_left
  refine ⟨_, _, fun w f h => ag_call (one_group w X σ f 129 h (by decide) (by decide) _ _ _ _ (fun W hW => group_129 W X σ f hW hf)), ?_⟩
  rotate_left
  refine ⟨_, _, fun w f h => ag_call (one_group w X σ f 130 h (by decide) (by decide) _ _ _ _ (fun W hW => group_130u W X σ f hW)), ?_⟩
  rotate_left
  refine ⟨_, _, fun w f h => ag_call (one_group w X σ f 131 h (by decide) (by decide) _ _ _ _ (fun W hW => group_131 W X σ f hW hf)), ?_⟩
  rotate_left
  refine ⟨_, _, fun w f h => ag_call (one_group w X σ f 132 h (by decide) (by decide) _ _ _ _ (fun W hW => group_132 W X σ f hW hf)), ?_⟩
  rotate_left
  refine ⟨_, _, fun w f h => ag_call (one_group w X σ f 133 h (by decide) (by decide) _ _ _ _ (fun W hW => group_133 W X σ f hW hf)), ?_⟩
  rotate_left
  refine ⟨_, _, fun w f h => ag_call (one_group w X σ f 134 h (by decide) (by decide) _ _ _ _ (fun W hW => group_134 W X σ f hW hf)), ?_⟩
  rotate_left
  refine ⟨_, _, fun w f h => ag_call (one_group w X σ f 135 h (by decide) (by decide) _ _ _ _ (fun W hW => group_135 W X σ f hW hf)), ?_⟩
  rotate_left
  refine ⟨_, _, fun w f h => ag_call (one_group w X σ f 136 h (by decide) (by decide) _ _ _ _ (fun W hW => group_136 W X σ f hW hf)), ?_⟩
  rotate_left
  refine ⟨_, _, fun w f h => ag_call (one_group w X σ f 137 h (by decide) (by decide) _ _ _ _ (fun W hW => group_137 W X σ f hW hf)), ?_⟩
  rotate_left
  refine ⟨_, _, fun w f h => ag_call (one_group w X σ f 138 h (by decide) (by decide) _ _ _ _ (fun W hW => group_138 W X σ f hW hf)), ?_⟩
  rotate_left
  refine ⟨_, _, fun w f h => ag_call (one_group w X σ f 139 h (by decide) (by decide) _ _ _ _ (fun W hW => group_139 W X σ f hW hf)), ?_⟩
  rotate_left
  exact ag_140 X σ hf hi hg (mid_ok X hf)
  exact ag_141 X σ hf hi hg (mid_ok X hf)
  exact ag_142 X σ hf hi hg (mid_ok X hf)
  exact ag_143 X σ hf hi hg (mid_ok X hf)
  all_goals
    simp only [opM, behM, rule_128, rule_129, rule_130, rule_131, rule_132, rule_133, rule_134, rule_135, rule_136, rule_137, rule_138, rule_139, reduceIte, Int.reduceEq, Int.reduceAdd, Rule.g, Row.g]
    simp only [Row.is, Gt.g, Szk.of, isM, List.map, Pt.f, stpF, setI, opS_re, hi, re_v, re_op, re_ins, re_seg, re_rep, re_re, hdS_re, E_re, O_re, setA_re, setB_re, setC_re, pA, pCL, pDX, pR, pG, pRm, pCr, pI, pIb, pIw, pIs, pJ, pJb, pFar, pEb, pEw, pSeg, pNum, modrm_re, modrm_E, modrm_twice, modrm_refuse, refuse_two, modrm_v, take_v, bytes_v, E_v, refuse_v, E_again, bytes_re, refuse_re, egM, szM, oddI, strI, mem9, ← rsegD_eq hg, segD, memO, isStr, pString, Int.reduceMod, Int.reduceDiv, Bool.false_eq_true, Int.reduceSub, Int.reduceAdd, reduceIte, Int.reduceEq]
    first
      | with_reducible exact same_re _ _ _
      | with_reducible exact same_ref _ _ _ _
      | with_reducible exact same_E _ _ _ _ _ _
      | with_reducible exact same_refE _ _ _ _ _ _
      | with_reducible exact same_EE _ _ _ _ _ _
      | ((with_reducible refine same_re' _ _ _ _ ?_); exact rfl)
      | exact ⟨rfl, fun _ => ⟨rfl, rfl⟩⟩
theorem ag_c9 (b : Int) (hp : isPre b = false) (h0 : 144 ≤ b) (h1 : b < 160) : Ag X σ b := by
  rcases (by omega : b = 144 ∨ b = 145 ∨ b = 146 ∨ b = 147 ∨ b = 148 ∨ b = 149 ∨ b = 150 ∨ b = 151 ∨ b = 152 ∨ b = 153 ∨ b = 154 ∨ b = 155 ∨ b = 156 ∨ b = 157 ∨ b = 158 ∨ b = 159) with rfl | rfl | rfl | rfl | rfl | rfl | rfl | rfl | rfl | rfl | rfl | rfl | rfl | rfl | rfl | rfl
  refine ⟨_, _, fun w f h => ag_call (one_upper w X σ f 144 h (by decide) (by decide) _ _ _ _ (fun W hW => upper_144 W X σ f hW)), ?_⟩
  rotate_left
  refine ⟨_, _, fun w f h => ag_call (one_upper w X σ f 145 h (by decide) (by decide) _ _ _ _ (fun W hW => upper_91 W X σ f 145 hW (by decide) (by decide) (by decide))), ?_⟩
  rotate_left
  refine ⟨_, _, fun w f h => ag_call (one_upper w X σ f 146 h (by decide) (by decide) _ _ _ _ (fun W hW => upper_91 W X σ f 146 hW (by decide) (by decide) (by decide))), ?_⟩
  rotate_left
  refine ⟨_, _, fun w f h => ag_call (one_upper w X σ f 147 h (by decide) (by decide) _ _ _ _ (fun W hW => upper_91 W X σ f 147 hW (by decide) (by decide) (by decide))), ?_⟩
  rotate_left
  refine ⟨_, _, fun w f h => ag_call (one_upper w X σ f 148 h (by decide) (by decide) _ _ _ _ (fun W hW => upper_91 W X σ f 148 hW (by decide) (by decide) (by decide))), ?_⟩
  rotate_left
  refine ⟨_, _, fun w f h => ag_call (one_upper w X σ f 149 h (by decide) (by decide) _ _ _ _ (fun W hW => upper_91 W X σ f 149 hW (by decide) (by decide) (by decide))), ?_⟩
  rotate_left
  refine ⟨_, _, fun w f h => ag_call (one_upper w X σ f 150 h (by decide) (by decide) _ _ _ _ (fun W hW => upper_91 W X σ f 150 hW (by decide) (by decide) (by decide))), ?_⟩
  rotate_left
  refine ⟨_, _, fun w f h => ag_call (one_upper w X σ f 151 h (by decide) (by decide) _ _ _ _ (fun W hW => upper_91 W X σ f 151 hW (by decide) (by decide) (by decide))), ?_⟩
  rotate_left
  refine ⟨_, _, fun w f h => ag_call (one_upper w X σ f 152 h (by decide) (by decide) _ _ _ _ (fun W hW => upper_152 W X σ f hW)), ?_⟩
  rotate_left
  refine ⟨_, _, fun w f h => ag_call (one_upper w X σ f 153 h (by decide) (by decide) _ _ _ _ (fun W hW => upper_153 W X σ f hW)), ?_⟩
  rotate_left
  refine ⟨_, _, fun w f h => ag_call (one_upper w X σ f 154 h (by decide) (by decide) _ _ _ _ (fun W hW => upper_u W X σ f hW (by decide))), ?_⟩
  rotate_left
  refine ⟨_, _, fun w f h => ag_call (one_upper w X σ f 155 h (by decide) (by decide) _ _ _ _ (fun W hW => upper_u W X σ f hW (by decide))), ?_⟩
  rotate_left
  refine ⟨_, _, fun w f h => ag_call (one_upper w X σ f 156 h (by decide) (by decide) _ _ _ _ (fun W hW => upper_156 W X σ f hW)), ?_⟩
  rotate_left
  refine ⟨_, _, fun w f h => ag_call (one_upper w X σ f 157 h (by decide) (by decide) _ _ _ _ (fun W hW => upper_157 W X σ f hW)), ?_⟩
  rotate_left
  refine ⟨_, _, fun w f h => ag_call (one_upper w X σ f 158 h (by decide) (by decide) _ _ _ _ (fun W hW => upper_158 W X σ f hW)), ?_⟩
  rotate_left
  refine ⟨_, _, fun w f h => ag_call (one_upper w X σ f 159 h (by decide) (by decide) _ _ _ _ (fun W hW => upper_159 W X σ f hW)), ?_⟩
  rotate_left
  all_goals
    simp only [opM, behM, rule_144, rule_145, rule_146, rule_147, rule_148, rule_149, rule_150, rule_151, rule_152, rule_153, rule_154, rule_155, rule_156, rule_157, rule_158, rule_159, reduceIte, Int.reduceEq, Int.reduceAdd, Rule.g, Row.g]
    simp only [Row.is, Gt.g, Szk.of, isM, List.map, Pt.f, stpF, setI, opS_re, hi, re_v, re_op, re_ins, re_seg, re_rep, re_re, hdS_re, E_re, O_re, setA_re, setB_re, setC_re, pA, pCL, pDX, pR, pG, pRm, pCr, pI, pIb, pIw, pIs, pJ, pJb, pFar, pEb, pEw, pSeg, pNum, modrm_re, modrm_E, modrm_twice, modrm_refuse, refuse_two, modrm_v, take_v, bytes_v, E_v, refuse_v, E_again, bytes_re, refuse_re, egM, szM, oddI, strI, mem9, ← rsegD_eq hg, segD, memO, isStr, pString, Int.reduceMod, Int.reduceDiv, Bool.false_eq_true, Int.reduceSub, Int.reduceAdd, reduceIte, Int.reduceEq]
    first
      | with_reducible exact same_re _ _ _
      | with_reducible exact same_ref _ _ _ _
      | with_reducible exact same_E _ _ _ _ _ _
      | with_reducible exact same_refE _ _ _ _ _ _
      | with_reducible exact same_EE _ _ _ _ _ _
      | ((with_reducible refine same_re' _ _ _ _ ?_); exact rfl)
      | exact ⟨rfl, fun _ => ⟨rfl, rfl⟩⟩
theorem ag_c10 (b : Int) (hp : isPre b = false) (h0 : 160 ≤ b) (h1 : b < 176) : Ag X σ b := by
  rcases (by omega : b = 160 ∨ b = 161 ∨ b = 162 ∨ b = 163 ∨ b = 164 ∨ b = 165 ∨ b = 166 ∨ b = 167 ∨ b = 168 ∨ b = 169 ∨ b = 170 ∨ b = 171 ∨ b = 172 ∨ b = 173 ∨ b = 174 ∨ b = 175) with rfl | rfl | rfl | rfl | rfl | rfl | rfl | rfl | rfl | rfl | rfl | rfl | rfl | rfl | rfl | rfl
  refine ⟨_, _, fun w f h => ag_call (one_upper w X σ f 160 h (by decide) (by decide) _ _ _ _ (fun W hW => upper_160 W X σ f hW)), ?_⟩
  rotate_left
  refine ⟨_, _, fun w f h => ag_call (one_upper w X σ f 161 h (by decide) (by decide) _ _ _ _ (fun W hW => upper_161 W X σ f hW)), ?_⟩
  rotate_left
  refine ⟨_, _, fun w f h => ag_call (one_upper w X σ f 162 h (by decide) (by decide) _ _ _ _ (fun W hW => upper_162 W X σ f hW)), ?_⟩
  rotate_left
  refine ⟨_, _, fun w f h => ag_call (one_upper w X σ f 163 h (by decide) (by decide) _ _ _ _ (fun W hW => upper_163 W X σ f hW)), ?_⟩
  rotate_left
  refine ⟨_, _, fun w f h => ag_call (one_upper w X σ f 164 h (by decide) (by decide) _ _ _ _ (fun W hW => upper_164 W X σ f hW)), ?_⟩
  rotate_left
  refine ⟨_, _, fun w f h => ag_call (one_upper w X σ f 165 h (by decide) (by decide) _ _ _ _ (fun W hW => upper_165 W X σ f hW)), ?_⟩
  rotate_left
  refine ⟨_, _, fun w f h => ag_call (one_upper w X σ f 166 h (by decide) (by decide) _ _ _ _ (fun W hW => upper_166 W X σ f hW)), ?_⟩
  rotate_left
  refine ⟨_, _, fun w f h => ag_call (one_upper w X σ f 167 h (by decide) (by decide) _ _ _ _ (fun W hW => upper_167 W X σ f hW)), ?_⟩
  rotate_left
  refine ⟨_, _, fun w f h => ag_call (one_upper w X σ f 168 h (by decide) (by decide) _ _ _ _ (fun W hW => upper_168 W X σ f hW)), ?_⟩
  rotate_left
  refine ⟨_, _, fun w f h => ag_call (one_upper w X σ f 169 h (by decide) (by decide) _ _ _ _ (fun W hW => upper_169 W X σ f hW)), ?_⟩
  rotate_left
  refine ⟨_, _, fun w f h => ag_call (one_upper w X σ f 170 h (by decide) (by decide) _ _ _ _ (fun W hW => upper_170 W X σ f hW)), ?_⟩
  rotate_left
  refine ⟨_, _, fun w f h => ag_call (one_upper w X σ f 171 h (by decide) (by decide) _ _ _ _ (fun W hW => upper_171 W X σ f hW)), ?_⟩
  rotate_left
  refine ⟨_, _, fun w f h => ag_call (one_upper w X σ f 172 h (by decide) (by decide) _ _ _ _ (fun W hW => upper_172 W X σ f hW)), ?_⟩
  rotate_left
  refine ⟨_, _, fun w f h => ag_call (one_upper w X σ f 173 h (by decide) (by decide) _ _ _ _ (fun W hW => upper_173 W X σ f hW)), ?_⟩
  rotate_left
  refine ⟨_, _, fun w f h => ag_call (one_upper w X σ f 174 h (by decide) (by decide) _ _ _ _ (fun W hW => upper_174 W X σ f hW)), ?_⟩
  rotate_left
  refine ⟨_, _, fun w f h => ag_call (one_upper w X σ f 175 h (by decide) (by decide) _ _ _ _ (fun W hW => upper_175 W X σ f hW)), ?_⟩
  rotate_left
  all_goals
    simp only [opM, behM, rule_160, rule_161, rule_162, rule_163, rule_164, rule_165, rule_166, rule_167, rule_168, rule_169, rule_170, rule_171, rule_172, rule_173, rule_174, rule_175, reduceIte, Int.reduceEq, Int.reduceAdd, Rule.g, Row.g]
    simp only [Row.is, Gt.g, Szk.of, isM, List.map, Pt.f, stpF, setI, opS_re, hi, re_v, re_op, re_ins, re_seg, re_rep, re_re, hdS_re, E_re, O_re, setA_re, setB_re, setC_re, pA, pCL, pDX, pR, pG, pRm, pCr, pI, pIb, pIw, pIs, pJ, pJb, pFar, pEb, pEw, pSeg, pNum, modrm_re, modrm_E, modrm_twice, modrm_refuse, refuse_two, modrm_v, take_v, bytes_v, E_v, refuse_v, E_again, bytes_re, refuse_re, egM, szM, oddI, strI, mem9, ← rsegD_eq hg, segD, memO, isStr, pString, Int.reduceMod, Int.reduceDiv, Bool.false_eq_true, Int.reduceSub, Int.reduceAdd, reduceIte, Int.reduceEq]
    first
      | with_reducible exact same_re _ _ _
      | with_reducible exact same_ref _ _ _ _
      | with_reducible exact same_E _ _ _ _ _ _
      | with_reducible exact same_refE _ _ _ _ _ _
      | with_reducible exact same_EE _ _ _ _ _ _
      | ((with_reducible refine same_re' _ _ _ _ ?_); exact rfl)
      | exact ⟨rfl, fun _ => ⟨rfl, rfl⟩⟩
theorem ag_c11 (b : Int) (hp : isPre b = false) (h0 : 176 ≤ b) (h1 : b < 192) : Ag X σ b := by
  rcases (by omega : b = 176 ∨ b = 177 ∨ b = 178 ∨ b = 179 ∨ b = 180 ∨ b = 181 ∨ b = 182 ∨ b = 183 ∨ b = 184 ∨ b = 185 ∨ b = 186 ∨ b = 187 ∨ b = 188 ∨ b = 189 ∨ b = 190 ∨ b = 191) with rfl | rfl | rfl | rfl | rfl | rfl | rfl | rfl | rfl | rfl | rfl | rfl | rfl | rfl | rfl | rfl
  refine ⟨_, _, fun w f h => ag_call (one_upper w X σ f 176 h (by decide) (by decide) _ _ _ _ (fun W hW => upper_B0 W X σ f 176 hW (by decide) (by decide) (by decide))), ?_⟩
  rotate_left
  refine ⟨_, _, fun w f h => ag_call (one_upper w X σ f 177 h (by decide) (by decide) _ _ _ _ (fun W hW => upper_B0 W X σ f 177 hW (by decide) (by decide) (by decide))), ?_⟩
  rotate_left
  refine ⟨_, _, fun w f h => ag_call (one_upper w X σ f 178 h (by decide) (by decide) _ _ _ _ (fun W hW => upper_B0 W X σ f 178 hW (by decide) (by decide) (by decide))), ?_⟩
  rotate_left
  refine ⟨_, _, fun w f h => ag_call (one_upper w X σ f 179 h (by decide) (by decide) _ _ _ _ (fun W hW => upper_B0 W X σ f 179 hW (by decide) (by decide) (by decide))), ?_⟩
  rotate_left
  refine ⟨_, _, fun w f h => ag_call (one_upper w X σ f 180 h (by decide) (by decide) _ _ _ _ (fun W hW => upper_B0 W X σ f 180 hW (by decide) (by decide) (by decide))), ?_⟩
  rotate_left
  refine ⟨_, _, fun w f h => ag_call (one_upper w X σ f 181 h (by decide) (by decide) _ _ _ _ (fun W hW => upper_B0 W X σ f 181 hW (by decide) (by decide) (by decide))), ?_⟩
  rotate_left
  refine ⟨_, _, fun w f h => ag_call (one_upper w X σ f 182 h (by decide) (by decide) _ _ _ _ (fun W hW => upper_B0 W X σ f 182 hW (by decide) (by decide) (by decide))), ?_⟩
  rotate_left
  refine ⟨_, _, fun w f h => ag_call (one_upper w X σ f 183 h (by decide) (by decide) _ _ _ _ (fun W hW => upper_B0 W X σ f 183 hW (by decide) (by decide) (by decide))), ?_⟩
  rotate_left
  refine ⟨_, _, fun w f h => ag_call (one_upper w X σ f 184 h (by decide) (by decide) _ _ _ _ (fun W hW => upper_B8 W X σ f 184 hW (by decide) (by decide))), ?_⟩
  rotate_left
  refine ⟨_, _, fun w f h => ag_call (one_upper w X σ f 185 h (by decide) (by decide) _ _ _ _ (fun W hW => upper_B8 W X σ f 185 hW (by decide) (by decide))), ?_⟩
  rotate_left
  refine ⟨_, _, fun w f h => ag_call (one_upper w X σ f 186 h (by decide) (by decide) _ _ _ _ (fun W hW => upper_B8 W X σ f 186 hW (by decide) (by decide))), ?_⟩
  rotate_left
  refine ⟨_, _, fun w f h => ag_call (one_upper w X σ f 187 h (by decide) (by decide) _ _ _ _ (fun W hW => upper_B8 W X σ f 187 hW (by decide) (by decide))), ?_⟩
  rotate_left
  refine ⟨_, _, fun w f h => ag_call (one_upper w X σ f 188 h (by decide) (by decide) _ _ _ _ (fun W hW => upper_B8 W X σ f 188 hW (by decide) (by decide))), ?_⟩
  rotate_left
  refine ⟨_, _, fun w f h => ag_call (one_upper w X σ f 189 h (by decide) (by decide) _ _ _ _ (fun W hW => upper_B8 W X σ f 189 hW (by decide) (by decide))), ?_⟩
  rotate_left
  refine ⟨_, _, fun w f h => ag_call (one_upper w X σ f 190 h (by decide) (by decide) _ _ _ _ (fun W hW => upper_B8 W X σ f 190 hW (by decide) (by decide))), ?_⟩
  rotate_left
  refine ⟨_, _, fun w f h => ag_call (one_upper w X σ f 191 h (by decide) (by decide) _ _ _ _ (fun W hW => upper_B8 W X σ f 191 hW (by decide) (by decide))), ?_⟩
  rotate_left
  all_goals
    simp only [opM, behM, rule_176, rule_177, rule_178, rule_179, rule_180, rule_181, rule_182, rule_183, rule_184, rule_185, rule_186, rule_187, rule_188, rule_189, rule_190, rule_191, reduceIte, Int.reduceEq, Int.reduceAdd, Rule.g, Row.g]
    simp only [Row.is, Gt.g, Szk.of, isM, List.map, Pt.f, stpF, setI, opS_re, hi, re_v, re_op, re_ins, re_seg, re_rep, re_re, hdS_re, E_re, O_re, setA_re, setB_re, setC_re, pA, pCL, pDX, pR, pG, pRm, pCr, pI, pIb, pIw, pIs, pJ, pJb, pFar, pEb, pEw, pSeg, pNum, modrm_re, modrm_E, modrm_twice, modrm_refuse, refuse_two, modrm_v, take_v, bytes_v, E_v, refuse_v, E_again, bytes_re, refuse_re, egM, szM, oddI, strI, mem9, ← rsegD_eq hg, segD, memO, isStr, pString, Int.reduceMod, Int.reduceDiv, Bool.false_eq_true, Int.reduceSub, Int.reduceAdd, reduceIte, Int.reduceEq]
    first
      | with_reducible exact same_re _ _ _
      | with_reducible exact same_ref _ _ _ _
      | with_reducible exact same_E _ _ _ _ _ _
      | with_reducible exact same_refE _ _ _ _ _ _
      | with_reducible exact same_EE _ _ _ _ _ _
      | ((with_reducible refine same_re' _ _ _ _ ?_); exact rfl)
      | exact ⟨rfl, fun _ => ⟨rfl, rfl⟩⟩
end
end Go.Proofs.YtbfccfhjgopnbaaGreat
