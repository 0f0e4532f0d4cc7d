/- The document's reader, and the code's (RfAgH). -/
import Derived.Test.YtbfccfhjgopnbaaGreatDr19
import Derived.Test.YtbfccfhjgopnbaaGreatDr37
import Derived.Test.YtbfccfhjgopnbaaGreatDr16
import Derived.Test.YtbfccfhjgopnbaaGreatDr38
import Derived.Test.YtbfccfhjgopnbaaGreatDr39
import Derived.Test.YtbfccfhjgopnbaaGreatDr10
import Derived.Test.YtbfccfhjgopnbaaGreatDr13
import Derived.Test.YtbfccfhjgopnbaaGreatDr14
import Derived.Test.YtbfccfhjgopnbaaGreatDr40
import Derived.Test.YtbfccfhjgopnbaaGreatDr41
set_option linter.unusedSimpArgs false
namespace Go.Proofs.YtbfccfhjgopnbaaGreat
open Go.ChangeShapes Go.WideShapes Go.ChangeAt Go.RowKit
set_option linter.unusedVariables false
set_option linter.unusedSimpArgs false
set_option linter.unusedSectionVars false
set_option maxHeartbeats 4000000
theorem rule_3840 : ruleOf 3840 = some (.row ⟨(.only [3]), 44, (.k 0), (.k 2), [.E]⟩) := by decide +kernel
theorem rule_3841 : ruleOf 3841 = some .sys := by decide +kernel
theorem rule_3846 : ruleOf 3846 = some (.row ⟨.no, 47, (.k 0), (.k 4), []⟩) := by decide +kernel
theorem rule_3872 : ruleOf 3872 = some (.row ⟨(.only [0, 2, 3]), 45, (.k 0), (.k 4), [.Rm, .Cr]⟩) := by decide +kernel
theorem rule_3874 : ruleOf 3874 = some (.row ⟨(.only [0, 2, 3]), 45, (.k 0), (.k 4), [.Cr, .Rm]⟩) := by decide +kernel
theorem rule_3904 : ruleOf 3904 = some (.row ⟨.no, 26, .opc, .v, [.G, .E]⟩) := by decide +kernel
theorem rule_3905 : ruleOf 3905 = some (.row ⟨.no, 26, .opc, .v, [.G, .E]⟩) := by decide +kernel
theorem rule_3906 : ruleOf 3906 = some (.row ⟨.no, 26, .opc, .v, [.G, .E]⟩) := by decide +kernel
theorem rule_3907 : ruleOf 3907 = some (.row ⟨.no, 26, .opc, .v, [.G, .E]⟩) := by decide +kernel
theorem rule_3908 : ruleOf 3908 = some (.row ⟨.no, 26, .opc, .v, [.G, .E]⟩) := by decide +kernel
theorem rule_3909 : ruleOf 3909 = some (.row ⟨.no, 26, .opc, .v, [.G, .E]⟩) := by decide +kernel
theorem rule_3910 : ruleOf 3910 = some (.row ⟨.no, 26, .opc, .v, [.G, .E]⟩) := by decide +kernel
theorem rule_3911 : ruleOf 3911 = some (.row ⟨.no, 26, .opc, .v, [.G, .E]⟩) := by decide +kernel
theorem rule_3912 : ruleOf 3912 = some (.row ⟨.no, 26, .opc, .v, [.G, .E]⟩) := by decide +kernel
theorem rule_3913 : ruleOf 3913 = some (.row ⟨.no, 26, .opc, .v, [.G, .E]⟩) := by decide +kernel
theorem rule_3914 : ruleOf 3914 = some (.row ⟨.no, 26, .opc, .v, [.G, .E]⟩) := by decide +kernel
theorem rule_3915 : ruleOf 3915 = some (.row ⟨.no, 26, .opc, .v, [.G, .E]⟩) := by decide +kernel
theorem rule_3916 : ruleOf 3916 = some (.row ⟨.no, 26, .opc, .v, [.G, .E]⟩) := by decide +kernel
theorem rule_3917 : ruleOf 3917 = some (.row ⟨.no, 26, .opc, .v, [.G, .E]⟩) := by decide +kernel
theorem rule_3918 : ruleOf 3918 = some (.row ⟨.no, 26, .opc, .v, [.G, .E]⟩) := by decide +kernel
theorem rule_3919 : ruleOf 3919 = some (.row ⟨.no, 26, .opc, .v, [.G, .E]⟩) := by decide +kernel
theorem rule_3968 : ruleOf 3968 = some (.row ⟨.no, 28, .opc, .v, [.J]⟩) := by decide +kernel
theorem rule_3969 : ruleOf 3969 = some (.row ⟨.no, 28, .opc, .v, [.J]⟩) := by decide +kernel
theorem rule_3970 : ruleOf 3970 = some (.row ⟨.no, 28, .opc, .v, [.J]⟩) := by decide +kernel
theorem rule_3971 : ruleOf 3971 = some (.row ⟨.no, 28, .opc, .v, [.J]⟩) := by decide +kernel
theorem rule_3972 : ruleOf 3972 = some (.row ⟨.no, 28, .opc, .v, [.J]⟩) := by decide +kernel
theorem rule_3973 : ruleOf 3973 = some (.row ⟨.no, 28, .opc, .v, [.J]⟩) := by decide +kernel
theorem rule_3974 : ruleOf 3974 = some (.row ⟨.no, 28, .opc, .v, [.J]⟩) := by decide +kernel
theorem rule_3975 : ruleOf 3975 = some (.row ⟨.no, 28, .opc, .v, [.J]⟩) := by decide +kernel
theorem rule_3976 : ruleOf 3976 = some (.row ⟨.no, 28, .opc, .v, [.J]⟩) := by decide +kernel
theorem rule_3977 : ruleOf 3977 = some (.row ⟨.no, 28, .opc, .v, [.J]⟩) := by decide +kernel
theorem rule_3978 : ruleOf 3978 = some (.row ⟨.no, 28, .opc, .v, [.J]⟩) := by decide +kernel
theorem rule_3979 : ruleOf 3979 = some (.row ⟨.no, 28, .opc, .v, [.J]⟩) := by decide +kernel
theorem rule_3980 : ruleOf 3980 = some (.row ⟨.no, 28, .opc, .v, [.J]⟩) := by decide +kernel
theorem rule_3981 : ruleOf 3981 = some (.row ⟨.no, 28, .opc, .v, [.J]⟩) := by decide +kernel
theorem rule_3982 : ruleOf 3982 = some (.row ⟨.no, 28, .opc, .v, [.J]⟩) := by decide +kernel
theorem rule_3983 : ruleOf 3983 = some (.row ⟨.no, 28, .opc, .v, [.J]⟩) := by decide +kernel
theorem rule_3984 : ruleOf 3984 = some (.row ⟨.no, 25, .opc, (.k 1), [.E]⟩) := by decide +kernel
theorem rule_3985 : ruleOf 3985 = some (.row ⟨.no, 25, .opc, (.k 1), [.E]⟩) := by decide +kernel
theorem rule_3986 : ruleOf 3986 = some (.row ⟨.no, 25, .opc, (.k 1), [.E]⟩) := by decide +kernel
theorem rule_3987 : ruleOf 3987 = some (.row ⟨.no, 25, .opc, (.k 1), [.E]⟩) := by decide +kernel
theorem rule_3988 : ruleOf 3988 = some (.row ⟨.no, 25, .opc, (.k 1), [.E]⟩) := by decide +kernel
theorem rule_3989 : ruleOf 3989 = some (.row ⟨.no, 25, .opc, (.k 1), [.E]⟩) := by decide +kernel
theorem rule_3990 : ruleOf 3990 = some (.row ⟨.no, 25, .opc, (.k 1), [.E]⟩) := by decide +kernel
theorem rule_3991 : ruleOf 3991 = some (.row ⟨.no, 25, .opc, (.k 1), [.E]⟩) := by decide +kernel
theorem rule_3992 : ruleOf 3992 = some (.row ⟨.no, 25, .opc, (.k 1), [.E]⟩) := by decide +kernel
theorem rule_3993 : ruleOf 3993 = some (.row ⟨.no, 25, .opc, (.k 1), [.E]⟩) := by decide +kernel
theorem rule_3994 : ruleOf 3994 = some (.row ⟨.no, 25, .opc, (.k 1), [.E]⟩) := by decide +kernel
theorem rule_3995 : ruleOf 3995 = some (.row ⟨.no, 25, .opc, (.k 1), [.E]⟩) := by decide +kernel
theorem rule_3996 : ruleOf 3996 = some (.row ⟨.no, 25, .opc, (.k 1), [.E]⟩) := by decide +kernel
theorem rule_3997 : ruleOf 3997 = some (.row ⟨.no, 25, .opc, (.k 1), [.E]⟩) := by decide +kernel
theorem rule_3998 : ruleOf 3998 = some (.row ⟨.no, 25, .opc, (.k 1), [.E]⟩) := by decide +kernel
theorem rule_3999 : ruleOf 3999 = some (.row ⟨.no, 25, .opc, (.k 1), [.E]⟩) := by decide +kernel
theorem rule_4000 : ruleOf 4000 = some (.row ⟨.no, 12, (.k 0), .v, [(.Seg 4)]⟩) := by decide +kernel
theorem rule_4001 : ruleOf 4001 = some (.row ⟨.no, 13, (.k 0), .v, [(.Seg 4)]⟩) := by decide +kernel
theorem rule_4003 : ruleOf 4003 = some (.row ⟨.no, 23, (.k 0), .v, [.E, .G]⟩) := by decide +kernel
theorem rule_4004 : ruleOf 4004 = some (.row ⟨.no, 3, (.k 0), .v, [.E, .G, .Ib]⟩) := by decide +kernel
theorem rule_4005 : ruleOf 4005 = some (.row ⟨.no, 3, (.k 0), .v, [.E, .G, .CL]⟩) := by decide +kernel
theorem rule_4008 : ruleOf 4008 = some (.row ⟨.no, 12, (.k 0), .v, [(.Seg 5)]⟩) := by decide +kernel
theorem rule_4009 : ruleOf 4009 = some (.row ⟨.no, 13, (.k 0), .v, [(.Seg 5)]⟩) := by decide +kernel
theorem rule_4011 : ruleOf 4011 = some (.row ⟨.no, 23, (.k 1), .v, [.E, .G]⟩) := by decide +kernel
theorem rule_4012 : ruleOf 4012 = some (.row ⟨.no, 3, (.k 1), .v, [.E, .G, .Ib]⟩) := by decide +kernel
theorem rule_4013 : ruleOf 4013 = some (.row ⟨.no, 3, (.k 1), .v, [.E, .G, .CL]⟩) := by decide +kernel
theorem rule_4015 : ruleOf 4015 = some (.row ⟨.no, 5, (.k 0), .v, [.G, .E]⟩) := by decide +kernel
theorem rule_4026 : ruleOf 4026 = some (.row ⟨(.only [4, 5, 6, 7]), 23, .mm4, .v, [.E, .Ib]⟩) := by decide +kernel
theorem rule_4019 : ruleOf 4019 = some (.row ⟨.no, 23, (.k 2), .v, [.E, .G]⟩) := by decide +kernel
theorem rule_4022 : ruleOf 4022 = some (.row ⟨.no, 9, (.k 0), .v, [.G, .Eb]⟩) := by decide +kernel
theorem rule_4023 : ruleOf 4023 = some (.row ⟨.no, 9, (.k 0), .v, [.G, .Ew]⟩) := by decide +kernel
theorem rule_4027 : ruleOf 4027 = some (.row ⟨.no, 23, (.k 3), .v, [.E, .G]⟩) := by decide +kernel
theorem rule_4028 : ruleOf 4028 = some (.row ⟨.no, 24, (.k 0), .v, [.G, .E]⟩) := by decide +kernel
theorem rule_4029 : ruleOf 4029 = some (.row ⟨.no, 24, (.k 1), .v, [.G, .E]⟩) := by decide +kernel
theorem rule_4030 : ruleOf 4030 = some (.row ⟨.no, 9, (.k 1), .v, [.G, .Eb]⟩) := by decide +kernel
theorem rule_4031 : ruleOf 4031 = some (.row ⟨.no, 9, (.k 1), .v, [.G, .Ew]⟩) := by decide +kernel
theorem rule_4040 : ruleOf 4040 = some (.row ⟨.no, 22, (.k 0), (.k 4), [.R]⟩) := by decide +kernel
theorem rule_4041 : ruleOf 4041 = some (.row ⟨.no, 22, (.k 0), (.k 4), [.R]⟩) := by decide +kernel
theorem rule_4042 : ruleOf 4042 = some (.row ⟨.no, 22, (.k 0), (.k 4), [.R]⟩) := by decide +kernel
theorem rule_4043 : ruleOf 4043 = some (.row ⟨.no, 22, (.k 0), (.k 4), [.R]⟩) := by decide +kernel
theorem rule_4044 : ruleOf 4044 = some (.row ⟨.no, 22, (.k 0), (.k 4), [.R]⟩) := by decide +kernel
theorem rule_4045 : ruleOf 4045 = some (.row ⟨.no, 22, (.k 0), (.k 4), [.R]⟩) := by decide +kernel
theorem rule_4046 : ruleOf 4046 = some (.row ⟨.no, 22, (.k 0), (.k 4), [.R]⟩) := by decide +kernel
theorem rule_4047 : ruleOf 4047 = some (.row ⟨.no, 22, (.k 0), (.k 4), [.R]⟩) := by decide +kernel
section
variable (X : Cx) (σ : Sg) (hf0 : σ.fl = none) (hf : (take X σ).2.fl = none) (hi : (take X σ).2.ins = Ins.zero) (hg : -1 ≤ (take X σ).2.seg) (he : (take X σ).2.err = 0)
include hf0 hf hi hg he
theorem ag2_0 (hd : (take X σ).1 = 0) : Ag X σ 15 := by
  have hb := mid_ok X hf
  rcases mid8 X _ hb with hm | hm | hm | hm | hm | hm | hm | hm
  refine ⟨_, _, fun w f h => ag_call (one_two w X σ f h _ _ _ _ (fun W hW => two_sys0 W X σ f hW hf0 he hd _ _ _ (fun V hV => system_0_u V X (take X σ).2 f hV hf hm (by decide)))), ?_⟩
  rotate_left
  refine ⟨_, _, fun w f h => ag_call (one_two w X σ f h _ _ _ _ (fun W hW => two_sys0 W X σ f hW hf0 he hd _ _ _ (fun V hV => system_0_u V X (take X σ).2 f hV hf hm (by decide)))), ?_⟩
  rotate_left
  refine ⟨_, _, fun w f h => ag_call (one_two w X σ f h _ _ _ _ (fun W hW => two_sys0 W X σ f hW hf0 he hd _ _ _ (fun V hV => system_0_u V X (take X σ).2 f hV hf hm (by decide)))), ?_⟩
  rotate_left
  refine ⟨_, _, fun w f h => ag_call (one_two w X σ f h _ _ _ _ (fun W hW => two_sys0 W X σ f hW hf0 he hd _ _ _ (fun V hV => system_0_3 V X (take X σ).2 f hV hf hm))), ?_⟩
  rotate_left
  refine ⟨_, _, fun w f h => ag_call (one_two w X σ f h _ _ _ _ (fun W hW => two_sys0 W X σ f hW hf0 he hd _ _ _ (fun V hV => system_0_u V X (take X σ).2 f hV hf hm (by decide)))), ?_⟩
  rotate_left
  refine ⟨_, _, fun w f h => ag_call (one_two w X σ f h _ _ _ _ (fun W hW => two_sys0 W X σ f hW hf0 he hd _ _ _ (fun V hV => system_0_u V X (take X σ).2 f hV hf hm (by decide)))), ?_⟩
  rotate_left
  refine ⟨_, _, fun w f h => ag_call (one_two w X σ f h _ _ _ _ (fun W hW => two_sys0 W X σ f hW hf0 he hd _ _ _ (fun V hV => system_0_u V X (take X σ).2 f hV hf hm (by decide)))), ?_⟩
  rotate_left
  refine ⟨_, _, fun w f h => ag_call (one_two w X σ f h _ _ _ _ (fun W hW => two_sys0 W X σ f hW hf0 he hd _ _ _ (fun V hV => system_0_u V X (take X σ).2 f hV hf hm (by decide)))), ?_⟩
  rotate_left
  all_goals
    simp only [opM, behM, rule_3840, hd, hm, reduceIte, Int.reduceEq, Int.reduceAdd, Rule.g, Row.g, Gt.g, onlyM, opS_re, modrm_re, List.contains, List.elem, Int.reduceBEq, Bool.false_eq_true, refuse_re]
    first
      | with_reducible exact same_ref _ _ _ _
      | with_reducible exact same_stuck (rdRowIs _) _ _ _ _ _
      | skip
  all_goals
    simp only [hd, hm, gUn, gFF, gSys, gTo, gFrom, onlyM, onlyMem, List.contains, List.elem, Int.reduceBEq, true_or, or_true, or_self, false_or, or_false, Row.is, Gt.g, Szk.of, isM, List.map, Pt.f, stpF, setI, opS_re, hi, re_v, re_op, re_ins, re_seg, re_rep, re_re, hdS_re, E_re, O_re, setA_re, setB_re, setC_re, pA, pCL, pDX, pR, pG, pRm, pCr, pI, pIb, pIw, pIs, pJ, pJb, pFar, pEb, pEw, pSeg, pNum, modrm_re, modrm_E, modrm_twice, modrm_refuse, refuse_two, modrm_v, take_v, bytes_v, E_v, refuse_v, E_again, bytes_re, refuse_re, egM, szM, oddI, strI, mem9, ← rsegD_eq hg, segD, memO, isStr, pString, Int.reduceMod, Int.reduceDiv, Bool.false_eq_true, Int.reduceSub, Int.reduceAdd, reduceIte, Int.reduceEq]
    first
      | with_reducible exact same_re _ _ _
      | with_reducible exact same_ref _ _ _ _
      | with_reducible exact same_E _ _ _ _ _ _
      | with_reducible exact same_refE _ _ _ _ _ _
      | with_reducible exact same_EE _ _ _ _ _ _
      | ((with_reducible refine same_re' _ _ _ _ ?_); exact rfl)
      | exact ⟨rfl, fun _ => ⟨rfl, rfl⟩⟩
theorem ag2_1 (hd : (take X σ).1 = 1) : Ag X σ 15 := by
  have hb := mid_ok X hf
  rcases mid8 X _ hb with hm | hm | hm | hm | hm | hm | hm | hm
  all_goals by_cases hn : (modrm X (take X σ).2).1.1 = 3
  refine ⟨_, _, fun w f h => ag_call (one_two w X σ f h _ _ _ _ (fun W hW => two_sys1 W X σ f hW hf0 he hd _ _ _ (fun V hV => system_1_ur V X (take X σ).2 f hV hf hm hn (by decide) (by decide)))), ?_⟩
  rotate_left
  refine ⟨_, _, fun w f h => ag_call (one_two w X σ f h _ _ _ _ (fun W hW => two_sys1 W X σ f hW hf0 he hd _ _ _ (fun V hV => system_1_um V X (take X σ).2 f hV hf hm hn (by decide) (by decide) (by decide) (by decide) (by decide)))), ?_⟩
  rotate_left
  refine ⟨_, _, fun w f h => ag_call (one_two w X σ f h _ _ _ _ (fun W hW => two_sys1 W X σ f hW hf0 he hd _ _ _ (fun V hV => system_1_ur V X (take X σ).2 f hV hf hm hn (by decide) (by decide)))), ?_⟩
  rotate_left
  refine ⟨_, _, fun w f h => ag_call (one_two w X σ f h _ _ _ _ (fun W hW => two_sys1 W X σ f hW hf0 he hd _ _ _ (fun V hV => system_1_um V X (take X σ).2 f hV hf hm hn (by decide) (by decide) (by decide) (by decide) (by decide)))), ?_⟩
  rotate_left
  refine ⟨_, _, fun w f h => ag_call (one_two w X σ f h _ _ _ _ (fun W hW => two_sys1 W X σ f hW hf0 he hd _ _ _ (fun V hV => system_1_ur V X (take X σ).2 f hV hf hm hn (by decide) (by decide)))), ?_⟩
  rotate_left
  refine ⟨_, _, fun w f h => ag_call (one_two w X σ f h _ _ _ _ (fun W hW => two_sys1 W X σ f hW hf0 he hd _ _ _ (fun V hV => system_1_2_m V X (take X σ).2 f hV hf hm hn))), ?_⟩
  rotate_left
  refine ⟨_, _, fun w f h => ag_call (one_two w X σ f h _ _ _ _ (fun W hW => two_sys1 W X σ f hW hf0 he hd _ _ _ (fun V hV => system_1_3_r V X (take X σ).2 f hV hf hm hn))), ?_⟩
  rotate_left
  refine ⟨_, _, fun w f h => ag_call (one_two w X σ f h _ _ _ _ (fun W hW => two_sys1 W X σ f hW hf0 he hd _ _ _ (fun V hV => system_1_3_m V X (take X σ).2 f hV hf hm hn))), ?_⟩
  rotate_left
  refine ⟨_, _, fun w f h => ag_call (one_two w X σ f h _ _ _ _ (fun W hW => two_sys1 W X σ f hW hf0 he hd _ _ _ (fun V hV => system_1_ur V X (take X σ).2 f hV hf hm hn (by decide) (by decide)))), ?_⟩
  rotate_left
  refine ⟨_, _, fun w f h => ag_call (one_two w X σ f h _ _ _ _ (fun W hW => two_sys1 W X σ f hW hf0 he hd _ _ _ (fun V hV => system_1_um V X (take X σ).2 f hV hf hm hn (by decide) (by decide) (by decide) (by decide) (by decide)))), ?_⟩
  rotate_left
  refine ⟨_, _, fun w f h => ag_call (one_two w X σ f h _ _ _ _ (fun W hW => two_sys1 W X σ f hW hf0 he hd _ _ _ (fun V hV => system_1_ur V X (take X σ).2 f hV hf hm hn (by decide) (by decide)))), ?_⟩
  rotate_left
  refine ⟨_, _, fun w f h => ag_call (one_two w X σ f h _ _ _ _ (fun W hW => two_sys1 W X σ f hW hf0 he hd _ _ _ (fun V hV => system_1_um V X (take X σ).2 f hV hf hm hn (by decide) (by decide) (by decide) (by decide) (by decide)))), ?_⟩
  rotate_left
  refine ⟨_, _, fun w f h => ag_call (one_two w X σ f h _ _ _ _ (fun W hW => two_sys1 W X σ f hW hf0 he hd _ _ _ (fun V hV => system_1_ur V X (take X σ).2 f hV hf hm hn (by decide) (by decide)))), ?_⟩
  rotate_left
  refine ⟨_, _, fun w f h => ag_call (one_two w X σ f h _ _ _ _ (fun W hW => two_sys1 W X σ f hW hf0 he hd _ _ _ (fun V hV => system_1_um V X (take X σ).2 f hV hf hm hn (by decide) (by decide) (by decide) (by decide) (by decide)))), ?_⟩
  rotate_left
  refine ⟨_, _, fun w f h => ag_call (one_two w X σ f h _ _ _ _ (fun W hW => two_sys1 W X σ f hW hf0 he hd _ _ _ (fun V hV => system_1_7_r V X (take X σ).2 f hV hf hm hn))), ?_⟩
  rotate_left
  refine ⟨_, _, fun w f h => ag_call (one_two w X σ f h _ _ _ _ (fun W hW => two_sys1 W X σ f hW hf0 he hd _ _ _ (fun V hV => system_1_7_m V X (take X σ).2 f hV hf hm hn))), ?_⟩
  rotate_left
  all_goals
    simp only [opM, behM, rule_3841, hd, hm, hn, reduceIte, Int.reduceEq, Int.reduceAdd, Rule.g, Row.g, Gt.g, onlyM, opS_re, modrm_re, List.contains, List.elem, Int.reduceBEq, Bool.false_eq_true, refuse_re]
    first
      | with_reducible exact same_ref _ _ _ _
      | with_reducible exact same_stuck (rdRowIs _) _ _ _ _ _
      | skip
  all_goals
    simp only [hd, hm, hn, gUn, gFF, gSys, gTo, gFrom, onlyM, onlyMem, List.contains, List.elem, Int.reduceBEq, true_or, or_true, or_self, false_or, or_false, Row.is, Gt.g, Szk.of, isM, List.map, Pt.f, stpF, setI, opS_re, hi, re_v, re_op, re_ins, re_seg, re_rep, re_re, hdS_re, E_re, O_re, setA_re, setB_re, setC_re, pA, pCL, pDX, pR, pG, pRm, pCr, pI, pIb, pIw, pIs, pJ, pJb, pFar, pEb, pEw, pSeg, pNum, modrm_re, modrm_E, modrm_twice, modrm_refuse, refuse_two, modrm_v, take_v, bytes_v, E_v, refuse_v, E_again, bytes_re, refuse_re, egM, szM, oddI, strI, mem9, ← rsegD_eq hg, segD, memO, isStr, pString, Int.reduceMod, Int.reduceDiv, Bool.false_eq_true, Int.reduceSub, Int.reduceAdd, reduceIte, Int.reduceEq]
    first
      | with_reducible exact same_re _ _ _
      | with_reducible exact same_ref _ _ _ _
      | with_reducible exact same_E _ _ _ _ _ _
      | with_reducible exact same_refE _ _ _ _ _ _
      | with_reducible exact same_EE _ _ _ _ _ _
      | ((with_reducible refine same_re' _ _ _ _ ?_); exact rfl)
      | exact ⟨rfl, fun _ => ⟨rfl, rfl⟩⟩
theorem ag2_c0 (hs : (take X σ).1 = 0 ∨ (take X σ).1 = 1 ∨ (take X σ).1 = 6) : Ag X σ 15 := by
  rcases hs with hd | hd | hd
  exact ag2_0 X σ hf0 hf hi hg he hd
  exact ag2_1 X σ hf0 hf hi hg he hd
  refine ⟨_, _, fun w f h => ag_call (one_two w X σ f h _ _ _ _ (fun W hW => two_sys6 W X σ f hW hf0 he hd _ _ _ (fun V hV => system_6 V X (take X σ).2 f hV))), ?_⟩
  rotate_left
  all_goals
    simp only [opM, behM, rule_3846, hd, reduceIte, Int.reduceEq, Int.reduceAdd, Rule.g, Row.g]
    simp only [hd, Row.is, Gt.g, Szk.of, isM, List.map, Pt.f, stpF, setI, opS_re, hi, re_v, re_op, re_ins, re_seg, re_rep, re_re, hdS_re, E_re, O_re, setA_re, setB_re, setC_re, pA, pCL, pDX, pR, pG, pRm, pCr, pI, pIb, pIw, pIs, pJ, pJb, pFar, pEb, pEw, pSeg, pNum, modrm_re, modrm_E, modrm_twice, modrm_refuse, refuse_two, modrm_v, take_v, bytes_v, E_v, refuse_v, E_again, bytes_re, refuse_re, egM, szM, oddI, strI, mem9, ← rsegD_eq hg, segD, memO, isStr, pString, Int.reduceMod, Int.reduceDiv, Bool.false_eq_true, Int.reduceSub, Int.reduceAdd, reduceIte, Int.reduceEq]
    first
      | with_reducible exact same_re _ _ _
      | with_reducible exact same_ref _ _ _ _
      | with_reducible exact same_E _ _ _ _ _ _
      | with_reducible exact same_refE _ _ _ _ _ _
      | with_reducible exact same_EE _ _ _ _ _ _
      | ((with_reducible refine same_re' _ _ _ _ ?_); exact rfl)
      | exact ⟨rfl, fun _ => ⟨rfl, rfl⟩⟩
theorem ag2_32 (hd : (take X σ).1 = 32) : Ag X σ 15 := by
  have hb := mid_ok X hf
  rcases mid8 X _ hb with hm | hm | hm | hm | hm | hm | hm | hm
  refine ⟨_, _, fun w f h => ag_call (one_two w X σ f h _ _ _ _ (fun W hW => two_sys32 W X σ f hW hf0 he hd _ _ _ (fun V hV => system_32_g V X (take X σ).2 f hV hf hm (by decide)))), ?_⟩
  rotate_left
  refine ⟨_, _, fun w f h => ag_call (one_two w X σ f h _ _ _ _ (fun W hW => two_sys32 W X σ f hW hf0 he hd _ _ _ (fun V hV => system_32_u V X (take X σ).2 f hV hf hm (by decide) (by decide) (by decide)))), ?_⟩
  rotate_left
  refine ⟨_, _, fun w f h => ag_call (one_two w X σ f h _ _ _ _ (fun W hW => two_sys32 W X σ f hW hf0 he hd _ _ _ (fun V hV => system_32_g V X (take X σ).2 f hV hf hm (by decide)))), ?_⟩
  rotate_left
  refine ⟨_, _, fun w f h => ag_call (one_two w X σ f h _ _ _ _ (fun W hW => two_sys32 W X σ f hW hf0 he hd _ _ _ (fun V hV => system_32_g V X (take X σ).2 f hV hf hm (by decide)))), ?_⟩
  rotate_left
  refine ⟨_, _, fun w f h => ag_call (one_two w X σ f h _ _ _ _ (fun W hW => two_sys32 W X σ f hW hf0 he hd _ _ _ (fun V hV => system_32_u V X (take X σ).2 f hV hf hm (by decide) (by decide) (by decide)))), ?_⟩
  rotate_left
  refine ⟨_, _, fun w f h => ag_call (one_two w X σ f h _ _ _ _ (fun W hW => two_sys32 W X σ f hW hf0 he hd _ _ _ (fun V hV => system_32_u V X (take X σ).2 f hV hf hm (by decide) (by decide) (by decide)))), ?_⟩
  rotate_left
  refine ⟨_, _, fun w f h => ag_call (one_two w X σ f h _ _ _ _ (fun W hW => two_sys32 W X σ f hW hf0 he hd _ _ _ (fun V hV => system_32_u V X (take X σ).2 f hV hf hm (by decide) (by decide) (by decide)))), ?_⟩
  rotate_left
  refine ⟨_, _, fun w f h => ag_call (one_two w X σ f h _ _ _ _ (fun W hW => two_sys32 W X σ f hW hf0 he hd _ _ _ (fun V hV => system_32_u V X (take X σ).2 f hV hf hm (by decide) (by decide) (by decide)))), ?_⟩
  rotate_left
  all_goals
    simp only [opM, behM, rule_3872, hd, hm, reduceIte, Int.reduceEq, Int.reduceAdd, Rule.g, Row.g, Gt.g, onlyM, opS_re, modrm_re, List.contains, List.elem, Int.reduceBEq, Bool.false_eq_true, refuse_re]
    first
      | with_reducible exact same_ref _ _ _ _
      | with_reducible exact same_stuck (rdRowIs _) _ _ _ _ _
      | skip
  all_goals
    simp only [hd, hm, gUn, gFF, gSys, gTo, gFrom, onlyM, onlyMem, List.contains, List.elem, Int.reduceBEq, true_or, or_true, or_self, false_or, or_false, Row.is, Gt.g, Szk.of, isM, List.map, Pt.f, stpF, setI, opS_re, hi, re_v, re_op, re_ins, re_seg, re_rep, re_re, hdS_re, E_re, O_re, setA_re, setB_re, setC_re, pA, pCL, pDX, pR, pG, pRm, pCr, pI, pIb, pIw, pIs, pJ, pJb, pFar, pEb, pEw, pSeg, pNum, modrm_re, modrm_E, modrm_twice, modrm_refuse, refuse_two, modrm_v, take_v, bytes_v, E_v, refuse_v, E_again, bytes_re, refuse_re, egM, szM, oddI, strI, mem9, ← rsegD_eq hg, segD, memO, isStr, pString, Int.reduceMod, Int.reduceDiv, Bool.false_eq_true, Int.reduceSub, Int.reduceAdd, reduceIte, Int.reduceEq]
    first
      | with_reducible exact same_re _ _ _
      | with_reducible exact same_ref _ _ _ _
      | with_reducible exact same_E _ _ _ _ _ _
      | with_reducible exact same_refE _ _ _ _ _ _
      | with_reducible exact same_EE _ _ _ _ _ _
      | ((with_reducible refine same_re' _ _ _ _ ?_); exact rfl)
      | exact ⟨rfl, fun _ => ⟨rfl, rfl⟩⟩
theorem ag2_34 (hd : (take X σ).1 = 34) : Ag X σ 15 := by
  have hb := mid_ok X hf
  rcases mid8 X _ hb with hm | hm | hm | hm | hm | hm | hm | hm
  refine ⟨_, _, fun w f h => ag_call (one_two w X σ f h _ _ _ _ (fun W hW => two_sys34 W X σ f hW hf0 he hd _ _ _ (fun V hV => system_34_g V X (take X σ).2 f hV hf hm (by decide)))), ?_⟩
  rotate_left
  refine ⟨_, _, fun w f h => ag_call (one_two w X σ f h _ _ _ _ (fun W hW => two_sys34 W X σ f hW hf0 he hd _ _ _ (fun V hV => system_34_u V X (take X σ).2 f hV hf hm (by decide) (by decide) (by decide)))), ?_⟩
  rotate_left
  refine ⟨_, _, fun w f h => ag_call (one_two w X σ f h _ _ _ _ (fun W hW => two_sys34 W X σ f hW hf0 he hd _ _ _ (fun V hV => system_34_g V X (take X σ).2 f hV hf hm (by decide)))), ?_⟩
  rotate_left
  refine ⟨_, _, fun w f h => ag_call (one_two w X σ f h _ _ _ _ (fun W hW => two_sys34 W X σ f hW hf0 he hd _ _ _ (fun V hV => system_34_g V X (take X σ).2 f hV hf hm (by decide)))), ?_⟩
  rotate_left
  refine ⟨_, _, fun w f h => ag_call (one_two w X σ f h _ _ _ _ (fun W hW => two_sys34 W X σ f hW hf0 he hd _ _ _ (fun V hV => system_34_u V X (take X σ).2 f hV hf hm (by decide) (by decide) (by decide)))), ?_⟩
  rotate_left
  refine ⟨_, _, fun w f h => ag_call (one_two w X σ f h _ _ _ _ (fun W hW => two_sys34 W X σ f hW hf0 he hd _ _ _ (fun V hV => system_34_u V X (take X σ).2 f hV hf hm (by decide) (by decide) (by decide)))), ?_⟩
  rotate_left
  refine ⟨_, _, fun w f h => ag_call (one_two w X σ f h _ _ _ _ (fun W hW => two_sys34 W X σ f hW hf0 he hd _ _ _ (fun V hV => system_34_u V X (take X σ).2 f hV hf hm (by decide) (by decide) (by decide)))), ?_⟩
  rotate_left
  refine ⟨_, _, fun w f h => ag_call (one_two w X σ f h _ _ _ _ (fun W hW => two_sys34 W X σ f hW hf0 he hd _ _ _ (fun V hV => system_34_u V X (take X σ).2 f hV hf hm (by decide) (by decide) (by decide)))), ?_⟩
  rotate_left
  all_goals
    simp only [opM, behM, rule_3874, hd, hm, reduceIte, Int.reduceEq, Int.reduceAdd, Rule.g, Row.g, Gt.g, onlyM, opS_re, modrm_re, List.contains, List.elem, Int.reduceBEq, Bool.false_eq_true, refuse_re]
    first
      | with_reducible exact same_ref _ _ _ _
      | with_reducible exact same_stuck (rdRowIs _) _ _ _ _ _
      | skip
  all_goals
    simp only [hd, hm, gUn, gFF, gSys, gTo, gFrom, onlyM, onlyMem, List.contains, List.elem, Int.reduceBEq, true_or, or_true, or_self, false_or, or_false, Row.is, Gt.g, Szk.of, isM, List.map, Pt.f, stpF, setI, opS_re, hi, re_v, re_op, re_ins, re_seg, re_rep, re_re, hdS_re, E_re, O_re, setA_re, setB_re, setC_re, pA, pCL, pDX, pR, pG, pRm, pCr, pI, pIb, pIw, pIs, pJ, pJb, pFar, pEb, pEw, pSeg, pNum, modrm_re, modrm_E, modrm_twice, modrm_refuse, refuse_two, modrm_v, take_v, bytes_v, E_v, refuse_v, E_again, bytes_re, refuse_re, egM, szM, oddI, strI, mem9, ← rsegD_eq hg, segD, memO, isStr, pString, Int.reduceMod, Int.reduceDiv, Bool.false_eq_true, Int.reduceSub, Int.reduceAdd, reduceIte, Int.reduceEq]
    first
      | with_reducible exact same_re _ _ _
      | with_reducible exact same_ref _ _ _ _
      | with_reducible exact same_E _ _ _ _ _ _
      | with_reducible exact same_refE _ _ _ _ _ _
      | with_reducible exact same_EE _ _ _ _ _ _
      | ((with_reducible refine same_re' _ _ _ _ ?_); exact rfl)
      | exact ⟨rfl, fun _ => ⟨rfl, rfl⟩⟩
theorem ag2_c2 (hs : (take X σ).1 = 32 ∨ (take X σ).1 = 34) : Ag X σ 15 := by
  rcases hs with hd | hd
  exact ag2_32 X σ hf0 hf hi hg he hd
  exact ag2_34 X σ hf0 hf hi hg he hd
theorem ag2_c4 (hs : (take X σ).1 = 64 ∨ (take X σ).1 = 65 ∨ (take X σ).1 = 66 ∨ (take X σ).1 = 67 ∨ (take X σ).1 = 68 ∨ (take X σ).1 = 69 ∨ (take X σ).1 = 70 ∨ (take X σ).1 = 71 ∨ (take X σ).1 = 72 ∨ (take X σ).1 = 73 ∨ (take X σ).1 = 74 ∨ (take X σ).1 = 75 ∨ (take X σ).1 = 76 ∨ (take X σ).1 = 77 ∨ (take X σ).1 = 78 ∨ (take X σ).1 = 79) : Ag X σ 15 := by
  rcases hs with hd | hd | hd | hd | hd | hd | hd | hd | hd | hd | hd | hd | hd | hd | hd | hd
  refine ⟨_, _, fun w f h => ag_call (one_two w X σ f h _ _ _ _ (fun W hW => two_cmov W X σ f hW hf0 he (by rw [hd]; decide))), ?_⟩
  rotate_left
  refine ⟨_, _, fun w f h => ag_call (one_two w X σ f h _ _ _ _ (fun W hW => two_cmov W X σ f hW hf0 he (by rw [hd]; decide))), ?_⟩
  rotate_left
  refine ⟨_, _, fun w f h => ag_call (one_two w X σ f h _ _ _ _ (fun W hW => two_cmov W X σ f hW hf0 he (by rw [hd]; decide))), ?_⟩
  rotate_left
  refine ⟨_, _, fun w f h => ag_call (one_two w X σ f h _ _ _ _ (fun W hW => two_cmov W X σ f hW hf0 he (by rw [hd]; decide))), ?_⟩
  rotate_left
  refine ⟨_, _, fun w f h => ag_call (one_two w X σ f h _ _ _ _ (fun W hW => two_cmov W X σ f hW hf0 he (by rw [hd]; decide))), ?_⟩
  rotate_left
  refine ⟨_, _, fun w f h => ag_call (one_two w X σ f h _ _ _ _ (fun W hW => two_cmov W X σ f hW hf0 he (by rw [hd]; decide))), ?_⟩
  rotate_left
  refine ⟨_, _, fun w f h => ag_call (one_two w X σ f h _ _ _ _ (fun W hW => two_cmov W X σ f hW hf0 he (by rw [hd]; decide))), ?_⟩
  rotate_left
  refine ⟨_, _, fun w f h => ag_call (one_two w X σ f h _ _ _ _ (fun W hW => two_cmov W X σ f hW hf0 he (by rw [hd]; decide))), ?_⟩
  rotate_left
  refine ⟨_, _, fun w f h => ag_call (one_two w X σ f h _ _ _ _ (fun W hW => two_cmov W X σ f hW hf0 he (by rw [hd]; decide))), ?_⟩
  rotate_left
  refine ⟨_, _, fun w f h => ag_call (one_two w X σ f h _ _ _ _ (fun W hW => two_cmov W X σ f hW hf0 he (by rw [hd]; decide))), ?_⟩
  rotate_left
  refine ⟨_, _, fun w f h => ag_call (one_two w X σ f h _ _ _ _ (fun W hW => two_cmov W X σ f hW hf0 he (by rw [hd]; decide))), ?_⟩
  rotate_left
  refine ⟨_, _, fun w f h => ag_call (one_two w X σ f h _ _ _ _ (fun W hW => two_cmov W X σ f hW hf0 he (by rw [hd]; decide))), ?_⟩
  rotate_left
  refine ⟨_, _, fun w f h => ag_call (one_two w X σ f h _ _ _ _ (fun W hW => two_cmov W X σ f hW hf0 he (by rw [hd]; decide))), ?_⟩
  rotate_left
  refine ⟨_, _, fun w f h => ag_call (one_two w X σ f h _ _ _ _ (fun W hW => two_cmov W X σ f hW hf0 he (by rw [hd]; decide))), ?_⟩
  rotate_left
  refine ⟨_, _, fun w f h => ag_call (one_two w X σ f h _ _ _ _ (fun W hW => two_cmov W X σ f hW hf0 he (by rw [hd]; decide))), ?_⟩
  rotate_left
  refine ⟨_, _, fun w f h => ag_call (one_two w X σ f h _ _ _ _ (fun W hW => two_cmov W X σ f hW hf0 he (by rw [hd]; decide))), ?_⟩
  rotate_left
  all_goals
    simp only [opM, behM, rule_3904, rule_3905, rule_3906, rule_3907, rule_3908, rule_3909, rule_3910, rule_3911, rule_3912, rule_3913, rule_3914, rule_3915, rule_3916, rule_3917, rule_3918, rule_3919, hd, reduceIte, Int.reduceEq, Int.reduceAdd, Rule.g, Row.g]
    simp only [hd, Row.is, Gt.g, Szk.of, isM, List.map, Pt.f, stpF, setI, opS_re, hi, re_v, re_op, re_ins, re_seg, re_rep, re_re, hdS_re, E_re, O_re, setA_re, setB_re, setC_re, pA, pCL, pDX, pR, pG, pRm, pCr, pI, pIb, pIw, pIs, pJ, pJb, pFar, pEb, pEw, pSeg, pNum, modrm_re, modrm_E, modrm_twice, modrm_refuse, refuse_two, modrm_v, take_v, bytes_v, E_v, refuse_v, E_again, bytes_re, refuse_re, egM, szM, oddI, strI, mem9, ← rsegD_eq hg, segD, memO, isStr, pString, Int.reduceMod, Int.reduceDiv, Bool.false_eq_true, Int.reduceSub, Int.reduceAdd, reduceIte, Int.reduceEq]
    first
      | with_reducible exact same_re _ _ _
      | with_reducible exact same_ref _ _ _ _
      | with_reducible exact same_E _ _ _ _ _ _
      | with_reducible exact same_refE _ _ _ _ _ _
      | with_reducible exact same_EE _ _ _ _ _ _
      | ((with_reducible refine same_re' _ _ _ _ ?_); exact rfl)
      | exact ⟨rfl, fun _ => ⟨rfl, rfl⟩⟩
theorem ag2_c8 (hs : (take X σ).1 = 128 ∨ (take X σ).1 = 129 ∨ (take X σ).1 = 130 ∨ (take X σ).1 = 131 ∨ (take X σ).1 = 132 ∨ (take X σ).1 = 133 ∨ (take X σ).1 = 134 ∨ (take X σ).1 = 135 ∨ (take X σ).1 = 136 ∨ (take X σ).1 = 137 ∨ (take X σ).1 = 138 ∨ (take X σ).1 = 139 ∨ (take X σ).1 = 140 ∨ (take X σ).1 = 141 ∨ (take X σ).1 = 142 ∨ (take X σ).1 = 143) : Ag X σ 15 := by
  rcases hs with hd | hd | hd | hd | hd | hd | hd | hd | hd | hd | hd | hd | hd | hd | hd | hd
  refine ⟨_, _, fun w f h => ag_call (one_two w X σ f h _ _ _ _ (fun W hW => two_jcc W X σ f hW hf0 he (by rw [hd]; decide))), ?_⟩
  rotate_left
  refine ⟨_, _, fun w f h => ag_call (one_two w X σ f h _ _ _ _ (fun W hW => two_jcc W X σ f hW hf0 he (by rw [hd]; decide))), ?_⟩
  rotate_left
  refine ⟨_, _, fun w f h => ag_call (one_two w X σ f h _ _ _ _ (fun W hW => two_jcc W X σ f hW hf0 he (by rw [hd]; decide))), ?_⟩
  rotate_left
  refine ⟨_, _, fun w f h => ag_call (one_two w X σ f h _ _ _ _ (fun W hW => two_jcc W X σ f hW hf0 he (by rw [hd]; decide))), ?_⟩
  rotate_left
  refine ⟨_, _, fun w f h => ag_call (one_two w X σ f h _ _ _ _ (fun W hW => two_jcc W X σ f hW hf0 he (by rw [hd]; decide))), ?_⟩
  rotate_left
  refine ⟨_, _, fun w f h => ag_call (one_two w X σ f h _ _ _ _ (fun W hW => two_jcc W X σ f hW hf0 he (by rw [hd]; decide))), ?_⟩
  rotate_left
  refine ⟨_, _, fun w f h => ag_call (one_two w X σ f h _ _ _ _ (fun W hW => two_jcc W X σ f hW hf0 he (by rw [hd]; decide))), ?_⟩
  rotate_left
  refine ⟨_, _, fun w f h => ag_call (one_two w X σ f h _ _ _ _ (fun W hW => two_jcc W X σ f hW hf0 he (by rw [hd]; decide))), ?_⟩
  rotate_left
  refine ⟨_, _, fun w f h => ag_call (one_two w X σ f h _ _ _ _ (fun W hW => two_jcc W X σ f hW hf0 he (by rw [hd]; decide))), ?_⟩
  rotate_left
  refine ⟨_, _, fun w f h => ag_call (one_two w X σ f h _ _ _ _ (fun W hW => two_jcc W X σ f hW hf0 he (by rw [hd]; decide))), ?_⟩
  rotate_left
  refine ⟨_, _, fun w f h => ag_call (one_two w X σ f h _ _ _ _ (fun W hW => two_jcc W X σ f hW hf0 he (by rw [hd]; decide))), ?_⟩
  rotate_left
  refine ⟨_, _, fun w f h => ag_call (one_two w X σ f h _ _ _ _ (fun W hW => two_jcc W X σ f hW hf0 he (by rw [hd]; decide))), ?_⟩
  rotate_left
  refine ⟨_, _, fun w f h => ag_call (one_two w X σ f h _ _ _ _ (fun W hW => two_jcc W X σ f hW hf0 he (by rw [hd]; decide))), ?_⟩
  rotate_left
  refine ⟨_, _, fun w f h => ag_call (one_two w X σ f h _ _ _ _ (fun W hW => two_jcc W X σ f hW hf0 he (by rw [hd]; decide))), ?_⟩
  rotate_left
  refine ⟨_, _, fun w f h => ag_call (one_two w X σ f h _ _ _ _ (fun W hW => two_jcc W X σ f hW hf0 he (by rw [hd]; decide))), ?_⟩
  rotate_left
  refine ⟨_, _, fun w f h => ag_call (one_two w X σ f h _ _ _ _ (fun W hW => two_jcc W X σ f hW hf0 he (by rw [hd]; decide))), ?_⟩
  rotate_left
  all_goals
    simp only [opM, behM, rule_3968, rule_3969, rule_3970, rule_3971, rule_3972, rule_3973, rule_3974, rule_3975, rule_3976, rule_3977, rule_3978, rule_3979, rule_3980, rule_3981, rule_3982, rule_3983, hd, reduceIte, Int.reduceEq, Int.reduceAdd, Rule.g, Row.g]
    simp only [hd, Row.is, Gt.g, Szk.of, isM, List.map, Pt.f, stpF, setI, opS_re, hi, re_v, re_op, re_ins, re_seg, re_rep, re_re, hdS_re, E_re, O_re, setA_re, setB_re, setC_re, pA, pCL, pDX, pR, pG, pRm, pCr, pI, pIb, pIw, pIs, pJ, pJb, pFar, pEb, pEw, pSeg, pNum, modrm_re, modrm_E, modrm_twice, modrm_refuse, refuse_two, modrm_v, take_v, bytes_v, E_v, refuse_v, E_again, bytes_re, refuse_re, egM, szM, oddI, strI, mem9, ← rsegD_eq hg, segD, memO, isStr, pString, Int.reduceMod, Int.reduceDiv, Bool.false_eq_true, Int.reduceSub, Int.reduceAdd, reduceIte, Int.reduceEq]
    first
      | with_reducible exact same_re _ _ _
      | with_reducible exact same_ref _ _ _ _
      | with_reducible exact same_E _ _ _ _ _ _
      | with_reducible exact same_refE _ _ _ _ _ _
      | with_reducible exact same_EE _ _ _ _ _ _
      | ((with_reducible refine same_re' _ _ _ _ ?_); exact rfl)
      | exact ⟨rfl, fun _ => ⟨rfl, rfl⟩⟩
theorem ag2_c9 (hs : (take X σ).1 = 144 ∨ (take X σ).1 = 145 ∨ (take X σ).1 = 146 ∨ (take X σ).1 = 147 ∨ (take X σ).1 = 148 ∨ (take X σ).1 = 149 ∨ (take X σ).1 = 150 ∨ (take X σ).1 = 151 ∨ (take X σ).1 = 152 ∨ (take X σ).1 = 153 ∨ (take X σ).1 = 154 ∨ (take X σ).1 = 155 ∨ (take X σ).1 = 156 ∨ (take X σ).1 = 157 ∨ (take X σ).1 = 158 ∨ (take X σ).1 = 159) : Ag X σ 15 := by
  rcases hs with hd | hd | hd | hd | hd | hd | hd | hd | hd | hd | hd | hd | hd | hd | hd | hd
  refine ⟨_, _, fun w f h => ag_call (one_two w X σ f h _ _ _ _ (fun W hW => two_set W X σ f hW hf0 he (by rw [hd]; decide))), ?_⟩
  rotate_left
  refine ⟨_, _, fun w f h => ag_call (one_two w X σ f h _ _ _ _ (fun W hW => two_set W X σ f hW hf0 he (by rw [hd]; decide))), ?_⟩
  rotate_left
  refine ⟨_, _, fun w f h => ag_call (one_two w X σ f h _ _ _ _ (fun W hW => two_set W X σ f hW hf0 he (by rw [hd]; decide))), ?_⟩
  rotate_left
  refine ⟨_, _, fun w f h => ag_call (one_two w X σ f h _ _ _ _ (fun W hW => two_set W X σ f hW hf0 he (by rw [hd]; decide))), ?_⟩
  rotate_left
  refine ⟨_, _, fun w f h => ag_call (one_two w X σ f h _ _ _ _ (fun W hW => two_set W X σ f hW hf0 he (by rw [hd]; decide))), ?_⟩
  rotate_left
  refine ⟨_, _, fun w f h => ag_call (one_two w X σ f h _ _ _ _ (fun W hW => two_set W X σ f hW hf0 he (by rw [hd]; decide))), ?_⟩
  rotate_left
  refine ⟨_, _, fun w f h => ag_call (one_two w X σ f h _ _ _ _ (fun W hW => two_set W X σ f hW hf0 he (by rw [hd]; decide))), ?_⟩
  rotate_left
  refine ⟨_, _, fun w f h => ag_call (one_two w X σ f h _ _ _ _ (fun W hW => two_set W X σ f hW hf0 he (by rw [hd]; decide))), ?_⟩
  rotate_left
  refine ⟨_, _, fun w f h => ag_call (one_two w X σ f h _ _ _ _ (fun W hW => two_set W X σ f hW hf0 he (by rw [hd]; decide))), ?_⟩
  rotate_left
  refine ⟨_, _, fun w f h => ag_call (one_two w X σ f h _ _ _ _ (fun W hW => two_set W X σ f hW hf0 he (by rw [hd]; decide))), ?_⟩
  rotate_left
  refine ⟨_, _, fun w f h => ag_call (one_two w X σ f h _ _ _ _ (fun W hW => two_set W X σ f hW hf0 he (by rw [hd]; decide))), ?_⟩
  rotate_left
  refine ⟨_, _, fun w f h => ag_call (one_two w X σ f h _ _ _ _ (fun W hW => two_set W X σ f hW hf0 he (by rw [hd]; decide))), ?_⟩
  rotate_left
  refine ⟨_, _, fun w f h => ag_call (one_two w X σ f h _ _ _ _ (fun W hW => two_set W X σ f hW hf0 he (by rw [hd]; decide))), ?_⟩
  rotate_left
  refine ⟨_, _, fun w f h => ag_call (one_two w X σ f h _ _ _ _ (fun W hW => two_set W X σ f hW hf0 he (by rw [hd]; decide))), ?_⟩
  rotate_left
  refine ⟨_, _, fun w f h => ag_call (one_two w X σ f h _ _ _ _ (fun W hW => two_set W X σ f hW hf0 he (by rw [hd]; decide))), ?_⟩
  rotate_left
  refine ⟨_, _, fun w f h => ag_call (one_two w X σ f h _ _ _ _ (fun W hW => two_set W X σ f hW hf0 he (by rw [hd]; decide))), ?_⟩
  rotate_left
  all_goals
    simp only [opM, behM, rule_3984, rule_3985, rule_3986, rule_3987, rule_3988, rule_3989, rule_3990, rule_3991, rule_3992, rule_3993, rule_3994, rule_3995, rule_3996, rule_3997, rule_3998, rule_3999, hd, reduceIte, Int.reduceEq, Int.reduceAdd, Rule.g, Row.g]
    simp only [hd, Row.is, Gt.g, Szk.of, isM, List.map, Pt.f, stpF, setI, opS_re, hi, re_v, re_op, re_ins, re_seg, re_rep, re_re, hdS_re, E_re, O_re, setA_re, setB_re, setC_re, pA, pCL, pDX, pR, pG, pRm, pCr, pI, pIb, pIw, pIs, pJ, pJb, pFar, pEb, pEw, pSeg, pNum, modrm_re, modrm_E, modrm_twice, modrm_refuse, refuse_two, modrm_v, take_v, bytes_v, E_v, refuse_v, E_again, bytes_re, refuse_re, egM, szM, oddI, strI, mem9, ← rsegD_eq hg, segD, memO, isStr, pString, Int.reduceMod, Int.reduceDiv, Bool.false_eq_true, Int.reduceSub, Int.reduceAdd, reduceIte, Int.reduceEq]
    first
      | with_reducible exact same_re _ _ _
      | with_reducible exact same_ref _ _ _ _
      | with_reducible exact same_E _ _ _ _ _ _
      | with_reducible exact same_refE _ _ _ _ _ _
      | with_reducible exact same_EE _ _ _ _ _ _
      | ((with_reducible refine same_re' _ _ _ _ ?_); exact rfl)
      | exact ⟨rfl, fun _ => ⟨rfl, rfl⟩⟩
theorem ag2_c10 (hs : (take X σ).1 = 160 ∨ (take X σ).1 = 161 ∨ (take X σ).1 = 163 ∨ (take X σ).1 = 164 ∨ (take X σ).1 = 165 ∨ (take X σ).1 = 168 ∨ (take X σ).1 = 169 ∨ (take X σ).1 = 171 ∨ (take X σ).1 = 172 ∨ (take X σ).1 = 173 ∨ (take X σ).1 = 175) : Ag X σ 15 := by
  rcases hs with hd | hd | hd | hd | hd | hd | hd | hd | hd | hd | hd
  refine ⟨_, _, fun w f h => ag_call (one_two w X σ f h _ _ _ _ (fun W hW => two_bitsL W X σ f hW hf0 he (by rw [hd]; decide) (by rw [hd]; decide) (by rw [hd]; decide) _ _ _ (two_at hd (fun V hV => bits_160 V X (take X σ).2 f hV)))), ?_⟩
  rotate_left
  refine ⟨_, _, fun w f h => ag_call (one_two w X σ f h _ _ _ _ (fun W hW => two_bitsL W X σ f hW hf0 he (by rw [hd]; decide) (by rw [hd]; decide) (by rw [hd]; decide) _ _ _ (two_at hd (fun V hV => bits_161 V X (take X σ).2 f hV)))), ?_⟩
  rotate_left
  refine ⟨_, _, fun w f h => ag_call (one_two w X σ f h _ _ _ _ (fun W hW => two_bitsL W X σ f hW hf0 he (by rw [hd]; decide) (by rw [hd]; decide) (by rw [hd]; decide) _ _ _ (two_at hd (fun V hV => bits_163 V X (take X σ).2 f hV hf)))), ?_⟩
  rotate_left
  refine ⟨_, _, fun w f h => ag_call (one_two w X σ f h _ _ _ _ (fun W hW => two_bitsL W X σ f hW hf0 he (by rw [hd]; decide) (by rw [hd]; decide) (by rw [hd]; decide) _ _ _ (two_at hd (fun V hV => bits_164 V X (take X σ).2 f hV hf)))), ?_⟩
  rotate_left
  refine ⟨_, _, fun w f h => ag_call (one_two w X σ f h _ _ _ _ (fun W hW => two_bitsL W X σ f hW hf0 he (by rw [hd]; decide) (by rw [hd]; decide) (by rw [hd]; decide) _ _ _ (two_at hd (fun V hV => bits_165 V X (take X σ).2 f hV hf)))), ?_⟩
  rotate_left
  refine ⟨_, _, fun w f h => ag_call (one_two w X σ f h _ _ _ _ (fun W hW => two_bitsL W X σ f hW hf0 he (by rw [hd]; decide) (by rw [hd]; decide) (by rw [hd]; decide) _ _ _ (two_at hd (fun V hV => bits_168 V X (take X σ).2 f hV)))), ?_⟩
  rotate_left
  refine ⟨_, _, fun w f h => ag_call (one_two w X σ f h _ _ _ _ (fun W hW => two_bitsL W X σ f hW hf0 he (by rw [hd]; decide) (by rw [hd]; decide) (by rw [hd]; decide) _ _ _ (two_at hd (fun V hV => bits_169 V X (take X σ).2 f hV)))), ?_⟩
  rotate_left
  refine ⟨_, _, fun w f h => ag_call (one_two w X σ f h _ _ _ _ (fun W hW => two_bitsL W X σ f hW hf0 he (by rw [hd]; decide) (by rw [hd]; decide) (by rw [hd]; decide) _ _ _ (two_at hd (fun V hV => bits_171 V X (take X σ).2 f hV hf)))), ?_⟩
  rotate_left
  refine ⟨_, _, fun w f h => ag_call (one_two w X σ f h _ _ _ _ (fun W hW => two_bitsL W X σ f hW hf0 he (by rw [hd]; decide) (by rw [hd]; decide) (by rw [hd]; decide) _ _ _ (two_at hd (fun V hV => bits_172 V X (take X σ).2 f hV hf)))), ?_⟩
  rotate_left
  refine ⟨_, _, fun w f h => ag_call (one_two w X σ f h _ _ _ _ (fun W hW => two_bitsL W X σ f hW hf0 he (by rw [hd]; decide) (by rw [hd]; decide) (by rw [hd]; decide) _ _ _ (two_at hd (fun V hV => bits_173 V X (take X σ).2 f hV hf)))), ?_⟩
  rotate_left
  refine ⟨_, _, fun w f h => ag_call (one_two w X σ f h _ _ _ _ (fun W hW => two_imul W X σ f hW hf0 he hd)), ?_⟩
  rotate_left
  all_goals
    simp only [opM, behM, rule_4000, rule_4001, rule_4003, rule_4004, rule_4005, rule_4008, rule_4009, rule_4011, rule_4012, rule_4013, rule_4015, hd, reduceIte, Int.reduceEq, Int.reduceAdd, Rule.g, Row.g]
    simp only [hd, Row.is, Gt.g, Szk.of, isM, List.map, Pt.f, stpF, setI, opS_re, hi, re_v, re_op, re_ins, re_seg, re_rep, re_re, hdS_re, E_re, O_re, setA_re, setB_re, setC_re, pA, pCL, pDX, pR, pG, pRm, pCr, pI, pIb, pIw, pIs, pJ, pJb, pFar, pEb, pEw, pSeg, pNum, modrm_re, modrm_E, modrm_twice, modrm_refuse, refuse_two, modrm_v, take_v, bytes_v, E_v, refuse_v, E_again, bytes_re, refuse_re, egM, szM, oddI, strI, mem9, ← rsegD_eq hg, segD, memO, isStr, pString, Int.reduceMod, Int.reduceDiv, Bool.false_eq_true, Int.reduceSub, Int.reduceAdd, reduceIte, Int.reduceEq]
    first
      | with_reducible exact same_re _ _ _
      | with_reducible exact same_ref _ _ _ _
      | with_reducible exact same_E _ _ _ _ _ _
      | with_reducible exact same_refE _ _ _ _ _ _
      | with_reducible exact same_EE _ _ _ _ _ _
      | ((with_reducible refine same_re' _ _ _ _ ?_); exact rfl)
      | exact ⟨rfl, fun _ => ⟨rfl, rfl⟩⟩
theorem ag2_186 (hd : (take X σ).1 = 186) : Ag X σ 15 := by
  have hb := mid_ok X hf
  rcases mid8 X _ hb with hm | hm | hm | hm | hm | hm | hm | hm
  refine ⟨_, _, fun w f h => ag_call (one_two w X σ f h _ _ _ _ (fun W hW => two_bitsL W X σ f hW hf0 he (by rw [hd]; decide) (by rw [hd]; decide) (by rw [hd]; decide) _ _ _ (two_at hd (fun V hV => bits_186_u V X (take X σ).2 f hV hf (.inl hm))))), ?_⟩
  rotate_left
  refine ⟨_, _, fun w f h => ag_call (one_two w X σ f h _ _ _ _ (fun W hW => two_bitsL W X σ f hW hf0 he (by rw [hd]; decide) (by rw [hd]; decide) (by rw [hd]; decide) _ _ _ (two_at hd (fun V hV => bits_186_u V X (take X σ).2 f hV hf (.inr (.inl hm)))))), ?_⟩
  rotate_left
  refine ⟨_, _, fun w f h => ag_call (one_two w X σ f h _ _ _ _ (fun W hW => two_bitsL W X σ f hW hf0 he (by rw [hd]; decide) (by rw [hd]; decide) (by rw [hd]; decide) _ _ _ (two_at hd (fun V hV => bits_186_u V X (take X σ).2 f hV hf (.inr (.inr (.inl hm))))))), ?_⟩
  rotate_left
  refine ⟨_, _, fun w f h => ag_call (one_two w X σ f h _ _ _ _ (fun W hW => two_bitsL W X σ f hW hf0 he (by rw [hd]; decide) (by rw [hd]; decide) (by rw [hd]; decide) _ _ _ (two_at hd (fun V hV => bits_186_u V X (take X σ).2 f hV hf (.inr (.inr (.inr hm))))))), ?_⟩
  rotate_left
  refine ⟨_, _, fun w f h => ag_call (one_two w X σ f h _ _ _ _ (fun W hW => two_bitsL W X σ f hW hf0 he (by rw [hd]; decide) (by rw [hd]; decide) (by rw [hd]; decide) _ _ _ (two_at hd (fun V hV => bits_186_4 V X (take X σ).2 f hV hf hm)))), ?_⟩
  rotate_left
  refine ⟨_, _, fun w f h => ag_call (one_two w X σ f h _ _ _ _ (fun W hW => two_bitsL W X σ f hW hf0 he (by rw [hd]; decide) (by rw [hd]; decide) (by rw [hd]; decide) _ _ _ (two_at hd (fun V hV => bits_186_5 V X (take X σ).2 f hV hf hm)))), ?_⟩
  rotate_left
  refine ⟨_, _, fun w f h => ag_call (one_two w X σ f h _ _ _ _ (fun W hW => two_bitsL W X σ f hW hf0 he (by rw [hd]; decide) (by rw [hd]; decide) (by rw [hd]; decide) _ _ _ (two_at hd (fun V hV => bits_186_6 V X (take X σ).2 f hV hf hm)))), ?_⟩
  rotate_left
  refine ⟨_, _, fun w f h => ag_call (one_two w X σ f h _ _ _ _ (fun W hW => two_bitsL W X σ f hW hf0 he (by rw [hd]; decide) (by rw [hd]; decide) (by rw [hd]; decide) _ _ _ (two_at hd (fun V hV => bits_186_7 V X (take X σ).2 f hV hf hm)))), ?_⟩
  rotate_left
  all_goals
    simp only [opM, behM, rule_4026, hd, hm, reduceIte, Int.reduceEq, Int.reduceAdd, Rule.g, Row.g, Gt.g, onlyM, opS_re, modrm_re, List.contains, List.elem, Int.reduceBEq, Bool.false_eq_true, refuse_re]
    first
      | with_reducible exact same_ref _ _ _ _
      | with_reducible exact same_stuck (rdRowIs _) _ _ _ _ _
      | skip
  all_goals
    simp only [hd, hm, gUn, gFF, gSys, gTo, gFrom, onlyM, onlyMem, List.contains, List.elem, Int.reduceBEq, true_or, or_true, or_self, false_or, or_false, Row.is, Gt.g, Szk.of, isM, List.map, Pt.f, stpF, setI, opS_re, hi, re_v, re_op, re_ins, re_seg, re_rep, re_re, hdS_re, E_re, O_re, setA_re, setB_re, setC_re, pA, pCL, pDX, pR, pG, pRm, pCr, pI, pIb, pIw, pIs, pJ, pJb, pFar, pEb, pEw, pSeg, pNum, modrm_re, modrm_E, modrm_twice, modrm_refuse, refuse_two, modrm_v, take_v, bytes_v, E_v, refuse_v, E_again, bytes_re, refuse_re, egM, szM, oddI, strI, mem9, ← rsegD_eq hg, segD, memO, isStr, pString, Int.reduceMod, Int.reduceDiv, Bool.false_eq_true, Int.reduceSub, Int.reduceAdd, reduceIte, Int.reduceEq]
    first
      | with_reducible exact same_re _ _ _
      | with_reducible exact same_ref _ _ _ _
      | with_reducible exact same_E _ _ _ _ _ _
      | with_reducible exact same_refE _ _ _ _ _ _
      | with_reducible exact same_EE _ _ _ _ _ _
      | ((with_reducible refine same_re' _ _ _ _ ?_); exact rfl)
      | exact ⟨rfl, fun _ => ⟨rfl, rfl⟩⟩
theorem ag2_c11 (hs : (take X σ).1 = 179 ∨ (take X σ).1 = 182 ∨ (take X σ).1 = 183 ∨ (take X σ).1 = 186 ∨ (take X σ).1 = 187 ∨ (take X σ).1 = 188 ∨ (take X σ).1 = 189 ∨ (take X σ).1 = 190 ∨ (take X σ).1 = 191) : Ag X σ 15 := by
  rcases hs with hd | hd | hd | hd | hd | hd | hd | hd | hd
  refine ⟨_, _, fun w f h => ag_call (one_two w X σ f h _ _ _ _ (fun W hW => two_bitsL W X σ f hW hf0 he (by rw [hd]; decide) (by rw [hd]; decide) (by rw [hd]; decide) _ _ _ (two_at hd (fun V hV => bits_179 V X (take X σ).2 f hV hf)))), ?_⟩
  rotate_left
  refine ⟨_, _, fun w f h => ag_call (one_two w X σ f h _ _ _ _ (fun W hW => two_movx182 W X σ f hW hf0 he hd)), ?_⟩
  rotate_left
  refine ⟨_, _, fun w f h => ag_call (one_two w X σ f h _ _ _ _ (fun W hW => two_movx183 W X σ f hW hf0 he hd)), ?_⟩
  rotate_left
  exact ag2_186 X σ hf0 hf hi hg he hd
  refine ⟨_, _, fun w f h => ag_call (one_two w X σ f h _ _ _ _ (fun W hW => two_bitsL W X σ f hW hf0 he (by rw [hd]; decide) (by rw [hd]; decide) (by rw [hd]; decide) _ _ _ (two_at hd (fun V hV => bits_187 V X (take X σ).2 f hV hf)))), ?_⟩
  rotate_left
  refine ⟨_, _, fun w f h => ag_call (one_two w X σ f h _ _ _ _ (fun W hW => two_scan188 W X σ f hW hf0 he hd)), ?_⟩
  rotate_left
  refine ⟨_, _, fun w f h => ag_call (one_two w X σ f h _ _ _ _ (fun W hW => two_scan189 W X σ f hW hf0 he hd)), ?_⟩
  rotate_left
  refine ⟨_, _, fun w f h => ag_call (one_two w X σ f h _ _ _ _ (fun W hW => two_movx190 W X σ f hW hf0 he hd)), ?_⟩
  rotate_left
  refine ⟨_, _, fun w f h => ag_call (one_two w X σ f h _ _ _ _ (fun W hW => two_movx191 W X σ f hW hf0 he hd)), ?_⟩
  rotate_left
  all_goals
    simp only [opM, behM, rule_4019, rule_4022, rule_4023, rule_4027, rule_4028, rule_4029, rule_4030, rule_4031, hd, reduceIte, Int.reduceEq, Int.reduceAdd, Rule.g, Row.g]
    simp only [hd, Row.is, Gt.g, Szk.of, isM, List.map, Pt.f, stpF, setI, opS_re, hi, re_v, re_op, re_ins, re_seg, re_rep, re_re, hdS_re, E_re, O_re, setA_re, setB_re, setC_re, pA, pCL, pDX, pR, pG, pRm, pCr, pI, pIb, pIw, pIs, pJ, pJb, pFar, pEb, pEw, pSeg, pNum, modrm_re, modrm_E, modrm_twice, modrm_refuse, refuse_two, modrm_v, take_v, bytes_v, E_v, refuse_v, E_again, bytes_re, refuse_re, egM, szM, oddI, strI, mem9, ← rsegD_eq hg, segD, memO, isStr, pString, Int.reduceMod, Int.reduceDiv, Bool.false_eq_true, Int.reduceSub, Int.reduceAdd, reduceIte, Int.reduceEq]
    first
      | with_reducible exact same_re _ _ _
      | with_reducible exact same_ref _ _ _ _
      | with_reducible exact same_E _ _ _ _ _ _
      | with_reducible exact same_refE _ _ _ _ _ _
      | with_reducible exact same_EE _ _ _ _ _ _
      | ((with_reducible refine same_re' _ _ _ _ ?_); exact rfl)
      | exact ⟨rfl, fun _ => ⟨rfl, rfl⟩⟩
theorem ag2_c12 (hs : (take X σ).1 = 200 ∨ (take X σ).1 = 201 ∨ (take X σ).1 = 202 ∨ (take X σ).1 = 203 ∨ (take X σ).1 = 204 ∨ (take X σ).1 = 205 ∨ (take X σ).1 = 206 ∨ (take X σ).1 = 207) : Ag X σ 15 := by
  rcases hs with hd | hd | hd | hd | hd | hd | hd | hd
  refine ⟨_, _, fun w f h => ag_call (one_two w X σ f h _ _ _ _ (fun W hW => two_bswap W X σ f hW hf0 he (by rw [hd]; decide))), ?_⟩
  rotate_left
  refine ⟨_, _, fun w f h => ag_call (one_two w X σ f h _ _ _ _ (fun W hW => two_bswap W X σ f hW hf0 he (by rw [hd]; decide))), ?_⟩
  rotate_left
  refine ⟨_, _, fun w f h => ag_call (one_two w X σ f h _ _ _ _ (fun W hW => two_bswap W X σ f hW hf0 he (by rw [hd]; decide))), ?_⟩
  rotate_left
  refine ⟨_, _, fun w f h => ag_call (one_two w X σ f h _ _ _ _ (fun W hW => two_bswap W X σ f hW hf0 he (by rw [hd]; decide))), ?_⟩
  rotate_left
  refine ⟨_, _, fun w f h => ag_call (one_two w X σ f h _ _ _ _ (fun W hW => two_bswap W X σ f hW hf0 he (by rw [hd]; decide))), ?_⟩
  rotate_left
  refine ⟨_, _, fun w f h => ag_call (one_two w X σ f h _ _ _ _ (fun W hW => two_bswap W X σ f hW hf0 he (by rw [hd]; decide))), ?_⟩
  rotate_left
  refine ⟨_, _, fun w f h => ag_call (one_two w X σ f h _ _ _ _ (fun W hW => two_bswap W X σ f hW hf0 he (by rw [hd]; decide))), ?_⟩
  rotate_left
  refine ⟨_, _, fun w f h => ag_call (one_two w X σ f h _ _ _ _ (fun W hW => two_bswap W X σ f hW hf0 he (by rw [hd]; decide))), ?_⟩
  rotate_left
  all_goals
    simp only [opM, behM, rule_4040, rule_4041, rule_4042, rule_4043, rule_4044, rule_4045, rule_4046, rule_4047, hd, reduceIte, Int.reduceEq, Int.reduceAdd, Rule.g, Row.g]
    simp only [hd, Row.is, Gt.g, Szk.of, isM, List.map, Pt.f, stpF, setI, opS_re, hi, re_v, re_op, re_ins, re_seg, re_rep, re_re, hdS_re, E_re, O_re, setA_re, setB_re, setC_re, pA, pCL, pDX, pR, pG, pRm, pCr, pI, pIb, pIw, pIs, pJ, pJb, pFar, pEb, pEw, pSeg, pNum, modrm_re, modrm_E, modrm_twice, modrm_refuse, refuse_two, modrm_v, take_v, bytes_v, E_v, refuse_v, E_again, bytes_re, refuse_re, egM, szM, oddI, strI, mem9, ← rsegD_eq hg, segD, memO, isStr, pString, Int.reduceMod, Int.reduceDiv, Bool.false_eq_true, Int.reduceSub, Int.reduceAdd, reduceIte, Int.reduceEq]
    first
      | with_reducible exact same_re _ _ _
      | with_reducible exact same_ref _ _ _ _
      | with_reducible exact same_E _ _ _ _ _ _
      | with_reducible exact same_refE _ _ _ _ _ _
      | with_reducible exact same_EE _ _ _ _ _ _
      | ((with_reducible refine same_re' _ _ _ _ ?_); exact rfl)
      | exact ⟨rfl, fun _ => ⟨rfl, rfl⟩⟩
theorem ag2_u (d : Int) (hd : (take X σ).1 = d) (h0 : 0 ≤ d) (h1 : d < 256) (hc : ∀ k ∈ [0, 1, 6, 32, 34, 175, 188, 189, 182, 183, 190, 191] ++ [160, 161, 163, 164, 165, 168, 169, 171, 172, 173, 179, 186, 187], d ≠ (k : Int)) (hD : d / 16 ≠ 4 ∧ d / 16 ≠ 8 ∧ d / 16 ≠ 9) (hl : d < 200 ∨ 208 ≤ d) (hr : ruleOf (3840 + d) = none) : Ag X σ 15 := by
  have nb : ∀ k ∈ [160, 161, 163, 164, 165, 168, 169, 171, 172, 173, 179, 186, 187], (d == (k : Int)) = false := fun k hk => beq_false_of_ne (hc k (List.mem_append_right _ hk))
  have hB := fun (f : Int × Int × Int) V hV => bits_u V X (take X σ).2 f d hV h0 h1 (nb 160 (by decide)) (nb 161 (by decide)) (nb 163 (by decide)) (nb 164 (by decide)) (nb 165 (by decide)) (nb 168 (by decide)) (nb 169 (by decide)) (nb 171 (by decide)) (nb 172 (by decide)) (nb 173 (by decide)) (nb 179 (by decide)) (nb 186 (by decide)) (nb 187 (by decide))
  refine ⟨Ins.zero, refuse (take X σ).2, fun w f h => ?_, ?_⟩
  · rcases hl with hl | hl
    · exact ag_call (one_two w X σ f h _ _ _ _ (fun W hW => two_bitsL W X σ f hW hf0 he (fun k hk => by rw [hd]; exact hc k (List.mem_append_left _ hk)) (by rw [hd]; exact hD) (by rw [hd]; exact hl) _ _ _ (two_at hd (hB f))))
    · exact ag_call (one_two w X σ f h _ _ _ _ (fun W hW => two_bitsH W X σ f hW hf0 he (fun k hk => by rw [hd]; exact hc k (List.mem_append_left _ hk)) (by rw [hd]; exact hD) (by rw [hd]; exact hl) _ _ _ (two_at hd (hB f))))
  · simp only [opM, behM, hd, reduceIte, hr, opS_re, refuse_re]
    exact same_ref _ _ _ _
end
end Go.Proofs.YtbfccfhjgopnbaaGreat
