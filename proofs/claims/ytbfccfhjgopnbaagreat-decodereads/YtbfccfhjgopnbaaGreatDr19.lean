/- The document's reader, and the code's (RfAg, RfAgA). -/
import Derived.Test.YtbfccfhjgopnbaaGreatDr12
import Derived.Test.YtbfccfhjgopnbaaGreatDr22
import Derived.Test.YtbfccfhjgopnbaaGreatDr09
import Derived.Test.YtbfccfhjgopnbaaGreatDr23
import Derived.Test.YtbfccfhjgopnbaaGreatDr13
import Derived.Test.YtbfccfhjgopnbaaGreatDr08
import Derived.Test.YtbfccfhjgopnbaaGreatDr14
import Derived.Test.YtbfccfhjgopnbaaGreatDr24
import Derived.Test.YtbfccfhjgopnbaaGreatDr10
import Derived.Test.YtbfccfhjgopnbaaGreatDr25
set_option linter.unusedSimpArgs false
namespace Go.Proofs.YtbfccfhjgopnbaaGreat
open Go.ChangeShapes Go.WideShapes Go.ChangeAt Go.RowKit
set_option linter.unusedVariables false
/-- The code's reader stands at τ; the document's at σ', with the instruction y. -/
def Same (τ : Sg) (y : Ins) (σ' : Sg) : Prop := τ.err = σ'.err ∧ (τ.err = 0 → τ.ins = y ∧ τ.at' = σ'.at')
/-- Both make the same of the opcode c. -/
def Ag (X : Cx) (σ : Sg) (c : Int) : Prop := ∃ (y : Ins) (σ' : Sg), (∀ w f, RSt X w σ f c → Calls Tryz.prog 12 #[.pointer (some ⟨X.S, 0, none⟩)] w fun e w' => e = .returned (.agg (insV y)) ∧ ∃ f' c', RDn X w σ' f' c' w') ∧ Same (behM ruleOf (opM X c σ).1 X (opM X c σ).2) y σ'
theorem ag_call {X : Cx} {w : World} {f' : Int × Int × Int} {c' : Int} {y : Ins} {σ' : Sg} (h : Calls Tryz.prog 12 #[.pointer (some ⟨X.S, 0, none⟩)] w fun e w' => e = .returned (.agg (insV y)) ∧ RDn X w σ' f' c' w') :
    Calls Tryz.prog 12 #[.pointer (some ⟨X.S, 0, none⟩)] w fun e w' => e = .returned (.agg (insV y)) ∧ ∃ f' c', RDn X w σ' f' c' w' := h.mono fun e w' ⟨h1, h2⟩ => ⟨h1, _, _, h2⟩
theorem refuse_ne (σ : Sg) : (refuse σ).err ≠ 0 := by
  unfold refuse
  split
  · show ¬ ((60 : Int) = 0)
    decide
  · assumption
theorem same_ref (σ : Sg) (o : Int) (i y : Ins) : Same ((refuse σ).re o i) y (refuse σ) := ⟨rfl, fun h => absurd h (refuse_ne σ)⟩
theorem same_re (σ : Sg) (o : Int) (i : Ins) : Same (σ.re o i) i σ := ⟨rfl, fun _ => ⟨rfl, rfl⟩⟩
theorem same_re' (σ : Sg) (o : Int) (i y : Ins) (h : i = y) : Same (σ.re o i) y σ := ⟨rfl, fun _ => ⟨h, rfl⟩⟩
theorem bytes_v (X : Cx) (s : Int) (σ : Sg) : (bytesM X s σ).2.v = σ.v := (kept_bytes X s σ).v
theorem E_v (X : Cx) (s : Int) (σ : Sg) : (pE X s σ).2.v = σ.v := (kept_E X s σ).v
theorem refuse_v (σ : Sg) : (refuse σ).v = σ.v := (kept_refuse σ).v
/-- What is read behind an error does not count. -/
theorem same_stuck {g : Cx → Sg → Sg} (hg : RdS g) (X : Cx) (σ : Sg) (o : Int) (i y : Ins) : Same (g X ((refuse σ).re o i)) y (refuse σ) := by
  have h := (hg.stuck X ((refuse σ).re o i) (refuse_ne σ)).1
  exact ⟨h, fun k => absurd (h.symm.trans k) (refuse_ne σ)⟩
theorem E_stuck (X : Cx) (s : Int) (σ : Sg) (h : σ.err ≠ 0) : (pE X s σ).2.err = σ.err :=
  (RdS.stuck (g := fun X σ => (pE X s σ).2) (Rd.bindS (f := fun X σ => pE X s σ) (g := fun _ _ σ => σ) (rdPE s) (fun _ => (Rd.same (fun _ _ _ => rfl) : Rd (fun _ σ => ((), σ))))) X σ h).1
theorem same_E (X : Cx) (s : Int) (σ : Sg) (o : Int) (i y : Ins) : Same ((pE X s (refuse σ)).2.re o i) y (refuse σ) :=
  have h := E_stuck X s (refuse σ) (refuse_ne σ)
  ⟨h, fun k => absurd (h.symm.trans k) (refuse_ne σ)⟩
theorem same_refE (X : Cx) (s : Int) (σ : Sg) (o : Int) (i y : Ins) : Same ((refuse σ).re o i) y (pE X s (refuse σ)).2 :=
  ⟨(E_stuck X s (refuse σ) (refuse_ne σ)).symm, fun k => absurd k (refuse_ne σ)⟩
theorem same_EE (X : Cx) (s : Int) (σ : Sg) (o : Int) (i y : Ins) : Same ((pE X s (refuse σ)).2.re o i) y (pE X s (refuse σ)).2 :=
  ⟨rfl, fun k => absurd ((E_stuck X s (refuse σ) (refuse_ne σ)).symm.trans k) (refuse_ne σ)⟩
theorem refuse_two (σ : Sg) : refuse (refuse σ) = refuse σ := if_neg (refuse_ne σ)
theorem seg_take (X : Cx) {σ : Sg} (h : -1 ≤ σ.seg) : -1 ≤ (take X σ).2.seg := by
  rw [(kept_take X σ).seg]
  exact h
theorem two_at {X : Cx} {σ : Sg} {f f2 : Int × Int × Int} {d : Int} {xI : Ins} {σ2 : Sg} {n : Nat} (hd : (take X σ).1 = d) (H : ∀ W, RSt X W (take X σ).2 f d → Calls Tryz.prog n #[.pointer (some ⟨X.S, 0, none⟩)] W fun e w' => e = .returned (.agg (insV xI)) ∧ RDn X W σ2 f2 d w') :
    ∀ W, RSt X W (take X σ).2 f (take X σ).1 → Calls Tryz.prog n #[.pointer (some ⟨X.S, 0, none⟩)] W fun e w' => e = .returned (.agg (insV xI)) ∧ RDn X W σ2 f2 (take X σ).1 w' := by
  subst hd
  exact H
def MidOk (X : Cx) (σ : Sg) : Prop := 0 ≤ (modrm X σ).1.2.1 ∧ (modrm X σ).1.2.1 < 8
theorem mid8 (X : Cx) (σ : Sg) (h : MidOk X σ) : (modrm X σ).1.2.1 = 0 ∨ (modrm X σ).1.2.1 = 1 ∨ (modrm X σ).1.2.1 = 2 ∨ (modrm X σ).1.2.1 = 3 ∨ (modrm X σ).1.2.1 = 4 ∨ (modrm X σ).1.2.1 = 5 ∨ (modrm X σ).1.2.1 = 6 ∨ (modrm X σ).1.2.1 = 7 := by
  obtain ⟨h1, h2⟩ := h
  omega
theorem mid_ok (X : Cx) {σ : Sg} (hf : σ.fl = none) : MidOk X σ := by
  unfold MidOk modrm
  rw [hf]
  exact ⟨Int.emod_nonneg _ (by decide), Int.emod_lt_of_pos _ (by decide)⟩
end Go.Proofs.YtbfccfhjgopnbaaGreat
namespace Go.Proofs.YtbfccfhjgopnbaaGreat
open Go.ChangeShapes Go.WideShapes Go.ChangeAt Go.RowKit
set_option linter.unusedVariables false
set_option linter.unusedSimpArgs false
set_option linter.unusedSectionVars false
set_option maxHeartbeats 4000000
theorem rule_0 : ruleOf 0 = some (.row ⟨.no, 1, .opn, (.k 1), [.E, .G]⟩) := by decide +kernel
theorem rule_1 : ruleOf 1 = some (.row ⟨.no, 1, .opn, .v, [.E, .G]⟩) := by decide +kernel
theorem rule_2 : ruleOf 2 = some (.row ⟨.no, 1, .opn, (.k 1), [.G, .E]⟩) := by decide +kernel
theorem rule_3 : ruleOf 3 = some (.row ⟨.no, 1, .opn, .v, [.G, .E]⟩) := by decide +kernel
theorem rule_4 : ruleOf 4 = some (.row ⟨.no, 1, .opn, (.k 1), [.A, .I]⟩) := by decide +kernel
theorem rule_5 : ruleOf 5 = some (.row ⟨.no, 1, .opn, .v, [.A, .I]⟩) := by decide +kernel
theorem rule_6 : ruleOf 6 = some (.row ⟨.no, 12, (.k 0), .v, [(.Seg 0)]⟩) := by decide +kernel
theorem rule_7 : ruleOf 7 = some (.row ⟨.no, 13, (.k 0), .v, [(.Seg 0)]⟩) := by decide +kernel
theorem rule_8 : ruleOf 8 = some (.row ⟨.no, 1, .opn, (.k 1), [.E, .G]⟩) := by decide +kernel
theorem rule_9 : ruleOf 9 = some (.row ⟨.no, 1, .opn, .v, [.E, .G]⟩) := by decide +kernel
theorem rule_10 : ruleOf 10 = some (.row ⟨.no, 1, .opn, (.k 1), [.G, .E]⟩) := by decide +kernel
theorem rule_11 : ruleOf 11 = some (.row ⟨.no, 1, .opn, .v, [.G, .E]⟩) := by decide +kernel
theorem rule_12 : ruleOf 12 = some (.row ⟨.no, 1, .opn, (.k 1), [.A, .I]⟩) := by decide +kernel
theorem rule_13 : ruleOf 13 = some (.row ⟨.no, 1, .opn, .v, [.A, .I]⟩) := by decide +kernel
theorem rule_14 : ruleOf 14 = some (.row ⟨.no, 12, (.k 0), .v, [(.Seg 1)]⟩) := by decide +kernel
theorem rule_16 : ruleOf 16 = some (.row ⟨.no, 1, .opn, (.k 1), [.E, .G]⟩) := by decide +kernel
theorem rule_17 : ruleOf 17 = some (.row ⟨.no, 1, .opn, .v, [.E, .G]⟩) := by decide +kernel
theorem rule_18 : ruleOf 18 = some (.row ⟨.no, 1, .opn, (.k 1), [.G, .E]⟩) := by decide +kernel
theorem rule_19 : ruleOf 19 = some (.row ⟨.no, 1, .opn, .v, [.G, .E]⟩) := by decide +kernel
theorem rule_20 : ruleOf 20 = some (.row ⟨.no, 1, .opn, (.k 1), [.A, .I]⟩) := by decide +kernel
theorem rule_21 : ruleOf 21 = some (.row ⟨.no, 1, .opn, .v, [.A, .I]⟩) := by decide +kernel
theorem rule_22 : ruleOf 22 = some (.row ⟨.no, 12, (.k 0), .v, [(.Seg 2)]⟩) := by decide +kernel
theorem rule_23 : ruleOf 23 = some (.row ⟨.no, 13, (.k 0), .v, [(.Seg 2)]⟩) := by decide +kernel
theorem rule_24 : ruleOf 24 = some (.row ⟨.no, 1, .opn, (.k 1), [.E, .G]⟩) := by decide +kernel
theorem rule_25 : ruleOf 25 = some (.row ⟨.no, 1, .opn, .v, [.E, .G]⟩) := by decide +kernel
theorem rule_26 : ruleOf 26 = some (.row ⟨.no, 1, .opn, (.k 1), [.G, .E]⟩) := by decide +kernel
theorem rule_27 : ruleOf 27 = some (.row ⟨.no, 1, .opn, .v, [.G, .E]⟩) := by decide +kernel
theorem rule_28 : ruleOf 28 = some (.row ⟨.no, 1, .opn, (.k 1), [.A, .I]⟩) := by decide +kernel
theorem rule_29 : ruleOf 29 = some (.row ⟨.no, 1, .opn, .v, [.A, .I]⟩) := by decide +kernel
theorem rule_30 : ruleOf 30 = some (.row ⟨.no, 12, (.k 0), .v, [(.Seg 3)]⟩) := by decide +kernel
theorem rule_31 : ruleOf 31 = some (.row ⟨.no, 13, (.k 0), .v, [(.Seg 3)]⟩) := by decide +kernel
theorem rule_32 : ruleOf 32 = some (.row ⟨.no, 1, .opn, (.k 1), [.E, .G]⟩) := by decide +kernel
theorem rule_33 : ruleOf 33 = some (.row ⟨.no, 1, .opn, .v, [.E, .G]⟩) := by decide +kernel
theorem rule_34 : ruleOf 34 = some (.row ⟨.no, 1, .opn, (.k 1), [.G, .E]⟩) := by decide +kernel
theorem rule_35 : ruleOf 35 = some (.row ⟨.no, 1, .opn, .v, [.G, .E]⟩) := by decide +kernel
theorem rule_36 : ruleOf 36 = some (.row ⟨.no, 1, .opn, (.k 1), [.A, .I]⟩) := by decide +kernel
theorem rule_37 : ruleOf 37 = some (.row ⟨.no, 1, .opn, .v, [.A, .I]⟩) := by decide +kernel
theorem rule_39 : ruleOf 39 = some (.row ⟨.no, 7, (.k 0), (.k 1), []⟩) := by decide +kernel
theorem rule_40 : ruleOf 40 = some (.row ⟨.no, 1, .opn, (.k 1), [.E, .G]⟩) := by decide +kernel
theorem rule_41 : ruleOf 41 = some (.row ⟨.no, 1, .opn, .v, [.E, .G]⟩) := by decide +kernel
theorem rule_42 : ruleOf 42 = some (.row ⟨.no, 1, .opn, (.k 1), [.G, .E]⟩) := by decide +kernel
theorem rule_43 : ruleOf 43 = some (.row ⟨.no, 1, .opn, .v, [.G, .E]⟩) := by decide +kernel
theorem rule_44 : ruleOf 44 = some (.row ⟨.no, 1, .opn, (.k 1), [.A, .I]⟩) := by decide +kernel
theorem rule_45 : ruleOf 45 = some (.row ⟨.no, 1, .opn, .v, [.A, .I]⟩) := by decide +kernel
theorem rule_47 : ruleOf 47 = some (.row ⟨.no, 7, (.k 1), (.k 1), []⟩) := by decide +kernel
theorem rule_48 : ruleOf 48 = some (.row ⟨.no, 1, .opn, (.k 1), [.E, .G]⟩) := by decide +kernel
theorem rule_49 : ruleOf 49 = some (.row ⟨.no, 1, .opn, .v, [.E, .G]⟩) := by decide +kernel
theorem rule_50 : ruleOf 50 = some (.row ⟨.no, 1, .opn, (.k 1), [.G, .E]⟩) := by decide +kernel
theorem rule_51 : ruleOf 51 = some (.row ⟨.no, 1, .opn, .v, [.G, .E]⟩) := by decide +kernel
theorem rule_52 : ruleOf 52 = some (.row ⟨.no, 1, .opn, (.k 1), [.A, .I]⟩) := by decide +kernel
theorem rule_53 : ruleOf 53 = some (.row ⟨.no, 1, .opn, .v, [.A, .I]⟩) := by decide +kernel
theorem rule_55 : ruleOf 55 = some (.row ⟨.no, 7, (.k 2), (.k 1), []⟩) := by decide +kernel
theorem rule_56 : ruleOf 56 = some (.row ⟨.no, 1, .opn, (.k 1), [.E, .G]⟩) := by decide +kernel
theorem rule_57 : ruleOf 57 = some (.row ⟨.no, 1, .opn, .v, [.E, .G]⟩) := by decide +kernel
theorem rule_58 : ruleOf 58 = some (.row ⟨.no, 1, .opn, (.k 1), [.G, .E]⟩) := by decide +kernel
theorem rule_59 : ruleOf 59 = some (.row ⟨.no, 1, .opn, .v, [.G, .E]⟩) := by decide +kernel
theorem rule_60 : ruleOf 60 = some (.row ⟨.no, 1, .opn, (.k 1), [.A, .I]⟩) := by decide +kernel
theorem rule_61 : ruleOf 61 = some (.row ⟨.no, 1, .opn, .v, [.A, .I]⟩) := by decide +kernel
theorem rule_63 : ruleOf 63 = some (.row ⟨.no, 7, (.k 3), (.k 1), []⟩) := by decide +kernel
theorem rule_64 : ruleOf 64 = some (.row ⟨.no, 1, (.k 9), .v, [.R]⟩) := by decide +kernel
theorem rule_65 : ruleOf 65 = some (.row ⟨.no, 1, (.k 9), .v, [.R]⟩) := by decide +kernel
theorem rule_66 : ruleOf 66 = some (.row ⟨.no, 1, (.k 9), .v, [.R]⟩) := by decide +kernel
theorem rule_67 : ruleOf 67 = some (.row ⟨.no, 1, (.k 9), .v, [.R]⟩) := by decide +kernel
theorem rule_68 : ruleOf 68 = some (.row ⟨.no, 1, (.k 9), .v, [.R]⟩) := by decide +kernel
theorem rule_69 : ruleOf 69 = some (.row ⟨.no, 1, (.k 9), .v, [.R]⟩) := by decide +kernel
theorem rule_70 : ruleOf 70 = some (.row ⟨.no, 1, (.k 9), .v, [.R]⟩) := by decide +kernel
theorem rule_71 : ruleOf 71 = some (.row ⟨.no, 1, (.k 9), .v, [.R]⟩) := by decide +kernel
theorem rule_72 : ruleOf 72 = some (.row ⟨.no, 1, (.k 10), .v, [.R]⟩) := by decide +kernel
theorem rule_73 : ruleOf 73 = some (.row ⟨.no, 1, (.k 10), .v, [.R]⟩) := by decide +kernel
theorem rule_74 : ruleOf 74 = some (.row ⟨.no, 1, (.k 10), .v, [.R]⟩) := by decide +kernel
theorem rule_75 : ruleOf 75 = some (.row ⟨.no, 1, (.k 10), .v, [.R]⟩) := by decide +kernel
theorem rule_76 : ruleOf 76 = some (.row ⟨.no, 1, (.k 10), .v, [.R]⟩) := by decide +kernel
theorem rule_77 : ruleOf 77 = some (.row ⟨.no, 1, (.k 10), .v, [.R]⟩) := by decide +kernel
theorem rule_78 : ruleOf 78 = some (.row ⟨.no, 1, (.k 10), .v, [.R]⟩) := by decide +kernel
theorem rule_79 : ruleOf 79 = some (.row ⟨.no, 1, (.k 10), .v, [.R]⟩) := by decide +kernel
theorem rule_80 : ruleOf 80 = some (.row ⟨.no, 12, (.k 0), .v, [.R]⟩) := by decide +kernel
theorem rule_81 : ruleOf 81 = some (.row ⟨.no, 12, (.k 0), .v, [.R]⟩) := by decide +kernel
theorem rule_82 : ruleOf 82 = some (.row ⟨.no, 12, (.k 0), .v, [.R]⟩) := by decide +kernel
theorem rule_83 : ruleOf 83 = some (.row ⟨.no, 12, (.k 0), .v, [.R]⟩) := by decide +kernel
theorem rule_84 : ruleOf 84 = some (.row ⟨.no, 12, (.k 0), .v, [.R]⟩) := by decide +kernel
theorem rule_85 : ruleOf 85 = some (.row ⟨.no, 12, (.k 0), .v, [.R]⟩) := by decide +kernel
theorem rule_86 : ruleOf 86 = some (.row ⟨.no, 12, (.k 0), .v, [.R]⟩) := by decide +kernel
theorem rule_87 : ruleOf 87 = some (.row ⟨.no, 12, (.k 0), .v, [.R]⟩) := by decide +kernel
theorem rule_88 : ruleOf 88 = some (.row ⟨.no, 13, (.k 0), .v, [.R]⟩) := by decide +kernel
theorem rule_89 : ruleOf 89 = some (.row ⟨.no, 13, (.k 0), .v, [.R]⟩) := by decide +kernel
theorem rule_90 : ruleOf 90 = some (.row ⟨.no, 13, (.k 0), .v, [.R]⟩) := by decide +kernel
theorem rule_91 : ruleOf 91 = some (.row ⟨.no, 13, (.k 0), .v, [.R]⟩) := by decide +kernel
theorem rule_92 : ruleOf 92 = some (.row ⟨.no, 13, (.k 0), .v, [.R]⟩) := by decide +kernel
theorem rule_93 : ruleOf 93 = some (.row ⟨.no, 13, (.k 0), .v, [.R]⟩) := by decide +kernel
theorem rule_94 : ruleOf 94 = some (.row ⟨.no, 13, (.k 0), .v, [.R]⟩) := by decide +kernel
theorem rule_95 : ruleOf 95 = some (.row ⟨.no, 13, (.k 0), .v, [.R]⟩) := by decide +kernel
theorem rule_96 : ruleOf 96 = some (.row ⟨.no, 14, (.k 0), .v, []⟩) := by decide +kernel
theorem rule_97 : ruleOf 97 = some (.row ⟨.no, 15, (.k 0), .v, []⟩) := by decide +kernel
theorem rule_98 : ruleOf 98 = none := by decide +kernel
theorem rule_99 : ruleOf 99 = none := by decide +kernel
theorem rule_103 : ruleOf 103 = none := by decide +kernel
theorem rule_104 : ruleOf 104 = some (.row ⟨.no, 12, (.k 0), .v, [.I]⟩) := by decide +kernel
theorem rule_105 : ruleOf 105 = some (.row ⟨.no, 5, (.k 0), .v, [.G, .E, .I]⟩) := by decide +kernel
theorem rule_106 : ruleOf 106 = some (.row ⟨.no, 12, (.k 0), .v, [.Is]⟩) := by decide +kernel
theorem rule_107 : ruleOf 107 = some (.row ⟨.no, 5, (.k 0), .v, [.G, .E, .Is]⟩) := by decide +kernel
theorem rule_108 : ruleOf 108 = none := by decide +kernel
theorem rule_109 : ruleOf 109 = none := by decide +kernel
theorem rule_110 : ruleOf 110 = none := by decide +kernel
theorem rule_111 : ruleOf 111 = none := by decide +kernel
theorem rule_112 : ruleOf 112 = some (.row ⟨.no, 28, .opc, .v, [.Jb]⟩) := by decide +kernel
theorem rule_113 : ruleOf 113 = some (.row ⟨.no, 28, .opc, .v, [.Jb]⟩) := by decide +kernel
theorem rule_114 : ruleOf 114 = some (.row ⟨.no, 28, .opc, .v, [.Jb]⟩) := by decide +kernel
theorem rule_115 : ruleOf 115 = some (.row ⟨.no, 28, .opc, .v, [.Jb]⟩) := by decide +kernel
theorem rule_116 : ruleOf 116 = some (.row ⟨.no, 28, .opc, .v, [.Jb]⟩) := by decide +kernel
theorem rule_117 : ruleOf 117 = some (.row ⟨.no, 28, .opc, .v, [.Jb]⟩) := by decide +kernel
theorem rule_118 : ruleOf 118 = some (.row ⟨.no, 28, .opc, .v, [.Jb]⟩) := by decide +kernel
theorem rule_119 : ruleOf 119 = some (.row ⟨.no, 28, .opc, .v, [.Jb]⟩) := by decide +kernel
theorem rule_120 : ruleOf 120 = some (.row ⟨.no, 28, .opc, .v, [.Jb]⟩) := by decide +kernel
theorem rule_121 : ruleOf 121 = some (.row ⟨.no, 28, .opc, .v, [.Jb]⟩) := by decide +kernel
theorem rule_122 : ruleOf 122 = some (.row ⟨.no, 28, .opc, .v, [.Jb]⟩) := by decide +kernel
theorem rule_123 : ruleOf 123 = some (.row ⟨.no, 28, .opc, .v, [.Jb]⟩) := by decide +kernel
theorem rule_124 : ruleOf 124 = some (.row ⟨.no, 28, .opc, .v, [.Jb]⟩) := by decide +kernel
theorem rule_125 : ruleOf 125 = some (.row ⟨.no, 28, .opc, .v, [.Jb]⟩) := by decide +kernel
theorem rule_126 : ruleOf 126 = some (.row ⟨.no, 28, .opc, .v, [.Jb]⟩) := by decide +kernel
theorem rule_127 : ruleOf 127 = some (.row ⟨.no, 28, .opc, .v, [.Jb]⟩) := by decide +kernel
section
variable (X : Cx) (σ : Sg) (hf : σ.fl = none) (hi : σ.ins = Ins.zero) (hg : -1 ≤ σ.seg)
include hf hi hg
theorem ag_c0 (h15 : Ag X σ 15) (b : Int) (hp : isPre b = false) (h0 : 0 ≤ b) (h1 : b < 16) : Ag X σ b := by
  rcases (by omega : b = 0 ∨ b = 1 ∨ b = 2 ∨ b = 3 ∨ b = 4 ∨ b = 5 ∨ b = 6 ∨ b = 7 ∨ b = 8 ∨ b = 9 ∨ b = 10 ∨ b = 11 ∨ b = 12 ∨ b = 13 ∨ b = 14 ∨ b = 15) with rfl | rfl | rfl | rfl | rfl | rfl | rfl | rfl | rfl | rfl | rfl | rfl | rfl | rfl | rfl | rfl
  refine ⟨_, _, fun w f h => ag_call (one_sums w X σ f 0 h (by decide) (by decide) (by decide) _ _ _ _ (fun W hW => sums_f W X σ f 0 hW (by decide) (by decide) (by decide) (by decide) hf)), ?_⟩
  rotate_left
  refine ⟨_, _, fun w f h => ag_call (one_sums w X σ f 1 h (by decide) (by decide) (by decide) _ _ _ _ (fun W hW => sums_f W X σ f 1 hW (by decide) (by decide) (by decide) (by decide) hf)), ?_⟩
  rotate_left
  refine ⟨_, _, fun w f h => ag_call (one_sums w X σ f 2 h (by decide) (by decide) (by decide) _ _ _ _ (fun W hW => sums_t W X σ f 2 hW (by decide) (by decide) (by decide) (by decide) hf)), ?_⟩
  rotate_left
  refine ⟨_, _, fun w f h => ag_call (one_sums w X σ f 3 h (by decide) (by decide) (by decide) _ _ _ _ (fun W hW => sums_t W X σ f 3 hW (by decide) (by decide) (by decide) (by decide) hf)), ?_⟩
  rotate_left
  refine ⟨_, _, fun w f h => ag_call (one_sums w X σ f 4 h (by decide) (by decide) (by decide) _ _ _ _ (fun W hW => sums_n W X σ f 4 hW (by decide) (by decide) (by decide))), ?_⟩
  rotate_left
  refine ⟨_, _, fun w f h => ag_call (one_sums w X σ f 5 h (by decide) (by decide) (by decide) _ _ _ _ (fun W hW => sums_n W X σ f 5 hW (by decide) (by decide) (by decide))), ?_⟩
  rotate_left
  refine ⟨_, _, fun w f h => ag_call (one_odd w X σ f 6 h (by decide) (by decide) (by decide) (by decide) _ _ _ _ (fun W hW => odd_6 W X σ f hW)), ?_⟩
  rotate_left
  refine ⟨_, _, fun w f h => ag_call (one_odd w X σ f 7 h (by decide) (by decide) (by decide) (by decide) _ _ _ _ (fun W hW => odd_7 W X σ f hW)), ?_⟩
  rotate_left
  refine ⟨_, _, fun w f h => ag_call (one_sums w X σ f 8 h (by decide) (by decide) (by decide) _ _ _ _ (fun W hW => sums_f W X σ f 8 hW (by decide) (by decide) (by decide) (by decide) hf)), ?_⟩
  rotate_left
  refine ⟨_, _, fun w f h => ag_call (one_sums w X σ f 9 h (by decide) (by decide) (by decide) _ _ _ _ (fun W hW => sums_f W X σ f 9 hW (by decide) (by decide) (by decide) (by decide) hf)), ?_⟩
  rotate_left
  refine ⟨_, _, fun w f h => ag_call (one_sums w X σ f 10 h (by decide) (by decide) (by decide) _ _ _ _ (fun W hW => sums_t W X σ f 10 hW (by decide) (by decide) (by decide) (by decide) hf)), ?_⟩
  rotate_left
  refine ⟨_, _, fun w f h => ag_call (one_sums w X σ f 11 h (by decide) (by decide) (by decide) _ _ _ _ (fun W hW => sums_t W X σ f 11 hW (by decide) (by decide) (by decide) (by decide) hf)), ?_⟩
  rotate_left
  refine ⟨_, _, fun w f h => ag_call (one_sums w X σ f 12 h (by decide) (by decide) (by decide) _ _ _ _ (fun W hW => sums_n W X σ f 12 hW (by decide) (by decide) (by decide))), ?_⟩
  rotate_left
  refine ⟨_, _, fun w f h => ag_call (one_sums w X σ f 13 h (by decide) (by decide) (by decide) _ _ _ _ (fun W hW => sums_n W X σ f 13 hW (by decide) (by decide) (by decide))), ?_⟩
  rotate_left
  refine ⟨_, _, fun w f h => ag_call (one_odd w X σ f 14 h (by decide) (by decide) (by decide) (by decide) _ _ _ _ (fun W hW => odd_14 W X σ f hW)), ?_⟩
  rotate_left
  exact h15
  all_goals
    simp only [opM, behM, rule_0, rule_1, rule_2, rule_3, rule_4, rule_5, rule_6, rule_7, rule_8, rule_9, rule_10, rule_11, rule_12, rule_13, rule_14, reduceIte, Int.reduceEq, Int.reduceAdd, Rule.g, Row.g]
    simp only [Row.is, Gt.g, Szk.of, isM, List.map, Pt.f, stpF, setI, opS_re, hi, re_v, re_op, re_ins, re_seg, re_rep, re_re, hdS_re, E_re, O_re, setA_re, setB_re, setC_re, pA, pCL, pDX, pR, pG, pRm, pCr, pI, pIb, pIw, pIs, pJ, pJb, pFar, pEb, pEw, pSeg, pNum, modrm_re, modrm_E, modrm_twice, modrm_refuse, refuse_two, modrm_v, take_v, bytes_v, E_v, refuse_v, E_again, bytes_re, refuse_re, egM, szM, oddI, strI, mem9, ← rsegD_eq hg, segD, memO, isStr, pString, Int.reduceMod, Int.reduceDiv, Bool.false_eq_true, Int.reduceSub, Int.reduceAdd, reduceIte, Int.reduceEq]
    first
      | with_reducible exact same_re _ _ _
      | with_reducible exact same_ref _ _ _ _
      | with_reducible exact same_E _ _ _ _ _ _
      | with_reducible exact same_refE _ _ _ _ _ _
      | with_reducible exact same_EE _ _ _ _ _ _
      | ((with_reducible refine same_re' _ _ _ _ ?_); exact rfl)
      | exact ⟨rfl, fun _ => ⟨rfl, rfl⟩⟩
theorem ag_c1 (b : Int) (hp : isPre b = false) (h0 : 16 ≤ b) (h1 : b < 32) : Ag X σ b := by
  rcases (by omega : b = 16 ∨ b = 17 ∨ b = 18 ∨ b = 19 ∨ b = 20 ∨ b = 21 ∨ b = 22 ∨ b = 23 ∨ b = 24 ∨ b = 25 ∨ b = 26 ∨ b = 27 ∨ b = 28 ∨ b = 29 ∨ b = 30 ∨ b = 31) with rfl | rfl | rfl | rfl | rfl | rfl | rfl | rfl | rfl | rfl | rfl | rfl | rfl | rfl | rfl | rfl
  refine ⟨_, _, fun w f h => ag_call (one_sums w X σ f 16 h (by decide) (by decide) (by decide) _ _ _ _ (fun W hW => sums_f W X σ f 16 hW (by decide) (by decide) (by decide) (by decide) hf)), ?_⟩
  rotate_left
  refine ⟨_, _, fun w f h => ag_call (one_sums w X σ f 17 h (by decide) (by decide) (by decide) _ _ _ _ (fun W hW => sums_f W X σ f 17 hW (by decide) (by decide) (by decide) (by decide) hf)), ?_⟩
  rotate_left
  refine ⟨_, _, fun w f h => ag_call (one_sums w X σ f 18 h (by decide) (by decide) (by decide) _ _ _ _ (fun W hW => sums_t W X σ f 18 hW (by decide) (by decide) (by decide) (by decide) hf)), ?_⟩
  rotate_left
  refine ⟨_, _, fun w f h => ag_call (one_sums w X σ f 19 h (by decide) (by decide) (by decide) _ _ _ _ (fun W hW => sums_t W X σ f 19 hW (by decide) (by decide) (by decide) (by decide) hf)), ?_⟩
  rotate_left
  refine ⟨_, _, fun w f h => ag_call (one_sums w X σ f 20 h (by decide) (by decide) (by decide) _ _ _ _ (fun W hW => sums_n W X σ f 20 hW (by decide) (by decide) (by decide))), ?_⟩
  rotate_left
  refine ⟨_, _, fun w f h => ag_call (one_sums w X σ f 21 h (by decide) (by decide) (by decide) _ _ _ _ (fun W hW => sums_n W X σ f 21 hW (by decide) (by decide) (by decide))), ?_⟩
  rotate_left
  refine ⟨_, _, fun w f h => ag_call (one_odd w X σ f 22 h (by decide) (by decide) (by decide) (by decide) _ _ _ _ (fun W hW => odd_22 W X σ f hW)), ?_⟩
  rotate_left
  refine ⟨_, _, fun w f h => ag_call (one_odd w X σ f 23 h (by decide) (by decide) (by decide) (by decide) _ _ _ _ (fun W hW => odd_23 W X σ f hW)), ?_⟩
  rotate_left
  refine ⟨_, _, fun w f h => ag_call (one_sums w X σ f 24 h (by decide) (by decide) (by decide) _ _ _ _ (fun W hW => sums_f W X σ f 24 hW (by decide) (by decide) (by decide) (by decide) hf)), ?_⟩
  rotate_left
  refine ⟨_, _, fun w f h => ag_call (one_sums w X σ f 25 h (by decide) (by decide) (by decide) _ _ _ _ (fun W hW => sums_f W X σ f 25 hW (by decide) (by decide) (by decide) (by decide) hf)), ?_⟩
  rotate_left
  refine ⟨_, _, fun w f h => ag_call (one_sums w X σ f 26 h (by decide) (by decide) (by decide) _ _ _ _ (fun W hW => sums_t W X σ f 26 hW (by decide) (by decide) (by decide) (by decide) hf)), ?_⟩
  rotate_left
  refine ⟨_, _, fun w f h => ag_call (one_sums w X σ f 27 h (by decide) (by decide) (by decide) _ _ _ _ (fun W hW => sums_t W X σ f 27 hW (by decide) (by decide) (by decide) (by decide) hf)), ?_⟩
  rotate_left
  refine ⟨_, _, fun w f h => ag_call (one_sums w X σ f 28 h (by decide) (by decide) (by decide) _ _ _ _ (fun W hW => sums_n W X σ f 28 hW (by decide) (by decide) (by decide))), ?_⟩
  rotate_left
  refine ⟨_, _, fun w f h => ag_call (one_sums w X σ f 29 h (by decide) (by decide) (by decide) _ _ _ _ (fun W hW => sums_n W X σ f 29 hW (by decide) (by decide) (by decide))), ?_⟩
  rotate_left
  refine ⟨_, _, fun w f h => ag_call (one_odd w X σ f 30 h (by decide) (by decide) (by decide) (by decide) _ _ _ _ (fun W hW => odd_30 W X σ f hW)), ?_⟩
  rotate_left
  refine ⟨_, _, fun w f h => ag_call (one_odd w X σ f 31 h (by decide) (by decide) (by decide) (by decide) _ _ _ _ (fun W hW => odd_31 W X σ f hW)), ?_⟩
  rotate_left
  all_goals
    simp only [opM, behM, rule_16, rule_17, rule_18, rule_19, rule_20, rule_21, rule_22, rule_23, rule_24, rule_25, rule_26, rule_27, rule_28, rule_29, rule_30, rule_31, reduceIte, Int.reduceEq, Int.reduceAdd, Rule.g, Row.g]
    simp only [Row.is, Gt.g, Szk.of, isM, List.map, Pt.f, stpF, setI, opS_re, hi, re_v, re_op, re_ins, re_seg, re_rep, re_re, hdS_re, E_re, O_re, setA_re, setB_re, setC_re, pA, pCL, pDX, pR, pG, pRm, pCr, pI, pIb, pIw, pIs, pJ, pJb, pFar, pEb, pEw, pSeg, pNum, modrm_re, modrm_E, modrm_twice, modrm_refuse, refuse_two, modrm_v, take_v, bytes_v, E_v, refuse_v, E_again, bytes_re, refuse_re, egM, szM, oddI, strI, mem9, ← rsegD_eq hg, segD, memO, isStr, pString, Int.reduceMod, Int.reduceDiv, Bool.false_eq_true, Int.reduceSub, Int.reduceAdd, reduceIte, Int.reduceEq]
    first
      | with_reducible exact same_re _ _ _
      | with_reducible exact same_ref _ _ _ _
      | with_reducible exact same_E _ _ _ _ _ _
      | with_reducible exact same_refE _ _ _ _ _ _
      | with_reducible exact same_EE _ _ _ _ _ _
      | ((with_reducible refine same_re' _ _ _ _ ?_); exact rfl)
      | exact ⟨rfl, fun _ => ⟨rfl, rfl⟩⟩
theorem ag_c2 (b : Int) (hp : isPre b = false) (h0 : 32 ≤ b) (h1 : b < 48) : Ag X σ b := by
  rcases (by omega : b = 32 ∨ b = 33 ∨ b = 34 ∨ b = 35 ∨ b = 36 ∨ b = 37 ∨ b = 38 ∨ b = 39 ∨ b = 40 ∨ b = 41 ∨ b = 42 ∨ b = 43 ∨ b = 44 ∨ b = 45 ∨ b = 46 ∨ b = 47) with rfl | rfl | rfl | rfl | rfl | rfl | rfl | rfl | rfl | rfl | rfl | rfl | rfl | rfl | rfl | rfl
  refine ⟨_, _, fun w f h => ag_call (one_sums w X σ f 32 h (by decide) (by decide) (by decide) _ _ _ _ (fun W hW => sums_f W X σ f 32 hW (by decide) (by decide) (by decide) (by decide) hf)), ?_⟩
  rotate_left
  refine ⟨_, _, fun w f h => ag_call (one_sums w X σ f 33 h (by decide) (by decide) (by decide) _ _ _ _ (fun W hW => sums_f W X σ f 33 hW (by decide) (by decide) (by decide) (by decide) hf)), ?_⟩
  rotate_left
  refine ⟨_, _, fun w f h => ag_call (one_sums w X σ f 34 h (by decide) (by decide) (by decide) _ _ _ _ (fun W hW => sums_t W X σ f 34 hW (by decide) (by decide) (by decide) (by decide) hf)), ?_⟩
  rotate_left
  refine ⟨_, _, fun w f h => ag_call (one_sums w X σ f 35 h (by decide) (by decide) (by decide) _ _ _ _ (fun W hW => sums_t W X σ f 35 hW (by decide) (by decide) (by decide) (by decide) hf)), ?_⟩
  rotate_left
  refine ⟨_, _, fun w f h => ag_call (one_sums w X σ f 36 h (by decide) (by decide) (by decide) _ _ _ _ (fun W hW => sums_n W X σ f 36 hW (by decide) (by decide) (by decide))), ?_⟩
  rotate_left
  refine ⟨_, _, fun w f h => ag_call (one_sums w X σ f 37 h (by decide) (by decide) (by decide) _ _ _ _ (fun W hW => sums_n W X σ f 37 hW (by decide) (by decide) (by decide))), ?_⟩
  rotate_left
  exact absurd hp (by decide)
  refine ⟨_, _, fun w f h => ag_call (one_odd w X σ f 39 h (by decide) (by decide) (by decide) (by decide) _ _ _ _ (fun W hW => odd_39 W X σ f hW)), ?_⟩
  rotate_left
  refine ⟨_, _, fun w f h => ag_call (one_sums w X σ f 40 h (by decide) (by decide) (by decide) _ _ _ _ (fun W hW => sums_f W X σ f 40 hW (by decide) (by decide) (by decide) (by decide) hf)), ?_⟩
  rotate_left
  refine ⟨_, _, fun w f h => ag_call (one_sums w X σ f 41 h (by decide) (by decide) (by decide) _ _ _ _ (fun W hW => sums_f W X σ f 41 hW (by decide) (by decide) (by decide) (by decide) hf)), ?_⟩
  rotate_left
  refine ⟨_, _, fun w f h => ag_call (one_sums w X σ f 42 h (by decide) (by decide) (by decide) _ _ _ _ (fun W hW => sums_t W X σ f 42 hW (by decide) (by decide) (by decide) (by decide) hf)), ?_⟩
  rotate_left
  refine ⟨_, _, fun w f h => ag_call (one_sums w X σ f 43 h (by decide) (by decide) (by decide) _ _ _ _ (fun W hW => sums_t W X σ f 43 hW (by decide) (by decide) (by decide) (by decide) hf)), ?_⟩
  rotate_left
  refine ⟨_, _, fun w f h => ag_call (one_sums w X σ f 44 h (by decide) (by decide) (by decide) _ _ _ _ (fun W hW => sums_n W X σ f 44 hW (by decide) (by decide) (by decide))), ?_⟩
  rotate_left
  refine ⟨_, _, fun w f h => ag_call (one_sums w X σ f 45 h (by decide) (by decide) (by decide) _ _ _ _ (fun W hW => sums_n W X σ f 45 hW (by decide) (by decide) (by decide))), ?_⟩
  rotate_left
  exact absurd hp (by decide)
  refine ⟨_, _, fun w f h => ag_call (one_odd w X σ f 47 h (by decide) (by decide) (by decide) (by decide) _ _ _ _ (fun W hW => odd_47 W X σ f hW)), ?_⟩
  rotate_left
  all_goals
    simp only [opM, behM, rule_32, rule_33, rule_34, rule_35, rule_36, rule_37, rule_39, rule_40, rule_41, rule_42, rule_43, rule_44, rule_45, rule_47, reduceIte, Int.reduceEq, Int.reduceAdd, Rule.g, Row.g]
    simp only [Row.is, Gt.g, Szk.of, isM, List.map, Pt.f, stpF, setI, opS_re, hi, re_v, re_op, re_ins, re_seg, re_rep, re_re, hdS_re, E_re, O_re, setA_re, setB_re, setC_re, pA, pCL, pDX, pR, pG, pRm, pCr, pI, pIb, pIw, pIs, pJ, pJb, pFar, pEb, pEw, pSeg, pNum, modrm_re, modrm_E, modrm_twice, modrm_refuse, refuse_two, modrm_v, take_v, bytes_v, E_v, refuse_v, E_again, bytes_re, refuse_re, egM, szM, oddI, strI, mem9, ← rsegD_eq hg, segD, memO, isStr, pString, Int.reduceMod, Int.reduceDiv, Bool.false_eq_true, Int.reduceSub, Int.reduceAdd, reduceIte, Int.reduceEq]
    first
      | with_reducible exact same_re _ _ _
      | with_reducible exact same_ref _ _ _ _
      | with_reducible exact same_E _ _ _ _ _ _
      | with_reducible exact same_refE _ _ _ _ _ _
      | with_reducible exact same_EE _ _ _ _ _ _
      | ((with_reducible refine same_re' _ _ _ _ ?_); exact rfl)
      | exact ⟨rfl, fun _ => ⟨rfl, rfl⟩⟩
theorem ag_c3 (b : Int) (hp : isPre b = false) (h0 : 48 ≤ b) (h1 : b < 64) : Ag X σ b := by
  rcases (by omega : b = 48 ∨ b = 49 ∨ b = 50 ∨ b = 51 ∨ b = 52 ∨ b = 53 ∨ b = 54 ∨ b = 55 ∨ b = 56 ∨ b = 57 ∨ b = 58 ∨ b = 59 ∨ b = 60 ∨ b = 61 ∨ b = 62 ∨ b = 63) with rfl | rfl | rfl | rfl | rfl | rfl | rfl | rfl | rfl | rfl | rfl | rfl | rfl | rfl | rfl | rfl
  refine ⟨_, _, fun w f h => ag_call (one_sums w X σ f 48 h (by decide) (by decide) (by decide) _ _ _ _ (fun W hW => sums_f W X σ f 48 hW (by decide) (by decide) (by decide) (by decide) hf)), ?_⟩
  rotate_left
  refine ⟨_, _, fun w f h => ag_call (one_sums w X σ f 49 h (by decide) (by decide) (by decide) _ _ _ _ (fun W hW => sums_f W X σ f 49 hW (by decide) (by decide) (by decide) (by decide) hf)), ?_⟩
  rotate_left
  refine ⟨_, _, fun w f h => ag_call (one_sums w X σ f 50 h (by decide) (by decide) (by decide) _ _ _ _ (fun W hW => sums_t W X σ f 50 hW (by decide) (by decide) (by decide) (by decide) hf)), ?_⟩
  rotate_left
  refine ⟨_, _, fun w f h => ag_call (one_sums w X σ f 51 h (by decide) (by decide) (by decide) _ _ _ _ (fun W hW => sums_t W X σ f 51 hW (by decide) (by decide) (by decide) (by decide) hf)), ?_⟩
  rotate_left
  refine ⟨_, _, fun w f h => ag_call (one_sums w X σ f 52 h (by decide) (by decide) (by decide) _ _ _ _ (fun W hW => sums_n W X σ f 52 hW (by decide) (by decide) (by decide))), ?_⟩
  rotate_left
  refine ⟨_, _, fun w f h => ag_call (one_sums w X σ f 53 h (by decide) (by decide) (by decide) _ _ _ _ (fun W hW => sums_n W X σ f 53 hW (by decide) (by decide) (by decide))), ?_⟩
  rotate_left
  exact absurd hp (by decide)
  refine ⟨_, _, fun w f h => ag_call (one_odd w X σ f 55 h (by decide) (by decide) (by decide) (by decide) _ _ _ _ (fun W hW => odd_55 W X σ f hW)), ?_⟩
  rotate_left
  refine ⟨_, _, fun w f h => ag_call (one_sums w X σ f 56 h (by decide) (by decide) (by decide) _ _ _ _ (fun W hW => sums_f W X σ f 56 hW (by decide) (by decide) (by decide) (by decide) hf)), ?_⟩
  rotate_left
  refine ⟨_, _, fun w f h => ag_call (one_sums w X σ f 57 h (by decide) (by decide) (by decide) _ _ _ _ (fun W hW => sums_f W X σ f 57 hW (by decide) (by decide) (by decide) (by decide) hf)), ?_⟩
  rotate_left
  refine ⟨_, _, fun w f h => ag_call (one_sums w X σ f 58 h (by decide) (by decide) (by decide) _ _ _ _ (fun W hW => sums_t W X σ f 58 hW (by decide) (by decide) (by decide) (by decide) hf)), ?_⟩
  rotate_left
  refine ⟨_, _, fun w f h => ag_call (one_sums w X σ f 59 h (by decide) (by decide) (by decide) _ _ _ _ (fun W hW => sums_t W X σ f 59 hW (by decide) (by decide) (by decide) (by decide) hf)), ?_⟩
  rotate_left
  refine ⟨_, _, fun w f h => ag_call (one_sums w X σ f 60 h (by decide) (by decide) (by decide) _ _ _ _ (fun W hW => sums_n W X σ f 60 hW (by decide) (by decide) (by decide))), ?_⟩
  rotate_left
  refine ⟨_, _, fun w f h => ag_call (one_sums w X σ f 61 h (by decide) (by decide) (by decide) _ _ _ _ (fun W hW => sums_n W X σ f 61 hW (by decide) (by decide) (by decide))), ?_⟩
  rotate_left
  exact absurd hp (by decide)
  refine ⟨_, _, fun w f h => ag_call (one_odd w X σ f 63 h (by decide) (by decide) (by decide) (by decide) _ _ _ _ (fun W hW => odd_63 W X σ f hW)), ?_⟩
  rotate_left
  all_goals
    simp only [opM, behM, rule_48, rule_49, rule_50, rule_51, rule_52, rule_53, rule_55, rule_56, rule_57, rule_58, rule_59, rule_60, rule_61, rule_63, reduceIte, Int.reduceEq, Int.reduceAdd, Rule.g, Row.g]
    simp only [Row.is, Gt.g, Szk.of, isM, List.map, Pt.f, stpF, setI, opS_re, hi, re_v, re_op, re_ins, re_seg, re_rep, re_re, hdS_re, E_re, O_re, setA_re, setB_re, setC_re, pA, pCL, pDX, pR, pG, pRm, pCr, pI, pIb, pIw, pIs, pJ, pJb, pFar, pEb, pEw, pSeg, pNum, modrm_re, modrm_E, modrm_twice, modrm_refuse, refuse_two, modrm_v, take_v, bytes_v, E_v, refuse_v, E_again, bytes_re, refuse_re, egM, szM, oddI, strI, mem9, ← rsegD_eq hg, segD, memO, isStr, pString, Int.reduceMod, Int.reduceDiv, Bool.false_eq_true, Int.reduceSub, Int.reduceAdd, reduceIte, Int.reduceEq]
    first
      | with_reducible exact same_re _ _ _
      | with_reducible exact same_ref _ _ _ _
      | with_reducible exact same_E _ _ _ _ _ _
      | with_reducible exact same_refE _ _ _ _ _ _
      | with_reducible exact same_EE _ _ _ _ _ _
      | ((with_reducible refine same_re' _ _ _ _ ?_); exact rfl)
      | exact ⟨rfl, fun _ => ⟨rfl, rfl⟩⟩
theorem ag_c4 (b : Int) (hp : isPre b = false) (h0 : 64 ≤ b) (h1 : b < 80) : Ag X σ b := by
  rcases (by omega : b = 64 ∨ b = 65 ∨ b = 66 ∨ b = 67 ∨ b = 68 ∨ b = 69 ∨ b = 70 ∨ b = 71 ∨ b = 72 ∨ b = 73 ∨ b = 74 ∨ b = 75 ∨ b = 76 ∨ b = 77 ∨ b = 78 ∨ b = 79) with rfl | rfl | rfl | rfl | rfl | rfl | rfl | rfl | rfl | rfl | rfl | rfl | rfl | rfl | rfl | rfl
  refine ⟨_, _, fun w f h => ag_call (one_middle w X σ f 64 h (by decide) (by decide) _ _ _ _ (fun W hW => middle_r8 W X σ f 64 hW (by decide) (by decide))), ?_⟩
  rotate_left
  refine ⟨_, _, fun w f h => ag_call (one_middle w X σ f 65 h (by decide) (by decide) _ _ _ _ (fun W hW => middle_r8 W X σ f 65 hW (by decide) (by decide))), ?_⟩
  rotate_left
  refine ⟨_, _, fun w f h => ag_call (one_middle w X σ f 66 h (by decide) (by decide) _ _ _ _ (fun W hW => middle_r8 W X σ f 66 hW (by decide) (by decide))), ?_⟩
  rotate_left
  refine ⟨_, _, fun w f h => ag_call (one_middle w X σ f 67 h (by decide) (by decide) _ _ _ _ (fun W hW => middle_r8 W X σ f 67 hW (by decide) (by decide))), ?_⟩
  rotate_left
  refine ⟨_, _, fun w f h => ag_call (one_middle w X σ f 68 h (by decide) (by decide) _ _ _ _ (fun W hW => middle_r8 W X σ f 68 hW (by decide) (by decide))), ?_⟩
  rotate_left
  refine ⟨_, _, fun w f h => ag_call (one_middle w X σ f 69 h (by decide) (by decide) _ _ _ _ (fun W hW => middle_r8 W X σ f 69 hW (by decide) (by decide))), ?_⟩
  rotate_left
  refine ⟨_, _, fun w f h => ag_call (one_middle w X σ f 70 h (by decide) (by decide) _ _ _ _ (fun W hW => middle_r8 W X σ f 70 hW (by decide) (by decide))), ?_⟩
  rotate_left
  refine ⟨_, _, fun w f h => ag_call (one_middle w X σ f 71 h (by decide) (by decide) _ _ _ _ (fun W hW => middle_r8 W X σ f 71 hW (by decide) (by decide))), ?_⟩
  rotate_left
  refine ⟨_, _, fun w f h => ag_call (one_middle w X σ f 72 h (by decide) (by decide) _ _ _ _ (fun W hW => middle_r9 W X σ f 72 hW (by decide) (by decide))), ?_⟩
  rotate_left
  refine ⟨_, _, fun w f h => ag_call (one_middle w X σ f 73 h (by decide) (by decide) _ _ _ _ (fun W hW => middle_r9 W X σ f 73 hW (by decide) (by decide))), ?_⟩
  rotate_left
  refine ⟨_, _, fun w f h => ag_call (one_middle w X σ f 74 h (by decide) (by decide) _ _ _ _ (fun W hW => middle_r9 W X σ f 74 hW (by decide) (by decide))), ?_⟩
  rotate_left
  refine ⟨_, _, fun w f h => ag_call (one_middle w X σ f 75 h (by decide) (by decide) _ _ _ _ (fun W hW => middle_r9 W X σ f 75 hW (by decide) (by decide))), ?_⟩
  rotate_left
  refine ⟨_, _, fun w f h => ag_call (one_middle w X σ f 76 h (by decide) (by decide) _ _ _ _ (fun W hW => middle_r9 W X σ f 76 hW (by decide) (by decide))), ?_⟩
  rotate_left
  refine ⟨_, _, fun w f h => ag_call (one_middle w X σ f 77 h (by decide) (by decide) _ _ _ _ (fun W hW => middle_r9 W X σ f 77 hW (by decide) (by decide))), ?_⟩
  rotate_left
  refine ⟨_, _, fun w f h => ag_call (one_middle w X σ f 78 h (by decide) (by decide) _ _ _ _ (fun W hW => middle_r9 W X σ f 78 hW (by decide) (by decide))), ?_⟩
  rotate_left
  refine ⟨_, _, fun w f h => ag_call (one_middle w X σ f 79 h (by decide) (by decide) _ _ _ _ (fun W hW => middle_r9 W X σ f 79 hW (by decide) (by decide))), ?_⟩
  rotate_left
  all_goals
    simp only [opM, behM, rule_64, rule_65, rule_66, rule_67, rule_68, rule_69, rule_70, rule_71, rule_72, rule_73, rule_74, rule_75, rule_76, rule_77, rule_78, rule_79, reduceIte, Int.reduceEq, Int.reduceAdd, Rule.g, Row.g]
    simp only [Row.is, Gt.g, Szk.of, isM, List.map, Pt.f, stpF, setI, opS_re, hi, re_v, re_op, re_ins, re_seg, re_rep, re_re, hdS_re, E_re, O_re, setA_re, setB_re, setC_re, pA, pCL, pDX, pR, pG, pRm, pCr, pI, pIb, pIw, pIs, pJ, pJb, pFar, pEb, pEw, pSeg, pNum, modrm_re, modrm_E, modrm_twice, modrm_refuse, refuse_two, modrm_v, take_v, bytes_v, E_v, refuse_v, E_again, bytes_re, refuse_re, egM, szM, oddI, strI, mem9, ← rsegD_eq hg, segD, memO, isStr, pString, Int.reduceMod, Int.reduceDiv, Bool.false_eq_true, Int.reduceSub, Int.reduceAdd, reduceIte, Int.reduceEq]
    first
      | with_reducible exact same_re _ _ _
      | with_reducible exact same_ref _ _ _ _
      | with_reducible exact same_E _ _ _ _ _ _
      | with_reducible exact same_refE _ _ _ _ _ _
      | with_reducible exact same_EE _ _ _ _ _ _
      | ((with_reducible refine same_re' _ _ _ _ ?_); exact rfl)
      | exact ⟨rfl, fun _ => ⟨rfl, rfl⟩⟩
theorem ag_c5 (b : Int) (hp : isPre b = false) (h0 : 80 ≤ b) (h1 : b < 96) : Ag X σ b := by
  rcases (by omega : b = 80 ∨ b = 81 ∨ b = 82 ∨ b = 83 ∨ b = 84 ∨ b = 85 ∨ b = 86 ∨ b = 87 ∨ b = 88 ∨ b = 89 ∨ b = 90 ∨ b = 91 ∨ b = 92 ∨ b = 93 ∨ b = 94 ∨ b = 95) with rfl | rfl | rfl | rfl | rfl | rfl | rfl | rfl | rfl | rfl | rfl | rfl | rfl | rfl | rfl | rfl
  refine ⟨_, _, fun w f h => ag_call (one_middle w X σ f 80 h (by decide) (by decide) _ _ _ _ (fun W hW => middle_r10 W X σ f 80 hW (by decide) (by decide))), ?_⟩
  rotate_left
  refine ⟨_, _, fun w f h => ag_call (one_middle w X σ f 81 h (by decide) (by decide) _ _ _ _ (fun W hW => middle_r10 W X σ f 81 hW (by decide) (by decide))), ?_⟩
  rotate_left
  refine ⟨_, _, fun w f h => ag_call (one_middle w X σ f 82 h (by decide) (by decide) _ _ _ _ (fun W hW => middle_r10 W X σ f 82 hW (by decide) (by decide))), ?_⟩
  rotate_left
  refine ⟨_, _, fun w f h => ag_call (one_middle w X σ f 83 h (by decide) (by decide) _ _ _ _ (fun W hW => middle_r10 W X σ f 83 hW (by decide) (by decide))), ?_⟩
  rotate_left
  refine ⟨_, _, fun w f h => ag_call (one_middle w X σ f 84 h (by decide) (by decide) _ _ _ _ (fun W hW => middle_r10 W X σ f 84 hW (by decide) (by decide))), ?_⟩
  rotate_left
  refine ⟨_, _, fun w f h => ag_call (one_middle w X σ f 85 h (by decide) (by decide) _ _ _ _ (fun W hW => middle_r10 W X σ f 85 hW (by decide) (by decide))), ?_⟩
  rotate_left
  refine ⟨_, _, fun w f h => ag_call (one_middle w X σ f 86 h (by decide) (by decide) _ _ _ _ (fun W hW => middle_r10 W X σ f 86 hW (by decide) (by decide))), ?_⟩
  rotate_left
  refine ⟨_, _, fun w f h => ag_call (one_middle w X σ f 87 h (by decide) (by decide) _ _ _ _ (fun W hW => middle_r10 W X σ f 87 hW (by decide) (by decide))), ?_⟩
  rotate_left
  refine ⟨_, _, fun w f h => ag_call (one_middle w X σ f 88 h (by decide) (by decide) _ _ _ _ (fun W hW => middle_r11 W X σ f 88 hW (by decide) (by decide))), ?_⟩
  rotate_left
  refine ⟨_, _, fun w f h => ag_call (one_middle w X σ f 89 h (by decide) (by decide) _ _ _ _ (fun W hW => middle_r11 W X σ f 89 hW (by decide) (by decide))), ?_⟩
  rotate_left
  refine ⟨_, _, fun w f h => ag_call (one_middle w X σ f 90 h (by decide) (by decide) _ _ _ _ (fun W hW => middle_r11 W X σ f 90 hW (by decide) (by decide))), ?_⟩
  rotate_left
  refine ⟨_, _, fun w f h => ag_call (one_middle w X σ f 91 h (by decide) (by decide) _ _ _ _ (fun W hW => middle_r11 W X σ f 91 hW (by decide) (by decide))), ?_⟩
  rotate_left
  refine ⟨_, _, fun w f h => ag_call (one_middle w X σ f 92 h (by decide) (by decide) _ _ _ _ (fun W hW => middle_r11 W X σ f 92 hW (by decide) (by decide))), ?_⟩
  rotate_left
  refine ⟨_, _, fun w f h => ag_call (one_middle w X σ f 93 h (by decide) (by decide) _ _ _ _ (fun W hW => middle_r11 W X σ f 93 hW (by decide) (by decide))), ?_⟩
  rotate_left
  refine ⟨_, _, fun w f h => ag_call (one_middle w X σ f 94 h (by decide) (by decide) _ _ _ _ (fun W hW => middle_r11 W X σ f 94 hW (by decide) (by decide))), ?_⟩
  rotate_left
  refine ⟨_, _, fun w f h => ag_call (one_middle w X σ f 95 h (by decide) (by decide) _ _ _ _ (fun W hW => middle_r11 W X σ f 95 hW (by decide) (by decide))), ?_⟩
  rotate_left
  all_goals
    simp only [opM, behM, rule_80, rule_81, rule_82, rule_83, rule_84, rule_85, rule_86, rule_87, rule_88, rule_89, rule_90, rule_91, rule_92, rule_93, rule_94, rule_95, reduceIte, Int.reduceEq, Int.reduceAdd, Rule.g, Row.g]
    simp only [Row.is, Gt.g, Szk.of, isM, List.map, Pt.f, stpF, setI, opS_re, hi, re_v, re_op, re_ins, re_seg, re_rep, re_re, hdS_re, E_re, O_re, setA_re, setB_re, setC_re, pA, pCL, pDX, pR, pG, pRm, pCr, pI, pIb, pIw, pIs, pJ, pJb, pFar, pEb, pEw, pSeg, pNum, modrm_re, modrm_E, modrm_twice, modrm_refuse, refuse_two, modrm_v, take_v, bytes_v, E_v, refuse_v, E_again, bytes_re, refuse_re, egM, szM, oddI, strI, mem9, ← rsegD_eq hg, segD, memO, isStr, pString, Int.reduceMod, Int.reduceDiv, Bool.false_eq_true, Int.reduceSub, Int.reduceAdd, reduceIte, Int.reduceEq]
    first
      | with_reducible exact same_re _ _ _
      | with_reducible exact same_ref _ _ _ _
      | with_reducible exact same_E _ _ _ _ _ _
      | with_reducible exact same_refE _ _ _ _ _ _
      | with_reducible exact same_EE _ _ _ _ _ _
      | ((with_reducible refine same_re' _ _ _ _ ?_); exact rfl)
      | exact ⟨rfl, fun _ => ⟨rfl, rfl⟩⟩
theorem ag_c6 (b : Int) (hp : isPre b = false) (h0 : 96 ≤ b) (h1 : b < 112) : Ag X σ b := by
  rcases (by omega : b = 96 ∨ b = 97 ∨ b = 98 ∨ b = 99 ∨ b = 100 ∨ b = 101 ∨ b = 102 ∨ b = 103 ∨ b = 104 ∨ b = 105 ∨ b = 106 ∨ b = 107 ∨ b = 108 ∨ b = 109 ∨ b = 110 ∨ b = 111) with rfl | rfl | rfl | rfl | rfl | rfl | rfl | rfl | rfl | rfl | rfl | rfl | rfl | rfl | rfl | rfl
  refine ⟨_, _, fun w f h => ag_call (one_middle w X σ f 96 h (by decide) (by decide) _ _ _ _ (fun W hW => middle_96 W X σ f hW)), ?_⟩
  rotate_left
  refine ⟨_, _, fun w f h => ag_call (one_middle w X σ f 97 h (by decide) (by decide) _ _ _ _ (fun W hW => middle_97 W X σ f hW)), ?_⟩
  rotate_left
  refine ⟨_, _, fun w f h => ag_call (one_middle w X σ f 98 h (by decide) (by decide) _ _ _ _ (fun W hW => middle_u W X σ f hW (by decide))), ?_⟩
  rotate_left
  refine ⟨_, _, fun w f h => ag_call (one_middle w X σ f 99 h (by decide) (by decide) _ _ _ _ (fun W hW => middle_u W X σ f hW (by decide))), ?_⟩
  rotate_left
  exact absurd hp (by decide)
  exact absurd hp (by decide)
  exact absurd hp (by decide)
  refine ⟨_, _, fun w f h => ag_call (one_middle w X σ f 103 h (by decide) (by decide) _ _ _ _ (fun W hW => middle_u W X σ f hW (by decide))), ?_⟩
  rotate_left
  refine ⟨_, _, fun w f h => ag_call (one_middle w X σ f 104 h (by decide) (by decide) _ _ _ _ (fun W hW => middle_104 W X σ f hW)), ?_⟩
  rotate_left
  refine ⟨_, _, fun w f h => ag_call (one_middle w X σ f 105 h (by decide) (by decide) _ _ _ _ (fun W hW => middle_105 W X σ f hW hf)), ?_⟩
  rotate_left
  refine ⟨_, _, fun w f h => ag_call (one_middle w X σ f 106 h (by decide) (by decide) _ _ _ _ (fun W hW => middle_106 W X σ f hW)), ?_⟩
  rotate_left
  refine ⟨_, _, fun w f h => ag_call (one_middle w X σ f 107 h (by decide) (by decide) _ _ _ _ (fun W hW => middle_107 W X σ f hW hf)), ?_⟩
  rotate_left
  refine ⟨_, _, fun w f h => ag_call (one_middle w X σ f 108 h (by decide) (by decide) _ _ _ _ (fun W hW => middle_u W X σ f hW (by decide))), ?_⟩
  rotate_left
  refine ⟨_, _, fun w f h => ag_call (one_middle w X σ f 109 h (by decide) (by decide) _ _ _ _ (fun W hW => middle_u W X σ f hW (by decide))), ?_⟩
  rotate_left
  refine ⟨_, _, fun w f h => ag_call (one_middle w X σ f 110 h (by decide) (by decide) _ _ _ _ (fun W hW => middle_u W X σ f hW (by decide))), ?_⟩
  rotate_left
  refine ⟨_, _, fun w f h => ag_call (one_middle w X σ f 111 h (by decide) (by decide) _ _ _ _ (fun W hW => middle_u W X σ f hW (by decide))), ?_⟩
  rotate_left
  all_goals
    simp only [opM, behM, rule_96, rule_97, rule_98, rule_99, rule_103, rule_104, rule_105, rule_106, rule_107, rule_108, rule_109, rule_110, rule_111, reduceIte, Int.reduceEq, Int.reduceAdd, Rule.g, Row.g]
    simp only [Row.is, Gt.g, Szk.of, isM, List.map, Pt.f, stpF, setI, opS_re, hi, re_v, re_op, re_ins, re_seg, re_rep, re_re, hdS_re, E_re, O_re, setA_re, setB_re, setC_re, pA, pCL, pDX, pR, pG, pRm, pCr, pI, pIb, pIw, pIs, pJ, pJb, pFar, pEb, pEw, pSeg, pNum, modrm_re, modrm_E, modrm_twice, modrm_refuse, refuse_two, modrm_v, take_v, bytes_v, E_v, refuse_v, E_again, bytes_re, refuse_re, egM, szM, oddI, strI, mem9, ← rsegD_eq hg, segD, memO, isStr, pString, Int.reduceMod, Int.reduceDiv, Bool.false_eq_true, Int.reduceSub, Int.reduceAdd, reduceIte, Int.reduceEq]
    first
      | with_reducible exact same_re _ _ _
      | with_reducible exact same_ref _ _ _ _
      | with_reducible exact same_E _ _ _ _ _ _
      | with_reducible exact same_refE _ _ _ _ _ _
      | with_reducible exact same_EE _ _ _ _ _ _
      | ((with_reducible refine same_re' _ _ _ _ ?_); exact rfl)
      | exact ⟨rfl, fun _ => ⟨rfl, rfl⟩⟩
theorem ag_c7 (b : Int) (hp : isPre b = false) (h0 : 112 ≤ b) (h1 : b < 128) : Ag X σ b := by
  rcases (by omega : b = 112 ∨ b = 113 ∨ b = 114 ∨ b = 115 ∨ b = 116 ∨ b = 117 ∨ b = 118 ∨ b = 119 ∨ b = 120 ∨ b = 121 ∨ b = 122 ∨ b = 123 ∨ b = 124 ∨ b = 125 ∨ b = 126 ∨ b = 127) with rfl | rfl | rfl | rfl | rfl | rfl | rfl | rfl | rfl | rfl | rfl | rfl | rfl | rfl | rfl | rfl
  refine ⟨_, _, fun w f h => ag_call (one_middle w X σ f 112 h (by decide) (by decide) _ _ _ _ (fun W hW => middle_r14 W X σ f 112 hW (by decide) (by decide))), ?_⟩
  rotate_left
  refine ⟨_, _, fun w f h => ag_call (one_middle w X σ f 113 h (by decide) (by decide) _ _ _ _ (fun W hW => middle_r14 W X σ f 113 hW (by decide) (by decide))), ?_⟩
  rotate_left
  refine ⟨_, _, fun w f h => ag_call (one_middle w X σ f 114 h (by decide) (by decide) _ _ _ _ (fun W hW => middle_r14 W X σ f 114 hW (by decide) (by decide))), ?_⟩
  rotate_left
  refine ⟨_, _, fun w f h => ag_call (one_middle w X σ f 115 h (by decide) (by decide) _ _ _ _ (fun W hW => middle_r14 W X σ f 115 hW (by decide) (by decide))), ?_⟩
  rotate_left
  refine ⟨_, _, fun w f h => ag_call (one_middle w X σ f 116 h (by decide) (by decide) _ _ _ _ (fun W hW => middle_r14 W X σ f 116 hW (by decide) (by decide))), ?_⟩
  rotate_left
  refine ⟨_, _, fun w f h => ag_call (one_middle w X σ f 117 h (by decide) (by decide) _ _ _ _ (fun W hW => middle_r14 W X σ f 117 hW (by decide) (by decide))), ?_⟩
  rotate_left
  refine ⟨_, _, fun w f h => ag_call (one_middle w X σ f 118 h (by decide) (by decide) _ _ _ _ (fun W hW => middle_r14 W X σ f 118 hW (by decide) (by decide))), ?_⟩
  rotate_left
  refine ⟨_, _, fun w f h => ag_call (one_middle w X σ f 119 h (by decide) (by decide) _ _ _ _ (fun W hW => middle_r14 W X σ f 119 hW (by decide) (by decide))), ?_⟩
  rotate_left
  refine ⟨_, _, fun w f h => ag_call (one_middle w X σ f 120 h (by decide) (by decide) _ _ _ _ (fun W hW => middle_r15 W X σ f 120 hW (by decide) (by decide))), ?_⟩
  rotate_left
  refine ⟨_, _, fun w f h => ag_call (one_middle w X σ f 121 h (by decide) (by decide) _ _ _ _ (fun W hW => middle_r15 W X σ f 121 hW (by decide) (by decide))), ?_⟩
  rotate_left
  refine ⟨_, _, fun w f h => ag_call (one_middle w X σ f 122 h (by decide) (by decide) _ _ _ _ (fun W hW => middle_r15 W X σ f 122 hW (by decide) (by decide))), ?_⟩
  rotate_left
  refine ⟨_, _, fun w f h => ag_call (one_middle w X σ f 123 h (by decide) (by decide) _ _ _ _ (fun W hW => middle_r15 W X σ f 123 hW (by decide) (by decide))), ?_⟩
  rotate_left
  refine ⟨_, _, fun w f h => ag_call (one_middle w X σ f 124 h (by decide) (by decide) _ _ _ _ (fun W hW => middle_r15 W X σ f 124 hW (by decide) (by decide))), ?_⟩
  rotate_left
  refine ⟨_, _, fun w f h => ag_call (one_middle w X σ f 125 h (by decide) (by decide) _ _ _ _ (fun W hW => middle_r15 W X σ f 125 hW (by decide) (by decide))), ?_⟩
  rotate_left
  refine ⟨_, _, fun w f h => ag_call (one_middle w X σ f 126 h (by decide) (by decide) _ _ _ _ (fun W hW => middle_r15 W X σ f 126 hW (by decide) (by decide))), ?_⟩
  rotate_left
  refine ⟨_, _, fun w f h => ag_call (one_middle w X σ f 127 h (by decide) (by decide) _ _ _ _ (fun W hW => middle_r15 W X σ f 127 hW (by decide) (by decide))), ?_⟩
  rotate_left
  all_goals
    simp only [opM, behM, rule_112, rule_113, rule_114, rule_115, rule_116, rule_117, rule_118, rule_119, rule_120, rule_121, rule_122, rule_123, rule_124, rule_125, rule_126, rule_127, reduceIte, Int.reduceEq, Int.reduceAdd, Rule.g, Row.g]
    simp only [Row.is, Gt.g, Szk.of, isM, List.map, Pt.f, stpF, setI, opS_re, hi, re_v, re_op, re_ins, re_seg, re_rep, re_re, hdS_re, E_re, O_re, setA_re, setB_re, setC_re, pA, pCL, pDX, pR, pG, pRm, pCr, pI, pIb, pIw, pIs, pJ, pJb, pFar, pEb, pEw, pSeg, pNum, modrm_re, modrm_E, modrm_twice, modrm_refuse, refuse_two, modrm_v, take_v, bytes_v, E_v, refuse_v, E_again, bytes_re, refuse_re, egM, szM, oddI, strI, mem9, ← rsegD_eq hg, segD, memO, isStr, pString, Int.reduceMod, Int.reduceDiv, Bool.false_eq_true, Int.reduceSub, Int.reduceAdd, reduceIte, Int.reduceEq]
    first
      | with_reducible exact same_re _ _ _
      | with_reducible exact same_ref _ _ _ _
      | with_reducible exact same_E _ _ _ _ _ _
      | with_reducible exact same_refE _ _ _ _ _ _
      | with_reducible exact same_EE _ _ _ _ _ _
      | ((with_reducible refine same_re' _ _ _ _ ?_); exact rfl)
      | exact ⟨rfl, fun _ => ⟨rfl, rfl⟩⟩
end
end Go.Proofs.YtbfccfhjgopnbaaGreat
