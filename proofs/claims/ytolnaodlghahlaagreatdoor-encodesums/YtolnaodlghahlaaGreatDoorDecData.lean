/- The rows of the table as data, and what they mean. -/
import Derived.Test.YtolnaodlghahlaaGreatDoorDecSp
namespace Go.Proofs.YtolnaodlghahlaaGreatDoor
open Go.ChangeShapes Go.WideShapes Go.ChangeAt Go.RowKit
set_option linter.unusedVariables false

/-- What is told of the sub-number. -/
inductive Sb
  | k (x : Int)
  | opn
  | opc
  | mn
  | mp9
  | mm4
  deriving DecidableEq

inductive Szk
  | k (x : Int)
  | v
  deriving DecidableEq

inductive Gt
  | no
  | only (L : List Int)
  | mem
  deriving DecidableEq

inductive Pt
  | A
  | CL
  | DX
  | R
  | G
  | Rm
  | Cr
  | I
  | Ib
  | Iw
  | Is
  | J
  | Jb
  | Far
  | O
  | E
  | Eb
  | Ew
  | Seg (r : Int)
  | Num (r : Int)
  deriving DecidableEq

def Pt.f : Pt → Cx → Int → Sg → Opd × Sg
  | .A => pA
  | .CL => pCL
  | .DX => pDX
  | .R => pR
  | .G => pG
  | .Rm => pRm
  | .Cr => pCr
  | .I => pI
  | .Ib => pIb
  | .Iw => pIw
  | .Is => pIs
  | .J => pJ
  | .Jb => pJb
  | .Far => pFar
  | .O => pO
  | .E => pE
  | .Eb => pEb
  | .Ew => pEw
  | .Seg r => pSeg r
  | .Num r => pNum r

structure Row where
  gt : Gt
  op : Int
  sb : Sb
  sz : Szk
  ps : List Pt
  deriving DecidableEq

def Szk.of (z : Szk) (σ : Sg) : Int := match z with | .k x => x | .v => σ.v

def Gt.g (t : Gt) (X : Cx) (σ : Sg) : Sg := match t with | .no => σ | .only L => onlyM X L σ | .mem => onlyMem X σ

def Row.is (r : Row) (X : Cx) (σ : Sg) : Sg :=
  match r.sb with
  | .k x => isM X r.op x (r.sz.of σ) (r.ps.map Pt.f) σ
  | .opn => isM X r.op (σ.op / 8 % 8) (r.sz.of σ) (r.ps.map Pt.f) σ
  | .opc => isM X r.op (σ.op % 16) (r.sz.of σ) (r.ps.map Pt.f) σ
  | .mn => isM X r.op (modrm X σ).1.2.1 (r.sz.of σ) (r.ps.map Pt.f) (modrm X σ).2
  | .mp9 => isM X r.op (9 + (modrm X σ).1.2.1) (r.sz.of σ) (r.ps.map Pt.f) (modrm X σ).2
  | .mm4 => isM X r.op ((modrm X σ).1.2.1 - 4) (r.sz.of σ) (r.ps.map Pt.f) (modrm X σ).2

def Row.g (r : Row) (X : Cx) (σ : Sg) : Sg := r.is X (r.gt.g X σ)

/-- What an opcode asks. -/
inductive Rule
  | row (r : Row)
  | str (sub : Int) (z : Szk)
  | un (z : Szk)
  | ff
  | sys
  | to
  | frm
  deriving DecidableEq

def Rule.g : Rule → Cx → Sg → Sg
  | .row r, X, σ => r.g X σ
  | .str sub z, X, σ => isStr X sub (z.of σ) σ
  | .un z, X, σ => gUn (z.of σ) X σ
  | .ff, X, σ => gFF X σ
  | .sys, X, σ => gSys X σ
  | .to, X, σ => gTo X σ
  | .frm, X, σ => gFrom X σ

/-- A rule's function does what its row says, and can be called. -/
def RowOk (n : Nat) (r : Rule) : Prop := RuleOk n r.g ∧ ∀ (a : Value) (w : World), (callFunc n #[a]).run Tryz.prog w = .ok (.enter n #[a]) w

end Go.Proofs.YtolnaodlghahlaaGreatDoor
