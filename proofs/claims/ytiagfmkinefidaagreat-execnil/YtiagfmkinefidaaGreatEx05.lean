/- The bus and its devices: RefBase. -/
import Derived.Test.YtiagfmkinefidaaGreatEx03
import Derived.Laws.MakeOwn
namespace Go.Proofs.YtiagfmkinefidaaGreat.Rm
open Go.ChangeShapes Go.WideShapes Go.ChangeAt Go.RowKit Go.Maps
set_option linter.unusedVariables false
set_option maxRecDepth 20000
/-- A block of its own, cell by cell. -/
def Col (w : World) (blk n : Nat) (ty : TypeId) (f : Nat → Value) : Prop := ∃ cs, w.heap[blk]? = some (.cells cs ty (0, 0)) ∧ cs.size = n ∧ ∀ j, j < n → cs[j]? = some (f j)
/-- The five blocks. -/
structure Rf where
  r : Nat
  b : Nat
  o : Nat
  t : Nat
  q : Nat
def Rf.has (R : Rf) (k : Nat) : Prop := k = R.r ∨ k = R.b ∨ k = R.o ∨ k = R.t ∨ k = R.q
structure Rf.apart (R : Rf) : Prop where
  rb : R.r ≠ R.b
  ro : R.r ≠ R.o
  rt : R.r ≠ R.t
  rq : R.r ≠ R.q
  bo : R.b ≠ R.o
  bt : R.b ≠ R.t
  bq : R.b ≠ R.q
  ot : R.o ≠ R.t
  oq : R.o ≠ R.q
  tq : R.t ≠ R.q
structure RefAt (w : World) (R : Rf) (M : Mem) : Prop where
  le : M.n ≤ 256
  ap : R.apart
  st : w.heap[R.r]? = some (.cells #[.slice (some ⟨R.b, 0, none⟩) (4096 * M.n) (4096 * M.n), .slice (some ⟨R.o, 0, none⟩) M.n M.n, .slice (some ⟨R.t, 0, none⟩) (64 * M.n) (64 * M.n), .slice (some ⟨R.q, 0, none⟩) (64 * M.n) (64 * M.n), .bool M.closed] 187 (0, 0))
  cb : Col w R.b (4096 * M.n) 5 (fun j => .int .u8 (M.byte j))
  co : Col w R.o M.n 4 (fun j => .bool (M.only j))
  ct : Col w R.t (64 * M.n) 4 (fun j => .bool (M.wt (64 * j)))
  cq : Col w R.q (64 * M.n) 4 (fun j => .bool (M.nt (64 * j)))
end Go.Proofs.YtiagfmkinefidaaGreat.Rm
