/- The walk of IdeBack. -/
import Derived.Test.YtlgbbgodffkimaaIdeBackA
import Derived.Test.YtlgbbgodffkimaaIdeBackB
import Derived.Test.YtlgbbgodffkimaaIdeBackC
import Derived.Test.YtlgbbgodffkimaaIdeBackD
namespace Go.Proofs.Ytlgbbgodffkimaa
open Go.ChangeShapes Go.WideShapes Go.ChangeAt Go.RowKit
set_option linter.unusedVariables false

theorem IdeBack_walk (W : World) (s : Int) (s0 : -9223372036854775808 ≤ s) (s1 : s ≤ 9223372036854775807) (pl : Int) (p0 : -9223372036854775808 ≤ pl) (p1 : pl ≤ 9223372036854775807) (ab : Option Addr) (Lb cb : Nat) (bt0 : Nat → Int) (hbt : BytIn W ab Lb bt0) (wide : Bool) : Calls Try.prog 5 #[.int .i64 s, .int .i64 pl, .slice ab Lb cb, .bool wide] W fun e w' => e = .returned (.bool true) ∧ Below W.heap.size W w' := by
  by_cases neg : pl < 0
  · cases wide
    · exact back_B W s s0 s1 pl p0 p1 ab Lb cb bt0 hbt neg
    · exact back_A W s s0 s1 pl p0 p1 ab Lb cb bt0 hbt neg
  · cases wide
    · exact back_D W s s0 s1 pl p0 p1 ab Lb cb bt0 hbt neg
    · exact back_C W s s0 s1 pl p0 p1 ab Lb cb bt0 hbt neg
end Go.Proofs.Ytlgbbgodffkimaa
