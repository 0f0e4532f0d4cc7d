/- The walk of the statement PageNil: no memory is refused. -/
import Derived.Test.YtoliopjaociijaaPgLaw0
namespace Go.Proofs.Ytoliopjaociijaa
open Go.ChangeShapes Go.WideShapes Go.ChangeAt Go.RowKit Go.Maps
set_option linter.unusedVariables false

set_option maxRecDepth 100000 in
theorem PageNil_walk (w : World) (c l : Int) (wr us wp : Bool) (c0 : 0 ≤ c) (c1 : c < 4294967296) (l0 : 0 ≤ l) (l1 : l < 4294967296) :
    Calls Try.prog 5 #[askV c l wr us wp] w fun e w' => e = .returned (.bool true) ∧ Below w.heap.size w w' := by
  have r0 : RowA (w.alloc (.cells #[.int .u32 c, .int .u32 l, .bool wr, .bool us, .bool wp] 39)) w.heap.size c l wr us wp := (MapKept.heap_alloc w _).1
  have k0 := Kp.alloc noB w (.cells #[.int .u32 c, .int .u32 l, .bool wr, .bool us, .bool wp] 39)
  clear c0 c1 l0 l1
  unfold askV
  go_enter Try.func5, Try.ntmps5
  go_wp2_with fail
  refine (awake_any _).mono ?_; rintro e w1 ⟨rfl, k1⟩
  replace r0 := r0.kp k1 (fun f => f)
  replace k0 := k0.trans k1
  have d0 := r0.c0; have d1 := r0.c1; have d2 := r0.c2; have d3 := r0.c3; have d4 := r0.c4
  clear k1
  have cF := find_nil w1 c l wr us wp
  unfold wayV walkV at cF
  go_wp2_with fail
  refine cF.mono ?_; rintro e w2 ⟨rfl, k2⟩
  replace k0 := k0.trans k2
  clear cF r0 d0 d1 d2 d3 d4
  go_wp2
  go_ret
  exact ⟨rfl, (k0.trans (Kp.alloc _ _ _)).every⟩
end Go.Proofs.Ytoliopjaociijaa
