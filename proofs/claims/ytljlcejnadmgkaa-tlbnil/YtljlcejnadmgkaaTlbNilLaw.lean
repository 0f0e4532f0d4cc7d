/- The walk of the statement TlbNil: no memory, and no keeper, are refused. -/
import Derived.Test.YtljlcejnadmgkaaTlAwake
import Derived.Test.YtljlcejnadmgkaaTlOpen
import Derived.Test.YtljlcejnadmgkaaTlRange
namespace Go.Proofs.Ytljlcejnadmgkaa
open Go.ChangeShapes Go.WideShapes Go.ChangeAt Go.RowKit Go.Maps
set_option linter.unusedVariables false

set_option maxRecDepth 100000 in
set_option maxHeartbeats 2000000 in
theorem TlbNil_walk (w : World) (kd c l : Int) (wr us wp : Bool) (a v : Int) (ps : Int) :
    Calls Try.prog 6 #[opV kd c l wr us wp a v, .int .i64 ps] w fun e w' => e = .returned (.bool true) ∧ Below w.heap.size w w' := by
  have r0 : RowO (w.alloc (.cells #[.int .i64 kd, .int .u32 c, .int .u32 l, .bool wr, .bool us, .bool wp, .int .u32 a, .int .u32 v] 43)) w.heap.size kd c l wr us wp a v := (MapKept.heap_alloc w _).1
  have k0 := Kp.alloc noB w (.cells #[.int .i64 kd, .int .u32 c, .int .u32 l, .bool wr, .bool us, .bool wp, .int .u32 a, .int .u32 v] 43)
  unfold opV
  go_enter Try.func6, Try.ntmps6
  go_wp2_with fail
  refine (tlAwake_any _).mono ?_; rintro e w1 ⟨rfl, k1⟩
  replace r0 := r0.kp k1 (fun f => f)
  replace k0 := k0.trans k1
  clear k1
  go_wp2_with fail
  refine (tlNew_nil _ _).mono ?_; rintro e w2 ⟨rfl, hw⟩; replace hw := hw.symm; subst hw
  obtain ⟨c0, c1, c2, c3, c4, c5, c6, c7⟩ := r0.all
  have cF := tlFind_nil w1 c l wr us wp
  unfold wayV walkV at cF
  go_wp2_with fail
  refine cF.mono ?_; rintro e w2 ⟨rfl, k2⟩
  replace k2 := k2.trans (Kp.alloc noB w2 (.cells #[.int .u32 0, .int .u32 0, .int .u32 0, .bool false, .bool false] 45))
  have rK : RowK (w2.alloc (.cells #[.int .u32 0, .int .u32 0, .int .u32 0, .bool false, .bool false] 45)) w2.heap.size 0 0 0 false false := (MapKept.heap_alloc w2 _).1
  replace r0 := r0.kp k2 (fun f => f)
  replace k0 := k0.trans k2
  clear cF k2 c0 c1 c2 c3 c4 c5 c6 c7
  obtain ⟨c0, c1, c2, c3, c4, c5, c6, c7⟩ := r0.all
  go_wp2_with fail
  refine (tlFlush_nil _).mono ?_; rintro e w3 ⟨rfl, hw⟩; replace hw := hw.symm; subst hw
  go_wp2_with fail
  refine (tlDrop_nil _ _).mono ?_; rintro e w3 ⟨rfl, hw⟩; replace hw := hw.symm; subst hw
  have d0 := rK.c0; have d1 := rK.c1; have d2 := rK.c2; have d3 := rK.c3; have d4 := rK.c4
  clear rK r0
  go_wp2_with fail
  refine (tlKept_nil _).mono ?_; rintro e w3 ⟨rfl, hw⟩; replace hw := hw.symm; subst hw
  go_wp2
  go_ret
  exact ⟨rfl, k0.every⟩
end Go.Proofs.Ytljlcejnadmgkaa
