/- The contract of Watched. -/
import Derived.Test.YtankfdcpnhociaaRamOps2
namespace Go.Proofs.Ytankfdcpnhociaa
open Go.ChangeShapes Go.WideShapes Go.ChangeAt Go.RowKit Go.Maps
set_option linter.unusedVariables false

set_option maxRecDepth 100000 in
set_option maxHeartbeats 4000000 in
theorem watched_ok (w : World) (B : Nat) (M : Mem) (h : RamAt w B M) (x : Int) (x0 : 0 ≤ x) (x1 : x < 4294967296) :
    Calls Try.prog 22 #[.pointer (some ⟨B + 3, 0, none⟩), .int .u32 x] w fun e w' => e = .returned (.bool (M.wt (M.place x - M.place x % 64))) ∧ Kp noB w w' := by
  have pb := M.place_bd x0 x1
  have hd : RamAt w.drew B M := h.kept (fun _ _ => rfl)
  have hd2 : RamAt (w.alloc (.cells #[] 71)).drew B M := (h.alloc _).kept (fun _ _ => rfl)
  have cP : ∀ W, RamAt W B M → Calls Try.prog 36 #[.pointer (some ⟨B + 3, 0, none⟩), .int .u32 x] W fun e w' => e = .returned (.int .u32 (M.place x)) ∧ w' = W := fun W hW => place_any W B M hW x x0 x1
  obtain ⟨pl, hpl⟩ : ∃ pl, pl = M.place x := ⟨_, rfl⟩
  rw [← hpl] at cP pb ⊢
  clear hpl
  obtain ⟨p0, p1⟩ := pb
  have c2 := h.c2
  have c2a := hd2.c2
  obtain ⟨D, hown, hD⟩ := h.wm
  have hlk : (Instr.lookup 59 (.map (some (B + 1))) (.int .u32 (pl - pl % 64)) true).run Try.prog w.drew = .ok (.tuple #[.agg #[], .bool (M.wt (pl - pl % 64))]) w.drew := by
    obtain ⟨v, ps, hrun, hv⟩ := hown.drew.look_ok (int_keyed u32T) setT (zeroUnit _) unitElem_mk (keyU (x := pl - pl % 64) (by omega) (by omega))
    obtain ⟨rfl, _⟩ := unitElem_inv hv
    rw [hD] at hrun
    exact hrun
  have hlk2 : (Instr.lookup 59 (.map (some (B + 1))) (.int .u32 (pl - pl % 64)) true).run Try.prog (w.alloc (.cells #[] 71)).drew = .ok (.tuple #[.agg #[], .bool (M.wt (pl - pl % 64))]) (w.alloc (.cells #[] 71)).drew := by
    obtain ⟨v, ps, hrun, hv⟩ := (hown.alloc (.cells #[] 71)).drew.look_ok (int_keyed u32T) setT (zeroUnit _) unitElem_mk (keyU (x := pl - pl % 64) (by omega) (by omega))
    obtain ⟨rfl, _⟩ := unitElem_inv hv
    rw [hD] at hrun
    exact hrun
  have hk : Kp noB w (w.alloc (.cells #[] 71)).drew := (Kp.alloc _ _ _).drew
  clear hown hD
  go_enter Try.func22, Try.ntmps22
  go_wp2
  go_region_with (first | (go_at_call 36; refine (cP _ (by assumption)).mono ?_; rintro e w' ⟨rfl, rfl⟩) | (go_at_call 38; refine (granuleOf_any _ pl p0 p1).mono ?_; rintro e w' ⟨rfl, rfl⟩))
  all_goals go_wp2
  all_goals go_ret
  all_goals exact ⟨rfl, hk⟩
end Go.Proofs.Ytankfdcpnhociaa
