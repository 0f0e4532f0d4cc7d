/- The contract of Watch, and what calls of none answer. -/
import Derived.Test.YtankfdcpnhociaaRamOps
import Derived.Laws.MakeOwn
namespace Go.Proofs.Ytankfdcpnhociaa
open Go.ChangeShapes Go.WideShapes Go.ChangeAt Go.RowKit Go.Maps
set_option linter.unusedVariables false

theorem watch_nil (w : World) (x : Int) : Calls Try.prog 19 #[.pointer none, .int .u32 x] w fun e w' => e = .returned (.tuple #[]) ∧ w' = w := by
  go_enter Try.func19, Try.ntmps19
  go_wp2
  exact bodyPost_ret (v := .tuple #[]) (by simp [results, Try.results19]) rfl ⟨rfl, rfl⟩

theorem RamAt.drewN {w : World} {B : Nat} {M : Mem} (h : RamAt w B M) (n : Nat) : RamAt (w.drewN n) B M := h.kept (fun _ _ => rfl)

set_option maxRecDepth 100000 in
theorem watch_ok (w : World) (B : Nat) (M : Mem) (h : RamAt w B M) (x : Int) (x0 : 0 ≤ x) (x1 : x < 4294967296) (hx : M.place x < 4096 * M.n) :
    Calls Try.prog 19 #[.pointer (some ⟨B + 3, 0, none⟩), .int .u32 x] w fun e w' => e = .returned (.tuple #[]) ∧ RamAt w' B { M with wt := fun y => M.wt y || decide (y = M.place x - M.place x % 64) } ∧ Kp (inRam B M.n) w w' := by
  have hle := h.le
  have pb := M.place_bd x0 x1
  have cP := place_any w B M h x x0 x1
  obtain ⟨pl, hpl⟩ : ∃ pl, pl = M.place x := ⟨_, rfl⟩
  rw [← hpl] at cP pb hx ⊢
  clear hpl
  obtain ⟨p0, p1⟩ := pb
  have cO := pageOf_some w B M h pl p0 p1 hx
  have c2 := h.c2
  obtain ⟨D, hown, hD⟩ := h.wm
  obtain ⟨w1, hrun, hown1, hturn⟩ := hown.drew.store (int_keyed u32T) setT (by unfold maxLen; omega) (keyU (x := pl - pl % 64) (by omega) (by omega)) unitElem_mk
  have hd : RamAt w.drew B M := h.kept (fun _ _ => rfl)
  have hr1 := ram_watch hd hD hown.isMap (pl - pl % 64) (by omega) (by omega) (by omega) hown1 hturn
  have hk1 : Kp (inRam B M.n) w w1 := (Kp.refl _ w).drew.trans (Kp.turned hturn ⟨by omega, by omega⟩)
  clear hown1 hturn hown hD
  go_enter Try.func19, Try.ntmps19
  go_wp2_with fail
  refine cP.mono ?_; rintro e w' ⟨rfl, hw⟩; replace hw := hw.symm; subst hw
  go_wp2_with fail
  refine cO.mono ?_; rintro e w' ⟨rfl, hw⟩; replace hw := hw.symm; subst hw
  go_wp2
  go_region_with (go_at_call 38; refine (granuleOf_any _ _ p0 p1).mono ?_; rintro e w' ⟨rfl, rfl⟩)
  all_goals go_wp2
  all_goals go_end0
  all_goals exact ⟨rfl, hr1, hk1⟩

theorem watch_no (w : World) (B : Nat) (M : Mem) (h : RamAt w B M) (x : Int) (x0 : 0 ≤ x) (x1 : x < 4294967296) (hx : 4096 * M.n ≤ M.place x) :
    Calls Try.prog 19 #[.pointer (some ⟨B + 3, 0, none⟩), .int .u32 x] w fun e w' => e = .returned (.tuple #[]) ∧ w' = w := by
  have pb := M.place_bd x0 x1
  have cP := place_any w B M h x x0 x1
  obtain ⟨pl, hpl⟩ : ∃ pl, pl = M.place x := ⟨_, rfl⟩
  rw [← hpl] at cP pb hx
  clear hpl
  obtain ⟨p0, p1⟩ := pb
  have cO := pageOf_none w B M h pl p0 p1 hx
  go_enter Try.func19, Try.ntmps19
  go_wp2_with fail
  refine cP.mono ?_; rintro e w' ⟨rfl, hw⟩; replace hw := hw.symm; subst hw
  go_wp2_with fail
  refine cO.mono ?_; rintro e w' ⟨rfl, hw⟩; replace hw := hw.symm; subst hw
  go_wp2
  go_end0
  exact ⟨rfl, rfl⟩

theorem watched_nil (w : World) (x : Int) : Calls Try.prog 22 #[.pointer none, .int .u32 x] w fun e w' => e = .returned (.bool false) ∧ w' = w := by
  go_enter Try.func22, Try.ntmps22
  go_wp2
  go_ret
  exact ⟨rfl, rfl⟩

theorem dump_nil (w : World) (x n : Int) : Calls Try.prog 23 #[.pointer none, .int .u32 x, .int .i64 n] w fun e w' => e = .returned (.slice none 0 0) ∧ w' = w := by
  go_enter Try.func23, Try.ntmps23
  go_wp2
  go_ret
  exact ⟨rfl, rfl⟩

theorem written_nil (w : World) : Calls Try.prog 14 #[.pointer none] w fun e w' => e = .returned (.slice none 0 0) ∧ w' = w := by
  go_enter Try.func14, Try.ntmps14
  go_wp2
  go_ret
  exact ⟨rfl, rfl⟩
end Go.Proofs.Ytankfdcpnhociaa
