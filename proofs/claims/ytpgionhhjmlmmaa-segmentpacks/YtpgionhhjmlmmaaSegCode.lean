/- Contracts of what a segment lets: Code. -/
import Derived.Test.YtpgionhhjmlmmaaSegFit
namespace Go.Proofs.Ytpgionhhjmlmmaa
open Go.ChangeShapes Go.WideShapes Go.ChangeAt Go.RowKit
set_option linter.unusedVariables false

def cdX (C g p q : Bool) : Int := if C = true ∧ g = true ∧ q = true then presB p 11 else 13


set_option maxHeartbeats 1000000 in
theorem cd_core (b l t : Int) (s : Bool) (d : Int) (p g : Bool) (x r c : Int) (q : Bool) (w : World) (C F R Wt D : Bool)
    (H : Hid (∀ w : World, Calls Try.prog 23 #[.agg #[.int .u32 b, .int .u32 l, .int .i64 t, .bool s, .int .i64 d, .bool p, .bool g]] w fun e w' => e = .returned (.agg #[.bool C, .bool F, .bool R, .bool Wt, .bool D]) ∧ Grown w w')) (HR : Hid (∀ w : World, Calls Try.prog 29 #[.int .u16 x] w fun e w' => e = .returned (.int .i64 r) ∧ w' = w))
    (HL : Hid (∀ w : World, Calls Try.prog 28 #[.bool F, .int .i64 r, .int .i64 d, .int .i64 c] w fun e w' => e = .returned (.bool q) ∧ w' = w)) :
    Calls Try.prog 16 #[.int .u16 x, .agg #[.int .u32 b, .int .u32 l, .int .i64 t, .bool s, .int .i64 d, .bool p, .bool g], .int .i64 c] w fun e w' => e = .returned (.int .i64 (cdX C g p q)) ∧ Grown w w' := by
  go_enter Try.func16, Try.ntmps16
  go_wp2_with fail
  refine (H.out _).mono ?_; rintro e w1 ⟨rfl, hg⟩
  have c0 : w1.cell? ⟨w.heap.size, 0, none⟩ = some (.int .u32 b) := Grown.holds hg (by simp [go_sem])
  have c1 : w1.cell? ⟨w.heap.size, 1, none⟩ = some (.int .u32 l) := Grown.holds hg (by simp [go_sem])
  have c2 : w1.cell? ⟨w.heap.size, 2, none⟩ = some (.int .i64 t) := Grown.holds hg (by simp [go_sem])
  have c3 : w1.cell? ⟨w.heap.size, 3, none⟩ = some (.bool s) := Grown.holds hg (by simp [go_sem])
  have c4 : w1.cell? ⟨w.heap.size, 4, none⟩ = some (.int .i64 d) := Grown.holds hg (by simp [go_sem])
  have c5 : w1.cell? ⟨w.heap.size, 5, none⟩ = some (.bool p) := Grown.holds hg (by simp [go_sem])
  have c6 : w1.cell? ⟨w.heap.size, 6, none⟩ = some (.bool g) := Grown.holds hg (by simp [go_sem])
  have hlt : w.heap.size < w1.heap.size := by have := hg.2.2; simp at this; omega
  have hG : Grown w w1 := Grown.trans (Grown.alloc (Grown.refl _) _ _) hg
  cases C <;> cases g <;> cases q
  all_goals
    go_wp2
    go_quiet (first | (go_at_call 29; exact Calls.quiet_of_same (HR.out _)) | (go_at_call 28; exact Calls.quiet_of_same (HL.out _)))
    go_wp2_with (go_at_call 30; refine (ifPresent_any _ _ _ _ _ _ _ _ _).mono ?_; rintro e w2 ⟨rfl, hg2⟩)
    all_goals go_ret
    all_goals first
      | (refine ⟨ret_int ?_, Grown.trans (Grown.alloc hG _ _) hg2⟩; simp [cdX]; done)
      | (refine ⟨ret_int ?_, Grown.alloc hG _ _⟩; simp [cdX]; done)


theorem code_any (b l t : Int) (s : Bool) (d : Int) (p g : Bool) (x c : Int) (w : World) (t0 : -9223372036854775808 ≤ t) (t1 : t < 9223372036854775808) (x0 : 0 ≤ x) (x1 : x < 65536) :
    Calls Try.prog 16 #[.int .u16 x, .agg #[.int .u32 b, .int .u32 l, .int .i64 t, .bool s, .int .i64 d, .bool p, .bool g], .int .i64 c] w fun e w' => e = .returned (.int .i64 (codeB t d s p g (x % 4) c)) ∧ Grown w w' := by
  have H : Hid _ := fun w => rights_any b l t s d p g w t0 t1
  have HR : Hid _ := fun w => ringOf_any x w x0 x1
  have HL : Hid _ := fun w => ringsLet_any (rF s t) (x % 4) d c w
  exact cd_core b l t s d p g x (x % 4) c _ w (isC s t) (rF s t) (rR s t) (rW s t) (rD s t) H HR HL

end Go.Proofs.Ytpgionhhjmlmmaa
