/- A call of both memories: the calls of no kind. -/
import Derived.Test.YtankfdcpnhociaaRefNew
import Derived.Deep.RegionWith
namespace Go.Proofs.Ytankfdcpnhociaa
open Go.ChangeShapes Go.WideShapes Go.ChangeAt Go.RowKit Go.Maps Go.Shelf
set_option linter.unusedVariables false

/-- Both memories hold the same. -/
structure Both (w : World) (B : Nat) (R : Rf) (M : Mem) : Prop where
  ram : RamAt w B M
  ref : RefAt w R M
  ap : ∀ k, R.has k → ¬ inRam B M.n k

def both (B n : Nat) (R : Rf) (k : Nat) : Prop := inRam B n k ∨ R.has k

def AskPost (w : World) (B : Nat) (R : Rf) (n : Nat) (e : Ending) (w' : World) : Prop :=
  e = .returned (.bool true) ∧ ∃ M', M'.n = n ∧ Both w' B R M' ∧ Kp (both B n R) w w'

theorem Both.kp {S : Nat → Prop} {w w' : World} {B : Nat} {R : Rf} {M : Mem} (h : Both w B R M) (k : Kp S w w') (hS : ∀ j, both B M.n R j → ¬ S j) : Both w' B R M :=
  ⟨h.ram.kp k (fun j hj => hS j (.inl hj)), h.ref.kp k (fun j hj => hS j (.inr hj)), h.ap⟩

theorem Both.lt {w : World} {B : Nat} {R : Rf} {M : Mem} (h : Both w B R M) {k : Nat} (hk : both B M.n R k) : k < w.heap.size := by
  rcases hk with e | e
  · have := h.ram.lt; have := e.2; omega
  · exact h.ref.lt e

def opCells (k a s v : Int) (sl : Value) (b : Bool) : Array Value := #[.int .i64 k, .int .u32 a, .int .i64 s, .int .u32 v, sl, .bool b]

/-- Both tell the same of whether an address is watched. -/
def Wd (M : Mem) (a : Int) : Bool := M.wt (M.place a - M.place a % 64)

theorem wd_code (w : World) (B : Nat) (R : Rf) (M : Mem) (h : Both w B R M) (a : Int) (a0 : 0 ≤ a) (a1 : a < 4294967296) : ∀ W, Kp noB w W → Calls Try.prog 22 #[.pointer (some ⟨B + 3, 0, none⟩), .int .u32 a] W fun e w' => e = .returned (.bool (Wd M a)) ∧ Kp noB w w' := fun W k =>
  (watched_ok W B M (h.ram.kp k (fun _ _ f => f)) a a0 a1).mono fun e w' ⟨h1, h2⟩ => ⟨h1, k.trans h2⟩

theorem wd_ref (w : World) (B : Nat) (R : Rf) (M : Mem) (h : Both w B R M) (a : Int) (a0 : 0 ≤ a) (a1 : a < 4294967296) : ∀ W, Kp noB w W → Calls Try.prog 30 #[.pointer (some ⟨R.r, 0, none⟩), .int .u32 a] W fun e w' => e = .returned (.bool (Wd M a)) ∧ Kp noB w w' := fun W k =>
  (refWatched_any W R M (h.ref.kp k (fun _ _ f => f)) a a0 a1).mono fun e w' ⟨h1, h2⟩ => ⟨by
    rw [h1]
    congr 2
    unfold Wd
    by_cases hin : M.place a < 4096 * M.n
    · rw [decide_eq_true hin, Bool.true_and]
    · rw [decide_eq_false hin, Bool.false_and]
      cases hw : M.wt (M.place a - M.place a % 64) with
      | false => rfl
      | true => have := h.ram.wb _ hw; have := (M.place_bd a0 a1).1; omega, k.trans h2⟩

set_option maxRecDepth 100000 in
set_option maxHeartbeats 2000000 in
theorem asked_else (w : World) (B : Nat) (R : Rf) (M : Mem) (h : Both w B R M) (k a s v : Int) (sl : Value) (b : Bool) (hsl : sl.oneCell' = true) (a0 : 0 ≤ a) (a1 : a < 4294967296) (hk : ∀ j : Int, 1 ≤ j → j ≤ 8 → k ≠ j) :
    Calls Try.prog 11 #[.pointer (some ⟨B + 3, 0, none⟩), .pointer (some ⟨R.r, 0, none⟩), .agg (opCells k a s v sl b)] w (AskPost w B R M.n) := by
  have q1 : (k == 1) = false := by simpa using hk 1 (by omega) (by omega)
  have q2 : (k == 2) = false := by simpa using hk 2 (by omega) (by omega)
  have q3 : (k == 3) = false := by simpa using hk 3 (by omega) (by omega)
  have q4 : (k == 4) = false := by simpa using hk 4 (by omega) (by omega)
  have q5 : (k == 5) = false := by simpa using hk 5 (by omega) (by omega)
  have q6 : (k == 6) = false := by simpa using hk 6 (by omega) (by omega)
  have q7 : (k == 7) = false := by simpa using hk 7 (by omega) (by omega)
  have q8 : (k == 8) = false := by simpa using hk 8 (by omega) (by omega)
  clear hk
  unfold opCells
  obtain ⟨w1, hw1⟩ : ∃ w1, w1 = w.alloc (.cells #[.int .i64 k, .int .u32 a, .int .i64 s, .int .u32 v, sl, .bool b] 35) := ⟨_, rfl⟩
  have hnew : w1.heap[w.heap.size]? = some (.cells #[.int .i64 k, .int .u32 a, .int .i64 s, .int .u32 v, sl, .bool b] 35 (0, 0)) := by rw [hw1]; exact (MapKept.heap_alloc w _).1
  have k1 : Kp noB w w1 := by rw [hw1]; exact Kp.alloc _ _ _
  have h1 : Both w1 B R M := h.kp k1 (fun _ _ f => f)
  have c1 : w1.cell? ⟨w.heap.size, 1, none⟩ = some (.int .u32 a) := by rw [cell_at hnew]; rfl
  have cC := wd_code w1 B R M h1 a a0 a1
  have cR := wd_ref w1 B R M h1 a a0 a1
  have c1k : ∀ W, Kp noB w1 W → W.cell? ⟨w.heap.size, 1, none⟩ = some (.int .u32 a) := fun W kk => cell_kept c1 kk (fun f => f)
  obtain ⟨wd, hwd⟩ : ∃ wd, wd = Wd M a := ⟨_, rfl⟩
  rw [← hwd] at cC cR
  have HC : Hid (∀ W, Kp noB w1 W → Calls Try.prog 22 #[.pointer (some ⟨B + 3, 0, none⟩), .int .u32 a] W fun e w' => e = .returned (.bool wd) ∧ Kp noB w1 w') := cC
  have HR : Hid (∀ W, Kp noB w1 W → Calls Try.prog 30 #[.pointer (some ⟨R.r, 0, none⟩), .int .u32 a] W fun e w' => e = .returned (.bool wd) ∧ Kp noB w1 w') := cR
  have HK : Hid (∀ W, Kp noB w1 W → W.cell? ⟨w.heap.size, 1, none⟩ = some (.int .u32 a)) := c1k
  clear cC cR c1k hwd
  rw [hw1] at c1
  have HW : Hid (w1 = w.alloc (.cells #[.int .i64 k, .int .u32 a, .int .i64 s, .int .u32 v, sl, .bool b] 35)) := hw1
  clear hw1 hnew
  go_enter Try.func11, Try.ntmps11
  go_upto_region 34 with fail
  rw [← HW.out] at c1 ⊢
  go_region_with (first
    | (go_at_call 22; refine (HC.out _ (by first | assumption | exact Kp.refl _ _ | exact (Kp.refl _ _).drewN 1)).mono ?_; rintro e w' ⟨rfl, kq⟩; have cq := HK.out _ kq)
    | (go_at_call 30; refine (HR.out _ (by first | assumption | exact Kp.refl _ _ | exact (Kp.refl _ _).drewN 1)).mono ?_; rintro e w' ⟨rfl, kq2⟩; have cq2 := HK.out _ kq2))
  all_goals
    go_wp2
    go_ret
    exact ⟨ret_bool (by simp), M, rfl, h1.kp kq2 (fun _ _ f => f), (k1.over kq2 (fun _ _ f => f)).mono (fun _ _ f => f.elim)⟩
end Go.Proofs.Ytankfdcpnhociaa
