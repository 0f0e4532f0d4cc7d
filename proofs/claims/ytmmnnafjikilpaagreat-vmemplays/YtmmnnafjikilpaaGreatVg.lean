/- Texts on vmem, joined: PgRef, PgBoth, PgAlike, PgAwake, PgLaw0, PgOpen. -/
import Derived.Test.YtmmnnafjikilpaaGreatVc
import Derived.Test.YtmmnnafjikilpaaGreatVd
import Derived.LoopN
import Derived.Deep.RegionWith
import Derived.Deep.Cut
import Derived.Deep.LoopGhost
import Derived.Laws.BytesArg
import Derived.Deep.RegionHeld3
import Derived.Test.YtmmnnafjikilpaaGreatRows
import Derived.WalkKit
import Derived.ProofKit
import Derived.OpenShut
import Derived.Carry
import Derived.Deep.Slices
/- The document's own walk through two tables: has, mark. -/
namespace Go.Proofs.YtmmnnafjikilpaaGreat
open Go.ChangeShapes Go.WideShapes Go.ChangeAt Go.RowKit Go.Maps
set_option linter.unusedVariables false

theorem cell_kp {S : Nat → Prop} {w w' : World} {b o : Nat} {v : Value} (h : w.cell? ⟨b, o, none⟩ = some v) (k : Kp S w w') (hS : ¬ S b) : w'.cell? ⟨b, o, none⟩ = some v := by
  have hb : b < w.heap.size := by
    rcases Nat.lt_or_ge b w.heap.size with g | g
    · exact g
    · simp [World.cell?, Array.getElem?_eq_none g] at h
  exact (World.cell?_of_block (k.block b hb hS)).trans h

theorem refHas (w : World) (n : Int) (j : Nat) (k : Int) (hj : j < 32) (hk : ((2 ^ j : Nat) : Int) = k) (n0 : 0 ≤ n) (n1 : n < 4294967296) :
    Calls Tryz.prog 92 #[.int .u32 n, .int .i64 j] w fun e w' => e = .returned (.bool (hasF n k)) ∧ w' = w := by
  have hk' : (2 : Int) ^ j = k := by rw [← hk]; simp
  have hm : min j 32 = j := by omega
  have hm64 : min j 64 = j := by omega
  have hd0 : 0 ≤ n / k := Int.ediv_nonneg n0 (by rw [← hk]; exact Int.le_of_lt (pw_pos j))
  have hd1 : n / k < 4294967296 := Int.lt_of_le_of_lt (Int.ediv_le_self _ n0) n1
  go_enter Tryz.func92, Tryz.ntmps92
  go_wp2
  go_ret
  refine ⟨ret_bool ?_, rfl⟩
  rfl

theorem refHas0 (w : World) (n : Int) (n0 : 0 ≤ n) (n1 : n < 4294967296) : Calls Tryz.prog 92 #[.int .u32 n, .int .i64 0] w fun e w' => e = .returned (.bool (hasF n 1)) ∧ w' = w := refHas w n 0 1 (by decide) rfl n0 n1
theorem refHas1 (w : World) (n : Int) (n0 : 0 ≤ n) (n1 : n < 4294967296) : Calls Tryz.prog 92 #[.int .u32 n, .int .i64 1] w fun e w' => e = .returned (.bool (hasF n 2)) ∧ w' = w := refHas w n 1 2 (by decide) rfl n0 n1
theorem refHas2 (w : World) (n : Int) (n0 : 0 ≤ n) (n1 : n < 4294967296) : Calls Tryz.prog 92 #[.int .u32 n, .int .i64 2] w fun e w' => e = .returned (.bool (hasF n 4)) ∧ w' = w := refHas w n 2 4 (by decide) rfl n0 n1
theorem refHas5 (w : World) (n : Int) (n0 : 0 ≤ n) (n1 : n < 4294967296) : Calls Tryz.prog 92 #[.int .u32 n, .int .i64 5] w fun e w' => e = .returned (.bool (hasF n 32)) ∧ w' = w := refHas w n 5 32 (by decide) rfl n0 n1
theorem refHas6 (w : World) (n : Int) (n0 : 0 ≤ n) (n1 : n < 4294967296) : Calls Tryz.prog 92 #[.int .u32 n, .int .i64 6] w fun e w' => e = .returned (.bool (hasF n 64)) ∧ w' = w := refHas w n 6 64 (by decide) rfl n0 n1

theorem set_yes {n k : Int} (h : hasF n k = true) : setF n k true = n := by
  unfold hasF at h
  unfold setF flg
  rw [if_pos (by simpa using h), if_pos rfl]
  omega
theorem set_no {n k : Int} (h : hasF n k = false) : setF n k true = n + k := by
  unfold hasF at h
  unfold setF flg
  rw [if_neg (by simpa using h), if_pos rfl]


set_option maxRecDepth 100000 in
set_option maxHeartbeats 1000000 in
theorem refMark_ry (w : World) (R : Rf) (M : Mem) (h : RefAt w R M) (hb : RdB M) (a : Int) (a0 : 0 ≤ a) (a1 : a < 4294967296) (n : Int) (hn : M.read a 4 = n) (n0 : 0 ≤ n) (n1 : n < 4294967296) (h5 : hasF n 32 = true) (Y : Nat) (hY : ¬ R.has Y) (c0 : w.cell? ⟨Y, 0, none⟩ = some (.int .i64 5)) :
    Calls Tryz.prog 93 #[.pointer (some ⟨R.r, 0, none⟩), .int .u32 a, .slice (some ⟨Y, 0, none⟩) 1 1] w fun e w' => e = .returned (.tuple #[]) ∧ RefAt w' R (M) ∧ Kp R.has w w' := by
  have cR := refRead_ok w R M h hb a 4 a0 a1 rfl
  rw [show (4 : Int).toNat = 4 from rfl, hn] at cR
  have m1 : n < 4294967296 := by omega
  have H5 : Hid (∀ W, Calls Tryz.prog 92 #[.int .u32 n, .int .i64 5] W fun e w' => e = .returned (.bool true) ∧ w' = W) := fun W => by have := refHas5 W n n0 m1; rw [h5] at this; exact this
  clear h5 hn hb
  go_enter Tryz.func93, Tryz.ntmps93
  go_wp2_with fail
  refine cR.mono ?_; rintro e w1 ⟨rfl, k1⟩
  have h1 := h.kp k1 (fun _ _ f => f)
  replace c0 := cell_kp c0 k1 (fun f => f)
  clear cR h
  go_wp2_with fail
  refine wp_loop_rounds 2 ?_
  rw [rounds_succ]
  go_wp2_with fail
  refine (H5.out _).mono ?_; rintro e w' ⟨rfl, hw⟩; replace hw := hw.symm; subst hw
  go_wp2_with fail
  rw [rounds_succ]
  go_wp2_with fail
  go_end0
  exact ⟨rfl, h1, kp_no k1⟩

set_option maxRecDepth 100000 in
set_option maxHeartbeats 1000000 in
theorem refMark_rn (w : World) (R : Rf) (M : Mem) (h : RefAt w R M) (hb : RdB M) (a : Int) (a0 : 0 ≤ a) (a1 : a < 4294967296) (n : Int) (hn : M.read a 4 = n) (n0 : 0 ≤ n) (n1 : (n + 32) < 4294967296) (h5 : hasF n 32 = false) (Y : Nat) (hY : ¬ R.has Y) (c0 : w.cell? ⟨Y, 0, none⟩ = some (.int .i64 5)) :
    Calls Tryz.prog 93 #[.pointer (some ⟨R.r, 0, none⟩), .int .u32 a, .slice (some ⟨Y, 0, none⟩) 1 1] w fun e w' => e = .returned (.tuple #[]) ∧ RefAt w' R (M.lay false a (bytesV (n + 32))) ∧ Kp R.has w w' := by
  have cR := refRead_ok w R M h hb a 4 a0 a1 rfl
  rw [show (4 : Int).toNat = 4 from rfl, hn] at cR
  have m1 : n < 4294967296 := by omega
  obtain ⟨z, hz⟩ : ∃ z, n + 32 = z := ⟨_, rfl⟩
  rw [hz] at n1 ⊢
  have z0 : 0 ≤ z := by omega
  have hnz : (z != n) = true := by simp; omega
  have HW : Hid (∀ W, RefAt W R M → Calls Tryz.prog 16 #[.pointer (some ⟨R.r, 0, none⟩), .int .u32 a, .int .i64 4, .int .u32 z] W fun e w' => e = .returned (.int .i64 0) ∧ RefAt w' R (M.lay false a (bytesV z)) ∧ Kp R.has W w') := fun W hW => refWrite_ok W R M hW a 4 z a0 a1 z0 n1 rfl
  have H5 : Hid (∀ W, Calls Tryz.prog 92 #[.int .u32 n, .int .i64 5] W fun e w' => e = .returned (.bool false) ∧ w' = W) := fun W => by have := refHas5 W n n0 m1; rw [h5] at this; exact this
  clear h5 hn hb
  go_enter Tryz.func93, Tryz.ntmps93
  go_wp2_with fail
  refine cR.mono ?_; rintro e w1 ⟨rfl, k1⟩
  have h1 := h.kp k1 (fun _ _ f => f)
  replace c0 := cell_kp c0 k1 (fun f => f)
  clear cR h
  go_wp2_with fail
  refine wp_loop_rounds 2 ?_
  rw [rounds_succ]
  go_wp2_with fail
  refine (H5.out _).mono ?_; rintro e w' ⟨rfl, hw⟩; replace hw := hw.symm; subst hw
  go_wp2_with fail
  rw [rounds_succ]
  go_wp2_with fail
  refine (HW.out _ h1).mono ?_; rintro e w2 ⟨rfl, h2, k2⟩
  go_wp2
  go_end0
  exact ⟨rfl, h2, (kp_no k1).trans k2⟩

set_option maxRecDepth 100000 in
set_option maxHeartbeats 1000000 in
theorem refMark_wyy (w : World) (R : Rf) (M : Mem) (h : RefAt w R M) (hb : RdB M) (a : Int) (a0 : 0 ≤ a) (a1 : a < 4294967296) (n : Int) (hn : M.read a 4 = n) (n0 : 0 ≤ n) (n1 : n < 4294967296) (h5 : hasF n 32 = true) (h6 : hasF n 64 = true) (Y : Nat) (hY : ¬ R.has Y) (c0 : w.cell? ⟨Y, 0, none⟩ = some (.int .i64 5)) (c1 : w.cell? ⟨Y, 1, none⟩ = some (.int .i64 6)) :
    Calls Tryz.prog 93 #[.pointer (some ⟨R.r, 0, none⟩), .int .u32 a, .slice (some ⟨Y, 0, none⟩) 2 2] w fun e w' => e = .returned (.tuple #[]) ∧ RefAt w' R (M) ∧ Kp R.has w w' := by
  have cR := refRead_ok w R M h hb a 4 a0 a1 rfl
  rw [show (4 : Int).toNat = 4 from rfl, hn] at cR
  have m1 : n < 4294967296 := by omega
  have H5 : Hid (∀ W, Calls Tryz.prog 92 #[.int .u32 n, .int .i64 5] W fun e w' => e = .returned (.bool true) ∧ w' = W) := fun W => by have := refHas5 W n n0 m1; rw [h5] at this; exact this
  have H6 : Hid (∀ W, Calls Tryz.prog 92 #[.int .u32 n, .int .i64 6] W fun e w' => e = .returned (.bool true) ∧ w' = W) := fun W => by have := refHas6 W n n0 m1; rw [h6] at this; exact this
  clear h5 h6 hn hb
  go_enter Tryz.func93, Tryz.ntmps93
  go_wp2_with fail
  refine cR.mono ?_; rintro e w1 ⟨rfl, k1⟩
  have h1 := h.kp k1 (fun _ _ f => f)
  replace c0 := cell_kp c0 k1 (fun f => f)
  replace c1 := cell_kp c1 k1 (fun f => f)
  clear cR h
  go_wp2_with fail
  refine wp_loop_rounds 3 ?_
  rw [rounds_succ]
  go_wp2_with fail
  refine (H5.out _).mono ?_; rintro e w' ⟨rfl, hw⟩; replace hw := hw.symm; subst hw
  go_wp2_with fail
  rw [rounds_succ]
  go_wp2_with fail
  refine (H6.out _).mono ?_; rintro e w' ⟨rfl, hw⟩; replace hw := hw.symm; subst hw
  go_wp2_with fail
  rw [rounds_succ]
  go_wp2_with fail
  go_end0
  exact ⟨rfl, h1, kp_no k1⟩

set_option maxRecDepth 100000 in
set_option maxHeartbeats 1000000 in
theorem refMark_wyn (w : World) (R : Rf) (M : Mem) (h : RefAt w R M) (hb : RdB M) (a : Int) (a0 : 0 ≤ a) (a1 : a < 4294967296) (n : Int) (hn : M.read a 4 = n) (n0 : 0 ≤ n) (n1 : (n + 64) < 4294967296) (h5 : hasF n 32 = true) (h6 : hasF n 64 = false) (Y : Nat) (hY : ¬ R.has Y) (c0 : w.cell? ⟨Y, 0, none⟩ = some (.int .i64 5)) (c1 : w.cell? ⟨Y, 1, none⟩ = some (.int .i64 6)) :
    Calls Tryz.prog 93 #[.pointer (some ⟨R.r, 0, none⟩), .int .u32 a, .slice (some ⟨Y, 0, none⟩) 2 2] w fun e w' => e = .returned (.tuple #[]) ∧ RefAt w' R (M.lay false a (bytesV (n + 64))) ∧ Kp R.has w w' := by
  have cR := refRead_ok w R M h hb a 4 a0 a1 rfl
  rw [show (4 : Int).toNat = 4 from rfl, hn] at cR
  have m1 : n < 4294967296 := by omega
  obtain ⟨z, hz⟩ : ∃ z, n + 64 = z := ⟨_, rfl⟩
  rw [hz] at n1 ⊢
  have z0 : 0 ≤ z := by omega
  have hnz : (z != n) = true := by simp; omega
  have HW : Hid (∀ W, RefAt W R M → Calls Tryz.prog 16 #[.pointer (some ⟨R.r, 0, none⟩), .int .u32 a, .int .i64 4, .int .u32 z] W fun e w' => e = .returned (.int .i64 0) ∧ RefAt w' R (M.lay false a (bytesV z)) ∧ Kp R.has W w') := fun W hW => refWrite_ok W R M hW a 4 z a0 a1 z0 n1 rfl
  have H5 : Hid (∀ W, Calls Tryz.prog 92 #[.int .u32 n, .int .i64 5] W fun e w' => e = .returned (.bool true) ∧ w' = W) := fun W => by have := refHas5 W n n0 m1; rw [h5] at this; exact this
  have H6 : Hid (∀ W, Calls Tryz.prog 92 #[.int .u32 n, .int .i64 6] W fun e w' => e = .returned (.bool false) ∧ w' = W) := fun W => by have := refHas6 W n n0 m1; rw [h6] at this; exact this
  clear h5 h6 hn hb
  go_enter Tryz.func93, Tryz.ntmps93
  go_wp2_with fail
  refine cR.mono ?_; rintro e w1 ⟨rfl, k1⟩
  have h1 := h.kp k1 (fun _ _ f => f)
  replace c0 := cell_kp c0 k1 (fun f => f)
  replace c1 := cell_kp c1 k1 (fun f => f)
  clear cR h
  go_wp2_with fail
  refine wp_loop_rounds 3 ?_
  rw [rounds_succ]
  go_wp2_with fail
  refine (H5.out _).mono ?_; rintro e w' ⟨rfl, hw⟩; replace hw := hw.symm; subst hw
  go_wp2_with fail
  rw [rounds_succ]
  go_wp2_with fail
  refine (H6.out _).mono ?_; rintro e w' ⟨rfl, hw⟩; replace hw := hw.symm; subst hw
  go_wp2_with fail
  rw [rounds_succ]
  go_wp2_with fail
  refine (HW.out _ h1).mono ?_; rintro e w2 ⟨rfl, h2, k2⟩
  go_wp2
  go_end0
  exact ⟨rfl, h2, (kp_no k1).trans k2⟩

set_option maxRecDepth 100000 in
set_option maxHeartbeats 1000000 in
theorem refMark_wny (w : World) (R : Rf) (M : Mem) (h : RefAt w R M) (hb : RdB M) (a : Int) (a0 : 0 ≤ a) (a1 : a < 4294967296) (n : Int) (hn : M.read a 4 = n) (n0 : 0 ≤ n) (n1 : (n + 32) < 4294967296) (h5 : hasF n 32 = false) (h6 : hasF (n + 32) 64 = true) (Y : Nat) (hY : ¬ R.has Y) (c0 : w.cell? ⟨Y, 0, none⟩ = some (.int .i64 5)) (c1 : w.cell? ⟨Y, 1, none⟩ = some (.int .i64 6)) :
    Calls Tryz.prog 93 #[.pointer (some ⟨R.r, 0, none⟩), .int .u32 a, .slice (some ⟨Y, 0, none⟩) 2 2] w fun e w' => e = .returned (.tuple #[]) ∧ RefAt w' R (M.lay false a (bytesV (n + 32))) ∧ Kp R.has w w' := by
  have cR := refRead_ok w R M h hb a 4 a0 a1 rfl
  rw [show (4 : Int).toNat = 4 from rfl, hn] at cR
  have m1 : n < 4294967296 := by omega
  obtain ⟨m, hm⟩ : ∃ m, n + 32 = m := ⟨_, rfl⟩
  rw [hm] at h6 n1 ⊢
  have m0 : 0 ≤ m := by omega
  have z0 : 0 ≤ m := by omega
  have hnz : (m != n) = true := by simp; omega
  have HW : Hid (∀ W, RefAt W R M → Calls Tryz.prog 16 #[.pointer (some ⟨R.r, 0, none⟩), .int .u32 a, .int .i64 4, .int .u32 m] W fun e w' => e = .returned (.int .i64 0) ∧ RefAt w' R (M.lay false a (bytesV m)) ∧ Kp R.has W w') := fun W hW => refWrite_ok W R M hW a 4 m a0 a1 z0 n1 rfl
  have H5 : Hid (∀ W, Calls Tryz.prog 92 #[.int .u32 n, .int .i64 5] W fun e w' => e = .returned (.bool false) ∧ w' = W) := fun W => by have := refHas5 W n n0 m1; rw [h5] at this; exact this
  have H6 : Hid (∀ W, Calls Tryz.prog 92 #[.int .u32 m, .int .i64 6] W fun e w' => e = .returned (.bool true) ∧ w' = W) := fun W => by have := refHas6 W m m0 (by omega); rw [h6] at this; exact this
  clear h5 h6 hn hb
  go_enter Tryz.func93, Tryz.ntmps93
  go_wp2_with fail
  refine cR.mono ?_; rintro e w1 ⟨rfl, k1⟩
  have h1 := h.kp k1 (fun _ _ f => f)
  replace c0 := cell_kp c0 k1 (fun f => f)
  replace c1 := cell_kp c1 k1 (fun f => f)
  clear cR h
  go_wp2_with fail
  refine wp_loop_rounds 3 ?_
  rw [rounds_succ]
  go_wp2_with fail
  refine (H5.out _).mono ?_; rintro e w' ⟨rfl, hw⟩; replace hw := hw.symm; subst hw
  go_wp2_with fail
  rw [rounds_succ]
  go_wp2_with fail
  refine (H6.out _).mono ?_; rintro e w' ⟨rfl, hw⟩; replace hw := hw.symm; subst hw
  go_wp2_with fail
  rw [rounds_succ]
  go_wp2_with fail
  refine (HW.out _ h1).mono ?_; rintro e w2 ⟨rfl, h2, k2⟩
  go_wp2
  go_end0
  exact ⟨rfl, h2, (kp_no k1).trans k2⟩

set_option maxRecDepth 100000 in
set_option maxHeartbeats 1000000 in
theorem refMark_wnn (w : World) (R : Rf) (M : Mem) (h : RefAt w R M) (hb : RdB M) (a : Int) (a0 : 0 ≤ a) (a1 : a < 4294967296) (n : Int) (hn : M.read a 4 = n) (n0 : 0 ≤ n) (n1 : (n + 32 + 64) < 4294967296) (h5 : hasF n 32 = false) (h6 : hasF (n + 32) 64 = false) (Y : Nat) (hY : ¬ R.has Y) (c0 : w.cell? ⟨Y, 0, none⟩ = some (.int .i64 5)) (c1 : w.cell? ⟨Y, 1, none⟩ = some (.int .i64 6)) :
    Calls Tryz.prog 93 #[.pointer (some ⟨R.r, 0, none⟩), .int .u32 a, .slice (some ⟨Y, 0, none⟩) 2 2] w fun e w' => e = .returned (.tuple #[]) ∧ RefAt w' R (M.lay false a (bytesV (n + 32 + 64))) ∧ Kp R.has w w' := by
  have cR := refRead_ok w R M h hb a 4 a0 a1 rfl
  rw [show (4 : Int).toNat = 4 from rfl, hn] at cR
  have m1 : n < 4294967296 := by omega
  obtain ⟨m, hm⟩ : ∃ m, n + 32 = m := ⟨_, rfl⟩
  rw [hm] at h6 n1 ⊢
  obtain ⟨z, hz⟩ : ∃ z, m + 64 = z := ⟨_, rfl⟩
  rw [hz] at n1 ⊢
  have m2 : m < 4294967296 := by omega
  have m0 : 0 ≤ m := by omega
  have z0 : 0 ≤ z := by omega
  have hnz : (z != n) = true := by simp; omega
  have HW : Hid (∀ W, RefAt W R M → Calls Tryz.prog 16 #[.pointer (some ⟨R.r, 0, none⟩), .int .u32 a, .int .i64 4, .int .u32 z] W fun e w' => e = .returned (.int .i64 0) ∧ RefAt w' R (M.lay false a (bytesV z)) ∧ Kp R.has W w') := fun W hW => refWrite_ok W R M hW a 4 z a0 a1 z0 n1 rfl
  have H5 : Hid (∀ W, Calls Tryz.prog 92 #[.int .u32 n, .int .i64 5] W fun e w' => e = .returned (.bool false) ∧ w' = W) := fun W => by have := refHas5 W n n0 m1; rw [h5] at this; exact this
  have H6 : Hid (∀ W, Calls Tryz.prog 92 #[.int .u32 m, .int .i64 6] W fun e w' => e = .returned (.bool false) ∧ w' = W) := fun W => by have := refHas6 W m m0 (by omega); rw [h6] at this; exact this
  clear h5 h6 hn hb
  go_enter Tryz.func93, Tryz.ntmps93
  go_wp2_with fail
  refine cR.mono ?_; rintro e w1 ⟨rfl, k1⟩
  have h1 := h.kp k1 (fun _ _ f => f)
  replace c0 := cell_kp c0 k1 (fun f => f)
  replace c1 := cell_kp c1 k1 (fun f => f)
  clear cR h
  go_wp2_with fail
  refine wp_loop_rounds 3 ?_
  rw [rounds_succ]
  go_wp2_with fail
  refine (H5.out _).mono ?_; rintro e w' ⟨rfl, hw⟩; replace hw := hw.symm; subst hw
  go_wp2_with fail
  rw [rounds_succ]
  go_wp2_with fail
  refine (H6.out _).mono ?_; rintro e w' ⟨rfl, hw⟩; replace hw := hw.symm; subst hw
  go_wp2_with fail
  rw [rounds_succ]
  go_wp2_with fail
  refine (HW.out _ h1).mono ?_; rintro e w2 ⟨rfl, h2, k2⟩
  go_wp2
  go_end0
  exact ⟨rfl, h2, (kp_no k1).trans k2⟩

theorem refMark_r (w : World) (R : Rf) (M : Mem) (h : RefAt w R M) (hb : RdB M) (a : Int) (a0 : 0 ≤ a) (a1 : a < 4294967296) (Y : Nat) (hY : ¬ R.has Y) (c0 : w.cell? ⟨Y, 0, none⟩ = some (.int .i64 5)) :
    Calls Tryz.prog 93 #[.pointer (some ⟨R.r, 0, none⟩), .int .u32 a, .slice (some ⟨Y, 0, none⟩) 1 1] w fun e w' => e = .returned (.tuple #[]) ∧ RefAt w' R (markM M a false) ∧ Kp R.has w w' := by
  obtain ⟨n0, n1⟩ := hb.read a
  have wb := markW_bd n0 n1 false
  have e : markW (M.read a 4) false = setF (M.read a 4) 32 true := rfl
  cases h5 : hasF (M.read a 4) 32
  · rw [e, set_no h5] at wb
    have hne : ¬ markW (M.read a 4) false = M.read a 4 := by rw [e, set_no h5]; omega
    unfold markM
    rw [if_neg hne, e, set_no h5]
    exact refMark_rn w R M h hb a a0 a1 _ rfl n0 wb.2 h5 Y hY c0
  · have heq : markW (M.read a 4) false = M.read a 4 := by rw [e, set_yes h5]
    unfold markM
    rw [if_pos heq]
    exact refMark_ry w R M h hb a a0 a1 _ rfl n0 n1 h5 Y hY c0

theorem refMark_w (w : World) (R : Rf) (M : Mem) (h : RefAt w R M) (hb : RdB M) (a : Int) (a0 : 0 ≤ a) (a1 : a < 4294967296) (Y : Nat) (hY : ¬ R.has Y) (c0 : w.cell? ⟨Y, 0, none⟩ = some (.int .i64 5)) (c1 : w.cell? ⟨Y, 1, none⟩ = some (.int .i64 6)) :
    Calls Tryz.prog 93 #[.pointer (some ⟨R.r, 0, none⟩), .int .u32 a, .slice (some ⟨Y, 0, none⟩) 2 2] w fun e w' => e = .returned (.tuple #[]) ∧ RefAt w' R (markM M a true) ∧ Kp R.has w w' := by
  obtain ⟨n0, n1⟩ := hb.read a
  have wb := markW_bd n0 n1 true
  have e : markW (M.read a 4) true = setF (setF (M.read a 4) 32 true) 64 true := rfl
  cases h5 : hasF (M.read a 4) 32
  · rw [set_no h5] at e
    cases h6 : hasF (M.read a 4 + 32) 64
    · rw [set_no h6] at e
      rw [e] at wb
      have hne : ¬ markW (M.read a 4) true = M.read a 4 := by rw [e]; omega
      unfold markM
      rw [if_neg hne, e]
      exact refMark_wnn w R M h hb a a0 a1 _ rfl n0 wb.2 h5 h6 Y hY c0 c1
    · rw [set_yes h6] at e
      rw [e] at wb
      have hne : ¬ markW (M.read a 4) true = M.read a 4 := by rw [e]; omega
      unfold markM
      rw [if_neg hne, e]
      exact refMark_wny w R M h hb a a0 a1 _ rfl n0 wb.2 h5 h6 Y hY c0 c1
  · rw [set_yes h5] at e
    cases h6 : hasF (M.read a 4) 64
    · rw [set_no h6] at e
      rw [e] at wb
      have hne : ¬ markW (M.read a 4) true = M.read a 4 := by rw [e]; omega
      unfold markM
      rw [if_neg hne, e]
      exact refMark_wyn w R M h hb a a0 a1 _ rfl n0 wb.2 h5 h6 Y hY c0 c1
    · rw [set_yes h6] at e
      unfold markM
      rw [if_pos e]
      exact refMark_wyy w R M h hb a a0 a1 _ rfl n0 n1 h5 h6 Y hY c0 c1
end Go.Proofs.YtmmnnafjikilpaaGreat

/- Both: memories with some words in them, the project's and the document's; pages that can only be read. -/
namespace Go.Proofs.YtmmnnafjikilpaaGreat
open Go.ChangeShapes Go.WideShapes Go.ChangeAt Go.RowKit Go.Maps
set_option linter.unusedVariables false

/-- Both memories hold the same. -/
structure Both (w : World) (B : Nat) (R : Rf) (M : Mem) : Prop where
  ram : RamAt w B M
  ref : RefAt w R M
  ap : ∀ k, R.has k → ¬ inRam B M.n k

def both (B n : Nat) (R : Rf) (k : Nat) : Prop := inRam B n k ∨ R.has k

theorem Both.kp {S : Nat → Prop} {w w' : World} {B : Nat} {R : Rf} {M : Mem} (h : Both w B R M) (k : Kp S w w') (hS : ∀ j, both B M.n R j → ¬ S j) : Both w' B R M :=
  ⟨h.ram.kp k (fun j hj => hS j (.inl hj)), h.ref.kp k (fun j hj => hS j (.inr hj)), h.ap⟩

/-- Words that came in. -/
def WordIn (w : World) (x : Option Addr) (f g : Nat → Int) (i : Nat) : Prop :=
  ∃ (blk off : Nat), x = some ⟨blk, off, none⟩ ∧ blk < w.heap.size ∧ w.cell? ⟨blk, off + i * 2, none⟩ = some (.int .u32 (f i)) ∧ w.cell? ⟨blk, off + i * 2 + 1, none⟩ = some (.int .u32 (g i)) ∧ (0 ≤ f i ∧ f i < 4294967296 ∧ 0 ≤ g i ∧ g i < 4294967296)

/-- Numbers of pages that came in. -/
def OnlyIn (w : World) (x : Option Addr) (h : Nat → Int) (i : Nat) : Prop :=
  ∃ (blk off : Nat), x = some ⟨blk, off, none⟩ ∧ blk < w.heap.size ∧ w.cell? ⟨blk, off + i, none⟩ = some (.int .i64 (h i)) ∧ (-9223372036854775808 ≤ h i ∧ h i ≤ 9223372036854775807)

theorem WordIn.kp {w w' : World} {x : Option Addr} {f g : Nat → Int} {i : Nat} (h : WordIn w x f g i) (k : Kp noB w w') : WordIn w' x f g i := by
  obtain ⟨blk, off, h1, h2, h3, h4, h5⟩ := h
  exact ⟨blk, off, h1, Nat.lt_of_lt_of_le h2 k.size, cell_kp h3 k (fun f => f), cell_kp h4 k (fun f => f), h5⟩
theorem OnlyIn.kp {w w' : World} {x : Option Addr} {h : Nat → Int} {i : Nat} (q : OnlyIn w x h i) (k : Kp noB w w') : OnlyIn w' x h i := by
  obtain ⟨blk, off, h1, h2, h3, h4⟩ := q
  exact ⟨blk, off, h1, Nat.lt_of_lt_of_le h2 k.size, cell_kp h3 k (fun f => f), h4⟩

def wordsM (M : Mem) (f g : Nat → Int) : Nat → Mem
  | 0 => M
  | i + 1 => (wordsM M f g i).lay false (f i) (bytesV (g i))

def romM (M : Mem) (h : Int) : Mem := if 0 ≤ h ∧ h < M.n then { M with only := fun j => if j = h.toNat then true else M.only j } else M

def romsM (M : Mem) (h : Nat → Int) : Nat → Mem
  | 0 => M
  | i + 1 => romM (romsM M h i) (h i)

theorem romM_same (M : Mem) (h : Int) : (romM M h).n = M.n ∧ (romM M h).closed = M.closed ∧ (romM M h).byte = M.byte := by
  unfold romM; split <;> exact ⟨rfl, rfl, rfl⟩
theorem wordsM_same (M : Mem) (f g : Nat → Int) : ∀ i, (wordsM M f g i).n = M.n ∧ (wordsM M f g i).only = M.only ∧ (wordsM M f g i).closed = M.closed
  | 0 => ⟨rfl, rfl, rfl⟩
  | i + 1 => by
    have h := wordsM_same M f g i
    have k := lay_same false (bytesV (g i)) (wordsM M f g i) (f i)
    exact ⟨k.1.trans h.1, k.2.1.trans h.2.1, k.2.2.trans h.2.2⟩
theorem romsM_same (M : Mem) (h : Nat → Int) : ∀ i, (romsM M h i).n = M.n ∧ (romsM M h i).closed = M.closed ∧ (romsM M h i).byte = M.byte
  | 0 => ⟨rfl, rfl, rfl⟩
  | i + 1 => by
    have k := romsM_same M h i
    have q := romM_same (romsM M h i) (h i)
    exact ⟨q.1.trans k.1, q.2.1.trans k.2.1, q.2.2.trans k.2.2⟩

theorem rom_both (M : Mem) (B : Nat) (R : Rf) (h : Int) (h0 : -9223372036854775808 ≤ h) (h1 : h ≤ 9223372036854775807) : ∃ ev : Int,
    (∀ W, RamAt W B M → Calls Tryz.prog 17 #[.pointer (some ⟨B + 3, 0, none⟩), .int .i64 h, .bool true] W fun e w' => e = .returned (.int .i64 ev) ∧ RamAt w' B (romM M h) ∧ Kp (inRam B M.n) W w') ∧
    (∀ W, RefAt W R M → Calls Tryz.prog 18 #[.pointer (some ⟨R.r, 0, none⟩), .int .i64 h, .bool true] W fun e w' => e = .returned (.int .i64 ev) ∧ RefAt w' R (romM M h) ∧ Kp R.has W w') := by
  by_cases hi : 0 ≤ h ∧ h < M.n
  · obtain ⟨i, rfl⟩ : ∃ i : Nat, h = i := ⟨h.toNat, by omega⟩
    refine ⟨0, fun W hW => ?_, fun W hW => ?_⟩
    · unfold romM; rw [if_pos hi]; exact rom_ok W B M hW i true (by omega)
    · unfold romM; rw [if_pos hi]; exact refRom_ok W R M hW i true (by omega)
  · refine ⟨1, fun W hW => ?_, fun W hW => ?_⟩
    · unfold romM; rw [if_neg hi]
      refine (rom_no W B M hW h true h0 h1 (by omega)).mono ?_
      rintro e w' ⟨h1, rfl⟩
      exact ⟨h1, hW, Kp.refl _ _⟩
    · unfold romM; rw [if_neg hi]
      refine (refRom_no W R M hW h true (by omega)).mono ?_
      rintro e w' ⟨h1, rfl⟩
      exact ⟨h1, hW, Kp.refl _ _⟩

def memOf (f g h : Nat → Int) (L K : Nat) : Mem := romsM (wordsM (mem0 16) f g L) h K
theorem memOf_same (f g h : Nat → Int) (L K : Nat) : (memOf f g h L K).n = 16 ∧ (memOf f g h L K).closed = false := by
  unfold memOf
  have k := romsM_same (wordsM (mem0 16) f g L) h K
  have q := wordsM_same (mem0 16) f g L
  exact ⟨k.1.trans q.1, k.2.1.trans q.2.2⟩

def BothPost (w : World) (M : Mem) (e : Ending) (w' : World) : Prop :=
  ∃ (B : Nat) (R : Rf), e = .returned (.tuple #[.pointer (some ⟨B + 3, 0, none⟩), .pointer (some ⟨R.r, 0, none⟩)]) ∧ Both w' B R M ∧ (∀ j, both B 16 R j → w.heap.size ≤ j) ∧ Kp noB w w'

def WdL (w : World) (B : Nat) (R : Rf) (f g : Nat → Int) (L k : Nat) (s : Value) (wr : World) : Prop :=
  ∃ i : Nat, s = .int .i64 i ∧ i ≤ L ∧ L - i ≤ k ∧ Both wr B R (wordsM (mem0 16) f g i) ∧ Kp noB w wr
def OnL (w : World) (B : Nat) (R : Rf) (M : Mem) (h : Nat → Int) (K k : Nat) (s : Value) (wr : World) : Prop :=
  ∃ i : Nat, s = .int .i64 i ∧ i ≤ K ∧ K - i ≤ k ∧ Both wr B R (romsM M h i) ∧ Kp noB w wr

set_option maxRecDepth 100000 in
set_option maxHeartbeats 4000000 in
theorem both_any (w : World) (x y : Option Addr) (L c K d : Nat) (f g h : Nat → Int) (hL : L ≤ 9223372036854775807) (hK : K ≤ 9223372036854775807) (hw : ∀ i, i < L → WordIn w x f g i) (ho : ∀ i, i < K → OnlyIn w y h i) :
    Calls Tryz.prog 5 #[.int .i64 16, .slice x L c, .slice y K d] w (BothPost w (memOf f g h L K)) := by
  have HN : Hid (∀ w, _) := fun w => new_ok w 16 (by omega) (by omega)
  have HR : Hid (∀ w, _) := fun w => refNew_ok w 16 (by omega) (by omega)
  have HS : Hid (∀ i, i < L → WordIn w x f g i) := hw
  have HT : Hid (∀ i, i < K → OnlyIn w y h i) := ho
  clear hw ho
  go_enter Tryz.func5, Tryz.ntmps5
  go_wp2_with fail
  refine (HN.out _).mono ?_; rintro e w2 ⟨rfl, hr2, hz2, kb2⟩
  go_wp2_with fail
  refine (HR.out _).mono ?_; rintro e w3 ⟨R, rfl, hf3, hout, k3⟩
  obtain ⟨B, hB⟩ : ∃ B, B = w.heap.size := ⟨_, rfl⟩
  rw [← hB] at hr2 hz2 ⊢
  have hB3 : Both w3 B R (mem0 16) := ⟨hr2.kp k3 (fun _ _ f => f), hf3, fun j hj f => by have := hout j hj; have := f.2; have e : (mem0 16).n = 16 := rfl; rw [e] at this; omega⟩
  have kk3 : Kp noB w w3 := (Kp.ofBelow (S := noB) kb2 (fun j h1 h2 => absurd h1 (by omega))).trans k3
  have HO : Hid (∀ j, both B 16 R j → w.heap.size ≤ j) := fun j hj => by
    rcases hj with f | f
    · have := f.1; omega
    · have := hout j f; omega
  clear HN HR hout kb2 k3 hf3 hr2 hz2 hB
  go_wp2_with fail
  go_loopg [12] L (WdL w B R f g L)
  case atStart => exact ⟨0, rfl, Nat.zero_le _, Nat.le_refl _, hB3, kk3⟩
  case round =>
    clear hB3 kk3
    obtain ⟨i, rfl, hi1, hik, hBo, kk⟩ := hrel
    by_cases hlt : (i : Int) < (L : Int)
    · have hi' : i < L := by omega
      have hst : wordsM (mem0 16) f g (i + 1) = (wordsM (mem0 16) f g i).lay false (f i) (bytesV (g i)) := rfl
      have hnn := (wordsM_same (mem0 16) f g i).1
      have hnn1 := (wordsM_same (mem0 16) f g (i + 1)).1
      have e16 : (mem0 16).n = 16 := rfl
      rw [e16] at hnn hnn1
      obtain ⟨blk, off, rfl, hblk, c0, c1, a0, a1, v0, v1⟩ := (HS.out i hi').kp kk
      have hblk0 : blk < w.heap.size := by obtain ⟨b', o', e1, h2, _⟩ := HS.out i hi'; cases e1; exact h2
      have nb : ¬ both B 16 R blk := fun f => by have := HO.out _ f; omega
      have HJ2 : Hid (wordsM (mem0 16) f g (i + 1) = (wordsM (mem0 16) f g i).lay false (f i) (bytesV (g i))) := hst
      obtain ⟨M, hM⟩ : ∃ M, M = wordsM (mem0 16) f g i := ⟨_, rfl⟩
      obtain ⟨M', hM'⟩ : ∃ M', M' = wordsM (mem0 16) f g (i + 1) := ⟨_, rfl⟩
      rw [← hM] at hBo hnn hst
      rw [← hM'] at hnn1 hst
      have HM' : Hid (M' = wordsM (mem0 16) f g (i + 1)) := hM'
      generalize f i = a at *
      generalize g i = v at *
      have HC : Hid (∀ W, RamAt W B M → Calls Tryz.prog 15 #[.pointer (some ⟨B + 3, 0, none⟩), .int .u32 a, .int .i64 4, .int .u32 v] W (fun e w' => e = .returned (.int .i64 0) ∧ RamAt w' B M' ∧ Kp (inRam B 16) W w')) := fun W hW => by
        have := write_ok W B M hW a 4 v a0 a1 v0 v1 rfl
        rw [hnn] at this
        rw [hst]
        exact this
      have HD : Hid (∀ W, RefAt W R M → Calls Tryz.prog 16 #[.pointer (some ⟨R.r, 0, none⟩), .int .u32 a, .int .i64 4, .int .u32 v] W (fun e w' => e = .returned (.int .i64 0) ∧ RefAt w' R M' ∧ Kp R.has W w')) := fun W hW => by
        have := refWrite_ok W R M hW a 4 v a0 a1 v0 v1 rfl
        rw [hst]
        exact this
      obtain ⟨j, hj⟩ : ∃ j, j = i + 1 := ⟨_, rfl⟩
      have HJ : Hid (j = i + 1) := hj
      have HK : Hid (L - i ≤ gk) := hik
      have HAp : Hid (∀ j, R.has j → ¬ inRam B 16 j) := fun j hj f => by have := hBo.ap j hj; rw [hnn] at this; exact this f
      have hra := hBo.ram
      have hrf := hBo.ref
      clear hj hik hM hM' hst hBo HJ2
      go_upto_region 10 with fail
      go_region_with (go_at_call 15; refine (HC.out _ (hra.drewN 1)).mono ?_; rintro e w4 ⟨rfl, hr4, k4⟩)
      all_goals
        have k4' : Kp (inRam B 16) wr w4 := ⟨k4.os, k4.tape, k4.output, k4.size, k4.block⟩
        replace c0 := cell_kp c0 k4' (fun f => nb (.inl f))
        replace c1 := cell_kp c1 k4' (fun f => nb (.inl f))
        have hf4 := hrf.kp k4' (fun j hj f => HAp.out j hj f)
        have kk4 : Kp noB w w4 := kk.over k4' (fun t ht f => by have := HO.out t (.inl f); omega)
        clear k4 k4' hra hrf
        go_upto_region 11 with fail
        go_region_with (go_at_call 16; refine (HD.out _ (hf4.drewN 1)).mono ?_; rintro e w5 ⟨rfl, hf5, k5⟩)
      all_goals
        have k5' : Kp R.has w4 w5 := ⟨k5.os, k5.tape, k5.output, k5.size, k5.block⟩
        have hr5 := hr4.kp k5' (fun j hj f => HAp.out j f (by rw [hnn1] at hj; exact hj))
        have kk5 : Kp noB w w5 := kk4.over k5' (fun t ht f => by have := HO.out t (.inr f); omega)
        go_wp2_with fail
        go_roundg (L - j)
        case measure => have := HJ.out; have := HK.out; omega
        case rel => exact ⟨j, by rw [HJ.out]; rfl, by have := HJ.out; omega, Nat.le_refl _, by rw [HJ.out, ← HM'.out]; exact ⟨hr5, hf5, fun j hj f => HAp.out j hj (by rw [hnn1] at f; exact f)⟩, kk5⟩
    · obtain rfl : i = L := by omega
      clear hik
      have hnM : (wordsM (mem0 16) f g i).n = 16 := (wordsM_same (mem0 16) f g i).1
      have HM0 : Hid (memOf f g h i K = romsM (wordsM (mem0 16) f g i) h K) := rfl
      obtain ⟨M0, hM0⟩ : ∃ M0, M0 = wordsM (mem0 16) f g i := ⟨_, rfl⟩
      rw [← hM0] at hBo hnM HM0
      clear hM0 HS
      go_wp2_with fail
      go_loopg [13] K (OnL w B R M0 h K)
      case atStart => exact ⟨0, rfl, Nat.zero_le _, Nat.le_refl _, hBo, kk⟩
      case round =>
        clear hBo kk
        obtain ⟨m, rfl, hm1, hmk, hBo, kk⟩ := hrel
        by_cases hlt' : (m : Int) < (K : Int)
        · have hm' : m < K := by omega
          have hst : romsM M0 h (m + 1) = romM (romsM M0 h m) (h m) := rfl
          have hnn := (romsM_same M0 h m).1
          have hnn1 := (romsM_same M0 h (m + 1)).1
          rw [hnM] at hnn hnn1
          obtain ⟨blk, off, rfl, hblk, c0, a0, a1⟩ := (HT.out m hm').kp kk
          have hblk0 : blk < w.heap.size := by obtain ⟨b', o', e1, h2, _⟩ := HT.out m hm'; cases e1; exact h2
          have nb : ¬ both B 16 R blk := fun f => by have := HO.out _ f; omega
          obtain ⟨ev, HC, HD⟩ := rom_both (romsM M0 h m) B R (h m) a0 a1
          rw [← hst] at HC HD
          obtain ⟨M, hM⟩ : ∃ M, M = romsM M0 h m := ⟨_, rfl⟩
          obtain ⟨M', hM'⟩ : ∃ M', M' = romsM M0 h (m + 1) := ⟨_, rfl⟩
          rw [← hM] at hBo hnn HC HD
          rw [← hM'] at hnn1 HC HD
          have HM' : Hid (M' = romsM M0 h (m + 1)) := hM'
          generalize h m = a at *
          have HC2 : Hid _ := HC
          have HD2 : Hid _ := HD
          obtain ⟨j, hj⟩ : ∃ j, j = m + 1 := ⟨_, rfl⟩
          have HJ : Hid (j = m + 1) := hj
          have HK : Hid (K - m ≤ gk) := hmk
          have HAp : Hid (∀ j, R.has j → ¬ inRam B 16 j) := fun j hj f => by have := hBo.ap j hj; rw [hnn] at this; exact this f
          have hra := hBo.ram
          have hrf := hBo.ref
          clear hj hmk hM hM' hst hBo HC HD
          go_wp2_with fail
          refine (HC2.out _ hra).mono ?_; rintro e w4 ⟨rfl, hr4, k4⟩
          rw [hnn] at k4
          replace c0 := cell_kp c0 k4 (fun f => nb (.inl f))
          have hf4 := hrf.kp k4 (fun j hj f => HAp.out j hj f)
          have kk4 : Kp noB w w4 := kk.over k4 (fun t ht f => by have := HO.out t (.inl f); omega)
          clear k4 hra hrf
          go_wp2_with fail
          refine (HD2.out _ hf4).mono ?_; rintro e w5 ⟨rfl, hf5, k5⟩
          have hr5 := hr4.kp k5 (fun j hj f => HAp.out j f (by rw [hnn1] at hj; exact hj))
          have kk5 : Kp noB w w5 := kk4.over k5 (fun t ht f => by have := HO.out t (.inr f); omega)
          go_wp2_with fail
          go_roundg (K - j)
          case measure => have := HJ.out; have := HK.out; omega
          case rel => exact ⟨j, by rw [HJ.out]; rfl, by have := HJ.out; omega, Nat.le_refl _, by rw [HJ.out, ← HM'.out]; exact ⟨hr5, hf5, fun j hj f => HAp.out j hj (by rw [hnn1] at f; exact f)⟩, kk5⟩
        · obtain rfl : m = K := by omega
          clear hmk
          go_wp2
          refine bodyPost_ret (v := .tuple #[.pointer (some ⟨B + 3, 0, none⟩), .pointer (some ⟨R.r, 0, none⟩)]) (by simp [results, Tryz.results5, go_sem]) rfl ⟨B, R, rfl, by rw [HM0.out]; exact hBo, HO.out, kk⟩
end Go.Proofs.YtmmnnafjikilpaaGreat

/- Alike: both memories have the same bytes. -/
namespace Go.Proofs.YtmmnnafjikilpaaGreat
open Go.ChangeShapes Go.WideShapes Go.ChangeAt Go.RowKit Go.Maps
set_option linter.unusedVariables false

theorem u8T : Tryz.prog.underlying 5 = some (.int .u8) := by kernel_rfl
theorem strT : Tryz.prog.underlying 9 = some .string := by kernel_rfl

def allB (M : Mem) (N : Nat) : List Int := (List.range N).map (fun j => M.byte j)
theorem allB_len (M : Mem) (N : Nat) : (allB M N).length = N := by unfold allB; rw [List.length_map, List.length_range]
theorem allB_get (M : Mem) {N j : Nat} (h : j < N) : (allB M N).getD j 0 = M.byte j := by
  unfold allB
  rw [List.getD_eq_getElem?_getD, List.getElem?_map, List.getElem?_range h]
  rfl

theorem conv_ref {w : World} {R : Rf} {M : Mem} (h : RefAt w R M) {N : Nat} (hN : N = 4096 * M.n) : (convert 85 9 (.slice (some ⟨R.b, 0, none⟩) N N)).run Tryz.prog w = .ok (.string (strOfNums (allB M N))) w :=
  run_convert_bytes_arg (P := Tryz.prog) w 85 5 slice8T u8T R.b 0 N N (allB M N) (allB_len M N) (fun i hi => by
    rw [allB_get M hi, Nat.zero_add]
    exact h.cb.cell (by omega)) 9 strT

theorem conv_dump {w : World} {b : Nat} {M : Mem} {N : Nat} {cs : Array Value} (hh : w.heap[b]? = some (.cells cs 5 (0, 0))) (hc : ∀ j, j < N → cs[j]? = some (.int .u8 (M.rd ((0 + j) % 4294967296)))) (hN : N = 4096 * M.n) (hn : M.n = 16) (hcl : M.closed = false) : (convert 85 9 (.slice (some ⟨b, 0, none⟩) N N)).run Tryz.prog w = .ok (.string (strOfNums (allB M N))) w :=
  run_convert_bytes_arg (P := Tryz.prog) w 85 5 slice8T u8T b 0 N N (allB M N) (allB_len M N) (fun i hi => by
    rw [allB_get M hi, Nat.zero_add, cell_at hh, hc i hi]
    congr 2
    have e : ((0 : Int) + i) % 4294967296 = i := by omega
    rw [e]
    unfold Mem.rd Mem.place
    rw [hcl]
    simp only [Bool.false_eq_true, false_and, if_false]
    rw [if_pos (by omega), Int.toNat_natCast]) 9 strT

set_option maxRecDepth 100000 in
set_option maxHeartbeats 2000000 in
theorem alike_any (w : World) (B : Nat) (R : Rf) (M : Mem) (h : Both w B R M) (hn : M.n = 16) (hcl : M.closed = false) :
    Calls Tryz.prog 9 #[.pointer (some ⟨B + 3, 0, none⟩), .pointer (some ⟨R.r, 0, none⟩)] w fun e w' => e = .returned (.bool true) ∧ Kp noB w w' := by
  obtain ⟨N, hN⟩ : ∃ N : Nat, N = 4096 * M.n := ⟨_, rfl⟩
  have HLn : Hid (∀ W, RamAt W B M → Calls Tryz.prog 32 #[.pointer (some ⟨B + 3, 0, none⟩)] W fun e w' => e = .returned (.int .i64 N) ∧ w' = W) := fun W hW => by
    have := len_ok W B M hW
    rw [show ((4096 * M.n : Int)) = (N : Int) by omega] at this
    exact this
  have HDm : Hid (∀ W, RamAt W B M → Calls Tryz.prog 33 #[.pointer (some ⟨B + 3, 0, none⟩), .int .u32 0, .int .i64 N] W (DumpPost W B M 0 N)) := fun W hW => dump_ok W B M hW 0 (by omega) (by omega) N (by omega) (by omega)
  obtain ⟨S, hS⟩ : ∃ S, S = strOfNums (allB M N) := ⟨_, rfl⟩
  have HCr : Hid (∀ W, RefAt W R M → (convert 85 9 (.slice (some ⟨R.b, 0, none⟩) N N)).run Tryz.prog W = .ok (.string S) W) := fun W hW => by rw [hS]; exact conv_ref hW hN
  have HCd : Hid (∀ (W : World) (b : Nat) (cs : Array Value), W.heap[b]? = some (.cells cs 5 (0, 0)) → (∀ j, j < N → cs[j]? = some (.int .u8 (M.rd ((0 + j) % 4294967296)))) → (convert 85 9 (.slice (some ⟨b, 0, none⟩) N N)).run Tryz.prog W = .ok (.string S) W) := fun W b cs h1 h2 => by rw [hS]; exact conv_dump h1 h2 hN hn hcl
  have HC0 : Hid (∀ W, RefAt W R M → W.cell? ⟨R.r, 0, none⟩ = some (.slice (some ⟨R.b, 0, none⟩) N N)) := fun W hW => by rw [hN]; exact hW.c0
  clear hS hN hn hcl
  have hrD : RamAt w.drew B M := h.ram.drewN 1
  have hfD : RefAt w.drew R M := h.ref.drewN 1
  have hk : Kp noB w w.drew := (Kp.refl _ w).drew
  have hS0 : w.drew.cell? ⟨R.r, 0, none⟩ = some (.slice (some ⟨R.b, 0, none⟩) N N) ∧ (convert 85 9 (.slice (some ⟨R.b, 0, none⟩) N N)).run Tryz.prog w.drew = .ok (.string S) w.drew := ⟨HC0.out _ hfD, HCr.out _ hfD⟩
  have HS0 : Hid (w.drew.cell? ⟨R.r, 0, none⟩ = some (.slice (some ⟨R.b, 0, none⟩) N N) ∧ (convert 85 9 (.slice (some ⟨R.b, 0, none⟩) N N)).run Tryz.prog w.drew = .ok (.string S) w.drew) := hS0
  have HS1 : Hid (∀ W, Kp noB w.drew W → W.cell? ⟨R.r, 0, none⟩ = some (.slice (some ⟨R.b, 0, none⟩) N N) ∧ (convert 85 9 (.slice (some ⟨R.b, 0, none⟩) N N)).run Tryz.prog W = .ok (.string S) W) := fun W kW => ⟨HC0.out _ (hfD.kp kW (fun _ _ f => f)), HCr.out _ (hfD.kp kW (fun _ _ f => f))⟩
  clear hS0 hfD h
  go_enter Tryz.func9, Tryz.ntmps9
  go_upto_region 1 with fail
  refine wp_region_held_drew (S := fun W => W.cell? ⟨R.r, 0, none⟩ = some (.slice (some ⟨R.b, 0, none⟩) N N) ∧ (convert 85 9 (.slice (some ⟨R.b, 0, none⟩) N N)).run Tryz.prog W = .ok (.string S) W) (by kernel_rfl) HS0.out (fun hH => ?_)
  refine wpAnyH_take (i := 0) (v := (.pointer (some ⟨B + 3, 0, none⟩))) rfl (by kernel_rfl) (by kernel_rfl) (by kernel_rfl) (fun _ _ _ h => h) (Or.inl ⟨by rfl, by intro w hS; obtain ⟨s0, s1⟩ := hS; go_simp⟩) hH ?_
  try simp only [Act.put, List.setIfInBounds_toArray]
  refine wpAnyH_take (i := 2) (v := (.pointer (some ⟨R.r, 0, none⟩))) rfl (by kernel_rfl) (by kernel_rfl) (by kernel_rfl) (fun _ _ _ h => h) (Or.inl ⟨by rfl, by intro w hS; obtain ⟨s0, s1⟩ := hS; go_simp⟩) hH ?_
  try simp only [Act.put]
  refine wpAnyH_take (i := 3) (v := (.pointer (some ⟨R.r, 0, none⟩))) rfl (by kernel_rfl) (by kernel_rfl) (by kernel_rfl) (fun _ _ _ h => h) (Or.inl ⟨by rfl, by intro w hS; obtain ⟨s0, s1⟩ := hS; go_simp⟩) hH ?_
  try simp only [Act.put]
  refine wpAnyH_take (i := 4) (v := (.pointer (some ⟨R.r, 0, none⟩))) rfl (by kernel_rfl) (by kernel_rfl) (by kernel_rfl) (fun _ _ _ h => h) (Or.inl ⟨by rfl, by intro w hS; obtain ⟨s0, s1⟩ := hS; go_simp⟩) hH ?_
  try simp only [Act.put]
  refine wpAnyH_take (i := 5) (v := (.slice (some ⟨R.b, 0, none⟩) N N)) rfl (by kernel_rfl) (by kernel_rfl) (by kernel_rfl) (fun _ _ _ h => h) (Or.inl ⟨by rfl, by intro w hS; obtain ⟨s0, s1⟩ := hS; go_simp⟩) hH ?_
  try simp only [Act.put]
  refine wpAnyH_take (i := 6) (v := (.int .i64 N)) rfl (by kernel_rfl) (by kernel_rfl) (by kernel_rfl) (fun _ _ _ h => h) (Or.inl ⟨by rfl, by intro w hS; obtain ⟨s0, s1⟩ := hS; go_simp⟩) hH ?_
  try simp only [Act.put]
  refine wpAnyH_ready (rs := [1]) (by kernel_rfl) (by simp) ?_
  refine AllReadyH.cons rfl (fun K hK => ?_) AllReadyH.nil
  go_simp
  refine (HLn.out _ hrD).mono ?_; rintro e w5 ⟨rfl, hw5⟩; replace hw5 := hw5.symm; subst hw5
  refine hK.out _ _ HS0.out (fun hH2 => ?_)
  clear hK K
  try simp only [Act.put, List.setIfInBounds_toArray, List.set_cons_zero, List.set_cons_succ]
  refine wpAnyH_take (i := 7) (v := (.bool true)) rfl (by kernel_rfl) (by kernel_rfl) (by kernel_rfl) (fun _ _ _ h => h) (Or.inl ⟨by rfl, by intro w hS; obtain ⟨s0, s1⟩ := hS; go_simp⟩) hH ?_
  try simp only [Act.put, List.setIfInBounds_toArray]
  refine wpAnyH_take (i := 8) (v := (.bool true)) rfl (by kernel_rfl) (by kernel_rfl) (by kernel_rfl) (fun _ _ _ h => h) (Or.inl ⟨by rfl, by intro w hS; obtain ⟨s0, s1⟩ := hS; go_simp⟩) hH ?_
  try simp only [Act.put]
  refine wpAnyH_take (i := 9) (v := (.pointer (some ⟨B + 3, 0, none⟩))) rfl (by kernel_rfl) (by kernel_rfl) (by kernel_rfl) (fun _ _ _ h => h) (Or.inl ⟨by rfl, by intro w hS; obtain ⟨s0, s1⟩ := hS; go_simp⟩) hH ?_
  try simp only [Act.put]
  refine wpAnyH_take (i := 10) (v := (.pointer (some ⟨B + 3, 0, none⟩))) rfl (by kernel_rfl) (by kernel_rfl) (by kernel_rfl) (fun _ _ _ h => h) (Or.inl ⟨by rfl, by intro w hS; obtain ⟨s0, s1⟩ := hS; go_simp⟩) hH ?_
  try simp only [Act.put]
  refine wpAnyH_take (i := 14) (v := (.pointer (some ⟨R.r, 0, none⟩))) rfl (by kernel_rfl) (by kernel_rfl) (by kernel_rfl) (fun _ _ _ h => h) (Or.inl ⟨by rfl, by intro w hS; obtain ⟨s0, s1⟩ := hS; go_simp⟩) hH ?_
  try simp only [Act.put]
  refine wpAnyH_take (i := 15) (v := (.pointer (some ⟨R.r, 0, none⟩))) rfl (by kernel_rfl) (by kernel_rfl) (by kernel_rfl) (fun _ _ _ h => h) (Or.inl ⟨by rfl, by intro w hS; obtain ⟨s0, s1⟩ := hS; go_simp⟩) hH ?_
  try simp only [Act.put]
  refine wpAnyH_take (i := 16) (v := (.pointer (some ⟨R.r, 0, none⟩))) rfl (by kernel_rfl) (by kernel_rfl) (by kernel_rfl) (fun _ _ _ h => h) (Or.inl ⟨by rfl, by intro w hS; obtain ⟨s0, s1⟩ := hS; go_simp⟩) hH ?_
  try simp only [Act.put]
  refine wpAnyH_take (i := 17) (v := (.slice (some ⟨R.b, 0, none⟩) N N)) rfl (by kernel_rfl) (by kernel_rfl) (by kernel_rfl) (fun _ _ _ h => h) (Or.inl ⟨by rfl, by intro w hS; obtain ⟨s0, s1⟩ := hS; go_simp⟩) hH ?_
  try simp only [Act.put]
  refine wpAnyH_take (i := 18) (v := (.string S)) rfl (by kernel_rfl) (by kernel_rfl) (by kernel_rfl) (fun _ _ _ h => h) (Or.inl ⟨by rfl, by intro w hS; obtain ⟨s0, s1⟩ := hS; go_simp⟩) hH ?_
  try simp only [Act.put]
  refine wpAnyH_ready (rs := [11]) (by kernel_rfl) (by simp) ?_
  refine AllReadyH.cons rfl (fun K hK => ?_) AllReadyH.nil
  go_simp
  refine (HLn.out _ hrD).mono ?_; rintro e w5 ⟨rfl, hw5⟩; replace hw5 := hw5.symm; subst hw5
  refine hK.out _ _ HS0.out (fun hH3 => ?_)
  clear hK K
  try simp only [Act.put, List.setIfInBounds_toArray, List.set_cons_zero, List.set_cons_succ]
  refine wpAnyH_ready (rs := [12]) (by kernel_rfl) (by simp) ?_
  refine AllReadyH.cons rfl (fun K hK => ?_) AllReadyH.nil
  go_simp
  refine (HDm.out _ hrD).mono ?_; rintro e w6 ⟨cs, rfl, hh, hsz, hcell, k6⟩
  have hcv : (convert 85 9 (.slice (some ⟨w.heap.size, 0, none⟩) N N)).run Tryz.prog w6 = .ok (.string S) w6 := HCd.out _ _ _ hh hcell
  refine hK.out _ _ (HS1.out _ k6) (fun hH4 => ?_)
  clear hK K
  try simp only [Act.put, List.setIfInBounds_toArray, List.set_cons_zero, List.set_cons_succ]
  refine wpAnyH_ready (rs := [13]) (by kernel_rfl) (by simp) ?_
  refine AllReadyH.cons rfl (fun K hK => ?_) AllReadyH.nil
  go_simp
  refine hK.out _ _ (HS1.out _ k6) (fun hH5 => ?_)
  clear hK K
  try simp only [Act.put, List.setIfInBounds_toArray, List.set_cons_zero, List.set_cons_succ]
  refine wpAnyH_take (i := 19) (v := (.bool true)) rfl (by kernel_rfl) (by kernel_rfl) (by kernel_rfl) (fun _ _ _ h => h) (Or.inl ⟨by rfl, by intro w hS; obtain ⟨s0, s1⟩ := hS; go_simp⟩) hH5 ?_
  try simp only [Act.put, List.setIfInBounds_toArray]
  refine wpAnyH_take (i := 20) (v := (.bool true)) rfl (by kernel_rfl) (by kernel_rfl) (by kernel_rfl) (fun _ _ _ h => h) (Or.inl ⟨by rfl, by intro w hS; obtain ⟨s0, s1⟩ := hS; go_simp⟩) hH5 ?_
  try simp only [Act.put]
  refine wpAnyH_ready (rs := [21]) (by kernel_rfl) (by simp) ?_
  refine AllReadyH.cons rfl (fun K hK => ?_) AllReadyH.nil
  go_simp
  refine hK.out _ _ (HS1.out _ k6) (fun hH6 => ?_)
  clear hK K
  try simp only [Act.put, List.setIfInBounds_toArray, List.set_cons_zero, List.set_cons_succ]
  refine wpAnyH_done (by kernel_rfl) ?_ _
  go_wp2
  go_ret
  exact ⟨rfl, hk.trans k6⟩
end Go.Proofs.YtmmnnafjikilpaaGreat

/- awake: the calls at the head of all statements answer as the document fixes. -/
namespace Go.Proofs.YtmmnnafjikilpaaGreat
open Go.ChangeShapes Go.WideShapes Go.ChangeAt Go.RowKit Go.Maps
set_option linter.unusedVariables false

end Go.Proofs.YtmmnnafjikilpaaGreat

/- What the statements on page take: an ask in a block of its own, a walk by letters. -/
namespace Go.Proofs.YtmmnnafjikilpaaGreat
open Go.ChangeShapes Go.WideShapes Go.ChangeAt Go.RowKit Go.Maps
set_option linter.unusedVariables false

theorem Kp.every {w w' : World} (h : Kp noB w w') : Below w.heap.size w w' := h.below (Nat.le_refl _) (fun k f => f.elim)

end Go.Proofs.YtmmnnafjikilpaaGreat

/- What comes into the statements on page, as it is read: words, asks, numbers of pages. -/
namespace Go.Proofs.YtmmnnafjikilpaaGreat
open Go.ChangeShapes Go.WideShapes Go.ChangeAt Go.RowKit
set_option linter.unusedVariables false

theorem word_size : Tryz.prog.cellsOf 65 = 2 := by kernel_rfl
theorem one_int : Tryz.prog.cellsOf 3 = 1 := by kernel_rfl
theorem one_u32 : Tryz.prog.cellsOf 24 = 1 := by kernel_rfl
theorem list_two {α : Type} : ∀ (l : List α), l.length = 2 → ∃ a b, l = [a, b]
  | [a, b], _ => ⟨a, b, rfl⟩
theorem list_five {α : Type} : ∀ (l : List α), l.length = 5 → ∃ a b c d e, l = [a, b, c, d, e]
  | [a, b, c, d, e], _ => ⟨a, b, c, d, e, rfl⟩

theorem word_cells {H : Type} {enc : TypeId × Value → H} {w : World} {base : Nat} {sp : Nat → Bool} {held : Bool} {fuel : Nat} {cs : List Value} {x : DataW H × List MemPlace} (h : DataW.trod enc Tryz.prog w base sp held fuel 65 cs = some x) :
    ∃ (a v : Int), cs = [.int .u32 a, .int .u32 v] ∧ (Lit.int .u32 a).wf = true ∧ (Lit.int .u32 v).wf = true := by
  cases fuel with
  | zero => simp [DataW.trod] at h
  | succ n =>
    rw [DataW.trod_step] at h
    unfold DataW.trodStep at h
    simp only [Tryz.underlying65] at h
    split at h
    · rename_i hl
      rw [word_size] at hl
      obtain ⟨c0, c1, rfl⟩ := list_two cs hl
      simp only [Option.map_eq_some_iff] at h
      obtain ⟨xs, hx, e1⟩ := h
      simp only [List.mapM_cons, List.mapM_nil, bind, Option.bind_eq_some_iff, pure, Option.some.injEq, one_u32, List.drop_zero, List.drop_succ_cons, List.take_succ_cons, List.take_zero] at hx
      obtain ⟨y0, h0, _, ⟨y1, h1, _, rfl, rfl⟩, rfl⟩ := hx
      obtain ⟨a, ea, rfl, wa⟩ := DataW.trod_int Tryz.underlying24 h0
      obtain ⟨v, eb, rfl, wv⟩ := DataW.trod_int Tryz.underlying24 h1
      simp at ea eb
      subst ea; subst eb
      exact ⟨a, v, rfl, wa, wv⟩
    · cases h

theorem spotless {w : World} {b o : Nat} {sp : Option Nat} {v : Value} (h : w.cell? ⟨b, o, sp⟩ = some v) : sp = none := by
  cases sp with
  | none => rfl
  | some x =>
    unfold World.cell? at h
    split at h <;> simp at h

theorem spot_of2 {w : World} {base blk off K : Nat} {sp : Option Nat} {cs : List Value} (h : w.cells? base ((⟨blk, off, sp⟩ : Addr).add (0 * K)) K = some cs) (hK : 0 < K) : sp = none := by
  obtain ⟨_, hl, hg⟩ := World.cells?_some h
  have h0 := hg 0 hK
  have hl1 : 0 < cs.length := by rw [hl]; exact hK
  rw [List.getElem?_eq_getElem hl1, Nat.zero_mul] at h0
  exact spotless (w := w) (b := blk) (o := off) h0

theorem add_plain (blk off n : Nat) : (⟨blk, off, none⟩ : Addr).add n = ⟨blk, off + n, none⟩ := by
  unfold Addr.add
  split
  · rename_i hz
    rw [hz]
    rfl
  · rfl

theorem cell_below {w : World} {b o : Nat} {v : Value} (h : w.cell? ⟨b, o, none⟩ = some v) : b < w.heap.size := by
  rcases Nat.lt_or_ge b w.heap.size with g | g
  · exact g
  · simp [World.cell?, Array.getElem?_eq_none g] at h

/-- One word of a list of words. -/
def OneWord (w : World) (x : Option Addr) (i : Nat) (a v : Int) : Prop :=
  ∃ (blk off : Nat), x = some ⟨blk, off, none⟩ ∧ blk < w.heap.size ∧ w.cell? ⟨blk, off + i * 2, none⟩ = some (.int .u32 a) ∧ w.cell? ⟨blk, off + i * 2 + 1, none⟩ = some (.int .u32 v) ∧ (0 ≤ a ∧ a < 4294967296 ∧ 0 ≤ v ∧ v < 4294967296)

theorem words_in0 {H : Type} {enc : TypeId × Value → H} {w : World} {held : Bool} {fuel : Nat} {a : Option Addr} {len cap : Nat} {x : DataW H × List MemPlace} (h : DataW.trod enc Tryz.prog w 0 (fun _ => true) held fuel 22 [.slice a len cap] = some x) :
    len ≤ 9223372036854775807 ∧ ∀ i, i < len → ∃ y v, OneWord w a i y v := by
  rcases Go.Deep.open_slice Tryz.underlying22 h with ⟨e, _⟩ | ⟨a', len', cap', m, n, D, Pl, e, hb0, hlc, hm, hmm, ex, hel⟩
  · simp at e
    obtain ⟨rfl, rfl, rfl⟩ := e
    exact ⟨by omega, fun i hi => absurd hi (by omega)⟩
  · simp at e
    obtain ⟨rfl, rfl, rfl⟩ := e
    have hm' : m = cap := by simpa using hmm
    refine ⟨by unfold maxLen at hm; omega, ?_⟩
    intro i hi
    obtain ⟨cs', hcs, ht⟩ := hel i (by omega)
    obtain ⟨y, v, rfl, wy, wv⟩ := word_cells ht
    rw [word_size] at hcs
    obtain ⟨blk, off, sp⟩ := a'
    have hsp : sp = none := by
      obtain ⟨cs0, hc0, _⟩ := hel 0 (by omega)
      exact spot_of2 hc0 (by rw [word_size]; decide)
    subst hsp
    rw [add_plain] at hcs
    obtain ⟨_, _, hc⟩ := World.cells?_some hcs
    have c0 : w.cell? ⟨blk, off + i * 2, none⟩ = some (.int .u32 y) := hc 0 (by omega)
    have c1 : w.cell? ⟨blk, off + i * 2 + 1, none⟩ = some (.int .u32 v) := hc 1 (by omega)
    have by' := bounds_u32 wy
    have bv := bounds_u32 wv
    exact ⟨y, v, blk, off, rfl, cell_below c0, c0, c1, by'.1, by omega, bv.1, by omega⟩

theorem words_in {H : Type} {enc : TypeId × Value → H} {w : World} {held : Bool} {fuel : Nat} {a : Option Addr} {len cap : Nat} {x : DataW H × List MemPlace} (h : DataW.trod enc Tryz.prog w 0 (fun _ => true) held fuel 22 [.slice a len cap] = some x) :
    len ≤ 9223372036854775807 ∧ ∃ f g : Nat → Int, ∀ i, i < len → WordIn w a f g i := by
  obtain ⟨hl, h0⟩ := words_in0 h
  have h1 : ∀ i, ∃ q : Int × Int, i < len → OneWord w a i q.1 q.2 := fun i => by
    by_cases hi : i < len
    · obtain ⟨y, v, hh⟩ := h0 i hi
      exact ⟨(y, v), fun _ => hh⟩
    · exact ⟨(0, 0), fun f => absurd f hi⟩
  refine ⟨hl, fun i => (Classical.choose (h1 i)).1, fun i => (Classical.choose (h1 i)).2, fun i hi => ?_⟩
  exact Classical.choose_spec (h1 i) hi

/-- One number of a list of pages. -/
theorem only_in {H : Type} {enc : TypeId × Value → H} {w : World} {held : Bool} {fuel : Nat} {sl : Value} {x : DataW H × List MemPlace} (h : DataW.trod enc Tryz.prog w 0 (fun _ => true) held fuel 23 [sl] = some x) :
    ∃ (p : Option Addr) (l c : Nat) (g : Nat → Int), sl = .slice p l c ∧ l ≤ 9223372036854775807 ∧ ∀ i, i < l → OnlyIn w p g i := by
  rcases open_ints Tryz.underlying23 Tryz.underlying3 (by kernel_rfl) h with ⟨hcs, _⟩ | ⟨y, l, c, zs, hcs, _, hl, hm, hz, _, hcell, hwz⟩
  · simp at hcs
    exact ⟨none, 0, 0, fun _ => 0, hcs, by omega, fun i hi => absurd hi (by omega)⟩
  · simp at hcs
    have hz' : zs.length = c := by simpa using hz
    refine ⟨some y, l, c, fun i => zs.getD i 0, hcs, by unfold maxLen at hm; omega, fun i hi => ?_⟩
    have h0 : 0 < zs.length := by omega
    obtain ⟨b, off, hy, hc⟩ := ints_at hcell h0
    have hj' : i < zs.length := by omega
    have e : zs.getD i 0 ∈ zs := by rw [List.getD_eq_getElem?_getD, List.getElem?_eq_getElem hj']; exact List.getElem_mem hj'
    have bd := bounds_i64 (hwz _ e)
    exact ⟨b, off, by rw [hy], cell_below (hc i hj'), hc i hj', bd.1, bd.2⟩

end Go.Proofs.YtmmnnafjikilpaaGreat
