/- The document's own walk through two tables: has, mark. -/
import Derived.Test.YtljlcejnadmgkaaPgMath
import Derived.Test.YtljlcejnadmgkaaRefNew
import Derived.LoopN
import Derived.Deep.RegionWith
import Derived.Deep.Cut
namespace Go.Proofs.Ytljlcejnadmgkaa
open Go.ChangeShapes Go.WideShapes Go.ChangeAt Go.RowKit Go.Maps
set_option linter.unusedVariables false

theorem cell_kp {S : Nat → Prop} {w w' : World} {b o : Nat} {v : Value} (h : w.cell? ⟨b, o, none⟩ = some v) (k : Kp S w w') (hS : ¬ S b) : w'.cell? ⟨b, o, none⟩ = some v := by
  have hb : b < w.heap.size := by
    rcases Nat.lt_or_ge b w.heap.size with g | g
    · exact g
    · simp [World.cell?, Array.getElem?_eq_none g] at h
  exact (World.cell?_of_block (k.block b hb hS)).trans h

theorem refHas (w : World) (n : Int) (j : Nat) (k : Int) (hj : j < 32) (hk : ((2 ^ j : Nat) : Int) = k) (n0 : 0 ≤ n) (n1 : n < 4294967296) :
    Calls Try.prog 30 #[.int .u32 n, .int .i64 j] w fun e w' => e = .returned (.bool (hasF n k)) ∧ w' = w := by
  have hk' : (2 : Int) ^ j = k := by rw [← hk]; simp
  have hm : min j 32 = j := by omega
  have hm64 : min j 64 = j := by omega
  have hd0 : 0 ≤ n / k := Int.ediv_nonneg n0 (by rw [← hk]; exact Int.le_of_lt (pw_pos j))
  have hd1 : n / k < 4294967296 := Int.lt_of_le_of_lt (Int.ediv_le_self _ n0) n1
  go_enter Try.func30, Try.ntmps30
  go_wp2
  go_ret
  refine ⟨ret_bool ?_, rfl⟩
  rfl

theorem refHas0 (w : World) (n : Int) (n0 : 0 ≤ n) (n1 : n < 4294967296) : Calls Try.prog 30 #[.int .u32 n, .int .i64 0] w fun e w' => e = .returned (.bool (hasF n 1)) ∧ w' = w := refHas w n 0 1 (by decide) rfl n0 n1
theorem refHas1 (w : World) (n : Int) (n0 : 0 ≤ n) (n1 : n < 4294967296) : Calls Try.prog 30 #[.int .u32 n, .int .i64 1] w fun e w' => e = .returned (.bool (hasF n 2)) ∧ w' = w := refHas w n 1 2 (by decide) rfl n0 n1
theorem refHas2 (w : World) (n : Int) (n0 : 0 ≤ n) (n1 : n < 4294967296) : Calls Try.prog 30 #[.int .u32 n, .int .i64 2] w fun e w' => e = .returned (.bool (hasF n 4)) ∧ w' = w := refHas w n 2 4 (by decide) rfl n0 n1
theorem refHas5 (w : World) (n : Int) (n0 : 0 ≤ n) (n1 : n < 4294967296) : Calls Try.prog 30 #[.int .u32 n, .int .i64 5] w fun e w' => e = .returned (.bool (hasF n 32)) ∧ w' = w := refHas w n 5 32 (by decide) rfl n0 n1
theorem refHas6 (w : World) (n : Int) (n0 : 0 ≤ n) (n1 : n < 4294967296) : Calls Try.prog 30 #[.int .u32 n, .int .i64 6] w fun e w' => e = .returned (.bool (hasF n 64)) ∧ w' = w := refHas w n 6 64 (by decide) rfl n0 n1

theorem set_yes {n k : Int} (h : hasF n k = true) : setF n k true = n := by
  unfold hasF at h
  unfold setF flg
  rw [if_pos (by simpa using h), if_pos rfl]
  omega
theorem set_no {n k : Int} (h : hasF n k = false) : setF n k true = n + k := by
  unfold hasF at h
  unfold setF flg
  rw [if_neg (by simpa using h), if_pos rfl]


set_option maxRecDepth 100000 in
set_option maxHeartbeats 1000000 in
theorem refMark_ry (w : World) (R : Rf) (M : Mem) (h : RefAt w R M) (hb : RdB M) (a : Int) (a0 : 0 ≤ a) (a1 : a < 4294967296) (n : Int) (hn : M.read a 4 = n) (n0 : 0 ≤ n) (n1 : n < 4294967296) (h5 : hasF n 32 = true) (Y : Nat) (hY : ¬ R.has Y) (c0 : w.cell? ⟨Y, 0, none⟩ = some (.int .i64 5)) :
    Calls Try.prog 31 #[.pointer (some ⟨R.r, 0, none⟩), .int .u32 a, .slice (some ⟨Y, 0, none⟩) 1 1] w fun e w' => e = .returned (.tuple #[]) ∧ RefAt w' R (M) ∧ Kp R.has w w' := by
  have cR := refRead_ok w R M h hb a 4 a0 a1 rfl
  rw [show (4 : Int).toNat = 4 from rfl, hn] at cR
  have m1 : n < 4294967296 := by omega
  have H5 : Hid (∀ W, Calls Try.prog 30 #[.int .u32 n, .int .i64 5] W fun e w' => e = .returned (.bool true) ∧ w' = W) := fun W => by have := refHas5 W n n0 m1; rw [h5] at this; exact this
  clear h5 hn hb
  go_enter Try.func31, Try.ntmps31
  go_wp2_with fail
  refine cR.mono ?_; rintro e w1 ⟨rfl, k1⟩
  have h1 := h.kp k1 (fun _ _ f => f)
  replace c0 := cell_kp c0 k1 (fun f => f)
  clear cR h
  go_wp2_with fail
  refine wp_loop_rounds 2 ?_
  rw [rounds_succ]
  go_wp2_with fail
  refine (H5.out _).mono ?_; rintro e w' ⟨rfl, hw⟩; replace hw := hw.symm; subst hw
  go_wp2_with fail
  rw [rounds_succ]
  go_wp2_with fail
  go_end0
  exact ⟨rfl, h1, kp_no k1⟩

set_option maxRecDepth 100000 in
set_option maxHeartbeats 1000000 in
theorem refMark_rn (w : World) (R : Rf) (M : Mem) (h : RefAt w R M) (hb : RdB M) (a : Int) (a0 : 0 ≤ a) (a1 : a < 4294967296) (n : Int) (hn : M.read a 4 = n) (n0 : 0 ≤ n) (n1 : (n + 32) < 4294967296) (h5 : hasF n 32 = false) (Y : Nat) (hY : ¬ R.has Y) (c0 : w.cell? ⟨Y, 0, none⟩ = some (.int .i64 5)) :
    Calls Try.prog 31 #[.pointer (some ⟨R.r, 0, none⟩), .int .u32 a, .slice (some ⟨Y, 0, none⟩) 1 1] w fun e w' => e = .returned (.tuple #[]) ∧ RefAt w' R (M.lay false a (bytesV (n + 32))) ∧ Kp R.has w w' := by
  have cR := refRead_ok w R M h hb a 4 a0 a1 rfl
  rw [show (4 : Int).toNat = 4 from rfl, hn] at cR
  have m1 : n < 4294967296 := by omega
  obtain ⟨z, hz⟩ : ∃ z, n + 32 = z := ⟨_, rfl⟩
  rw [hz] at n1 ⊢
  have z0 : 0 ≤ z := by omega
  have hnz : (z != n) = true := by simp; omega
  have HW : Hid (∀ W, RefAt W R M → Calls Try.prog 15 #[.pointer (some ⟨R.r, 0, none⟩), .int .u32 a, .int .i64 4, .int .u32 z] W fun e w' => e = .returned (.int .i64 0) ∧ RefAt w' R (M.lay false a (bytesV z)) ∧ Kp R.has W w') := fun W hW => refWrite_ok W R M hW a 4 z a0 a1 z0 n1 rfl
  have H5 : Hid (∀ W, Calls Try.prog 30 #[.int .u32 n, .int .i64 5] W fun e w' => e = .returned (.bool false) ∧ w' = W) := fun W => by have := refHas5 W n n0 m1; rw [h5] at this; exact this
  clear h5 hn hb
  go_enter Try.func31, Try.ntmps31
  go_wp2_with fail
  refine cR.mono ?_; rintro e w1 ⟨rfl, k1⟩
  have h1 := h.kp k1 (fun _ _ f => f)
  replace c0 := cell_kp c0 k1 (fun f => f)
  clear cR h
  go_wp2_with fail
  refine wp_loop_rounds 2 ?_
  rw [rounds_succ]
  go_wp2_with fail
  refine (H5.out _).mono ?_; rintro e w' ⟨rfl, hw⟩; replace hw := hw.symm; subst hw
  go_wp2_with fail
  rw [rounds_succ]
  go_wp2_with fail
  refine (HW.out _ h1).mono ?_; rintro e w2 ⟨rfl, h2, k2⟩
  go_wp2
  go_end0
  exact ⟨rfl, h2, (kp_no k1).trans k2⟩

set_option maxRecDepth 100000 in
set_option maxHeartbeats 1000000 in
theorem refMark_wyy (w : World) (R : Rf) (M : Mem) (h : RefAt w R M) (hb : RdB M) (a : Int) (a0 : 0 ≤ a) (a1 : a < 4294967296) (n : Int) (hn : M.read a 4 = n) (n0 : 0 ≤ n) (n1 : n < 4294967296) (h5 : hasF n 32 = true) (h6 : hasF n 64 = true) (Y : Nat) (hY : ¬ R.has Y) (c0 : w.cell? ⟨Y, 0, none⟩ = some (.int .i64 5)) (c1 : w.cell? ⟨Y, 1, none⟩ = some (.int .i64 6)) :
    Calls Try.prog 31 #[.pointer (some ⟨R.r, 0, none⟩), .int .u32 a, .slice (some ⟨Y, 0, none⟩) 2 2] w fun e w' => e = .returned (.tuple #[]) ∧ RefAt w' R (M) ∧ Kp R.has w w' := by
  have cR := refRead_ok w R M h hb a 4 a0 a1 rfl
  rw [show (4 : Int).toNat = 4 from rfl, hn] at cR
  have m1 : n < 4294967296 := by omega
  have H5 : Hid (∀ W, Calls Try.prog 30 #[.int .u32 n, .int .i64 5] W fun e w' => e = .returned (.bool true) ∧ w' = W) := fun W => by have := refHas5 W n n0 m1; rw [h5] at this; exact this
  have H6 : Hid (∀ W, Calls Try.prog 30 #[.int .u32 n, .int .i64 6] W fun e w' => e = .returned (.bool true) ∧ w' = W) := fun W => by have := refHas6 W n n0 m1; rw [h6] at this; exact this
  clear h5 h6 hn hb
  go_enter Try.func31, Try.ntmps31
  go_wp2_with fail
  refine cR.mono ?_; rintro e w1 ⟨rfl, k1⟩
  have h1 := h.kp k1 (fun _ _ f => f)
  replace c0 := cell_kp c0 k1 (fun f => f)
  replace c1 := cell_kp c1 k1 (fun f => f)
  clear cR h
  go_wp2_with fail
  refine wp_loop_rounds 3 ?_
  rw [rounds_succ]
  go_wp2_with fail
  refine (H5.out _).mono ?_; rintro e w' ⟨rfl, hw⟩; replace hw := hw.symm; subst hw
  go_wp2_with fail
  rw [rounds_succ]
  go_wp2_with fail
  refine (H6.out _).mono ?_; rintro e w' ⟨rfl, hw⟩; replace hw := hw.symm; subst hw
  go_wp2_with fail
  rw [rounds_succ]
  go_wp2_with fail
  go_end0
  exact ⟨rfl, h1, kp_no k1⟩

set_option maxRecDepth 100000 in
set_option maxHeartbeats 1000000 in
theorem refMark_wyn (w : World) (R : Rf) (M : Mem) (h : RefAt w R M) (hb : RdB M) (a : Int) (a0 : 0 ≤ a) (a1 : a < 4294967296) (n : Int) (hn : M.read a 4 = n) (n0 : 0 ≤ n) (n1 : (n + 64) < 4294967296) (h5 : hasF n 32 = true) (h6 : hasF n 64 = false) (Y : Nat) (hY : ¬ R.has Y) (c0 : w.cell? ⟨Y, 0, none⟩ = some (.int .i64 5)) (c1 : w.cell? ⟨Y, 1, none⟩ = some (.int .i64 6)) :
    Calls Try.prog 31 #[.pointer (some ⟨R.r, 0, none⟩), .int .u32 a, .slice (some ⟨Y, 0, none⟩) 2 2] w fun e w' => e = .returned (.tuple #[]) ∧ RefAt w' R (M.lay false a (bytesV (n + 64))) ∧ Kp R.has w w' := by
  have cR := refRead_ok w R M h hb a 4 a0 a1 rfl
  rw [show (4 : Int).toNat = 4 from rfl, hn] at cR
  have m1 : n < 4294967296 := by omega
  obtain ⟨z, hz⟩ : ∃ z, n + 64 = z := ⟨_, rfl⟩
  rw [hz] at n1 ⊢
  have z0 : 0 ≤ z := by omega
  have hnz : (z != n) = true := by simp; omega
  have HW : Hid (∀ W, RefAt W R M → Calls Try.prog 15 #[.pointer (some ⟨R.r, 0, none⟩), .int .u32 a, .int .i64 4, .int .u32 z] W fun e w' => e = .returned (.int .i64 0) ∧ RefAt w' R (M.lay false a (bytesV z)) ∧ Kp R.has W w') := fun W hW => refWrite_ok W R M hW a 4 z a0 a1 z0 n1 rfl
  have H5 : Hid (∀ W, Calls Try.prog 30 #[.int .u32 n, .int .i64 5] W fun e w' => e = .returned (.bool true) ∧ w' = W) := fun W => by have := refHas5 W n n0 m1; rw [h5] at this; exact this
  have H6 : Hid (∀ W, Calls Try.prog 30 #[.int .u32 n, .int .i64 6] W fun e w' => e = .returned (.bool false) ∧ w' = W) := fun W => by have := refHas6 W n n0 m1; rw [h6] at this; exact this
  clear h5 h6 hn hb
  go_enter Try.func31, Try.ntmps31
  go_wp2_with fail
  refine cR.mono ?_; rintro e w1 ⟨rfl, k1⟩
  have h1 := h.kp k1 (fun _ _ f => f)
  replace c0 := cell_kp c0 k1 (fun f => f)
  replace c1 := cell_kp c1 k1 (fun f => f)
  clear cR h
  go_wp2_with fail
  refine wp_loop_rounds 3 ?_
  rw [rounds_succ]
  go_wp2_with fail
  refine (H5.out _).mono ?_; rintro e w' ⟨rfl, hw⟩; replace hw := hw.symm; subst hw
  go_wp2_with fail
  rw [rounds_succ]
  go_wp2_with fail
  refine (H6.out _).mono ?_; rintro e w' ⟨rfl, hw⟩; replace hw := hw.symm; subst hw
  go_wp2_with fail
  rw [rounds_succ]
  go_wp2_with fail
  refine (HW.out _ h1).mono ?_; rintro e w2 ⟨rfl, h2, k2⟩
  go_wp2
  go_end0
  exact ⟨rfl, h2, (kp_no k1).trans k2⟩

set_option maxRecDepth 100000 in
set_option maxHeartbeats 1000000 in
theorem refMark_wny (w : World) (R : Rf) (M : Mem) (h : RefAt w R M) (hb : RdB M) (a : Int) (a0 : 0 ≤ a) (a1 : a < 4294967296) (n : Int) (hn : M.read a 4 = n) (n0 : 0 ≤ n) (n1 : (n + 32) < 4294967296) (h5 : hasF n 32 = false) (h6 : hasF (n + 32) 64 = true) (Y : Nat) (hY : ¬ R.has Y) (c0 : w.cell? ⟨Y, 0, none⟩ = some (.int .i64 5)) (c1 : w.cell? ⟨Y, 1, none⟩ = some (.int .i64 6)) :
    Calls Try.prog 31 #[.pointer (some ⟨R.r, 0, none⟩), .int .u32 a, .slice (some ⟨Y, 0, none⟩) 2 2] w fun e w' => e = .returned (.tuple #[]) ∧ RefAt w' R (M.lay false a (bytesV (n + 32))) ∧ Kp R.has w w' := by
  have cR := refRead_ok w R M h hb a 4 a0 a1 rfl
  rw [show (4 : Int).toNat = 4 from rfl, hn] at cR
  have m1 : n < 4294967296 := by omega
  obtain ⟨m, hm⟩ : ∃ m, n + 32 = m := ⟨_, rfl⟩
  rw [hm] at h6 n1 ⊢
  have m0 : 0 ≤ m := by omega
  have z0 : 0 ≤ m := by omega
  have hnz : (m != n) = true := by simp; omega
  have HW : Hid (∀ W, RefAt W R M → Calls Try.prog 15 #[.pointer (some ⟨R.r, 0, none⟩), .int .u32 a, .int .i64 4, .int .u32 m] W fun e w' => e = .returned (.int .i64 0) ∧ RefAt w' R (M.lay false a (bytesV m)) ∧ Kp R.has W w') := fun W hW => refWrite_ok W R M hW a 4 m a0 a1 z0 n1 rfl
  have H5 : Hid (∀ W, Calls Try.prog 30 #[.int .u32 n, .int .i64 5] W fun e w' => e = .returned (.bool false) ∧ w' = W) := fun W => by have := refHas5 W n n0 m1; rw [h5] at this; exact this
  have H6 : Hid (∀ W, Calls Try.prog 30 #[.int .u32 m, .int .i64 6] W fun e w' => e = .returned (.bool true) ∧ w' = W) := fun W => by have := refHas6 W m m0 (by omega); rw [h6] at this; exact this
  clear h5 h6 hn hb
  go_enter Try.func31, Try.ntmps31
  go_wp2_with fail
  refine cR.mono ?_; rintro e w1 ⟨rfl, k1⟩
  have h1 := h.kp k1 (fun _ _ f => f)
  replace c0 := cell_kp c0 k1 (fun f => f)
  replace c1 := cell_kp c1 k1 (fun f => f)
  clear cR h
  go_wp2_with fail
  refine wp_loop_rounds 3 ?_
  rw [rounds_succ]
  go_wp2_with fail
  refine (H5.out _).mono ?_; rintro e w' ⟨rfl, hw⟩; replace hw := hw.symm; subst hw
  go_wp2_with fail
  rw [rounds_succ]
  go_wp2_with fail
  refine (H6.out _).mono ?_; rintro e w' ⟨rfl, hw⟩; replace hw := hw.symm; subst hw
  go_wp2_with fail
  rw [rounds_succ]
  go_wp2_with fail
  refine (HW.out _ h1).mono ?_; rintro e w2 ⟨rfl, h2, k2⟩
  go_wp2
  go_end0
  exact ⟨rfl, h2, (kp_no k1).trans k2⟩

set_option maxRecDepth 100000 in
set_option maxHeartbeats 1000000 in
theorem refMark_wnn (w : World) (R : Rf) (M : Mem) (h : RefAt w R M) (hb : RdB M) (a : Int) (a0 : 0 ≤ a) (a1 : a < 4294967296) (n : Int) (hn : M.read a 4 = n) (n0 : 0 ≤ n) (n1 : (n + 32 + 64) < 4294967296) (h5 : hasF n 32 = false) (h6 : hasF (n + 32) 64 = false) (Y : Nat) (hY : ¬ R.has Y) (c0 : w.cell? ⟨Y, 0, none⟩ = some (.int .i64 5)) (c1 : w.cell? ⟨Y, 1, none⟩ = some (.int .i64 6)) :
    Calls Try.prog 31 #[.pointer (some ⟨R.r, 0, none⟩), .int .u32 a, .slice (some ⟨Y, 0, none⟩) 2 2] w fun e w' => e = .returned (.tuple #[]) ∧ RefAt w' R (M.lay false a (bytesV (n + 32 + 64))) ∧ Kp R.has w w' := by
  have cR := refRead_ok w R M h hb a 4 a0 a1 rfl
  rw [show (4 : Int).toNat = 4 from rfl, hn] at cR
  have m1 : n < 4294967296 := by omega
  obtain ⟨m, hm⟩ : ∃ m, n + 32 = m := ⟨_, rfl⟩
  rw [hm] at h6 n1 ⊢
  obtain ⟨z, hz⟩ : ∃ z, m + 64 = z := ⟨_, rfl⟩
  rw [hz] at n1 ⊢
  have m2 : m < 4294967296 := by omega
  have m0 : 0 ≤ m := by omega
  have z0 : 0 ≤ z := by omega
  have hnz : (z != n) = true := by simp; omega
  have HW : Hid (∀ W, RefAt W R M → Calls Try.prog 15 #[.pointer (some ⟨R.r, 0, none⟩), .int .u32 a, .int .i64 4, .int .u32 z] W fun e w' => e = .returned (.int .i64 0) ∧ RefAt w' R (M.lay false a (bytesV z)) ∧ Kp R.has W w') := fun W hW => refWrite_ok W R M hW a 4 z a0 a1 z0 n1 rfl
  have H5 : Hid (∀ W, Calls Try.prog 30 #[.int .u32 n, .int .i64 5] W fun e w' => e = .returned (.bool false) ∧ w' = W) := fun W => by have := refHas5 W n n0 m1; rw [h5] at this; exact this
  have H6 : Hid (∀ W, Calls Try.prog 30 #[.int .u32 m, .int .i64 6] W fun e w' => e = .returned (.bool false) ∧ w' = W) := fun W => by have := refHas6 W m m0 (by omega); rw [h6] at this; exact this
  clear h5 h6 hn hb
  go_enter Try.func31, Try.ntmps31
  go_wp2_with fail
  refine cR.mono ?_; rintro e w1 ⟨rfl, k1⟩
  have h1 := h.kp k1 (fun _ _ f => f)
  replace c0 := cell_kp c0 k1 (fun f => f)
  replace c1 := cell_kp c1 k1 (fun f => f)
  clear cR h
  go_wp2_with fail
  refine wp_loop_rounds 3 ?_
  rw [rounds_succ]
  go_wp2_with fail
  refine (H5.out _).mono ?_; rintro e w' ⟨rfl, hw⟩; replace hw := hw.symm; subst hw
  go_wp2_with fail
  rw [rounds_succ]
  go_wp2_with fail
  refine (H6.out _).mono ?_; rintro e w' ⟨rfl, hw⟩; replace hw := hw.symm; subst hw
  go_wp2_with fail
  rw [rounds_succ]
  go_wp2_with fail
  refine (HW.out _ h1).mono ?_; rintro e w2 ⟨rfl, h2, k2⟩
  go_wp2
  go_end0
  exact ⟨rfl, h2, (kp_no k1).trans k2⟩

/-- The list of bits that is handed on. -/
def BitsAt (w : World) (Y : Nat) (wr : Bool) : Prop := w.cell? ⟨Y, 0, none⟩ = some (.int .i64 5) ∧ (wr = true → w.cell? ⟨Y, 1, none⟩ = some (.int .i64 6))

theorem refMark_r (w : World) (R : Rf) (M : Mem) (h : RefAt w R M) (hb : RdB M) (a : Int) (a0 : 0 ≤ a) (a1 : a < 4294967296) (Y : Nat) (hY : ¬ R.has Y) (c0 : w.cell? ⟨Y, 0, none⟩ = some (.int .i64 5)) :
    Calls Try.prog 31 #[.pointer (some ⟨R.r, 0, none⟩), .int .u32 a, .slice (some ⟨Y, 0, none⟩) 1 1] w fun e w' => e = .returned (.tuple #[]) ∧ RefAt w' R (markM M a false) ∧ Kp R.has w w' := by
  obtain ⟨n0, n1⟩ := hb.read a
  have wb := markW_bd n0 n1 false
  have e : markW (M.read a 4) false = setF (M.read a 4) 32 true := rfl
  cases h5 : hasF (M.read a 4) 32
  · rw [e, set_no h5] at wb
    have hne : ¬ markW (M.read a 4) false = M.read a 4 := by rw [e, set_no h5]; omega
    unfold markM
    rw [if_neg hne, e, set_no h5]
    exact refMark_rn w R M h hb a a0 a1 _ rfl n0 wb.2 h5 Y hY c0
  · have heq : markW (M.read a 4) false = M.read a 4 := by rw [e, set_yes h5]
    unfold markM
    rw [if_pos heq]
    exact refMark_ry w R M h hb a a0 a1 _ rfl n0 n1 h5 Y hY c0

theorem refMark_w (w : World) (R : Rf) (M : Mem) (h : RefAt w R M) (hb : RdB M) (a : Int) (a0 : 0 ≤ a) (a1 : a < 4294967296) (Y : Nat) (hY : ¬ R.has Y) (c0 : w.cell? ⟨Y, 0, none⟩ = some (.int .i64 5)) (c1 : w.cell? ⟨Y, 1, none⟩ = some (.int .i64 6)) :
    Calls Try.prog 31 #[.pointer (some ⟨R.r, 0, none⟩), .int .u32 a, .slice (some ⟨Y, 0, none⟩) 2 2] w fun e w' => e = .returned (.tuple #[]) ∧ RefAt w' R (markM M a true) ∧ Kp R.has w w' := by
  obtain ⟨n0, n1⟩ := hb.read a
  have wb := markW_bd n0 n1 true
  have e : markW (M.read a 4) true = setF (setF (M.read a 4) 32 true) 64 true := rfl
  cases h5 : hasF (M.read a 4) 32
  · rw [set_no h5] at e
    cases h6 : hasF (M.read a 4 + 32) 64
    · rw [set_no h6] at e
      rw [e] at wb
      have hne : ¬ markW (M.read a 4) true = M.read a 4 := by rw [e]; omega
      unfold markM
      rw [if_neg hne, e]
      exact refMark_wnn w R M h hb a a0 a1 _ rfl n0 wb.2 h5 h6 Y hY c0 c1
    · rw [set_yes h6] at e
      rw [e] at wb
      have hne : ¬ markW (M.read a 4) true = M.read a 4 := by rw [e]; omega
      unfold markM
      rw [if_neg hne, e]
      exact refMark_wny w R M h hb a a0 a1 _ rfl n0 wb.2 h5 h6 Y hY c0 c1
  · rw [set_yes h5] at e
    cases h6 : hasF (M.read a 4) 64
    · rw [set_no h6] at e
      rw [e] at wb
      have hne : ¬ markW (M.read a 4) true = M.read a 4 := by rw [e]; omega
      unfold markM
      rw [if_neg hne, e]
      exact refMark_wyn w R M h hb a a0 a1 _ rfl n0 wb.2 h5 h6 Y hY c0 c1
    · rw [set_yes h6] at e
      unfold markM
      rw [if_pos e]
      exact refMark_wyy w R M h hb a a0 a1 _ rfl n0 n1 h5 h6 Y hY c0 c1
end Go.Proofs.Ytljlcejnadmgkaa
