/- Contracts of the document's shifts and of its Do of layer 2 (package drawloomref02): for every input within their kinds they return what is named, and the world stays. -/
import Derived.Test.YtnfbflbghlmdjaaShiftRefMov
namespace Go.Proofs.Ytnfbflbghlmdjaa
open Go.ChangeShapes Go.WideShapes Go.ChangeAt Go.RowKit
set_option linter.unusedVariables false

theorem moved_ok {s H M : Int} {W : Nat} (hS : Sw s H M W) (op x f : Int) (k : Nat) (w : World) (o0 : 4 ≤ op) (o1 : op ≤ 7) (x0 : 0 ≤ x) (x1 : x < M) (k1 : 1 ≤ k) (k2 : k ≤ 31) (f0 : 0 ≤ f) (f1 : f < 4294967296) :
    Calls Try.prog 23 #[.int .i64 op, .int .u64 x, .int .i64 (W : Int), .int .i64 (k : Int), .int .u32 f] w fun e w' =>
      e = .returned (.tuple #[.int .u64 (mvR op H M W x k (tb f 0)), .int .u32 (byF H (mvR op H M W x k (tb f 0)) (setF (setF (setF f 1 (mvC op H M W x k (tb f 0))) 2048 (mvV op H M W x k (tb f 0))) 16 false))]) ∧ w' = w := by
  have cases : op = 4 ∨ op = 6 ∨ op = 5 ∨ op = 7 := by omega
  have ec := tb_shl x0 k W
  rcases hS with ⟨rfl, rfl, rfl, rfl⟩ | ⟨rfl, rfl, rfl, rfl⟩ | ⟨rfl, rfl, rfl, rfl⟩ <;> rcases cases with rfl | rfl | rfl | rfl
  · by_cases kw : k ≤ 8
    · have e1 : tb (x * ((2 ^ k : Nat) : Int)) 8 = tb x (8 - k) := by rw [ec]; simp [kw]
      have h := mov_4a_8 x f k w x0 x1 k1 k2 f0 f1 kw
      rw [pw_cast, ← e1, swap_af f0 f1] at h
      exact h
    · have e1 : tb (x * ((2 ^ k : Nat) : Int)) 8 = false := by rw [ec]; simp [kw]
      have h := mov_4b_8 x f k w x0 x1 k1 k2 f0 f1 (by omega)
      have eC : mvC 4 128 256 8 x k (tb f 0) = false := e1
      have eV : mvV 4 128 256 8 x k (tb f 0) = tb (x * ((2 ^ k : Nat) : Int) % 256) 7 := by
        show (tb (x * ((2 ^ k : Nat) : Int)) 8 != tb (x * ((2 ^ k : Nat) : Int) % 256) 7) = _
        rw [e1]; cases tb (x * ((2 ^ k : Nat) : Int) % 256) 7 <;> rfl
      rw [pw_cast, swap_af f0 f1] at h
      rw [eC, eV]
      exact h
  · by_cases kw : k ≤ 8
    · have e1 : tb (x * ((2 ^ k : Nat) : Int)) 8 = tb x (8 - k) := by rw [ec]; simp [kw]
      have h := mov_6a_8 x f k w x0 x1 k1 k2 f0 f1 kw
      rw [pw_cast, ← e1, swap_af f0 f1] at h
      exact h
    · have e1 : tb (x * ((2 ^ k : Nat) : Int)) 8 = false := by rw [ec]; simp [kw]
      have h := mov_6b_8 x f k w x0 x1 k1 k2 f0 f1 (by omega)
      have eC : mvC 6 128 256 8 x k (tb f 0) = false := e1
      have eV : mvV 6 128 256 8 x k (tb f 0) = tb (x * ((2 ^ k : Nat) : Int) % 256) 7 := by
        show (tb (x * ((2 ^ k : Nat) : Int)) 8 != tb (x * ((2 ^ k : Nat) : Int) % 256) 7) = _
        rw [e1]; cases tb (x * ((2 ^ k : Nat) : Int) % 256) 7 <;> rfl
      rw [pw_cast, swap_af f0 f1] at h
      rw [eC, eV]
      exact h
  · have h := mov_5_8 x f k w x0 x1 k1 k2 f0 f1
    rw [pw_cast, swap_af f0 f1] at h
    exact h
  · have hs := sv1.sgn x0 x1
    cases ht : tb x 7
    · have q := sar_low sv1 x0 (by rw [show 8 - 1 = 7 from rfl, ht] at hs; simpa [sgn] using hs) k
      have h := mov_7a_8 x f k w x0 x1 k1 k2 f0 f1 ht
      rw [pw_cast, q.1, q.2, swap_af f0 f1] at h
      exact h
    · have q := sar_wide sv1 x0 x1 (by rw [show 8 - 1 = 7 from rfl, ht] at hs; simpa [sgn] using hs) k1 k2
      have h := mov_7b_8 x f k w x0 x1 k1 k2 f0 f1 ht
      rw [show wideAt x 256 64 = x + 18446744073709551616 - 256 from rfl, pw_cast, q.1, q.2, swap_af f0 f1] at h
      exact h
  · by_cases kw : k ≤ 16
    · have e1 : tb (x * ((2 ^ k : Nat) : Int)) 16 = tb x (16 - k) := by rw [ec]; simp [kw]
      have h := mov_4a_16 x f k w x0 x1 k1 k2 f0 f1 kw
      rw [pw_cast, ← e1, swap_af f0 f1] at h
      exact h
    · have e1 : tb (x * ((2 ^ k : Nat) : Int)) 16 = false := by rw [ec]; simp [kw]
      have h := mov_4b_16 x f k w x0 x1 k1 k2 f0 f1 (by omega)
      have eC : mvC 4 32768 65536 16 x k (tb f 0) = false := e1
      have eV : mvV 4 32768 65536 16 x k (tb f 0) = tb (x * ((2 ^ k : Nat) : Int) % 65536) 15 := by
        show (tb (x * ((2 ^ k : Nat) : Int)) 16 != tb (x * ((2 ^ k : Nat) : Int) % 65536) 15) = _
        rw [e1]; cases tb (x * ((2 ^ k : Nat) : Int) % 65536) 15 <;> rfl
      rw [pw_cast, swap_af f0 f1] at h
      rw [eC, eV]
      exact h
  · by_cases kw : k ≤ 16
    · have e1 : tb (x * ((2 ^ k : Nat) : Int)) 16 = tb x (16 - k) := by rw [ec]; simp [kw]
      have h := mov_6a_16 x f k w x0 x1 k1 k2 f0 f1 kw
      rw [pw_cast, ← e1, swap_af f0 f1] at h
      exact h
    · have e1 : tb (x * ((2 ^ k : Nat) : Int)) 16 = false := by rw [ec]; simp [kw]
      have h := mov_6b_16 x f k w x0 x1 k1 k2 f0 f1 (by omega)
      have eC : mvC 6 32768 65536 16 x k (tb f 0) = false := e1
      have eV : mvV 6 32768 65536 16 x k (tb f 0) = tb (x * ((2 ^ k : Nat) : Int) % 65536) 15 := by
        show (tb (x * ((2 ^ k : Nat) : Int)) 16 != tb (x * ((2 ^ k : Nat) : Int) % 65536) 15) = _
        rw [e1]; cases tb (x * ((2 ^ k : Nat) : Int) % 65536) 15 <;> rfl
      rw [pw_cast, swap_af f0 f1] at h
      rw [eC, eV]
      exact h
  · have h := mov_5_16 x f k w x0 x1 k1 k2 f0 f1
    rw [pw_cast, swap_af f0 f1] at h
    exact h
  · have hs := sv2.sgn x0 x1
    cases ht : tb x 15
    · have q := sar_low sv2 x0 (by rw [show 16 - 1 = 15 from rfl, ht] at hs; simpa [sgn] using hs) k
      have h := mov_7a_16 x f k w x0 x1 k1 k2 f0 f1 ht
      rw [pw_cast, q.1, q.2, swap_af f0 f1] at h
      exact h
    · have q := sar_wide sv2 x0 x1 (by rw [show 16 - 1 = 15 from rfl, ht] at hs; simpa [sgn] using hs) k1 k2
      have h := mov_7b_16 x f k w x0 x1 k1 k2 f0 f1 ht
      rw [show wideAt x 65536 64 = x + 18446744073709551616 - 65536 from rfl, pw_cast, q.1, q.2, swap_af f0 f1] at h
      exact h
  · have kw : k ≤ 32 := by omega
    have e1 : tb (x * ((2 ^ k : Nat) : Int)) 32 = tb x (32 - k) := by rw [ec]; simp [kw]
    have h := mov_4a_32 x f k w x0 x1 k1 k2 f0 f1 kw
    rw [pw_cast, ← e1, swap_af f0 f1] at h
    exact h
  · have kw : k ≤ 32 := by omega
    have e1 : tb (x * ((2 ^ k : Nat) : Int)) 32 = tb x (32 - k) := by rw [ec]; simp [kw]
    have h := mov_6a_32 x f k w x0 x1 k1 k2 f0 f1 kw
    rw [pw_cast, ← e1, swap_af f0 f1] at h
    exact h
  · have h := mov_5_32 x f k w x0 x1 k1 k2 f0 f1
    rw [pw_cast, swap_af f0 f1] at h
    exact h
  · have hs := sv4.sgn x0 x1
    cases ht : tb x 31
    · have q := sar_low sv4 x0 (by rw [show 32 - 1 = 31 from rfl, ht] at hs; simpa [sgn] using hs) k
      have h := mov_7a_32 x f k w x0 x1 k1 k2 f0 f1 ht
      rw [pw_cast, q.1, q.2, swap_af f0 f1] at h
      exact h
    · have q := sar_wide sv4 x0 x1 (by rw [show 32 - 1 = 31 from rfl, ht] at hs; simpa [sgn] using hs) k1 k2
      have h := mov_7b_32 x f k w x0 x1 k1 k2 f0 f1 ht
      rw [show wideAt x 4294967296 64 = x + 18446744073709551616 - 4294967296 from rfl, pw_cast, q.1, q.2, swap_af f0 f1] at h
      exact h

theorem wrap32 {r M : Int} (h : 0 ≤ r ∧ r < M) (hM : M ≤ 4294967296) : 0 ≤ r ∧ r < 4294967296 := ⟨h.1, by omega⟩

theorem Do_ref_size (op s a n f : Int) (w : World) (hk : okSize s = false) :
    Calls Try.prog 11 #[.int .i64 op, .int .i64 s, .int .u32 a, .int .u32 n, .int .u32 f] w fun e w' =>
      e = .returned (.tuple #[.int .u32 0, .int .u32 0, .int .i64 2]) ∧ w' = w := by
  go_enter Try.func11, Try.ntmps11
  go_wp2_with fail
  refine (Bits_no _ _ hk).mono ?_; rintro e w1 ⟨rfl, hw⟩; replace hw := hw.symm; subst hw
  go_wp2
  go_ret3
  exact ⟨rfl, rfl⟩

theorem Do_ref_op {s H M : Int} {W : Nat} (hS : Sw s H M W) (op a n f : Int) (w : World) (ho : op < 0 ∨ 7 < op) :
    Calls Try.prog 11 #[.int .i64 op, .int .i64 s, .int .u32 a, .int .u32 n, .int .u32 f] w fun e w' =>
      e = .returned (.tuple #[.int .u32 0, .int .u32 0, .int .i64 3]) ∧ w' = w := by
  obtain ⟨sp, hz⟩ := hS.sz
  have nb : ((W : Int) == 0) = false := by have := hS.pow.2.2.1; simp; omega
  rcases ho with ho | ho
  · have g1 : decide (op < 0) = true := by simpa using ho
    go_enter Try.func11, Try.ntmps11
    go_wp2_with fail
    refine (Bits_ok hz _).mono ?_; rintro e w1 ⟨rfl, hw⟩; replace hw := hw.symm; subst hw
    go_wp2
    go_ret3
    exact ⟨rfl, rfl⟩
  · have g1 : decide (op < 0) = false := by simp; omega
    have g2 : decide (7 < op) = true := by simpa using ho
    go_enter Try.func11, Try.ntmps11
    go_wp2_with fail
    refine (Bits_ok hz _).mono ?_; rintro e w1 ⟨rfl, hw⟩; replace hw := hw.symm; subst hw
    go_wp2
    go_ret3
    exact ⟨rfl, rfl⟩

set_option maxRecDepth 20000 in
set_option maxHeartbeats 1000000 in
theorem Do_ref_ok {s H M : Int} {W : Nat} (hS : Sw s H M W) (op a n f : Int) (k : Nat) (w : World) (o0 : 0 ≤ op) (o1 : op ≤ 7) (a0 : 0 ≤ a) (a1 : a < 4294967296) (n0 : 0 ≤ n) (n1 : n < 4294967296) (f0 : 0 ≤ f) (f1 : f < 4294967296) (hk : n % 32 = (k : Int)) :
    Calls Try.prog 11 #[.int .i64 op, .int .i64 s, .int .u32 a, .int .u32 n, .int .u32 f] w fun e w' =>
      e = .returned (.tuple #[.int .u32 (shR op H M W a k f), .int .u32 (shF op H M W a k f), .int .i64 0]) ∧ w' = w := by
  obtain ⟨sp, hz⟩ := hS.sz
  have p := hS.pow
  have nb : ((W : Int) == 0) = false := by simp; omega
  have hx := mod_bd (M := M) (by omega) a
  have x0 := hx.1
  have x1 := hx.2
  have x2 : a % M < 4294967296 := by omega
  have g1 : decide (op < 0) = false := by simp; omega
  have g2 : decide (7 < op) = false := by simp; omega
  have k2 : k ≤ 31 := by omega
  have hwa : IntKind.u64.wrap a = a := by rw [wrap_u64']; omega
  have R : Hid _ := wrap32 (mvR_bd hS x0 x1 op k (tb f 0)) p.2.2.2.2.1
  clear hx p
  by_cases hz0 : k = 0
  · have e1 : shR op H M W a k f = a % M := by unfold shR; rw [if_pos hz0]
    have e2 : shF op H M W a k f = f := by unfold shF; rw [if_pos hz0]
    rw [e1, e2]
    subst hz0
    clear R e1 e2
    go_enter Try.func11, Try.ntmps11
    go_wp2_with fail
    refine (Bits_ok hz _).mono ?_; rintro e w1 ⟨rfl, hw⟩; replace hw := hw.symm; subst hw
    go_wp2_with fail
    refine (Cut_any hz _ _ a0 (by omega)).mono ?_; rintro e w1 ⟨rfl, hw⟩; replace hw := hw.symm; subst hw
    go_wp2
    go_ret3
    exact ⟨rfl, rfl⟩
  · have e1 : shR op H M W a k f = mvR op H M W (a % M) k (tb f 0) := by unfold shR; rw [if_neg hz0]
    have e2 : shF op H M W a k f = mvF op H M W (a % M) k f := by unfold shF; rw [if_neg hz0]
    rw [e1, e2]
    have k1 : 1 ≤ k := by omega
    have nk : ((k : Int) == 0) = false := by simp; omega
    clear e1 e2 hz0
    by_cases ho : op < 4
    · have g3 : decide (op < 4) = true := by simpa using ho
      have e3 : mvF op H M W (a % M) k f = setF (setF f 1 (mvC op H M W (a % M) k (tb f 0))) 2048 (mvV op H M W (a % M) k (tb f 0)) := by unfold mvF; rw [if_pos ho]
      rw [e3]
      clear e3
      have r0 := R.out.1
      have r1 := R.out.2
      go_enter Try.func11, Try.ntmps11
      go_wp2_with fail
      refine (Bits_ok hz _).mono ?_; rintro e w1 ⟨rfl, hw⟩; replace hw := hw.symm; subst hw
      go_wp2_with fail
      refine (Cut_any hz _ _ a0 (by omega)).mono ?_; rintro e w1 ⟨rfl, hw⟩; replace hw := hw.symm; subst hw
      go_wp2_with fail
      refine (rotate_ok hS _ _ _ k _ o0 (by omega) x0 x1 k1 k2 f0 f1).mono ?_; rintro e w1 ⟨rfl, hw⟩; replace hw := hw.symm; subst hw
      go_wp2
      go_ret3
      exact ⟨rfl, rfl⟩
    · have g3 : decide (op < 4) = false := by simp; omega
      have e3 : mvF op H M W (a % M) k f = byF H (mvR op H M W (a % M) k (tb f 0)) (setF (setF (setF f 1 (mvC op H M W (a % M) k (tb f 0))) 2048 (mvV op H M W (a % M) k (tb f 0))) 16 false) := by unfold mvF; rw [if_neg ho]
      rw [e3]
      clear e3
      have r0 := R.out.1
      have r1 := R.out.2
      go_enter Try.func11, Try.ntmps11
      go_wp2_with fail
      refine (Bits_ok hz _).mono ?_; rintro e w1 ⟨rfl, hw⟩; replace hw := hw.symm; subst hw
      go_wp2_with fail
      refine (Cut_any hz _ _ a0 (by omega)).mono ?_; rintro e w1 ⟨rfl, hw⟩; replace hw := hw.symm; subst hw
      go_wp2_with fail
      refine (moved_ok hS _ _ _ k _ (by omega) o1 x0 x1 k1 k2 f0 f1).mono ?_; rintro e w1 ⟨rfl, hw⟩; replace hw := hw.symm; subst hw
      go_wp2
      go_ret3
      exact ⟨rfl, rfl⟩
end Go.Proofs.Ytnfbflbghlmdjaa
