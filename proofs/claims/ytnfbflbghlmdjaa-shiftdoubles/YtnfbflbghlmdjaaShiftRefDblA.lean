/- The contract of the document's Double of layer 2 (package drawloomref02), its walks: for every input within its kinds it returns what is named, and the world has at most new blocks. -/
import Derived.Test.YtnfbflbghlmdjaaShiftRefRow
namespace Go.Proofs.Ytnfbflbghlmdjaa
open Go.ChangeShapes Go.WideShapes Go.ChangeAt Go.RowKit
set_option linter.unusedVariables false

theorem num_lt (g : Nat → Bool) {j : Nat} (hj : j < 32) : num g j + 2 ^ j < 18446744073709551616 := by
  have b := num_bd g j
  have p : (2 : Nat) ^ j ≤ 2 ^ 31 := Nat.pow_le_pow_right (by decide) (by omega)
  have e31 : (2 : Nat) ^ 31 = 2147483648 := by decide
  rw [e31] at p
  rw [pw_cast] at b ⊢
  omega

theorem mk_true_48 (w : World) : Sem.run Try.prog (Instr.makeSlice 50 (.int .i64 48) (.int .i64 48)) w = .ok (.slice (some ⟨w.heap.size, 0, none⟩) 48 48) (w.alloc (.cells (Array.replicate 48 (.bool false)) 4)) := by kernel_rfl

set_option maxRecDepth 20000 in
set_option maxHeartbeats 2000000 in
theorem Double_ref_16_true (a b n f : Int) (k : Nat) (w : World) (a0 : 0 ≤ a) (a1 : a < 4294967296) (b0 : 0 ≤ b) (b1 : b < 4294967296) (n0 : 0 ≤ n) (n1 : n < 4294967296) (f0 : 0 ≤ f) (f1 : f < 4294967296) (hk : n % 32 = (k : Int)) (k1 : 1 ≤ k) (k2 : k ≤ 31) :
    Calls Try.prog 13 #[.bool true, .int .i64 2, .int .u32 a, .int .u32 b, .int .u32 n, .int .u32 f] w fun e w' =>
      e = .returned (.tuple #[.int .u32 (dR true 16 (a % 65536) (b % 65536) k), .int .u32 (dF true 32768 16 (a % 65536) (b % 65536) k f), .int .i64 0]) ∧ Grown w w' := by
  have hmk := mk_true_48
  have nk : ((k : Int) == 0) = false := by simp; omega
  have x0 : 0 ≤ (a % 65536) := by omega
  have x1 : (a % 65536) < 65536 := by omega
  have y0 : 0 ≤ (b % 65536) := by omega
  have y1 : (b % 65536) < 65536 := by omega
  have T : Hid _ := rows_bits (W := 16) x0 x1 y0 y1 true
  have RB : Hid (0 ≤ dR true 16 (a % 65536) (b % 65536) k ∧ dR true 16 (a % 65536) (b % 65536) k < 65536) := dR_bd _ _ _ _ _
  have B1 : Hid _ := bd1 f0 f1 16 fl16 false
  have B2 : Hid _ := bd1 B1.out.1 B1.out.2 1 fl1 (dC true 16 (a % 65536) (b % 65536) k)
  have B3 : Hid _ := bd1 B2.out.1 B2.out.2 2048 fl2048 (tb (dR true 16 (a % 65536) (b % 65536) k) 15 != tb (a % 65536) 15)
  have HF : Hid (byF 32768 (dR true 16 (a % 65536) (b % 65536) k) (setF (setF (setF f 16 false) 1 (dC true 16 (a % 65536) (b % 65536) k)) 2048 (tb (dR true 16 (a % 65536) (b % 65536) k) 15 != tb (a % 65536) 15)) = dF true 32768 16 (a % 65536) (b % 65536) k f) := (by
    rw [swap_af f0 f1, bne_swap]; rfl : byF 32768 (dR true 16 (a % 65536) (b % 65536) k) (setF (setF (setF f 16 false) 1 (dC true 16 (a % 65536) (b % 65536) k)) 2048 (tb (dR true 16 (a % 65536) (b % 65536) k) 15 != tb (a % 65536) 15)) = dF true 32768 16 (a % 65536) (b % 65536) k f)
  go_enter Try.func13, Try.ntmps13
  go_wp2_with fail
  refine (Cut_any sz2 _ _ a0 (by omega)).mono ?_; rintro e w1 ⟨rfl, hw⟩; replace hw := hw.symm; subst hw
  go_wp2_with fail
  refine (Cut_any sz2 _ _ b0 (by omega)).mono ?_; rintro e w1 ⟨rfl, hw⟩; replace hw := hw.symm; subst hw
  go_wp2
  clear hmk
  have HK : Hid _ := hk
  clear hk
  go_loopw [20] (fun i wr => ∃ j : Nat, j ≤ 16 ∧ i = .int .i64 j ∧ Row wr w.heap.size 48 (val true 16 (a % 65536) (b % 65536) j) ∧ Grown w wr) (fun i _ => 16 - (intOf i).toNat)
  case atStart => exact ⟨0, by omega, rfl, start_row _ _ _ _ _ _ _, Grown.alloc (Grown.refl _) _ _⟩
  case round =>
    obtain ⟨j, hj, rfl, hrow, hgr⟩ := hrel
    by_cases hlt : j < 16
    · obtain ⟨u1, c1⟩ : ∃ u1, wr.cell? ⟨w.heap.size, j, none⟩ = some u1 := ⟨_, (hrow j (by omega)).1⟩
      have z1 := (hrow j (by omega)).2
      obtain ⟨u2, c2⟩ : ∃ u2, ∀ u, (wr.setCell ⟨w.heap.size, j, none⟩ u).cell? ⟨w.heap.size, 16 + j, none⟩ = some u2 := ⟨_, hrow.c2 (by omega) (by omega)⟩
      have z2 := (hrow (16 + j) (by omega)).2
      obtain ⟨u3, c3⟩ : ∃ u3, ∀ u u', ((wr.setCell ⟨w.heap.size, j, none⟩ u).setCell ⟨w.heap.size, 16 + j, none⟩ u').cell? ⟨w.heap.size, 32 + j, none⟩ = some u3 := ⟨_, hrow.c3 (by omega) (by omega) (by omega)⟩
      have z3 := (hrow (32 + j) (by omega)).2
      have HR : Hid _ := row_step (Or.inl rfl) x0 x1 y0 y1 hlt hrow
      clear hrow
      go_wp2_with fail
      refine (bit_any _ _ _ y0 (by omega) (by omega) (by omega)).mono ?_; rintro e w1 ⟨rfl, hw⟩; replace hw := hw.symm; subst hw
      go_wp2_with fail
      refine (bit_any _ _ _ y0 (by omega) (by omega) (by omega)).mono ?_; rintro e w1 ⟨rfl, hw⟩; replace hw := hw.symm; subst hw
      go_wp2_with fail
      refine (bit_any _ _ _ x0 (by omega) (by omega) (by omega)).mono ?_; rintro e w1 ⟨rfl, hw⟩; replace hw := hw.symm; subst hw
      go_wp2
      go_roundw
      case rel => exact ⟨j + 1, by omega, by go_num, HR.out, Grown.setCell (Grown.setCell (Grown.setCell hgr (Nat.le_refl _) _) (Nat.le_refl _) _) (Nat.le_refl _) _⟩
      case measure => simp [intOf]; omega
    · have hj16 : j = 16 := by omega
      subst hj16
      have hrow2 : Row wr w.heap.size (3 * 16) (tb (dN true 16 (a % 65536) (b % 65536))) := row_done (by decide) hrow
      have HR : Hid _ := hrow2
      clear hrow hrow2 hj hlt
      go_wp2
      go_loop [21, 23] (fun r i => ∃ j : Nat, j ≤ 16 ∧ i = .int .i64 j ∧ r = .int .u64 (num (fun i => tb (dN true 16 (a % 65536) (b % 65536)) ((if true = true then 2 * 16 - k else k) + i)) j)) (fun _ i => 16 - (intOf i).toNat)
      case atStart => exact ⟨0, by omega, rfl, rfl⟩
      case round =>
        obtain ⟨j, hj, rfl, rfl⟩ := hrel
        by_cases hlt : j < 16
        · have cl : wr.cell? ⟨w.heap.size, (32 + j - k), none⟩ = some (.bool ((fun i => tb (dN true 16 (a % 65536) (b % 65536)) ((if true = true then 2 * 16 - k else k) + i)) j)) := by
            rw [(HR.out (32 + j - k) (by omega)).1]
            show some (Value.bool (tb _ _)) = some (Value.bool (tb _ ((if true = true then 2 * 16 - k else k) + j)))
            rw [show (32 + j - k) = (if true = true then 2 * 16 - k else k) + j by simp; omega]
          have N0 : Hid _ := num_bd (fun i => tb (dN true 16 (a % 65536) (b % 65536)) ((if true = true then 2 * 16 - k else k) + i)) j
          have P0 : Hid ((0 : Int) < 2 ^ j) := (Int.pow_pos (by decide) : (0 : Int) < 2 ^ j)
          have HJ : Hid (num (fun i => tb (dN true 16 (a % 65536) (b % 65536)) ((if true = true then 2 * 16 - k else k) + i)) (j + 1) = num (fun i => tb (dN true 16 (a % 65536) (b % 65536)) ((if true = true then 2 * 16 - k else k) + i)) j + (if (fun i => tb (dN true 16 (a % 65536) (b % 65536)) ((if true = true then 2 * 16 - k else k) + i)) j = true then 2 ^ j else 0)) := (rfl : num (fun i => tb (dN true 16 (a % 65536) (b % 65536)) ((if true = true then 2 * 16 - k else k) + i)) (j + 1) = num (fun i => tb (dN true 16 (a % 65536) (b % 65536)) ((if true = true then 2 * 16 - k else k) + i)) j + (if (fun i => tb (dN true 16 (a % 65536) (b % 65536)) ((if true = true then 2 * 16 - k else k) + i)) j = true then 2 ^ j else 0))
          have L0 : Hid (num (fun i => tb (dN true 16 (a % 65536) (b % 65536)) ((if true = true then 2 * 16 - k else k) + i)) j + 2 ^ j < 18446744073709551616) := num_lt _ (by omega)
          revert cl N0 HJ L0
          generalize (fun i => tb (dN true 16 (a % 65536) (b % 65536)) ((if true = true then 2 * 16 - k else k) + i)) = g
          intro cl N0 HJ L0
          cases hb : g j
          · rw [hb] at cl
            go_wp2
            exact ⟨⟨j + 1, by omega, by go_num, by rw [HJ.out, if_neg (by rw [hb]; decide), Int.add_zero]⟩, by simp [intOf]; omega⟩
          · rw [hb] at cl
            go_wp2
            exact ⟨⟨j + 1, by omega, by go_num, by rw [HJ.out, if_pos hb, wide_wrap N0.out.1 P0.out L0.out]⟩, by simp [intOf]; omega⟩
        · have hjW : j = 16 := by omega
          subst hjW
          have hr : num (fun i => tb (dN true 16 (a % 65536) (b % 65536)) ((if true = true then 2 * 16 - k else k) + i)) 16 = dR true 16 (a % 65536) (b % 65536) k := num_is k T.out.1 _ (fun i _ => rfl)
          have co : wr.cell? ⟨w.heap.size, 48 - k, none⟩ = some (.bool (dC true 16 (a % 65536) (b % 65536) k)) := (HR.out (48 - k) (by omega)).1
          rw [hr]
          clear hr hj hlt
          have r0 := RB.out.1
          have r1 := RB.out.2
          go_wp2_with fail
          refine (Set_any _ _ _ _ f0 f1 fl16).mono ?_; rintro e w1 ⟨rfl, hw⟩; replace hw := hw.symm; subst hw
          go_wp2_with fail
          refine (Set_any _ _ _ _ B1.out.1 B1.out.2 fl1).mono ?_; rintro e w1 ⟨rfl, hw⟩; replace hw := hw.symm; subst hw
          go_wp2_with fail
          refine (bit_any _ _ _ r0 (by omega) (by decide) (by decide)).mono ?_; rintro e w1 ⟨rfl, hw⟩; replace hw := hw.symm; subst hw
          go_wp2_with fail
          refine (bit_any _ _ _ x0 (by omega) (by decide) (by decide)).mono ?_; rintro e w1 ⟨rfl, hw⟩; replace hw := hw.symm; subst hw
          go_wp2_with fail
          refine (Set_any _ _ _ _ B2.out.1 B2.out.2 fl2048).mono ?_; rintro e w1 ⟨rfl, hw⟩; replace hw := hw.symm; subst hw
          go_wp2_with fail
          refine (By_any sz2 _ _ _ r0 r1 B3.out.1 B3.out.2).mono ?_; rintro e w1 ⟨rfl, hw⟩; replace hw := hw.symm; subst hw
          go_wp2
          go_ret3
          exact ⟨ret_three rfl HF.out rfl, hgr⟩

end Go.Proofs.Ytnfbflbghlmdjaa
