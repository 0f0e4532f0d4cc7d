/- The breaking of patterns in the library's sort at uint32: three exchanges at places that a small shift register draws. -/
import Derived.Test.YtankfdcpnhociaaRamPiv2
import Derived.Lib.Strings
import Derived.Lib.Slices
import Derived.Lib.Small
import Derived.Lib.Walk
import Derived.Lib.BitFns
import Derived.Sort.Row
namespace Go.Proofs.Ytankfdcpnhociaa
open Go.ChangeShapes Go.WideShapes Go.ChangeAt Go.RowKit Go.Maps Go.Shelf
open Go.Sort (swp ltInt PermIn SortedIn)
set_option linter.unusedVariables false

/-- A power of two above n, and no more than twice n. -/
def Pw (n k : Nat) : Prop := k ≤ 15 ∧ 2 ^ k ≤ 2 * n

theorem tab_all : ∀ i : Fin 256, (Lib.len8tab[i.val]?.getD 0).toNat ≤ 8 ∧ (1 ≤ i.val → 2 ^ (Lib.len8tab[i.val]?.getD 0).toNat ≤ 2 * i.val) := by decide +kernel

theorem tab_at (i : Nat) (h : i < 256) : ∃ k : Nat, (∀ hh : i < Lib.len8tab.size, (Lib.len8tab[i]'hh).toNat = k) ∧ k ≤ 8 ∧ (1 ≤ i → 2 ^ k ≤ 2 * i) := by
  have t := tab_all ⟨i, h⟩
  refine ⟨_, fun hh => ?_, t.1, t.2⟩
  simp only []
  rw [getElem?_pos Lib.len8tab i hh]
  rfl

theorem wr_small (k : Nat) (h : k ≤ 100) : wrap64 (k : Int) = (k : Int) := by unfold wrap64; omega

set_option maxHeartbeats 4000000 in
set_option maxRecDepth 100000 in
theorem len64_mid (w : World) (x : Int) (h0 : 1 ≤ x) (h : x ≤ 16384) : Calls Try.prog 60 #[.int .u64 x] w fun e w' => (∃ k : Nat, e = .returned (.int .i64 k) ∧ Pw x.toNat k) ∧ w' = w := by
  go_enter Try.func60, Try.ntmps60
  go_wp2
  all_goals first
    | (exfalso
       have hz := Lib.len8tab_size
       omega)
    | skip
  · rename_i hy
    have y0 : (x / 256).toNat < 256 := by omega
    obtain ⟨k, hk, k1, k2⟩ := tab_at (x / 256).toNat y0
    go_ret
    refine ⟨⟨8 + k, ?_, ?_, ?_⟩, rfl⟩
    · simp only [hk]
      rw [wr_small k (by omega)]
      exact congrArg (fun z => Ending.returned (.int .i64 z)) (wr_small (8 + k) (by omega))
    · have k3 := k2 (by omega)
      rcases (by omega : 8 + k ≤ 15 ∨ 8 ≤ k) with e | e
      · exact e
      · have := Nat.pow_le_pow_right (n := 2) (by decide) e
        omega
    · have k3 := k2 (by omega)
      rw [Nat.pow_add]
      omega
  · rename_i hy
    obtain ⟨k, hk, k1, k2⟩ := tab_at x.toNat (by omega)
    go_ret
    refine ⟨⟨k, ?_, by omega, k2 (by omega)⟩, rfl⟩
    simp only [hk]
    rw [wr_small k (by omega), wr_small k (by omega)]
    rfl

/-- A store over a store into the same cell. -/
theorem set_set (w : World) (blk off : Nat) (v v' : Value) : (w.setCell ⟨blk, off, none⟩ v).setCell ⟨blk, off, none⟩ v' = w.setCell ⟨blk, off, none⟩ v' := by
  rw [Go.Sort.setCell_eq, Go.Sort.setCell_eq, Go.Sort.mapBlock_mapBlock, Go.Sort.setCell_eq]
  congr 1
  funext c
  simp

def Drawn (w : World) (rb : Nat) (e : Ending) (w' : World) : Prop :=
  ∃ u : Nat, e = .returned (.int .u64 u) ∧ u < 18446744073709551616 ∧ w'.heap[rb]? = some (.cells #[.int .u64 u] 98 (0, 0)) ∧ Kp (oneB rb) w w'

set_option maxRecDepth 1000000 in
theorem next_any (w : World) (rb v : Nat) (h : w.heap[rb]? = some (.cells #[.int .u64 v] 98 (0, 0))) (hv : v < 18446744073709551616) :
    Calls Try.prog 63 #[.pointer (some ⟨rb, 0, none⟩)] w (Drawn w rb) := by
  have c1 : w.cell? ⟨rb, 0, none⟩ = some (.int .u64 v) := by rw [cell_at h]; rfl
  have f1 : w.frozen? ⟨rb, 0, none⟩ = false := frozen_at h
  obtain ⟨A, hA⟩ : ∃ A : Nat, A = v ^^^ (v * 8192 % 18446744073709551616) := ⟨_, rfl⟩
  obtain ⟨B, hB⟩ : ∃ B : Nat, B = A ^^^ (A / 128) := ⟨_, rfl⟩
  obtain ⟨C, hC⟩ : ∃ C : Nat, C = B ^^^ (B * 131072 % 18446744073709551616) := ⟨_, rfl⟩
  have lA : A < 18446744073709551616 := by rw [hA]; exact Nat.xor_lt_two_pow (n := 64) (by omega) (by omega)
  have lB : B < 18446744073709551616 := by rw [hB]; exact Nat.xor_lt_two_pow (n := 64) (by omega) (by omega)
  have lC : C < 18446744073709551616 := by rw [hC]; exact Nat.xor_lt_two_pow (n := 64) (by omega) (by omega)
  have e1 : bits .xor .u64 (v : Int) (IntKind.u64.wrap ((v : Int) * 8192)) = (A : Int) := by
    rw [IntKind.wrap_u64, show ((v : Int) * 8192 % 18446744073709551616) = ((v * 8192 % 18446744073709551616 : Nat) : Int) by omega, bits_xor_u64_nat _ _ hv (by omega), hA]
  have e2 : bits .xor .u64 (A : Int) ((A : Int) / 128) = (B : Int) := by
    rw [show ((A : Int) / 128) = ((A / 128 : Nat) : Int) by omega, bits_xor_u64_nat _ _ lA (by omega), hB]
  have e3 : bits .xor .u64 (B : Int) (IntKind.u64.wrap ((B : Int) * 131072)) = (C : Int) := by
    rw [IntKind.wrap_u64, show ((B : Int) * 131072 % 18446744073709551616) = ((B * 131072 % 18446744073709551616 : Nat) : Int) by omega, bits_xor_u64_nat _ _ lB (by omega), hC]
  clear hA hB hC
  have hss : ∀ v v', (w.setCell ⟨rb, 0, none⟩ v).setCell ⟨rb, 0, none⟩ v' = w.setCell ⟨rb, 0, none⟩ v' := set_set w rb 0
  have HH : Hid (w.heap[rb]? = some (.cells #[.int .u64 v] 98 (0, 0))) := h
  clear h
  go_enter Try.func63, Try.ntmps63
  go_wp2
  go_region
  all_goals go_wp2
  all_goals go_region
  all_goals go_wp2
  all_goals go_region
  all_goals go_wp2
  go_ret
  refine ⟨C, rfl, lC, ?_, ?_⟩
  · show (w.setCell ⟨rb, 0, none⟩ (.int .u64 C)).heap[rb]? = _
    rw [heap_setCell_at HH.out]; simp
  · exact (kp_set (Kp.refl _ w) _).drewN 3

theorem len_mid (w : World) (n : Nat) (h0 : 1 ≤ n) (h : n ≤ 16384) : Calls Try.prog 49 #[.int .u64 n] w fun e w' => (∃ k : Nat, e = .returned (.int .i64 k) ∧ Pw n k) ∧ w' = w := by
  have c := len64_mid w n (by omega) (by omega)
  rw [Int.toNat_natCast] at c
  go_enter Try.func49, Try.ntmps49
  go_wp2_with fail
  refine c.mono ?_; rintro e w' ⟨⟨k, rfl, hk⟩, hw⟩; replace hw := hw.symm; subst hw
  go_wp2
  go_ret
  exact ⟨⟨_, rfl, hk⟩, rfl⟩

theorem npow_mid (w : World) (n : Nat) (h0 : 1 ≤ n) (h : n ≤ 16384) : Calls Try.prog 62 #[.int .i64 n] w fun e w' => (∃ k : Nat, e = .returned (.int .u64 ((2 ^ k : Nat) : Int)) ∧ Pw n k) ∧ w' = w := by
  have c := len_mid w n h0 h
  go_enter Try.func62, Try.ntmps62
  go_wp2_with fail
  refine c.mono ?_; rintro e w' ⟨⟨k, rfl, hk⟩, hw⟩; replace hw := hw.symm; subst hw
  have hk1 := hk.1
  have hk2 : (2 : Nat) ^ k ≤ 2 ^ 15 := Nat.pow_le_pow_right (by decide) hk1
  have hp : IntKind.u64.wrap ((2 : Int) ^ k) = ((2 ^ k : Nat) : Int) := by
    rw [IntKind.wrap_u64, show ((2 : Int) ^ k) = ((2 ^ k : Nat) : Int) by push_cast; rfl]
    generalize (2 : Nat) ^ k = p at hk2
    omega
  go_wp2
  go_ret
  exact ⟨⟨k, rfl, hk⟩, rfl⟩
end Go.Proofs.Ytankfdcpnhociaa
