/- encode: fields, number, wide, low, with, alone, opcode. -/
import Derived.Test.YtolnaodlghahlaaGreatDoorDecLeaf
import Derived.Laws.BitsLemmas
namespace Go.Proofs.YtolnaodlghahlaaGreatDoor
open Go.ChangeShapes Go.WideShapes Go.ChangeAt Go.RowKit
set_option linter.unusedVariables false

theorem i64_mask (n : Int) (k m : Nat) (hk : (BitVec.ofInt 64 (m : Int)).toNat = 2 ^ k - 1) (h2 : (2 : Nat) ^ k ≤ 4294967296) (h3 : (2 ^ 64) % (2 : Nat) ^ k = 0) : bits .and .i64 n m = n % ((2 ^ k : Nat) : Int) := by
  have key : (BitVec.ofInt 64 n &&& BitVec.ofInt 64 (m : Int)).toNat = (n % ((2 ^ 64 : Nat) : Int)).toNat % 2 ^ k := by
    rw [BitVec.toNat_and, BitVec.toNat_ofInt, hk, Nat.and_two_pow_sub_one_eq_mod]
  show IntKind.i64.wrap ((BitVec.ofInt 64 n &&& BitVec.ofInt 64 (m : Int)).toNat : Nat) = _
  have hp : 0 < (2 : Nat) ^ k := Nat.two_pow_pos k
  have hm : (n % ((2 ^ 64 : Nat) : Int)).toNat % 2 ^ k < 2 ^ k := Nat.mod_lt _ hp
  rw [key, IntKind.wrap_i64]
  have e : (((n % ((2 ^ 64 : Nat) : Int)).toNat % 2 ^ k : Nat) : Int) = n % ((2 ^ k : Nat) : Int) := by
    rw [Int.natCast_emod, Int.toNat_of_nonneg (Int.emod_nonneg _ (by decide))]
    exact Int.emod_emod_of_dvd n (Int.natCast_dvd_natCast.2 (Nat.dvd_of_mod_eq_zero h3))
  rw [e]
  have b0 : 0 ≤ n % ((2 ^ k : Nat) : Int) := Int.emod_nonneg _ (by omega)
  have b1 : n % ((2 ^ k : Nat) : Int) < ((2 ^ k : Nat) : Int) := Int.emod_lt_of_pos _ (by omega)
  generalize n % ((2 ^ k : Nat) : Int) = r at *
  generalize (2 : Nat) ^ k = p at *
  omega

theorem i64_and3 (n : Int) : bits .and .i64 n 3 = n % 4 := i64_mask n 2 3 (by decide) (by decide) (by decide)
theorem i64_and7 (n : Int) : bits .and .i64 n 7 = n % 8 := i64_mask n 3 7 (by decide) (by decide) (by decide)

theorem Kp.over {S T : Nat → Prop} {a b c : World} (h : Kp T a b) (k : Kp S b c) (hS : ∀ j, j < a.heap.size → S j → T j) : Kp T a c :=
  ⟨k.os.trans h.os, k.tape.trans h.tape, k.output.trans h.output, Nat.le_trans h.size k.size, fun i hi hs => (k.block i (Nat.lt_of_lt_of_le hi h.size) (fun g => hs (hS i hi g))).trans (h.block i hi hs)⟩

/-- ModRM and SIB. -/
def fldM (h m l : Int) : Int := h % 4 * 64 + m % 8 * 8 + l % 8
theorem fldM_bd (h m l : Int) : 0 ≤ fldM h m l ∧ fldM h m l < 256 := by unfold fldM; omega

theorem wide_any (w : World) (s : Int) : Calls Tryz.prog 259 #[.int .i64 s] w fun e w' => e = .returned (.int .i64 (if s = 1 then 0 else 1)) ∧ w' = w := by
  by_cases h : s = 1
  · subst h
    go_enter Tryz.func259, Tryz.ntmps259
    go_wp2
    go_ret
    exact ⟨rfl, rfl⟩
  · have h' : (s == 1) = false := by simpa using h
    rw [if_neg h]
    go_enter Tryz.func259, Tryz.ntmps259
    go_wp2
    go_ret
    exact ⟨rfl, rfl⟩

theorem low_any (w : World) (r : Int) : Calls Tryz.prog 263 #[.int .i64 r] w fun e w' => e = .returned (.int .i64 (r % 8)) ∧ w' = w := by
  have h := i64_and7 r
  go_enter Tryz.func263, Tryz.ntmps263
  go_wp2
  go_ret
  exact ⟨rfl, rfl⟩

theorem wraps62 (n : Int) (h0 : 0 ≤ n) (h1 : n < 2 ^ 62) : IntKind.i64.wrap n = n := by rw [IntKind.wrap_i64]; omega

theorem fields_any (w : World) (h m l : Int) : Calls Tryz.prog 245 #[.int .i64 h, .int .i64 m, .int .i64 l] w fun e w' => e = .returned (.int .u8 (fldM h m l)) ∧ w' = w := by
  have h1 := i64_and3 h
  have h2 := i64_and7 m
  have h3 := i64_and7 l
  unfold fldM
  have a0 : 0 ≤ h % 4 ∧ h % 4 < 4 := by omega
  have b0 : 0 ≤ m % 8 ∧ m % 8 < 8 := by omega
  have c0 : 0 ≤ l % 8 ∧ l % 8 < 8 := by omega
  generalize h % 4 = a at *
  generalize m % 8 = b at *
  generalize l % 8 = c at *
  have e1 : bits .or .i64 (a * 64) (b * 8) = a * 64 + b * 8 := bits_join .i64 62 (by decide) wraps62 6 (a * 64) (b * 8) (by omega) (by omega) (by omega) (by omega) (by omega) (by omega)
  have e2 : bits .or .i64 (a * 64 + b * 8) c = a * 64 + b * 8 + c := bits_join .i64 62 (by decide) wraps62 3 (a * 64 + b * 8) c (by omega) (by omega) (by omega) (by omega) (by omega) (by omega)
  have e3 : (a * 64 + b * 8 + c) % 256 = a * 64 + b * 8 + c := by omega
  go_enter Tryz.func245, Tryz.ntmps245
  go_wp2
  go_ret
  exact ⟨rfl, rfl⟩

/-- The lowest bytes of a number. -/
theorem enNum_ok (w : World) (n : Int) (n0 : 0 ≤ n) (n1 : n < 4294967296) (s : Nat) (hs : s = 0 ∨ s = 1 ∨ s = 2 ∨ s = 4) :
    Calls Tryz.prog 260 #[.int .u32 n, .int .i64 s] w fun e w' => e = .returned (.slice (some ⟨w.heap.size, 0, none⟩) s s) ∧ w' = w.alloc (.cells #[.int .u8 (n % 256), .int .u8 (n / 256 % 256), .int .u8 (n / 65536 % 256), .int .u8 (n / 16777216)] 5) := by
  rcases hs with rfl | rfl | rfl | rfl
  all_goals
    go_enter Tryz.func260, Tryz.ntmps260
    go_wp2
    go_ret
    exact ⟨rfl, rfl⟩

/-- A line of the table, as it lies in cells. -/
def formV (code : Int) (md : Bool) (n : Int) (o : Opd) (bh : Value) : Array Value := #[.int .i64 code, .bool md, .int .i64 n, .int .i64 o.kind, .int .i64 o.reg, .int .i64 o.size, .int .i64 o.seg, .int .i64 o.base, .int .i64 o.index, .int .i64 o.scale, .int .u32 o.disp, .int .u32 o.imm, bh]

theorem alone_any (w : World) (c : Int) (p : Option Addr) (l k : Nat) : Calls Tryz.prog 262 #[.int .i64 c, .slice p l k] w fun e w' => e = .returned (.agg (formV c false 0 Opd.zero (.slice p l k))) ∧ Kp noB w w' := by
  unfold formV Opd.zero
  go_enter Tryz.func262, Tryz.ntmps262
  go_wp2
  refine bodyPost_ret (v := .agg (formV c false 0 Opd.zero (.slice p l k))) ?_ rfl ⟨rfl, Kp.alloc _ _ _⟩
  simp [results, Tryz.results262, go_sem, formV, Opd.zero]

theorem with_any (w : World) (c n : Int) (o : Opd) (p : Option Addr) (l k : Nat) : Calls Tryz.prog 261 #[.int .i64 c, .int .i64 n, .agg o.vals, .slice p l k] w fun e w' => e = .returned (.agg (formV c true n o (.slice p l k))) ∧ Kp noB w w' := by
  obtain ⟨o0, o1, o2, o3, o4, o5, o6, o7, o8⟩ := o
  unfold formV Opd.vals
  go_enter Tryz.func261, Tryz.ntmps261
  go_wp2
  refine bodyPost_ret (v := .agg (formV c true n ⟨o0, o1, o2, o3, o4, o5, o6, o7, o8⟩ (.slice p l k))) ?_ rfl ⟨rfl, (Kp.alloc _ _ _).trans (Kp.alloc _ _ _)⟩
  simp [results, Tryz.results261, go_sem, formV]
end Go.Proofs.YtolnaodlghahlaaGreatDoor
