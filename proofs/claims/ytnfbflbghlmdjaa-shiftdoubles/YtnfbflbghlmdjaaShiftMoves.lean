/- Contracts of the closures that package shift lays into its array, and of what lays them: for every input within their kinds they return what is named, and the world has at most new blocks. -/
import Derived.Test.YtnfbflbghlmdjaaShiftLeaf
namespace Go.Proofs.Ytnfbflbghlmdjaa
open Go.ChangeShapes Go.WideShapes Go.ChangeAt Go.RowKit
set_option linter.unusedVariables false

theorem toLeft_any {s H M : Int} {W : Nat} (hS : Sw s H M W) (r : Int) (c : Bool) (b : Nat) (w : World) (r0 : 0 ≤ r) (r1 : r < M) (hb : b < w.heap.size) (hc : w.cell? ⟨b, 0, none⟩ = some (.int .u64 (W : Int))) :
    Calls Try.prog 29 #[.int .u32 r, .int .u32 (flg c 1), .pointer (some ⟨b, 0, none⟩)] w fun e w' =>
      e = .returned (.agg #[.int .u32 r, .int .u32 (flg c 1), .int .u32 (flg (c != tb r (W - 1)) 1)]) ∧ w' = w.alloc (.cells #[.int .u32 r, .int .u32 (flg c 1), .int .u32 (flg (c != tb r (W - 1)) 1)] 40) := by
  have mt := hS.pow.2.2.2.2.1
  have r2 : r < 4294967296 := by omega
  have hc' : ∀ o, (w.alloc o).cell? ⟨b, 0, none⟩ = some (.int .u64 (W : Int)) := fun o => by rw [World.cell?_alloc_lt _ _ _ hb]; exact hc
  clear hc
  go_enter Try.func29, Try.ntmps29
  go_wp2_with (go_at_call 30; refine (top_any hS _ _ r0 r2).mono ?_; rintro e w' ⟨rfl, hw⟩; replace hw := hw.symm; subst hw)
  exact bodyPost_ret (v := .agg #[.int .u32 r, .int .u32 (flg c 1), .int .u32 (bits .xor .u32 (flg c 1) (flg (tb r (W - 1)) 1))]) (by simp [results, Try.results29, go_sem]) rfl ⟨by rw [xor_flg], by rw [xor_flg]⟩

theorem turnedRight_any {s H M : Int} {W : Nat} (hS : Sw s H M W) (r : Int) (c : Bool) (b : Nat) (w : World) (r0 : 0 ≤ r) (r1 : r < M) (hb : b < w.heap.size) (hc : w.cell? ⟨b, 0, none⟩ = some (.int .u64 (W : Int))) :
    Calls Try.prog 31 #[.int .u32 r, .int .u32 (flg c 1), .pointer (some ⟨b, 0, none⟩)] w fun e w' =>
      e = .returned (.agg #[.int .u32 r, .int .u32 (flg c 1), .int .u32 (flg (tb r (W - 1) != tb r (W - 2)) 1)]) ∧ w' = (w.alloc (.cells #[.int .u32 r, .int .u32 (flg c 1), .int .u32 (flg (tb r (W - 1) != tb r (W - 2)) 1)] 40)).drew := by
  have mt := hS.pow.2.2.2.2.1
  have r2 : r < 4294967296 := by omega
  have hc' : ∀ o, (w.alloc o).cell? ⟨b, 0, none⟩ = some (.int .u64 (W : Int)) := fun o => by rw [World.cell?_alloc_lt _ _ _ hb]; exact hc
  clear hc
  go_enter Try.func31, Try.ntmps31
  go_wp2
  go_region_held3 (fun w' => w'.cell? ⟨b, 0, none⟩ = some (.int .u64 (W : Int)))
    (first | exact hc' _ | (simp [go_sem, hc']; done))
    ((first
    | (go_at_call 30; refine (top_any hS _ _ r0 r2).mono ?_; rintro e w' ⟨rfl, hw⟩; replace hw := hw.symm; subst hw)
    | (go_at_call 32; refine (second_any hS _ _ r0 r2).mono ?_; rintro e w' ⟨rfl, hw⟩; replace hw := hw.symm; subst hw)))
  go_wp2
  exact bodyPost_ret (v := .agg #[.int .u32 r, .int .u32 (flg c 1), .int .u32 (bits .xor .u32 (flg (tb r (W - 1)) 1) (flg (tb r (W - 2)) 1))]) (by simp [results, Try.results31, go_sem]) rfl ⟨by rw [xor_flg], by rw [xor_flg]⟩

theorem cell1 {w : World} {b : Nat} {v : Value} (hl : b < w.heap.size) (h : w.cell? ⟨b, 0, none⟩ = some v) (o : Obj) : (w.alloc o).cell? ⟨b, 0, none⟩ = some v := (World.cell?_alloc_lt _ _ _ hl).trans h

theorem cell2 {w : World} {b : Nat} {v : Value} (hl : b < w.heap.size) (h : w.cell? ⟨b, 0, none⟩ = some v) (o o' : Obj) : ((w.alloc o).alloc o').cell? ⟨b, 0, none⟩ = some v := cell1 (by simp; omega) (cell1 hl h o) o'

theorem size1 {w : World} {b : Nat} (hl : b < w.heap.size) (o : Obj) : b < (w.alloc o).heap.size := by simp; omega

theorem cellN {w : World} {p : Addr} {v : Value} (h : w.cell? p = some v) (n : Nat) : (w.drewN n).cell? p = some v := by
  induction n with
  | zero => exact h
  | succ n ih => exact ih

theorem sizeN {w : World} {b : Nat} (h : b < w.heap.size) (n : Nat) : b < (w.drewN n).heap.size := by
  induction n with
  | zero => exact h
  | succ n ih => exact ih

/-- what the closures find in the world: the width, CF ahead, and one another -/
structure Held (w : World) (b0 b1 b3 b4 b5 b6 : Nat) (W : Nat) (c : Bool) : Prop where
  l0 : b0 < w.heap.size
  l1 : b1 < w.heap.size
  l3 : b3 < w.heap.size
  l4 : b4 < w.heap.size
  l5 : b5 < w.heap.size
  l6 : b6 < w.heap.size
  h0 : w.cell? ⟨b0, 0, none⟩ = some (.int .u64 (W : Int))
  h1 : w.cell? ⟨b1, 0, none⟩ = some (.int .u32 (flg c 1))
  h3 : w.cell? ⟨b3, 0, none⟩ = some (.func (.func 29) #[] #[.pointer (some ⟨b0, 0, none⟩)])
  h4 : w.cell? ⟨b4, 0, none⟩ = some (.func (.func 31) #[] #[.pointer (some ⟨b0, 0, none⟩)])
  h5 : w.cell? ⟨b5, 0, none⟩ = some (.func (.func 33) #[] #[.pointer (some ⟨b1, 0, none⟩), .pointer (some ⟨b0, 0, none⟩)])
  h6 : w.cell? ⟨b6, 0, none⟩ = some (.func (.func 34) #[] #[.pointer (some ⟨b0, 0, none⟩)])

theorem Held.grown {w w' : World} {b0 b1 b3 b4 b5 b6 W : Nat} {c : Bool} (h : Held w b0 b1 b3 b4 b5 b6 W c) (g : Grown w w') : Held w' b0 b1 b3 b4 b5 b6 W c := by
  have s := g.2.2
  have e : ∀ b, b < w.heap.size → w'.cell? ⟨b, 0, none⟩ = w.cell? ⟨b, 0, none⟩ := fun b hb => Grown.cell g hb
  exact ⟨by have := h.l0; omega, by have := h.l1; omega, by have := h.l3; omega, by have := h.l4; omega, by have := h.l5; omega, by have := h.l6; omega,
    (e _ h.l0).trans h.h0, (e _ h.l1).trans h.h1, (e _ h.l3).trans h.h3, (e _ h.l4).trans h.h4, (e _ h.l5).trans h.h5, (e _ h.l6).trans h.h6⟩

theorem Held.alloc {w : World} {b0 b1 b3 b4 b5 b6 W : Nat} {c : Bool} (h : Held w b0 b1 b3 b4 b5 b6 W c) (cs : Array Value) (t : Nat) : Held (w.alloc (.cells cs t)) b0 b1 b3 b4 b5 b6 W c :=
  h.grown (Grown.alloc (Grown.refl _) _ _)

theorem withCarry_any {s H M : Int} {W : Nat} (hS : Sw s H M W) (x : Int) (c : Bool) (b0 b1 : Nat) (w : World) (x0 : 0 ≤ x) (x1 : x < M) (h0 : w.cell? ⟨b0, 0, none⟩ = some (.int .u64 (W : Int))) (h1 : w.cell? ⟨b1, 0, none⟩ = some (.int .u32 (flg c 1))) :
    Calls Try.prog 33 #[.int .u32 x, .pointer (some ⟨b1, 0, none⟩), .pointer (some ⟨b0, 0, none⟩)] w fun e w' =>
      e = .returned (.int .u64 (x + flg c M)) ∧ w' = w := by
  have HE : Hid (bits .or .u64 (flg c M) x = x + flg c M) := (by
    have p := hS.pow
    have fb : 0 ≤ flg c M ∧ flg c M ≤ 4294967296 := by unfold flg; split <;> omega
    rw [u64_or _ _ fb.1 (by omega) x0 (by omega)]
    obtain ⟨m, rfl⟩ := Int.eq_ofNat_of_zero_le x0
    have hm : m < 2 ^ W := by omega
    cases c
    · show (((0 : Int).toNat ||| (m : Int).toNat : Nat) : Int) = m + 0
      simp
    · show ((M.toNat ||| (m : Int).toNat : Nat) : Int) = m + M
      rw [p.1, Int.toNat_natCast, Int.toNat_natCast]
      have := Nat.two_pow_add_eq_or_of_lt hm 1
      rw [Nat.mul_one] at this
      rw [← this]; omega : bits .or .u64 (flg c M) x = x + flg c M)
  have x2 : x < 4294967296 := by have := hS.pow; omega
  have e1 : flg true 1 = 1 := rfl
  have e0 : flg false 1 = 0 := rfl
  cases c
  all_goals
    simp only [e1, e0] at h1
    rcases hS with ⟨rfl, rfl, rfl, rfl⟩ | ⟨rfl, rfl, rfl, rfl⟩ | ⟨rfl, rfl, rfl, rfl⟩
    all_goals
      go_enter Try.func33, Try.ntmps33
      go_wp2
      go_ret
      exact ⟨ret_int HE.out, rfl⟩

theorem above_any {s H M : Int} {W : Nat} (hS : Sw s H M W) (n : Int) (b0 : Nat) (w : World) (n0 : 0 ≤ n) (n1 : n < 18446744073709551616) (h0 : w.cell? ⟨b0, 0, none⟩ = some (.int .u64 (W : Int))) :
    Calls Try.prog 34 #[.int .u64 n, .pointer (some ⟨b0, 0, none⟩)] w fun e w' =>
      e = .returned (.int .u32 (flg (tb n W) 1)) ∧ w' = w := by
  have HE : Hid (bits .and .u64 (n / M) 1 % 4294967296 = flg (tb n W) 1) := (by
    have p := hS.pow
    rw [p.1]
    have b := div_bd n0 n1 W
    rw [and64_1 b.1 b.2, flg_tb n0 W]
    cases tb n W <;> rfl : bits .and .u64 (n / M) 1 % 4294967296 = flg (tb n W) 1)
  rcases hS with ⟨rfl, rfl, rfl, rfl⟩ | ⟨rfl, rfl, rfl, rfl⟩ | ⟨rfl, rfl, rfl, rfl⟩
  all_goals
    go_enter Try.func34, Try.ntmps34
    go_wp2
    go_ret
    exact ⟨ret_int HE.out, rfl⟩

theorem moves_any (W : Nat) (c : Bool) (w : World) :
    Calls Try.prog 17 #[.int .u64 (W : Int), .int .u32 (flg c 1)] w fun e w' => ∃ b0 b1 b3 b4 b5 b6, e = .returned (.agg #[
        .func (.func 36) #[] #[.pointer (some ⟨b0, 0, none⟩), .pointer (some ⟨b3, 0, none⟩)],
        .func (.func 38) #[] #[.pointer (some ⟨b0, 0, none⟩), .pointer (some ⟨b4, 0, none⟩)],
        .func (.func 40) #[] #[.pointer (some ⟨b5, 0, none⟩), .pointer (some ⟨b0, 0, none⟩), .pointer (some ⟨b3, 0, none⟩), .pointer (some ⟨b6, 0, none⟩)],
        .func (.func 41) #[] #[.pointer (some ⟨b5, 0, none⟩), .pointer (some ⟨b0, 0, none⟩), .pointer (some ⟨b4, 0, none⟩), .pointer (some ⟨b6, 0, none⟩)],
        .func (.func 35) #[] #[.pointer (some ⟨b3, 0, none⟩), .pointer (some ⟨b0, 0, none⟩), .pointer (some ⟨b6, 0, none⟩)],
        .func (.func 42) #[] #[.pointer (some ⟨b0, 0, none⟩)],
        .func (.func 35) #[] #[.pointer (some ⟨b3, 0, none⟩), .pointer (some ⟨b0, 0, none⟩), .pointer (some ⟨b6, 0, none⟩)],
        .func (.func 43) #[] #[.pointer (some ⟨b0, 0, none⟩)]]) ∧ Grown w w' ∧ Held w' b0 b1 b3 b4 b5 b6 W c := by
  go_enter Try.func17, Try.ntmps17
  go_wp2
  refine bodyPost_ret (by simp [results, Try.results17, go_sem]) rfl ⟨w.heap.size, w.heap.size + 1, w.heap.size + 1 + 1 + 1, w.heap.size + 1 + 1 + 1 + 1, w.heap.size + 1 + 1 + 1 + 1 + 1, w.heap.size + 1 + 1 + 1 + 1 + 1 + 1, rfl, ?_, ?_⟩
  · exact Grown.alloc (Grown.alloc (Grown.alloc (Grown.alloc (Grown.alloc (Grown.alloc (Grown.alloc (Grown.refl _) _ _) _ _) _ _) _ _) _ _) _ _) _ _
  · refine ⟨?_, ?_, ?_, ?_, ?_, ?_, ?_, ?_, ?_, ?_, ?_, ?_⟩
    all_goals simp [go_sem] <;> omega
end Go.Proofs.Ytnfbflbghlmdjaa
