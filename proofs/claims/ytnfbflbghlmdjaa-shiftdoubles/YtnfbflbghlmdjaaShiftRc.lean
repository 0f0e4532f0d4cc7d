/- Contracts of the two turns through CF of package shift, as closures: for every value and count within their kinds they return result, CF and OF as named, and the world has at most new blocks. -/
import Derived.Test.YtnfbflbghlmdjaaShiftOps
namespace Go.Proofs.Ytnfbflbghlmdjaa
open Go.ChangeShapes Go.WideShapes Go.ChangeAt Go.RowKit
set_option linter.unusedVariables false

theorem rcl_any {s H M : Int} {W : Nat} (hS : Sw s H M W) (x : Int) (k : Nat) (c : Bool) (b0 b1 b3 b4 b5 b6 : Nat) (w : World) (x0 : 0 ≤ x) (x1 : x < M) (k1 : 1 ≤ k) (k2 : k ≤ 31) (hh : Held w b0 b1 b3 b4 b5 b6 W c) :
    Calls Try.prog 40 #[.int .u32 x, .int .u32 (k : Int), .pointer (some ⟨b5, 0, none⟩), .pointer (some ⟨b0, 0, none⟩), .pointer (some ⟨b3, 0, none⟩), .pointer (some ⟨b6, 0, none⟩)] w fun e w' =>
      e = .returned (mvd (mvR 2 H M W x k c) (mvC 2 H M W x k c) (mvV 2 H M W x k c)) ∧ Grown w w' := by
  show Calls Try.prog 40 #[.int .u32 x, .int .u32 (k : Int), .pointer (some ⟨b5, 0, none⟩), .pointer (some ⟨b0, 0, none⟩), .pointer (some ⟨b3, 0, none⟩), .pointer (some ⟨b6, 0, none⟩)] w fun e w' =>
      e = .returned (.agg #[.int .u32 (turn (W + 1) (x + flg c M) k % M), .int .u32 (flg (tb (turn (W + 1) (x + flg c M) k) W) 1), .int .u32 (flg (tb (turn (W + 1) (x + flg c M) k) W != tb (turn (W + 1) (x + flg c M) k % M) (W - 1)) 1)]) ∧ Grown w w'
  have p := hS.pow
  have hR := hS.isR.2
  have Y : Hid _ := wide_bd hS x0 x1 c
  have hn := turn1_bd hS (x + flg c M) k
  have hm := mod_bd (M := M) (by omega) (turn (W + 1) (x + flg c M) k)
  have hW : 8 ≤ W ∧ W ≤ 32 := ⟨p.2.2.1, p.2.2.2.1⟩
  have x2 : x < 4294967296 := by omega
  obtain ⟨n0, n1⟩ := hn
  obtain ⟨m0, m1⟩ := hm
  have hA0 := cell1 hh.l0 hh.h0
  have hA1 := cell1 hh.l1 hh.h1
  have hA5 := cell1 hh.l5 hh.h5
  have HH : Hid _ := hh
  clear p hh
  go_enter Try.func40, Try.ntmps40
  go_wp2
  go_quiet ((first
    | (go_at_call 33; exact Calls.quiet_of_same (withCarry_any hS _ _ _ _ _ x0 x1 (by exact hA0 _) (by exact hA1 _)))
    | (go_at_call 37; exact Calls.quiet_of_same (turnLeft1_any hR k _ _ Y.out.1 Y.out.2 (by omega)))))
  go_wp2
  clear hA0 hA1 hA5
  have hh := HH.out
  have e : ∀ o, (w.alloc o).drewN nq = (w.drewN nq).alloc o := fun o => rfl
  have hs : w.heap.size = (w.drewN nq).heap.size := rfl
  have hg2 : Grown w (w.drewN nq) := Grown.drewN (Grown.refl _) _
  have l0 := sizeN hh.l0 nq
  have l3 := sizeN hh.l3 nq
  have l6 := sizeN hh.l6 nq
  have h0 := cellN hh.h0 nq
  have h3 := cellN hh.h3 nq
  have h6 := cellN hh.h6 nq
  clear HH hh
  rw [e, hs]
  revert hg2 l0 l3 l6 h0 h3 h6
  clear e hs
  generalize w.drewN nq = w2
  intro hg2 l0 l3 l6 h0 h3 h6
  have hl := size1 l0
  have hA0 := cell1 l0 h0
  have hA3 := cell1 l3 h3
  have hA6 := cell1 l6 h6
  have hB0 := cell2 l0 h0
  have hB3 := cell2 l3 h3
  have hB6 := cell2 l6 h6
  revert n0 n1 m0 m1
  generalize hn : turn (W + 1) (x + flg c M) k = n
  have HN : Hid _ := hn
  clear hn
  intro n0 n1 m0 m1
  go_region_held3 (fun w' => w'.cell? ⟨b0, 0, none⟩ = some (.int .u64 (W : Int)) ∧ w'.cell? ⟨b3, 0, none⟩ = some (.func (.func 29) #[] #[.pointer (some ⟨b0, 0, none⟩)]) ∧ w'.cell? ⟨b6, 0, none⟩ = some (.func (.func 34) #[] #[.pointer (some ⟨b0, 0, none⟩)]))
    (first | exact ⟨hA0 _, hA3 _, hA6 _⟩ | exact ⟨hB0 _ _, hB3 _ _, hB6 _ _⟩)
    ((first
    | (go_at_call 15; refine (cut_any hS _ _ n0 n1).mono ?_; rintro e w' ⟨rfl, hw⟩; replace hw := hw.symm; subst hw)
    | (go_at_call 34; refine (above_any hS _ _ _ n0 n1 (by exact hA0 _)).mono ?_; rintro e w' ⟨rfl, hw⟩; replace hw := hw.symm; subst hw)
    | (go_at_call 29; refine (toLeft_any hS _ _ _ _ m0 m1 (by exact hl _) (by exact hA0 _)).mono ?_; rintro e w' ⟨rfl, hw⟩; replace hw := hw.symm; subst hw)))
  go_wp2
  exact bodyPost_ret (v := .agg #[.int .u32 (n % M), .int .u32 (flg (tb (n) W) 1), .int .u32 (flg (tb (n) W != tb (n % M) (W - 1)) 1)]) (by simp [results, Try.results40, go_sem]) rfl ⟨by rw [HN.out], by first | exact Grown.trans hg2 (Grown.drew (Grown.alloc (Grown.alloc (Grown.refl _) _ _) _ _)) | exact Grown.trans hg2 (Grown.drew (Grown.drew (Grown.alloc (Grown.alloc (Grown.refl _) _ _) _ _)))⟩

theorem rcr_any {s H M : Int} {W : Nat} (hS : Sw s H M W) (x : Int) (k : Nat) (c : Bool) (b0 b1 b3 b4 b5 b6 : Nat) (w : World) (x0 : 0 ≤ x) (x1 : x < M) (k1 : 1 ≤ k) (k2 : k ≤ 31) (hh : Held w b0 b1 b3 b4 b5 b6 W c) :
    Calls Try.prog 41 #[.int .u32 x, .int .u32 (k : Int), .pointer (some ⟨b5, 0, none⟩), .pointer (some ⟨b0, 0, none⟩), .pointer (some ⟨b4, 0, none⟩), .pointer (some ⟨b6, 0, none⟩)] w fun e w' =>
      e = .returned (mvd (mvR 3 H M W x k c) (mvC 3 H M W x k c) (mvV 3 H M W x k c)) ∧ Grown w w' := by
  show Calls Try.prog 41 #[.int .u32 x, .int .u32 (k : Int), .pointer (some ⟨b5, 0, none⟩), .pointer (some ⟨b0, 0, none⟩), .pointer (some ⟨b4, 0, none⟩), .pointer (some ⟨b6, 0, none⟩)] w fun e w' =>
      e = .returned (.agg #[.int .u32 (turn (W + 1) (x + flg c M) (4 * (W + 1) - k) % M), .int .u32 (flg (tb (turn (W + 1) (x + flg c M) (4 * (W + 1) - k)) W) 1), .int .u32 (flg (tb (turn (W + 1) (x + flg c M) (4 * (W + 1) - k) % M) (W - 1) != tb (turn (W + 1) (x + flg c M) (4 * (W + 1) - k) % M) (W - 2)) 1)]) ∧ Grown w w'
  have p := hS.pow
  have hR := hS.isR.2
  have Y : Hid _ := wide_bd hS x0 x1 c
  have hn := turn1_bd hS (x + flg c M) (4 * (W + 1) - k)
  have hm := mod_bd (M := M) (by omega) (turn (W + 1) (x + flg c M) (4 * (W + 1) - k))
  have hW : 8 ≤ W ∧ W ≤ 32 := ⟨p.2.2.1, p.2.2.2.1⟩
  have x2 : x < 4294967296 := by omega
  obtain ⟨n0, n1⟩ := hn
  obtain ⟨m0, m1⟩ := hm
  have hA0 := cell1 hh.l0 hh.h0
  have hA1 := cell1 hh.l1 hh.h1
  have hA5 := cell1 hh.l5 hh.h5
  have HH : Hid _ := hh
  clear p hh
  go_enter Try.func41, Try.ntmps41
  go_wp2
  go_quiet ((first
    | (go_at_call 33; exact Calls.quiet_of_same (withCarry_any hS _ _ _ _ _ x0 x1 (by exact hA0 _) (by exact hA1 _)))
    | (go_at_call 39; exact Calls.quiet_of_same (turnRight1_any hR k _ _ Y.out.1 Y.out.2 (by omega)))))
  go_wp2
  clear hA0 hA1 hA5
  have hh := HH.out
  have e : ∀ o, (w.alloc o).drewN nq = (w.drewN nq).alloc o := fun o => rfl
  have hs : w.heap.size = (w.drewN nq).heap.size := rfl
  have hg2 : Grown w (w.drewN nq) := Grown.drewN (Grown.refl _) _
  have l0 := sizeN hh.l0 nq
  have l4 := sizeN hh.l4 nq
  have l6 := sizeN hh.l6 nq
  have h0 := cellN hh.h0 nq
  have h4 := cellN hh.h4 nq
  have h6 := cellN hh.h6 nq
  clear HH hh
  rw [e, hs]
  revert hg2 l0 l4 l6 h0 h4 h6
  clear e hs
  generalize w.drewN nq = w2
  intro hg2 l0 l4 l6 h0 h4 h6
  have hl := size1 l0
  have hA0 := cell1 l0 h0
  have hA4 := cell1 l4 h4
  have hA6 := cell1 l6 h6
  have hB0 := cell2 l0 h0
  have hB4 := cell2 l4 h4
  have hB6 := cell2 l6 h6
  revert n0 n1 m0 m1
  generalize hn : turn (W + 1) (x + flg c M) (4 * (W + 1) - k) = n
  have HN : Hid _ := hn
  clear hn
  intro n0 n1 m0 m1
  go_region_held3 (fun w' => w'.cell? ⟨b0, 0, none⟩ = some (.int .u64 (W : Int)) ∧ w'.cell? ⟨b4, 0, none⟩ = some (.func (.func 31) #[] #[.pointer (some ⟨b0, 0, none⟩)]) ∧ w'.cell? ⟨b6, 0, none⟩ = some (.func (.func 34) #[] #[.pointer (some ⟨b0, 0, none⟩)]))
    (first | exact ⟨hA0 _, hA4 _, hA6 _⟩ | exact ⟨hB0 _ _, hB4 _ _, hB6 _ _⟩)
    ((first
    | (go_at_call 15; refine (cut_any hS _ _ n0 n1).mono ?_; rintro e w' ⟨rfl, hw⟩; replace hw := hw.symm; subst hw)
    | (go_at_call 34; refine (above_any hS _ _ _ n0 n1 (by exact hA0 _)).mono ?_; rintro e w' ⟨rfl, hw⟩; replace hw := hw.symm; subst hw)
    | (go_at_call 31; refine (turnedRight_any hS _ _ _ _ m0 m1 (by exact hl _) (by exact hA0 _)).mono ?_; rintro e w' ⟨rfl, hw⟩; replace hw := hw.symm; subst hw)))
  go_wp2
  exact bodyPost_ret (v := .agg #[.int .u32 (n % M), .int .u32 (flg (tb (n) W) 1), .int .u32 (flg (tb (n % M) (W - 1) != tb (n % M) (W - 2)) 1)]) (by simp [results, Try.results41, go_sem]) rfl ⟨by rw [HN.out], by first | exact Grown.trans hg2 (Grown.drew (Grown.alloc (Grown.alloc (Grown.refl _) _ _) _ _)) | exact Grown.trans hg2 (Grown.drew (Grown.drew (Grown.alloc (Grown.alloc (Grown.refl _) _ _) _ _)))⟩

end Go.Proofs.Ytnfbflbghlmdjaa
