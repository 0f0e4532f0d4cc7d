/- The bus and its devices: XaGrow, XaLeaf, XaDo, XaDoes. -/
import Derived.Test.YtiagfmkinefidaaGreatEx01
import Derived.Carry
import Derived.Test.YtiagfmkinefidaaGreatRows
import Derived.WalkKit
import Derived.ProofKit
import Derived.OpenShut
import Derived.Laws.EntriesVeiled
import Derived.Deep.QuietTactic
import Derived.BigQuiet
import Derived.Lib.Tables
import Derived.Deep.RegionHeld3
namespace Go.Proofs.YtiagfmkinefidaaGreat.Al
def Grown (W w' : World) : Prop := W.keptBut w' (fun _ => False) ∧ (∀ a, w'.frozen? a = W.frozen? a) ∧ (W.heap.size ≤ w'.heap.size ∧ w'.tape = W.tape)
theorem Grown.to {W w' : World} (h : Grown W w') : Go.RowKit.Grown W w' := ⟨h.1, h.2.1, h.2.2.1⟩
theorem Grown.of {W w' : World} (h : Go.RowKit.Grown W w') (t : w'.tape = W.tape) : Grown W w' := ⟨h.1, h.2.1, h.2.2, t⟩
theorem Grown.refl (W : World) : Grown W W := .of (Go.RowKit.Grown.refl W) rfl
theorem Grown.alloc {W w' : World} (h : Grown W w') (c : Array Value) (t : TypeId) : Grown W (w'.alloc (.cells c t)) := .of (h.to.alloc c t) h.2.2.2
theorem Grown.trans {a b c : World} (h : Grown a b) (k : Grown b c) : Grown a c := .of (_root_.Go.Proofs.YtiagfmkinefidaaGreat.Grown.trans h.to k.to) (k.2.2.2.trans h.2.2.2)
theorem Grown.cell {W w' : World} (h : Grown W w') {p : Addr} (hp : p.block < W.heap.size) : w'.cell? p = W.cell? p := _root_.Go.Proofs.YtiagfmkinefidaaGreat.Grown.cell h.to hp
theorem Grown.drewN {W w' : World} (h : Grown W w') (n : Nat) : Grown W (w'.drewN n) := by
  induction n with
  | zero => exact h
  | succ n ih => exact ih
theorem Grown.block {W w' : World} (h : Grown W w') {i : Nat} (hi : i < W.heap.size) : w'.heap[i]? = W.heap[i]? := _root_.Go.Proofs.YtiagfmkinefidaaGreat.Grown.block h.to hi
end Go.Proofs.YtiagfmkinefidaaGreat.Al
namespace Go.Proofs.YtiagfmkinefidaaGreat.Al
open Go.ChangeShapes Go.WideShapes Go.ChangeAt Go.RowKit
set_option linter.unusedVariables false
set_option maxRecDepth 20000
theorem flagIf_any (b : Bool) (f : Int) (w : World) :
    Calls Tryz.prog 526 #[.bool b, .int .u32 f] w fun e w' => e = .returned (.int .u32 (flg b f)) ∧ w' = w := by
  cases b
  · go_enter Tryz.func526, Tryz.ntmps526
    go_wp2
    go_ret
    exact ⟨rfl, rfl⟩
  · go_enter Tryz.func526, Tryz.ntmps526
    go_wp2
    go_ret
    exact ⟨rfl, rfl⟩
theorem onesCount_any (x : Int) (w : World) :
    Calls Tryz.prog 525 #[.int .u8 (x % 256)] w fun e w' => e = .returned (.int .i64 (ones x)) ∧ w' = w := by
  unfold ones
  have h0 : 0 ≤ x % 256 := by omega
  have h1 : x % 256 ≤ 255 := by omega
  revert h0 h1
  generalize x % 256 = y
  intro h0 h1
  have e : wrap64 (Lib.pop8 y) = (Lib.onesCount y.toNat : Int) := by
    rw [← Lib.pop8_int y h0 h1]
    unfold wrap64
    omega
  go_enter Tryz.func525, Tryz.ntmps525
  go_wp2
  go_ret
  exact ⟨ret_int e, rfl⟩
theorem isSize_any (s : Int) (w : World) :
    Calls Tryz.prog 469 #[.int .i64 s] w fun e w' => e = .returned (.bool (okSize s)) ∧ w' = w := by
  by_cases h1 : s = 1
  · subst h1
    go_enter Tryz.func469, Tryz.ntmps469
    go_wp2
    go_ret
    exact ⟨rfl, rfl⟩
  · by_cases h2 : s = 2
    · subst h2
      go_enter Tryz.func469, Tryz.ntmps469
      go_wp2
      go_ret
      exact ⟨rfl, rfl⟩
    · by_cases h4 : s = 4
      · subst h4
        go_enter Tryz.func469, Tryz.ntmps469
        go_wp2
        go_ret
        exact ⟨rfl, rfl⟩
      · have e : okSize s = false := by simp [okSize, h1, h2, h4]
        rw [e]
        have g1 : (s == 1) = false := by simp [h1]
        have g2 : (s == 2) = false := by simp [h2]
        have g4 : (s == 4) = false := by simp [h4]
        go_enter Tryz.func469, Tryz.ntmps469
        go_wp2
        go_ret
        exact ⟨rfl, rfl⟩
theorem cut_any {s H M sp bt : Int} (hS : Sz s H M sp bt) (n : Int) (w : World) (b : Nat) (h0 : 0 ≤ n) (hc : w.cell? ⟨b, 0, none⟩ = some (.int .u64 sp)) :
    Calls Tryz.prog 522 #[.int .u64 n, .pointer (some ⟨b, 0, none⟩)] w fun e w' => e = .returned (.int .u32 (n % M)) ∧ w' = w := by
  rcases hS with ⟨rfl, rfl, rfl, rfl, rfl⟩ | ⟨rfl, rfl, rfl, rfl, rfl⟩ | ⟨rfl, rfl, rfl, rfl, rfl⟩
  · have e : n % 4294967296 * 16777216 % 4294967296 / 16777216 = n % 256 := by omega
    go_enter Tryz.func522, Tryz.ntmps522
    go_wp2
    go_ret
    exact ⟨rfl, rfl⟩
  · have e : n % 4294967296 * 65536 % 4294967296 / 65536 = n % 65536 := by omega
    go_enter Tryz.func522, Tryz.ntmps522
    go_wp2
    go_ret
    exact ⟨rfl, rfl⟩
  · go_enter Tryz.func522, Tryz.ntmps522
    go_wp2
    go_ret
    exact ⟨rfl, rfl⟩
theorem widthOf_any {s H M sp bt : Int} (hS : Sz s H M sp bt) (w : World) :
    Calls Tryz.prog 470 #[.int .i64 s] w fun e w' => e = .returned (.agg #[.int .u32 H, .func (.func 522) #[] #[.pointer (some ⟨w.heap.size + 1, 0, none⟩)]]) ∧
      w' = (w.alloc (.cells #[.int .u32 H, .func (.func 522) #[] #[.pointer (some ⟨w.heap.size + 1, 0, none⟩)]] 345)).alloc (.cells #[.int .u64 sp] 72) := by
  rcases hS with ⟨rfl, rfl, rfl, rfl, rfl⟩ | ⟨rfl, rfl, rfl, rfl, rfl⟩ | ⟨rfl, rfl, rfl, rfl, rfl⟩
  · go_enter Tryz.func470, Tryz.ntmps470
    go_wp2
    exact bodyPost_ret (v := .agg #[.int .u32 128, .func (.func 522) #[] #[.pointer (some ⟨w.heap.size + 1, 0, none⟩)]]) (by simp [results, Tryz.results470, go_sem]) rfl ⟨rfl, rfl⟩
  · go_enter Tryz.func470, Tryz.ntmps470
    go_wp2
    exact bodyPost_ret (v := .agg #[.int .u32 32768, .func (.func 522) #[] #[.pointer (some ⟨w.heap.size + 1, 0, none⟩)]]) (by simp [results, Tryz.results470, go_sem]) rfl ⟨rfl, rfl⟩
  · go_enter Tryz.func470, Tryz.ntmps470
    go_wp2
    exact bodyPost_ret (v := .agg #[.int .u32 2147483648, .func (.func 522) #[] #[.pointer (some ⟨w.heap.size + 1, 0, none⟩)]]) (by simp [results, Tryz.results470, go_sem]) rfl ⟨rfl, rfl⟩
theorem namedBy_any (op : Int) (w : World) :
    Calls Tryz.prog 472 #[.int .i64 op] w fun e w' => e = .returned (.int .u32 (namedF op)) ∧ w' = w := by
  by_cases h1 : op = 9
  · subst h1
    go_enter Tryz.func472, Tryz.ntmps472
    go_wp2
    go_ret
    exact ⟨rfl, rfl⟩
  · by_cases h2 : op = 10
    · subst h2
      go_enter Tryz.func472, Tryz.ntmps472
      go_wp2
      go_ret
      exact ⟨rfl, rfl⟩
    · have e : namedF op = 2065 := by simp [namedF, h1, h2]
      rw [e]
      have g1 : (op == 9) = false := by simp [h1]
      have g2 : (op == 10) = false := by simp [h2]
      go_enter Tryz.func472, Tryz.ntmps472
      go_wp2
      go_ret
      exact ⟨rfl, rfl⟩
theorem ones_bd (x : Int) : 0 ≤ ones x := by unfold ones; omega
theorem byResult_any {s H M sp bt : Int} (hS : Sz s H M sp bt) (x f : Int) (c : Value) (w : World) (h0 : 0 ≤ x) (h1 : x < M) (h2 : 0 ≤ f) (h3 : f < 4294967296) :
    Calls Tryz.prog 473 #[.agg #[.int .u32 H, c], .int .u32 x, .int .u32 f] w fun e w' => e = .returned (.int .u32 (byF H x f)) ∧ Grown w w' := by
  have ho := ones_bd x
  go_enter Tryz.func473, Tryz.ntmps473
  go_wp2_with (go_at_call 525; refine (onesCount_any _ _).mono ?_; rintro e w' ⟨rfl, rfl⟩)
  go_quiet ((go_at_call 526; exact Calls.quiet_of_same (flagIf_any _ _ _)))
  go_wp2
  go_ret
  refine ⟨?_, Grown.drewN (Grown.alloc (Grown.refl _) _ _) _⟩
  rw [and_sign hS x h0 h1, by_bits h2 h3]
  rfl
theorem add_any {s H M sp bt : Int} (hS : Sz s H M sp bt) (x y c : Int) (b : Nat) (w : World) (x0 : 0 ≤ x) (x1 : x < M) (y0 : 0 ≤ y) (y1 : y < M) (c0 : 0 ≤ c) (c1 : c ≤ 1) (hb : b < w.heap.size) (hc : w.cell? ⟨b, 0, none⟩ = some (.int .u64 sp)) :
    Calls Tryz.prog 523 #[.agg #[.int .u32 H, .func (.func 522) #[] #[.pointer (some ⟨b, 0, none⟩)]], .int .u32 x, .int .u32 y, .int .u32 c] w fun e w' =>
      e = .returned (.tuple #[.int .u32 (addR M x y c), .int .u32 (addM M H x y c)]) ∧ Grown w w' := by
  have mt : M ≤ 4294967296 := hS.top.1
  have mp : 0 < M := by have := hS.top; omega
  have hV := add_over hS x0 x1 y0 y1 c
  have hC := add_carry x0 x1 y0 y1 c0 c1
  have hr0 : 0 ≤ (x + y + c) % M := Int.emod_nonneg _ (by omega)
  have hr1 : (x + y + c) % M < M := Int.emod_lt_of_pos _ mp
  have hx15 : bits .and .u32 x 15 = x % 16 := and_15 x0 (by omega)
  have hy15 : bits .and .u32 y 15 = y % 16 := and_15 y0 (by omega)
  have hm : IntKind.u32.max = 4294967295 := rfl
  have hu : IntKind.u32.signed = false := rfl
  have hc' : ∀ o, (w.alloc o).cell? ⟨b, 0, none⟩ = some (.int .u64 sp) := fun o => by rw [World.cell?_alloc_lt _ _ _ hb]; exact hc
  unfold addM addC addA addR
  unfold addR at hV
  revert hV hC hr0 hr1
  generalize hr : (x + y + c) % M = r
  intro hV hC hr0 hr1
  have HV : Hid _ := hV
  have HC : Hid _ := hC
  clear hV hC
  go_enter Tryz.func523, Tryz.ntmps523
  go_wp2_with (go_at_call 522; refine (cut_any hS _ _ _ (by omega) (hc' _)).mono ?_; rintro e w' ⟨rfl, rfl⟩)
  go_quiet ((go_at_call 526; exact Calls.quiet_of_same (flagIf_any _ _ _)))
  go_wp2
  go_ret2
  exact ⟨ret_two rfl (by rw [HC.out, HV.out]; exact or_marks _ _ _), Grown.drewN (Grown.alloc (Grown.refl _) _ _) _⟩
theorem subtract_any {s H M sp bt : Int} (hS : Sz s H M sp bt) (x y c : Int) (b : Nat) (w : World) (x0 : 0 ≤ x) (x1 : x < M) (y0 : 0 ≤ y) (y1 : y < M) (c0 : 0 ≤ c) (c1 : c ≤ 1) (hb : b < w.heap.size) (hc : w.cell? ⟨b, 0, none⟩ = some (.int .u64 sp)) :
    Calls Tryz.prog 524 #[.agg #[.int .u32 H, .func (.func 522) #[] #[.pointer (some ⟨b, 0, none⟩)]], .int .u32 x, .int .u32 y, .int .u32 c] w fun e w' =>
      e = .returned (.tuple #[.int .u32 (subR M x y c), .int .u32 (subM M H x y c)]) ∧ Grown w w' := by
  have mt : M ≤ 4294967296 := hS.top.1
  have mp : 0 < M := by have := hS.top; omega
  have hV := sub_over hS x0 x1 y0 y1 c
  have hr0 : 0 ≤ subR M x y c := Int.emod_nonneg _ (by omega)
  have hr1 : subR M x y c < M := Int.emod_lt_of_pos _ mp
  have hw0 : 0 ≤ IntKind.u64.wrap (x - (y + c)) := by rw [wrap_u64']; omega
  have hr : IntKind.u64.wrap (x - (y + c)) % M = subR M x y c := by rw [wrap_u64']; unfold subR; rcases hS with ⟨rfl, rfl, rfl, rfl, rfl⟩ | ⟨rfl, rfl, rfl, rfl, rfl⟩ | ⟨rfl, rfl, rfl, rfl, rfl⟩ <;> omega
  have hx15 : bits .and .u32 x 15 = x % 16 := and_15 x0 (by omega)
  have hy15 : bits .and .u32 y 15 = y % 16 := and_15 y0 (by omega)
  have hc' : ∀ o, (w.alloc o).cell? ⟨b, 0, none⟩ = some (.int .u64 sp) := fun o => by rw [World.cell?_alloc_lt _ _ _ hb]; exact hc
  unfold subM subC subA
  revert hV hr hr0 hr1
  generalize subR M x y c = r
  intro hV hr hr0 hr1
  have HV : Hid _ := hV
  clear hV
  go_enter Tryz.func524, Tryz.ntmps524
  go_wp2_with (go_at_call 522; refine (cut_any hS _ _ _ hw0 (hc' _)).mono ?_; rintro e w' ⟨rfl, rfl⟩)
  go_quiet ((go_at_call 526; exact Calls.quiet_of_same (flagIf_any _ _ _)))
  go_wp2
  go_ret2
  exact ⟨ret_two rfl (by rw [HV.out]; exact or_marks _ _ _), Grown.drewN (Grown.alloc (Grown.refl _) _ _) _⟩
end Go.Proofs.YtiagfmkinefidaaGreat.Al
namespace Go.Proofs.YtiagfmkinefidaaGreat.Al
open Go.ChangeShapes Go.WideShapes Go.ChangeAt Go.RowKit
set_option linter.unusedVariables false
set_option maxRecDepth 20000
theorem work_any {s H M sp bt : Int} (hS : Sz s H M sp bt) (op x y c : Int) (b : Nat) (w : World) (o0 : 0 ≤ op) (o1 : op ≤ 11) (x0 : 0 ≤ x) (x1 : x < M) (y0 : 0 ≤ y) (y1 : y < M) (c0 : 0 ≤ c) (c1 : c ≤ 1) (hb : b < w.heap.size) (hc : w.cell? ⟨b, 0, none⟩ = some (.int .u64 sp)) :
    Calls Tryz.prog 471 #[.agg #[.int .u32 H, .func (.func 522) #[] #[.pointer (some ⟨b, 0, none⟩)]], .int .i64 op, .int .u32 x, .int .u32 y, .int .u32 c] w fun e w' =>
      e = .returned (.tuple #[.int .u32 (workR op M x y c), .int .u32 (workM op M H x y c)]) ∧ Grown w w' := by
  have m1 : 1 < M := by have := hS.top; omega
  have m0 : 0 < M := by omega
  have hb' : ∀ o, b < (w.alloc o).heap.size := fun o => by simp; omega
  have hc' : ∀ o, (w.alloc o).cell? ⟨b, 0, none⟩ = some (.int .u64 sp) := fun o => by rw [World.cell?_alloc_lt _ _ _ hb]; exact hc
  have cases : op = 0 ∨ op = 1 ∨ op = 2 ∨ op = 3 ∨ op = 4 ∨ op = 5 ∨ op = 6 ∨ op = 7 ∨ op = 8 ∨ op = 9 ∨ op = 10 ∨ op = 11 := by omega
  clear hc hb
  rcases cases with rfl | rfl | rfl | rfl | rfl | rfl | rfl | rfl | rfl | rfl | rfl | rfl
  all_goals
    go_enter Tryz.func471, Tryz.ntmps471
    go_wp2_with (first
      | (go_at_call 523; refine (add_any hS _ _ _ _ _ (by omega) (by omega) (by omega) (by omega) (by omega) (by omega) (hb' _) (hc' _)).mono ?_; rintro e w' ⟨rfl, hg⟩)
      | (go_at_call 524; refine (subtract_any hS _ _ _ _ _ (by omega) (by omega) (by omega) (by omega) (by omega) (by omega) (hb' _) (hc' _)).mono ?_; rintro e w' ⟨rfl, hg⟩))
    go_ret2
    exact ⟨rfl, by first | exact Grown.trans (Grown.alloc (Grown.refl _) _ _) hg | exact Grown.alloc (Grown.refl _) _ _⟩
end Go.Proofs.YtiagfmkinefidaaGreat.Al
namespace Go.Proofs.YtiagfmkinefidaaGreat.Al
open Go.ChangeShapes Go.WideShapes Go.ChangeAt Go.RowKit
set_option linter.unusedVariables false
set_option maxRecDepth 20000
set_option maxRecDepth 20000 in
set_option maxHeartbeats 1000000 in
theorem Do_work {s H M sp bt : Int} (hS : Sz s H M sp bt) (op a b f : Int) (w : World) (o0 : 0 ≤ op) (o1 : op ≤ 11) (a0 : 0 ≤ a) (a1 : a < 4294967296) (b0 : 0 ≤ b) (b1 : b < 4294967296) (f0 : 0 ≤ f) (f1 : f < 4294967296) :
    Calls Tryz.prog 416 #[.int .i64 op, .int .i64 s, .int .u32 a, .int .u32 b, .int .u32 f] w fun e w' =>
      e = .returned (.tuple #[.int .u32 (doR op M (a % M) (b % M) f), .int .u32 (byF H (workR op M (a % M) (b % M) (f % 2)) (layF op M H (a % M) (b % M) f)), .int .i64 0]) ∧ Grown w w' := by
  have hk := hS.ok
  have m0 : 0 < M := by have := hS.top; omega
  have hx := mod_bd m0 a
  have hy := mod_bd m0 b
  obtain ⟨x0, x1⟩ := hx
  obtain ⟨y0, y1⟩ := hy
  have c0 : 0 ≤ f % 2 := by omega
  have c1 : f % 2 ≤ 1 := by omega
  have n12 : (op == 12) = false := by simp; omega
  have hf1 : bits .and .u32 f 1 = f % 2 := by
    have h := Nat.and_two_pow_sub_one_eq_mod f.toNat 1
    have e : (1 : Int).toNat = 2 ^ 1 - 1 := by decide
    rw [u32_and f 1 f0 f1 (by decide) (by decide), e, h]
    omega
  have hwa : IntKind.u64.wrap a = a := by rw [wrap_u64']; omega
  have hwb : IntKind.u64.wrap b = b := by rw [wrap_u64']; omega
  have hc3 : ∀ o1 o3, (((w.alloc o1).alloc (.cells #[.int .u64 sp] 72)).alloc o3).cell? ⟨w.heap.size + 1, 0, none⟩ = some (.int .u64 sp) := fun o1 o3 => by
    rw [World.cell?_alloc_lt _ _ _ (by simp), World.cell?_alloc_at _ _ _ _ (by simp)]; rfl
  unfold layF
  have g1 : decide (op < 0) = false := by simp; omega
  have g2 : decide (12 < op) = false := by simp; omega
  have t7 : op = 7 ∨ op = 8 ∨ (op == 7) = false ∧ (op == 8) = false := by simp; omega
  rcases t7 with rfl | rfl | ⟨h7, h8⟩
  all_goals
    go_enter Tryz.func416, Tryz.ntmps416
    go_wp2_with (first
      | (go_at_call 469; refine (isSize_any _ _).mono ?_; rintro e w1 ⟨rfl, hw⟩; replace hw := hw.symm; subst hw)
      | (go_at_call 470; refine (widthOf_any hS _).mono ?_; rintro e w1 ⟨rfl, hw⟩; replace hw := hw.symm; subst hw))
    go_quiet ((go_at_call 522; exact Calls.quiet_of_same (cut_any hS _ _ _ (by omega) (by exact hc3 _ _))))
    go_wp2_with fail
    refine (work_any hS _ _ _ _ _ _ o0 o1 x0 x1 y0 y1 c0 c1 (by simp) (by exact hc3 _ _)).mono ?_
    rintro e w1 ⟨rfl, hg⟩
    have hA : w1.cell? ⟨w.heap.size + 1 + 1, 0, none⟩ = some (.int .u32 H) := by rw [Grown.cell hg (by simp)]; simp [go_sem]
    have hB : w1.cell? ⟨w.heap.size + 1 + 1, 1, none⟩ = some (.func (.func 522) #[] #[.pointer (some ⟨w.heap.size + 1, 0, none⟩)]) := by rw [Grown.cell hg (by simp)]; simp [go_sem]
    have hgw : Grown w w1 := Grown.trans (Grown.drewN (Grown.alloc (Grown.alloc (Grown.alloc (Grown.refl _) _ _) _ _) _ _) _) hg
    clear hg hc3
    go_wp2_with (first
      | (go_at_call 472; refine (namedBy_any _ _).mono ?_; rintro e w2 ⟨rfl, hw⟩; replace hw := hw.symm; subst hw)
      | (go_at_call 473; refine (byResult_any hS _ _ _ _ (workR_bd hS x0 x1 y0 y1 _ _).1 (workR_bd hS x0 x1 y0 y1 _ _).2 (lay_bd _ _ _ _ _ _ f0 f1).1 (lay_bd _ _ _ _ _ _ f0 f1).2).mono ?_; rintro e w2 ⟨rfl, hg2⟩))
    go_ret3
  · exact ⟨rfl, Grown.trans hgw hg2⟩
  · exact ⟨rfl, Grown.trans hgw hg2⟩
  · exact ⟨ret_three (by unfold doR; rw [if_neg (by simpa using n12), if_neg (by simpa using h7), if_neg (by simpa using h8)]) rfl rfl, Grown.trans hgw hg2⟩
end Go.Proofs.YtiagfmkinefidaaGreat.Al
