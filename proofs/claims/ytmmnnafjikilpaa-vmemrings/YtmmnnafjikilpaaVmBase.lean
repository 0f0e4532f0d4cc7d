/- Memory through segments and pages: what it means that a world holds one, and a processor. -/
import Derived.Test.YtmmnnafjikilpaaVmMath
import Derived.Test.YtmmnnafjikilpaaTlOps
import Derived.Test.YtmmnnafjikilpaaSegReach
import Derived.Recover
import Derived.Deep.Cut
import Derived.Deep.RegionHeld3
import Derived.BigQuiet
namespace Go.Proofs.Ytmmnnafjikilpaa
open Go.ChangeShapes Go.WideShapes Go.ChangeAt Go.RowKit Go.Maps
set_option linter.unusedVariables false

def modVm (K B n j : Nat) : Prop := inRam B n j ∨ inTlb K j

structure VmAt (w : World) (V K B pl tn : Nat) (M : Mem) : Prop where
  c : w.heap[V]? = some (.cells #[.pointer (some ⟨B + 3, 0, none⟩), .pointer (some ⟨K + 1, 0, none⟩)] 83 (0, 0))
  tl : ∃ D, TlbD w K B pl tn D
  ram : RamAt w B M
  cl : M.closed = false
  apT : ∀ j, inTlb K j → ¬ inRam B M.n j
  apV : ¬ modVm K B M.n V

def inVm (V K B n j : Nat) : Prop := j = V ∨ modVm K B n j

theorem VmAt.kp {S : Nat → Prop} {w w' : World} {V K B pl tn : Nat} {M : Mem} (h : VmAt w V K B pl tn M) (k : Kp S w w') (hS : ∀ j, inVm V K B M.n j → ¬ S j) : VmAt w' V K B pl tn M where
  c := (k.block V (Array.getElem?_eq_some_iff.1 h.c).1 (hS V (.inl rfl))).trans h.c
  tl := by obtain ⟨D, t⟩ := h.tl; exact ⟨D, t.kp k (fun j hj => hS j (.inr (.inr hj)))⟩
  ram := h.ram.kp k (fun j hj => hS j (.inr (.inl hj)))
  cl := h.cl
  apT := h.apT
  apV := h.apV
theorem VmAt.kp0 {w w' : World} {V K B pl tn : Nat} {M : Mem} (h : VmAt w V K B pl tn M) (k : Kp noB w w') : VmAt w' V K B pl tn M := h.kp k (fun _ _ f => f)
theorem VmAt.lt {w : World} {V K B pl tn : Nat} {M : Mem} (h : VmAt w V K B pl tn M) : V < w.heap.size := (Array.getElem?_eq_some_iff.1 h.c).1
theorem VmAt.c0 {w : World} {V K B pl tn : Nat} {M : Mem} (h : VmAt w V K B pl tn M) : w.cell? ⟨V, 0, none⟩ = some (.pointer (some ⟨B + 3, 0, none⟩)) := by rw [cell_at h.c]; rfl
theorem VmAt.c1 {w : World} {V K B pl tn : Nat} {M : Mem} (h : VmAt w V K B pl tn M) : w.cell? ⟨V, 1, none⟩ = some (.pointer (some ⟨K + 1, 0, none⟩)) := by rw [cell_at h.c]; rfl
theorem VmAt.in_lt {w : World} {V K B pl tn : Nat} {M : Mem} (h : VmAt w V K B pl tn M) {j : Nat} (hj : modVm K B M.n j) : j < w.heap.size := by
  rcases hj with f | f
  · have := h.ram.lt; have := f.2; omega
  · obtain ⟨D, t⟩ := h.tl; have := t.lt; rcases f with e | e <;> omega

/-! ### the processor -/
structure SgAt (w : World) (C o : Nat) (r : SgR) : Prop where
  a0 : w.cell? ⟨C, o, none⟩ = some (.int .u16 r.sel)
  a1 : w.cell? ⟨C, o + 1, none⟩ = some (.bool r.nl)
  a2 : w.cell? ⟨C, o + 2, none⟩ = some (.int .u32 r.b)
  a3 : w.cell? ⟨C, o + 3, none⟩ = some (.int .u32 r.l)
  a4 : w.cell? ⟨C, o + 4, none⟩ = some (.int .i64 r.t)
  a5 : w.cell? ⟨C, o + 5, none⟩ = some (.bool r.s)
  a6 : w.cell? ⟨C, o + 6, none⟩ = some (.int .i64 r.d)
  a7 : w.cell? ⟨C, o + 7, none⟩ = some (.bool r.p)
  a8 : w.cell? ⟨C, o + 8, none⟩ = some (.bool r.g)

structure CpAt (w : World) (C : Nat) (c : Cp) : Prop where
  sg : ∀ i, i < 6 → SgAt w C (10 + i * 9) (c.seg i)
  z : w.cell? ⟨C, 64, none⟩ = some (.int .u32 c.cr0)
  t : w.cell? ⟨C, 66, none⟩ = some (.int .u32 c.cr3)
  ok : c.Ok

theorem cell_kp {S : Nat → Prop} {w w' : World} {C o : Nat} {v : Value} (h : w.cell? ⟨C, o, none⟩ = some v) (k : Kp S w w') (hS : ¬ S C) : w'.cell? ⟨C, o, none⟩ = some v := by
  have hb : C < w.heap.size := by
    rcases Nat.lt_or_ge C w.heap.size with h' | h'
    · exact h'
    · exfalso; simp [World.cell?, Array.getElem?_eq_none h'] at h
  rw [World.cell?_of_block (w := w) (k.block C hb hS)]; exact h

theorem CpAt.lt {w : World} {C : Nat} {c : Cp} (h : CpAt w C c) : C < w.heap.size := by
  have := h.z
  rcases Nat.lt_or_ge C w.heap.size with h' | h'
  · exact h'
  · exfalso; simp [World.cell?, Array.getElem?_eq_none h'] at this
theorem CpAt.kp {S : Nat → Prop} {w w' : World} {C : Nat} {c : Cp} (h : CpAt w C c) (k : Kp S w w') (hS : ¬ S C) : CpAt w' C c where
  sg := fun i hi => by
    have s := h.sg i hi
    exact ⟨cell_kp s.a0 k hS, cell_kp s.a1 k hS, cell_kp s.a2 k hS, cell_kp s.a3 k hS, cell_kp s.a4 k hS, cell_kp s.a5 k hS, cell_kp s.a6 k hS, cell_kp s.a7 k hS, cell_kp s.a8 k hS⟩
  z := cell_kp h.z k hS
  t := cell_kp h.t k hS
  ok := h.ok
theorem CpAt.kp0 {w w' : World} {C : Nat} {c : Cp} (h : CpAt w C c) (k : Kp noB w w') : CpAt w' C c := h.kp k (fun f => f)

def pan (f : Ft) : List PanicEntry := [{ v := .iface 25 f.val, recovered := false }]

/-! ### leaves -/
theorem refused_any (w : World) (n : Int) : Calls Try.prog 52 #[.int .i64 n] w fun e w' => e = .returned (.agg #[.int .i64 n, .int .i64 0, .int .u32 0]) ∧ Kp noB w w' := by
  go_enter Try.func52, Try.ntmps52
  go_wp2
  refine bodyPost_ret (v := .agg #[.int .i64 n, .int .i64 0, .int .u32 0]) (by simp [results, Try.results52, go_sem]) rfl ⟨rfl, ?_⟩
  exact Kp.alloc noB w _

theorem vectorOf_any (w : World) (k : Int) : Calls Try.prog 54 #[.int .i64 k] w fun e w' => e = .returned (.int .i64 (vecB k)) ∧ w' = w := by
  by_cases h : k = 2
  · subst h
    go_enter Try.func54, Try.ntmps54
    go_wp2
    go_ret
    exact ⟨rfl, rfl⟩
  · have h' : (k == 2) = false := by simpa using h
    go_enter Try.func54, Try.ntmps54
    go_wp2
    go_ret
    exact ⟨ret_int (by simp [vecB, h]), rfl⟩

theorem vIsSize_any (w : World) (z : Int) : Calls Try.prog 51 #[.int .i64 z] w fun e w' => e = .returned (.bool (okS z)) ∧ w' = w := by
  go_enter Try.func51, Try.ntmps51
  go_wp2
  all_goals go_ret
  all_goals exact ⟨ret_bool (by first | (subst_vars; rfl) | (unfold okS; rw [Bool.eq_iff_iff]; simp_all)), rfl⟩

theorem RowB.s0 {W : World} {X : Nat} {a b c : Bool} (h : RowB W X a b c) (v : Bool) : RowB (W.setCell ⟨X, 0, none⟩ (.bool v)) X v b c := heap_setCell_at h _
theorem RowB.s1 {W : World} {X : Nat} {a b c : Bool} (h : RowB W X a b c) (v : Bool) : RowB (W.setCell ⟨X, 1, none⟩ (.bool v)) X a v c := heap_setCell_at h _
theorem RowB.s2 {W : World} {X : Nat} {a b c : Bool} (h : RowB W X a b c) (v : Bool) : RowB (W.setCell ⟨X, 2, none⟩ (.bool v)) X a b v := heap_setCell_at h _

theorem own_way (w : World) (C : Nat) (c : Cp) (wr : Bool) (h : CpAt w C c) : Calls Try.prog 63 #[.pointer (some ⟨C, 0, none⟩), .bool wr] w fun e w' => e = .returned (.agg #[.bool wr, .bool false, .bool c.wp]) ∧ Kp noB w w' := by
  have hz := (h.kp0 (Kp.alloc noB w (.cells #[.bool false, .bool false, .bool false] 117))).z
  have ha := and_pw h.ok.z0 h.ok.z1 16 (by decide)
  have e16 : ((2 ^ 16 : Nat) : Int) = 65536 := by decide
  rw [e16] at ha
  have hb : (flg (hasF c.cr0 65536) 65536 != 0) = c.wp := by unfold Cp.wp; cases hasF c.cr0 65536 <;> rfl
  rw [← ha] at hb
  clear ha
  go_enter Try.func63, Try.ntmps63
  go_wp2
  refine bodyPost_ret (v := .agg #[.bool wr, .bool false, .bool c.wp]) (by simp [results, Try.results63, go_sem]) rfl ⟨rfl, ?_⟩
  exact Kp.alloc noB w _

theorem program_way (w : World) (C : Nat) (c : Cp) (wr : Bool) (h : CpAt w C c) : Calls Try.prog 56 #[.pointer (some ⟨C, 0, none⟩), .bool wr] w fun e w' => e = .returned (.agg #[.bool wr, .bool c.us, .bool c.wp]) ∧ Kp noB w w' := by
  have s1 : w.cell? ⟨C, 19, none⟩ = some (.int .u16 (c.seg 1).sel) := (h.sg 1 (by decide)).a0
  have q := h.ok.sg 1 (by decide)
  have hlt := h.lt
  have hb : (bits .and .u16 (c.seg 1).sel 3 == 3) = c.us := by
    have h2 := Nat.and_two_pow_sub_one_eq_mod (c.seg 1).sel.toNat 2
    have e : (3 : Int).toNat = 2 ^ 2 - 1 := by decide
    rw [u16_and _ 3 q.s0 q.s1 (by decide) (by decide), e, h2]
    have := q.s0
    unfold Cp.us
    rw [Bool.eq_iff_iff, beq_iff_eq, decide_eq_true_iff]
    omega
  have cO := own_way (w.alloc (.cells #[.bool false, .bool false, .bool false] 117)) C c wr (h.kp0 (Kp.alloc _ _ _))
  go_enter Try.func56, Try.ntmps56
  go_wp2_with fail
  refine cO.mono ?_; rintro e w1 ⟨rfl, k1⟩
  have k1' := (Kp.alloc noB w (.cells #[.bool false, .bool false, .bool false] 117)).trans k1
  have r1 : RowB w1 w.heap.size false false false := RowB.kp (MapKept.heap_alloc w _).1 k1 (fun f => f)
  have s2 := cell_kp s1 k1' (fun f => f)
  have c0 := r1.c0; have c1 := r1.c1; have c2 := r1.c2
  have f0 : w1.frozen? ⟨w.heap.size, 0, none⟩ = false := frozen_at r1
  have f1 : w1.frozen? ⟨w.heap.size, 1, none⟩ = false := frozen_at r1
  have f2 : w1.frozen? ⟨w.heap.size, 2, none⟩ = false := frozen_at r1
  have hl1 := r1.lt
  have s3 := cell_kp s2 (Kp.alloc noB w1 (.cells #[.bool wr, .bool false, .bool c.wp] 117)) (fun f => f)
  have r2 := (((r1.s0 wr).s1 c.us).s2 c.wp).kp (Kp.alloc noB _ (.cells #[.bool wr, .bool c.us, .bool c.wp] 117)) (fun f => f)
  have kF := (((k1'.own' (i := 0) (Nat.le_refl _) (.bool wr)).own' (i := 1) (Nat.le_refl _) (.bool c.us)).own' (i := 2) (Nat.le_refl _) (.bool c.wp)).trans (Kp.alloc noB _ (.cells #[.bool wr, .bool c.us, .bool c.wp] 117))
  go_wp2
  refine bodyPost_ret (v := .agg #[.bool wr, .bool c.us, .bool c.wp]) (by simp [results, Try.results56, go_sem, r2.c0, r2.c1, r2.c2]) rfl ⟨rfl, kF⟩

theorem vRam_nil (w : World) : Calls Try.prog 23 #[.pointer none] w fun e w' => e = .returned (.pointer none) ∧ w' = w := by
  go_enter Try.func23, Try.ntmps23
  go_wp2
  go_ret
  exact ⟨rfl, rfl⟩
theorem vRam_ok (w : World) (V B K : Nat) (h : w.cell? ⟨V, 0, none⟩ = some (.pointer (some ⟨B + 3, 0, none⟩))) : Calls Try.prog 23 #[.pointer (some ⟨V, 0, none⟩)] w fun e w' => e = .returned (.pointer (some ⟨B + 3, 0, none⟩)) ∧ w' = w := by
  go_enter Try.func23, Try.ntmps23
  go_wp2
  go_ret
  exact ⟨rfl, rfl⟩
end Go.Proofs.Ytmmnnafjikilpaa
