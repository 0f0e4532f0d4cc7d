/- New, Flush, Drop; what is asked of none. -/
import Derived.Test.YtmmnnafjikilpaaVmCalls
import Derived.Test.YtmmnnafjikilpaaTlRange
namespace Go.Proofs.Ytmmnnafjikilpaa
open Go.ChangeShapes Go.WideShapes Go.ChangeAt Go.RowKit Go.Maps
set_option linter.unusedVariables false
set_option maxRecDepth 20000

theorem vNew_nil (w : World) (p : Int) : Calls Try.prog 11 #[.pointer none, .int .i64 p] w fun e w' => e = .returned (.tuple #[.pointer none, .int .i64 1]) ∧ w' = w := by
  have cN := tlNew_nil w p
  go_enter Try.func11, Try.ntmps11
  go_wp2_with (go_at_call 30; refine cN.mono ?_; rintro e w' ⟨rfl, hw⟩; replace hw := hw.symm; subst hw)
  go_ret2
  exact ⟨rfl, rfl⟩

theorem vNew_no (w : World) (x : Addr) (p : Int) (p0 : -9223372036854775808 ≤ p) (p1 : p ≤ 9223372036854775807) (h : p < 0 ∨ 64 < p) : Calls Try.prog 11 #[.pointer (some x), .int .i64 p] w fun e w' => e = .returned (.tuple #[.pointer none, .int .i64 100]) ∧ w' = w := by
  have cN := tlNew_no w x p p0 p1 h
  go_enter Try.func11, Try.ntmps11
  go_wp2_with (go_at_call 30; refine cN.mono ?_; rintro e w' ⟨rfl, hw⟩; replace hw := hw.symm; subst hw)
  go_ret2
  exact ⟨rfl, rfl⟩

theorem vNew_ok (w : World) (B p : Nat) (h : p ≤ 64) (M : Mem) (hr : RamAt w B M) (hc : M.closed = false) : Calls Try.prog 11 #[.pointer (some ⟨B + 3, 0, none⟩), .int .i64 p] w fun e w' => ∃ V, e = .returned (.tuple #[.pointer (some ⟨V, 0, none⟩), .int .i64 0]) ∧ w.heap.size < V ∧ VmAt w' V w.heap.size B p 0 M ∧ Kp noB w w' := by
  have cN := tlNew_ok w B p h
  have hl := hr.lt
  go_enter Try.func11, Try.ntmps11
  go_wp2_with (go_at_call 30; refine cN.mono ?_; rintro e w1 ⟨rfl, t1, k1⟩)
  go_ret2
  have kA := Kp.alloc noB w1 (.cells #[.pointer (some ⟨B + 3, 0, none⟩), .pointer (some ⟨w.heap.size + 1, 0, none⟩)] 83)
  have t1l := t1.lt
  refine ⟨w1.heap.size, rfl, by omega, ⟨(MapKept.heap_alloc w1 _).1, ⟨_, t1.kp kA (fun _ _ f => f)⟩, (hr.kp k1 (fun _ _ f => f)).kp kA (fun _ _ f => f), hc, fun j hj f => ?_, fun f => ?_⟩, k1.trans kA⟩
  · have := f.2; rcases hj with e | e <;> omega
  · rcases f with f | f
    · have := f.2; have := k1.size; omega
    · rcases f with e | e <;> omega

theorem vFlush_nil (w : World) : Calls Try.prog 21 #[.pointer none] w fun e w' => e = .returned (.tuple #[]) ∧ w' = w := by
  go_enter Try.func21, Try.ntmps21
  go_wp2
  go_end0
  exact ⟨rfl, rfl⟩

theorem vFlush_ok (w : World) (V K B pl tn : Nat) (M : Mem) (h : VmAt w V K B pl tn M) : Calls Try.prog 21 #[.pointer (some ⟨V, 0, none⟩)] w fun e w' => e = .returned (.tuple #[]) ∧ VmP w V K B pl tn M 2 w' := by
  obtain ⟨D, t⟩ := h.tl
  have cF := tlFlush_ok w K B pl tn D t
  have c1 := h.c1
  go_enter Try.func21, Try.ntmps21
  go_wp2_with (go_at_call 44; refine cF.mono ?_; rintro e w1 ⟨rfl, t1, k1⟩)
  have k2 := k1.mono (T := modVm K B M.n) (fun _ _ f => .inr f)
  go_end0
  exact ⟨rfl, ⟨tn, by omega, h.to k2 t1 (h.ram.kp k1 (fun j hj f => h.apT j f hj)) rfl rfl⟩, k2⟩

theorem vDrop_nil (w : World) (l : Int) : Calls Try.prog 22 #[.pointer none, .int .u32 l] w fun e w' => e = .returned (.tuple #[]) ∧ w' = w := by
  go_enter Try.func22, Try.ntmps22
  go_wp2
  go_end0
  exact ⟨rfl, rfl⟩

theorem vDrop_ok (w : World) (V K B pl tn : Nat) (M : Mem) (h : VmAt w V K B pl tn M) (l : Int) (l0 : 0 ≤ l) (l1 : l < 4294967296) : Calls Try.prog 22 #[.pointer (some ⟨V, 0, none⟩), .int .u32 l] w fun e w' => e = .returned (.tuple #[]) ∧ VmP w V K B pl tn M 2 w' := by
  obtain ⟨D, t⟩ := h.tl
  have cF := tlDrop_ok w K B pl tn D t l l0 l1
  have cF' := tlDrop_ok w.drew K B pl tn D (t.kp (Kp.refl noB w).drew (fun _ _ f => f)) l l0 l1
  have c1 := h.c1
  go_enter Try.func22, Try.ntmps22
  go_wp2_with (go_at_call 45; refine cF.mono ?_; rintro e w1 ⟨rfl, ⟨D1, t1, _⟩, k1⟩)
  have k2 := k1.mono (T := modVm K B M.n) (fun _ _ f => .inr (.inl f))
  go_end0
  exact ⟨rfl, ⟨tn, by omega, h.to k2 t1 (h.ram.kp k1 (fun j hj f => h.apT j (.inl f) hj)) rfl rfl⟩, k2⟩

/-! ### what is asked of none -/
theorem inSeg_need (w : World) (pm pc : Option Addr) (k off z : Int) (wr : Bool) (cN : Hid (∀ W, Kp noB w W → Calls Try.prog 50 #[.pointer pm, .pointer pc] W fun e w' => e = .panicked (pan (ftV 13)) ∧ Kp noB W w')) :
    Calls Try.prog 33 #[.pointer pm, .pointer pc, .int .i64 k, .int .u32 off, .int .i64 z, .bool wr] w fun e w' => e = .panicked (pan (ftV 13)) ∧ Kp noB w w' := by
  have kA := Kp.alloc noB w (.cells #[.int .u32 0, .int .u32 0, .int .i64 0, .int .i64 0] 86)
  have HC : Hid _ := cN.out _ kA
  clear cN
  go_enter Try.func33, Try.ntmps33
  go_wp2_with (go_at_call 50; refine Calls.mono HC.out ?_; rintro e w2 ⟨rfl, k2⟩)
  exact ⟨rfl, rfl, kA.trans k2⟩
theorem ofPro_need (w : World) (pm pc : Option Addr) (off z : Int) (wr : Bool) (cN : Hid (∀ W, Kp noB w W → Calls Try.prog 50 #[.pointer pm, .pointer pc] W fun e w' => e = .panicked (pan (ftV 13)) ∧ Kp noB W w')) :
    Calls Try.prog 40 #[.pointer pm, .pointer pc, .int .u32 off, .int .i64 z, .bool wr] w fun e w' => e = .panicked (pan (ftV 13)) ∧ Kp noB w w' := by
  have kA := Kp.alloc noB w (.cells #[.int .u32 0, .int .u32 0, .int .i64 0, .int .i64 0] 86)
  have HC : Hid _ := cN.out _ kA
  clear cN
  go_enter Try.func40, Try.ntmps40
  go_wp2_with (go_at_call 50; refine Calls.mono HC.out ?_; rintro e w2 ⟨rfl, k2⟩)
  exact ⟨rfl, rfl, kA.trans k2⟩
theorem ofCod_need (w : World) (pm pc : Option Addr) (off : Int) (cN : Hid (∀ W, Kp noB w W → Calls Try.prog 50 #[.pointer pm, .pointer pc] W fun e w' => e = .panicked (pan (ftV 13)) ∧ Kp noB W w')) :
    Calls Try.prog 43 #[.pointer pm, .pointer pc, .int .u32 off] w fun e w' => e = .panicked (pan (ftV 13)) ∧ Kp noB w w' := by
  have kA := Kp.alloc noB w (.cells #[.int .u32 0, .int .u32 0, .int .i64 0, .int .i64 0] 86)
  have HC : Hid _ := cN.out _ kA
  clear cN
  go_enter Try.func43, Try.ntmps43
  go_wp2_with (go_at_call 50; refine Calls.mono HC.out ?_; rintro e w2 ⟨rfl, k2⟩)
  exact ⟨rfl, rfl, kA.trans k2⟩
end Go.Proofs.Ytmmnnafjikilpaa
