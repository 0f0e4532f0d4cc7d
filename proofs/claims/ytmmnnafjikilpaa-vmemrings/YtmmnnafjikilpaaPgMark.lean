/- page.words.mark: what a walk leaves in its words. -/
import Derived.Test.YtmmnnafjikilpaaPgFollow
import Derived.Test.YtmmnnafjikilpaaRefPut
import Derived.Deep.RegionWith
import Derived.Deep.Cut
namespace Go.Proofs.Ytmmnnafjikilpaa
open Go.ChangeShapes Go.WideShapes Go.ChangeAt Go.RowKit Go.Maps
set_option linter.unusedVariables false

def Row2 (W : World) (X : Nat) (a b : Int) : Prop := W.heap[X]? = some (.cells #[.int .u32 a, .int .u32 b] 154 (0, 0))
theorem Row2.c0 {W : World} {X : Nat} {a b : Int} (h : Row2 W X a b) : W.cell? ⟨X, 0, none⟩ = some (.int .u32 a) := by rw [cell_at h]; rfl
theorem Row2.c1 {W : World} {X : Nat} {a b : Int} (h : Row2 W X a b) : W.cell? ⟨X, 1, none⟩ = some (.int .u32 b) := by rw [cell_at h]; rfl
theorem Row2.lt {W : World} {X : Nat} {a b : Int} (h : Row2 W X a b) : X < W.heap.size := (Array.getElem?_eq_some_iff.1 h).1
theorem Row2.kp {S : Nat → Prop} {W W' : World} {X : Nat} {a b : Int} (h : Row2 W X a b) (k : Kp S W W') (hS : ¬ S X) : Row2 W' X a b := (k.block X h.lt hS).trans h

theorem ask32 {n : Int} (n0 : 0 ≤ n) (n1 : n < 4294967296) : (bits .and .u32 n 32 != 32) = !decide (markW n false = n) := by
  have h := mark_asks n0 n1 false
  rw [and32 n0 n1]
  cases e : hasF n 32
  · have : ¬ markW n false = n := fun f => by have := h.1 f; rw [e] at this; exact Bool.noConfusion this.1
    simp [this, flg]
  · have : markW n false = n := h.2 ⟨e, fun f => by cases f⟩
    simp [this, flg]

theorem ask96 {n : Int} (n0 : 0 ≤ n) (n1 : n < 4294967296) : (bits .and .u32 n 96 != 96) = !decide (markW n true = n) := by
  have h := mark_asks n0 n1 true
  rw [and96 n0 n1]
  cases e : hasF n 32 <;> cases e6 : hasF n 64
  · have : ¬ markW n true = n := fun f => by have := h.1 f; rw [e] at this; exact Bool.noConfusion this.1
    simp [this, flg]
  · have : ¬ markW n true = n := fun f => by have := h.1 f; rw [e] at this; exact Bool.noConfusion this.1
    simp [this, flg]
  · have : ¬ markW n true = n := fun f => by have := (h.1 f).2 rfl; rw [e6] at this; exact Bool.noConfusion this
    simp [this, flg]
  · have : markW n true = n := h.2 ⟨e, fun f => e6⟩
    simp [this, flg]

/-- What one round does: the word n at a, the bits bt; b: it is written. -/
structure OneM (M M' : Mem) (a bt n : Int) (b : Bool) (v : Int) : Prop where
  rd : M.read a 4 = n
  n0 : 0 ≤ n
  n1 : n < 4294967296
  ask : (bits .and .u32 n bt != bt) = b
  or : bits .or .u32 n bt = v
  v0 : 0 ≤ v
  v1 : v < 4294967296
  yes : b = true → M' = M.lay false a (bytesV v)
  no : b = false → M' = M
  nn : M'.n = M.n

def btOf (wr : Bool) : Int := if wr = true then 96 else 32

theorem one_of {M : Mem} (h : RdB M) (a : Int) (wr : Bool) : ∃ n b v, OneM M (markM M a wr) a (btOf wr) n b v := by
  obtain ⟨n0, n1⟩ := h.read a
  have w := markW_bd n0 n1 wr
  refine ⟨M.read a 4, !decide (markW (M.read a 4) wr = M.read a 4), markW (M.read a 4) wr, rfl, n0, n1, ?_, ?_, w.1, w.2, ?_, ?_, (mark_same _ _ _).1⟩
  · cases wr
    · exact ask32 n0 n1
    · exact ask96 n0 n1
  · cases wr
    · exact or32 n0 n1
    · exact or96 n0 n1
  · intro e
    have : ¬ markW (M.read a 4) wr = M.read a 4 := by simpa using e
    unfold markM
    rw [if_neg this]
  · intro e
    have : markW (M.read a 4) wr = M.read a 4 := by simpa using e
    unfold markM
    rw [if_pos this]

theorem one_read {M M' : Mem} {a bt n v : Int} {b : Bool} (h : OneM M M' a bt n b v) {B : Nat} (a0 : 0 ≤ a) (a1 : a < 4294967296) : ∀ W, RamAt W B M → Calls Try.prog 83 #[.pointer (some ⟨B + 3, 0, none⟩), .int .u32 a] W fun e w' => e = .returned (.int .u32 n) ∧ Kp noB W w' := fun W hW => by
  have := pgRead_any W B M hW a a0 a1
  rw [h.rd] at this
  exact this

theorem one_write {M M' : Mem} {a bt n v : Int} (h : OneM M M' a bt n true v) {B : Nat} (a0 : 0 ≤ a) (a1 : a < 4294967296) : ∀ W, RamAt W B M → Calls Try.prog 26 #[.pointer (some ⟨B + 3, 0, none⟩), .int .u32 a, .int .i64 4, .int .u32 v] W fun e w' => e = .returned (.int .i64 0) ∧ RamAt w' B M' ∧ Kp (inRam B M.n) W w' := fun W hW => by
  have := write_ok W B M hW a 4 v a0 a1 h.v0 h.v1 rfl
  rw [h.yes rfl]
  exact this

theorem Kp.ofDrew2 {S : Nat → Prop} {w w' : World} (h : Kp S (w.drewN 2) w') : Kp S w w' := ⟨h.os, h.tape, h.output, h.size, h.block⟩

set_option maxRecDepth 100000 in
set_option maxHeartbeats 4000000 in
theorem mark_walk (w : World) (B : Nat) (M M1 M2 : Mem) (h : RamAt w B M) (p q o t n1 v1 n2 v2 : Int) (b1 b2 : Bool) (wr : Bool) (p0 : 0 ≤ p) (p1 : p < 4294967296) (q0 : 0 ≤ q) (q1 : q < 4294967296) (h1 : OneM M M1 p 32 n1 b1 v1) (h2 : OneM M1 M2 q (btOf wr) n2 b2 v2) :
    Calls Try.prog 80 #[wordsV p q o t, .pointer (some ⟨B + 3, 0, none⟩), .bool wr] w fun e w' => e = .returned (.tuple #[]) ∧ RamAt w' B M2 ∧ Kp (inRam B M.n) w w' := by
  have R1 := one_read (B := B) h1 p0 p1
  have R2 := one_read (B := B) h2 q0 q1
  have HR1 : Hid (∀ W, RamAt W B M → Calls Try.prog 83 #[.pointer (some ⟨B + 3, 0, none⟩), .int .u32 p] W fun e w' => e = .returned (.int .u32 n1) ∧ Kp noB W w') := R1
  have HR2 : Hid (∀ W, RamAt W B M1 → Calls Try.prog 83 #[.pointer (some ⟨B + 3, 0, none⟩), .int .u32 q] W fun e w' => e = .returned (.int .u32 n2) ∧ Kp noB W w') := R2
  clear R1 R2
  have a1 := h1.ask
  have a2 := h2.ask
  have o1 := h1.or
  have o2 := h2.or
  have m0 := h1.n0; have m1 := h1.n1
  have s0 := h2.n0; have s1 := h2.n1
  have hlt := h.lt
  obtain ⟨X, hX⟩ : ∃ X, w.heap.size = X := ⟨_, rfl⟩
  have HX : Hid (w.heap.size = X) := hX
  have nXX : Hid (¬ inRam B M.n X ∧ ¬ inRam B M.n (X + 1)) := ⟨fun f => by have := f.2; omega, fun f => by have := f.2; omega⟩
  clear hX hlt
  cases wr
  · have e32 : btOf false = 32 := rfl
    rw [e32] at a2 o2
    unfold wordsV
    have k0 : Kp noB w ((w.alloc (.cells #[.int .u32 p, .int .u32 q, .int .u32 o, .int .u32 t] 156)).alloc (.cells #[.int .u32 32, .int .u32 32] 154)) := (Kp.alloc _ _ _).trans (Kp.alloc _ _ _)
    have r0 : Row4 ((w.alloc (.cells #[.int .u32 p, .int .u32 q, .int .u32 o, .int .u32 t] 156)).alloc (.cells #[.int .u32 32, .int .u32 32] 154)) X p q o t := by
      have e0 := (MapKept.heap_alloc w (.cells #[.int .u32 p, .int .u32 q, .int .u32 o, .int .u32 t] 156)).1
      rw [HX.out] at e0
      exact (Below.heap_alloc _ _ _ (by simp; have := HX.out; omega)).trans e0
    have s0' : Row2 ((w.alloc (.cells #[.int .u32 p, .int .u32 q, .int .u32 o, .int .u32 t] 156)).alloc (.cells #[.int .u32 32, .int .u32 32] 154)) (X + 1) 32 32 := by
      have e0 := (MapKept.heap_alloc (w.alloc (.cells #[.int .u32 p, .int .u32 q, .int .u32 o, .int .u32 t] 156)) (.cells #[.int .u32 32, .int .u32 32] 154)).1
      have e1 : (w.alloc (.cells #[.int .u32 p, .int .u32 q, .int .u32 o, .int .u32 t] 156)).heap.size = X + 1 := by simp [HX.out]
      rw [e1] at e0
      exact e0
    have h0 : RamAt ((w.alloc (.cells #[.int .u32 p, .int .u32 q, .int .u32 o, .int .u32 t] 156)).alloc (.cells #[.int .u32 32, .int .u32 32] 154)) B M := (h.alloc _).alloc _
    have eor : bits .or .u32 32 64 = 96 := by decide
    go_enter Try.func80, Try.ntmps80
    go_wp2_with fail
    refine wp_loop_rounds 3 ?_
    rw [rounds_succ]
    go_wp2_with fail
    refine (HR1.out _ h0).mono ?_; rintro e w1 ⟨rfl, k1⟩
    replace r0 := r0.kp k1 (fun f => f)
    replace s0' := s0'.kp k1 (fun f => f)
    replace h0 := h0.kp k1 (fun _ _ f => f)
    replace k0 := k0.trans k1
    replace k0 : Kp (inRam B M.n) w w1 := kp_no k0
    clear k1
    rw [HX.out]
    cases hb0 : b1
    · rw [hb0] at a1
      have c0 := r0.c0
      have d0 := s0'.c0
      have eM := h1.no hb0
      go_upto_region 8 with fail
      go_region
      all_goals go_wp2_with fail
      all_goals
        replace h0 : RamAt w1.drew B M1 := by rw [eM]; exact h0.drewN 1
        replace r0 : Row4 w1.drew X p q o t := r0
        replace s0' : Row2 w1.drew (X + 1) 32 32 := s0'
        replace k0 := k0.drew
        rw [rounds_succ]
        clear c0 d0
        have c0 := r0.c1
        go_wp2_with fail
        refine (HR2.out _ h0).mono ?_; rintro e w2 ⟨rfl, k1⟩
        replace r0 := r0.kp k1 (fun f => f)
        replace s0' := s0'.kp k1 (fun f => f)
        replace h0 := h0.kp k1 (fun _ _ f => f)
        replace k0 := k0.trans (kp_no k1)
        clear k1 c0
        cases hb1 : b2
        · rw [hb1] at a2
          have c0 := r0.c1
          have d0 := s0'.c1
          have eM := h2.no hb1
          go_upto_region 8 with fail
          go_region
          all_goals go_wp2_with fail
          all_goals
            replace h0 : RamAt w2.drew B M2 := by rw [eM]; exact h0.drewN 1
            replace r0 : Row4 w2.drew X p q o t := r0
            replace s0' : Row2 w2.drew (X + 1) 32 32 := s0'
            replace k0 := k0.drew
            rw [rounds_succ]
            go_wp2
            go_end0
            exact ⟨rfl, h0, k0⟩
        · rw [hb1] at a2
          have c0 := r0.c1
          have d0 := s0'.c1
          rw [hb1] at h2
          have HW2 : Hid (∀ W, _) := one_write (B := B) h2 q0 q1
          go_upto_region 9 with go_region
          go_region_with (go_at_call 26; refine (HW2.out _ (h0.drewN 2)).mono ?_; rintro e w9 ⟨rfl, hr9, k9⟩)
          all_goals go_wp2_with fail
          all_goals
            have nX : ¬ inRam B M.n X ∧ ¬ inRam B M.n (X + 1) := nXX.out
            rw [h1.nn] at k9
            replace r0 := Row4.kp (W' := w9) r0 k9.ofDrew2 nX.1
            replace s0' := Row2.kp (W' := w9) s0' k9.ofDrew2 nX.2
            replace k0 := k0.trans k9.ofDrew2
            replace h0 := hr9
            rw [rounds_succ]
            go_wp2
            go_end0
            exact ⟨rfl, h0, k0⟩
    · rw [hb0] at a1
      have c0 := r0.c0
      have d0 := s0'.c0
      rw [hb0] at h1
      have HW1 : Hid (∀ W, _) := one_write (B := B) h1 p0 p1
      go_upto_region 9 with go_region
      go_region_with (go_at_call 26; refine (HW1.out _ (h0.drewN 2)).mono ?_; rintro e w9 ⟨rfl, hr9, k9⟩)
      all_goals go_wp2_with fail
      all_goals
        have nX : ¬ inRam B M.n X ∧ ¬ inRam B M.n (X + 1) := nXX.out
        replace r0 := Row4.kp (W' := w9) r0 k9.ofDrew2 nX.1
        replace s0' := Row2.kp (W' := w9) s0' k9.ofDrew2 nX.2
        replace k0 := k0.trans k9.ofDrew2
        replace h0 := hr9
        rw [rounds_succ]
        clear c0 d0
        have c0 := r0.c1
        go_wp2_with fail
        refine (HR2.out _ h0).mono ?_; rintro e w2 ⟨rfl, k1⟩
        replace r0 := r0.kp k1 (fun f => f)
        replace s0' := s0'.kp k1 (fun f => f)
        replace h0 := h0.kp k1 (fun _ _ f => f)
        replace k0 := k0.trans (kp_no k1)
        clear k1 c0
        cases hb1 : b2
        · rw [hb1] at a2
          have c0 := r0.c1
          have d0 := s0'.c1
          have eM := h2.no hb1
          go_upto_region 8 with fail
          go_region
          all_goals go_wp2_with fail
          all_goals
            replace h0 : RamAt w2.drew B M2 := by rw [eM]; exact h0.drewN 1
            replace r0 : Row4 w2.drew X p q o t := r0
            replace s0' : Row2 w2.drew (X + 1) 32 32 := s0'
            replace k0 := k0.drew
            rw [rounds_succ]
            go_wp2
            go_end0
            exact ⟨rfl, h0, k0⟩
        · rw [hb1] at a2
          have c0 := r0.c1
          have d0 := s0'.c1
          rw [hb1] at h2
          have HW2 : Hid (∀ W, _) := one_write (B := B) h2 q0 q1
          go_upto_region 9 with go_region
          go_region_with (go_at_call 26; refine (HW2.out _ (h0.drewN 2)).mono ?_; rintro e w9 ⟨rfl, hr9, k9⟩)
          all_goals go_wp2_with fail
          all_goals
            have nX : ¬ inRam B M.n X ∧ ¬ inRam B M.n (X + 1) := nXX.out
            rw [h1.nn] at k9
            replace r0 := Row4.kp (W' := w9) r0 k9.ofDrew2 nX.1
            replace s0' := Row2.kp (W' := w9) s0' k9.ofDrew2 nX.2
            replace k0 := k0.trans k9.ofDrew2
            replace h0 := hr9
            rw [rounds_succ]
            go_wp2
            go_end0
            exact ⟨rfl, h0, k0⟩
  · have e32 : btOf true = 96 := rfl
    rw [e32] at a2 o2
    unfold wordsV
    have k0 : Kp noB w ((w.alloc (.cells #[.int .u32 p, .int .u32 q, .int .u32 o, .int .u32 t] 156)).alloc (.cells #[.int .u32 32, .int .u32 96] 154)) := (Kp.alloc _ _ _).trans (Kp.alloc _ _ _)
    have r0 : Row4 ((w.alloc (.cells #[.int .u32 p, .int .u32 q, .int .u32 o, .int .u32 t] 156)).alloc (.cells #[.int .u32 32, .int .u32 96] 154)) X p q o t := by
      have e0 := (MapKept.heap_alloc w (.cells #[.int .u32 p, .int .u32 q, .int .u32 o, .int .u32 t] 156)).1
      rw [HX.out] at e0
      exact (Below.heap_alloc _ _ _ (by simp; have := HX.out; omega)).trans e0
    have s0' : Row2 ((w.alloc (.cells #[.int .u32 p, .int .u32 q, .int .u32 o, .int .u32 t] 156)).alloc (.cells #[.int .u32 32, .int .u32 96] 154)) (X + 1) 32 96 := by
      have e0 := (MapKept.heap_alloc (w.alloc (.cells #[.int .u32 p, .int .u32 q, .int .u32 o, .int .u32 t] 156)) (.cells #[.int .u32 32, .int .u32 96] 154)).1
      have e1 : (w.alloc (.cells #[.int .u32 p, .int .u32 q, .int .u32 o, .int .u32 t] 156)).heap.size = X + 1 := by simp [HX.out]
      rw [e1] at e0
      exact e0
    have h0 : RamAt ((w.alloc (.cells #[.int .u32 p, .int .u32 q, .int .u32 o, .int .u32 t] 156)).alloc (.cells #[.int .u32 32, .int .u32 96] 154)) B M := (h.alloc _).alloc _
    have eor : bits .or .u32 32 64 = 96 := by decide
    go_enter Try.func80, Try.ntmps80
    go_wp2_with fail
    refine wp_loop_rounds 3 ?_
    rw [rounds_succ]
    go_wp2_with fail
    refine (HR1.out _ h0).mono ?_; rintro e w1 ⟨rfl, k1⟩
    replace r0 := r0.kp k1 (fun f => f)
    replace s0' := s0'.kp k1 (fun f => f)
    replace h0 := h0.kp k1 (fun _ _ f => f)
    replace k0 := k0.trans k1
    replace k0 : Kp (inRam B M.n) w w1 := kp_no k0
    clear k1
    rw [HX.out]
    cases hb0 : b1
    · rw [hb0] at a1
      have c0 := r0.c0
      have d0 := s0'.c0
      have eM := h1.no hb0
      go_upto_region 8 with fail
      go_region
      all_goals go_wp2_with fail
      all_goals
        replace h0 : RamAt w1.drew B M1 := by rw [eM]; exact h0.drewN 1
        replace r0 : Row4 w1.drew X p q o t := r0
        replace s0' : Row2 w1.drew (X + 1) 32 96 := s0'
        replace k0 := k0.drew
        rw [rounds_succ]
        clear c0 d0
        have c0 := r0.c1
        go_wp2_with fail
        refine (HR2.out _ h0).mono ?_; rintro e w2 ⟨rfl, k1⟩
        replace r0 := r0.kp k1 (fun f => f)
        replace s0' := s0'.kp k1 (fun f => f)
        replace h0 := h0.kp k1 (fun _ _ f => f)
        replace k0 := k0.trans (kp_no k1)
        clear k1 c0
        cases hb1 : b2
        · rw [hb1] at a2
          have c0 := r0.c1
          have d0 := s0'.c1
          have eM := h2.no hb1
          go_upto_region 8 with fail
          go_region
          all_goals go_wp2_with fail
          all_goals
            replace h0 : RamAt w2.drew B M2 := by rw [eM]; exact h0.drewN 1
            replace r0 : Row4 w2.drew X p q o t := r0
            replace s0' : Row2 w2.drew (X + 1) 32 96 := s0'
            replace k0 := k0.drew
            rw [rounds_succ]
            go_wp2
            go_end0
            exact ⟨rfl, h0, k0⟩
        · rw [hb1] at a2
          have c0 := r0.c1
          have d0 := s0'.c1
          rw [hb1] at h2
          have HW2 : Hid (∀ W, _) := one_write (B := B) h2 q0 q1
          go_upto_region 9 with go_region
          go_region_with (go_at_call 26; refine (HW2.out _ (h0.drewN 2)).mono ?_; rintro e w9 ⟨rfl, hr9, k9⟩)
          all_goals go_wp2_with fail
          all_goals
            have nX : ¬ inRam B M.n X ∧ ¬ inRam B M.n (X + 1) := nXX.out
            rw [h1.nn] at k9
            replace r0 := Row4.kp (W' := w9) r0 k9.ofDrew2 nX.1
            replace s0' := Row2.kp (W' := w9) s0' k9.ofDrew2 nX.2
            replace k0 := k0.trans k9.ofDrew2
            replace h0 := hr9
            rw [rounds_succ]
            go_wp2
            go_end0
            exact ⟨rfl, h0, k0⟩
    · rw [hb0] at a1
      have c0 := r0.c0
      have d0 := s0'.c0
      rw [hb0] at h1
      have HW1 : Hid (∀ W, _) := one_write (B := B) h1 p0 p1
      go_upto_region 9 with go_region
      go_region_with (go_at_call 26; refine (HW1.out _ (h0.drewN 2)).mono ?_; rintro e w9 ⟨rfl, hr9, k9⟩)
      all_goals go_wp2_with fail
      all_goals
        have nX : ¬ inRam B M.n X ∧ ¬ inRam B M.n (X + 1) := nXX.out
        replace r0 := Row4.kp (W' := w9) r0 k9.ofDrew2 nX.1
        replace s0' := Row2.kp (W' := w9) s0' k9.ofDrew2 nX.2
        replace k0 := k0.trans k9.ofDrew2
        replace h0 := hr9
        rw [rounds_succ]
        clear c0 d0
        have c0 := r0.c1
        go_wp2_with fail
        refine (HR2.out _ h0).mono ?_; rintro e w2 ⟨rfl, k1⟩
        replace r0 := r0.kp k1 (fun f => f)
        replace s0' := s0'.kp k1 (fun f => f)
        replace h0 := h0.kp k1 (fun _ _ f => f)
        replace k0 := k0.trans (kp_no k1)
        clear k1 c0
        cases hb1 : b2
        · rw [hb1] at a2
          have c0 := r0.c1
          have d0 := s0'.c1
          have eM := h2.no hb1
          go_upto_region 8 with fail
          go_region
          all_goals go_wp2_with fail
          all_goals
            replace h0 : RamAt w2.drew B M2 := by rw [eM]; exact h0.drewN 1
            replace r0 : Row4 w2.drew X p q o t := r0
            replace s0' : Row2 w2.drew (X + 1) 32 96 := s0'
            replace k0 := k0.drew
            rw [rounds_succ]
            go_wp2
            go_end0
            exact ⟨rfl, h0, k0⟩
        · rw [hb1] at a2
          have c0 := r0.c1
          have d0 := s0'.c1
          rw [hb1] at h2
          have HW2 : Hid (∀ W, _) := one_write (B := B) h2 q0 q1
          go_upto_region 9 with go_region
          go_region_with (go_at_call 26; refine (HW2.out _ (h0.drewN 2)).mono ?_; rintro e w9 ⟨rfl, hr9, k9⟩)
          all_goals go_wp2_with fail
          all_goals
            have nX : ¬ inRam B M.n X ∧ ¬ inRam B M.n (X + 1) := nXX.out
            rw [h1.nn] at k9
            replace r0 := Row4.kp (W' := w9) r0 k9.ofDrew2 nX.1
            replace s0' := Row2.kp (W' := w9) s0' k9.ofDrew2 nX.2
            replace k0 := k0.trans k9.ofDrew2
            replace h0 := hr9
            rw [rounds_succ]
            go_wp2
            go_end0
            exact ⟨rfl, h0, k0⟩

theorem mark_any (w : World) (B : Nat) (M : Mem) (h : RamAt w B M) (p q o t : Int) (wr : Bool) (p0 : 0 ≤ p) (p1 : p < 4294967296) (q0 : 0 ≤ q) (q1 : q < 4294967296) :
    Calls Try.prog 80 #[wordsV p q o t, .pointer (some ⟨B + 3, 0, none⟩), .bool wr] w fun e w' => e = .returned (.tuple #[]) ∧ RamAt w' B (markM (markM M p false) q wr) ∧ Kp (inRam B M.n) w w' := by
  have hr := h.rdB
  obtain ⟨n1, b1, v1, h1⟩ := one_of hr p false
  obtain ⟨n2, b2, v2, h2⟩ := one_of (hr.mark p false) q wr
  exact mark_walk w B M _ _ h p q o t n1 v1 n2 v2 b1 b2 wr p0 p1 q0 q1 h1 h2
end Go.Proofs.Ytmmnnafjikilpaa
