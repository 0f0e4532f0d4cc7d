/- page.follow: both words are read. -/
import Derived.Test.YtmmnnafjikilpaaPgLeaf
import Derived.Test.YtmmnnafjikilpaaRefBase
namespace Go.Proofs.Ytmmnnafjikilpaa
open Go.ChangeShapes Go.WideShapes Go.ChangeAt Go.RowKit Go.Maps
set_option linter.unusedVariables false

theorem Kp.own {w W : World} (h : Kp noB w W) {b i : Nat} (hb : w.heap.size ≤ b) (v : Value) : Kp noB w (W.setCell ⟨b, i, none⟩ v) :=
  h.over (Kp.setCell (S := fun j => j = b) W (p := ⟨b, i, none⟩) rfl v) (fun j hj e => by omega)

/-- A block of four words. -/
def Row4 (W : World) (X : Nat) (a b c d : Int) : Prop := W.heap[X]? = some (.cells #[.int .u32 a, .int .u32 b, .int .u32 c, .int .u32 d] 156 (0, 0))

theorem Row4.c0 {W : World} {X : Nat} {a b c d : Int} (h : Row4 W X a b c d) : W.cell? ⟨X, 0, none⟩ = some (.int .u32 a) := by rw [cell_at h]; rfl
theorem Row4.c1 {W : World} {X : Nat} {a b c d : Int} (h : Row4 W X a b c d) : W.cell? ⟨X, 1, none⟩ = some (.int .u32 b) := by rw [cell_at h]; rfl
theorem Row4.c2 {W : World} {X : Nat} {a b c d : Int} (h : Row4 W X a b c d) : W.cell? ⟨X, 2, none⟩ = some (.int .u32 c) := by rw [cell_at h]; rfl
theorem Row4.c3 {W : World} {X : Nat} {a b c d : Int} (h : Row4 W X a b c d) : W.cell? ⟨X, 3, none⟩ = some (.int .u32 d) := by rw [cell_at h]; rfl
theorem Row4.fz {W : World} {X : Nat} {a b c d : Int} (h : Row4 W X a b c d) (j : Nat) : W.frozen? ⟨X, j, none⟩ = false := frozen_at h
theorem Row4.s0 {W : World} {X : Nat} {a b c d : Int} (h : Row4 W X a b c d) (v : Int) : Row4 (W.setCell ⟨X, 0, none⟩ (.int .u32 v)) X v b c d := heap_setCell_at h _
theorem Row4.s1 {W : World} {X : Nat} {a b c d : Int} (h : Row4 W X a b c d) (v : Int) : Row4 (W.setCell ⟨X, 1, none⟩ (.int .u32 v)) X a v c d := heap_setCell_at h _
theorem Row4.s2 {W : World} {X : Nat} {a b c d : Int} (h : Row4 W X a b c d) (v : Int) : Row4 (W.setCell ⟨X, 2, none⟩ (.int .u32 v)) X a b v d := heap_setCell_at h _
theorem Row4.s3 {W : World} {X : Nat} {a b c d : Int} (h : Row4 W X a b c d) (v : Int) : Row4 (W.setCell ⟨X, 3, none⟩ (.int .u32 v)) X a b c v := heap_setCell_at h _
theorem Row4.lt {W : World} {X : Nat} {a b c d : Int} (h : Row4 W X a b c d) : X < W.heap.size := (Array.getElem?_eq_some_iff.1 h).1
theorem Row4.kp {S : Nat → Prop} {W W' : World} {X : Nat} {a b c d : Int} (h : Row4 W X a b c d) (k : Kp S W W') (hS : ¬ S X) : Row4 W' X a b c d := (k.block X h.lt hS).trans h

theorem Row4.other {W : World} {X Y i : Nat} {a b c d : Int} {v : Value} (h : Row4 W X a b c d) (hne : X ≠ Y) : Row4 (W.setCell ⟨Y, i, none⟩ v) X a b c d := (heap_set_other hne).trans h

def FolPost (w : World) (M : Mem) (c l : Int) (e : Ending) (w' : World) : Prop :=
  e = .returned (.tuple #[if fHere M c l = true then wordsV (pdeA c l) (fPte M c l) (fOne M c l) (fTwo M c l) else wordsV 0 0 0 0, .bool (fHere M c l)]) ∧ Kp noB w w'

/-- The walk's letters. -/
structure FolIn (W : World) (B : Nat) (M : Mem) (c l p q o t i0 i1 ca oa : Int) : Prop where
  ram : RamAt W B M

set_option maxRecDepth 100000 in
set_option maxHeartbeats 1000000 in
theorem follow_any (w : World) (B : Nat) (M : Mem) (h : RamAt w B M) (c l : Int) (c0 : 0 ≤ c) (c1 : c < 4294967296) (l0 : 0 ≤ l) (l1 : l < 4294967296) :
    Calls Try.prog 76 #[.pointer (some ⟨B + 3, 0, none⟩), .int .u32 c, .int .u32 l] w (FolPost w M c l) := by
  have hr := h.rdB
  obtain ⟨o0, o1⟩ := fOne_bd hr c l
  obtain ⟨t0, t1⟩ := fTwo_bd hr c l
  obtain ⟨p0, p1⟩ := pdeA_bd c0 c1 l0 l1
  obtain ⟨q0, q1⟩ := fPte_bd hr c l l0 l1
  have eP : pdeA c l = c - c % 4096 + l / 4194304 * 4 := rfl
  have eQ : fPte M c l = fOne M c l - fOne M c l % 4096 + l / 4096 % 1024 * 4 := rfl
  have HP : Hid (∀ W, RamAt W B M → Calls Try.prog 83 #[.pointer (some ⟨B + 3, 0, none⟩), .int .u32 (pdeA c l)] W fun e w' => e = .returned (.int .u32 (fOne M c l)) ∧ Kp noB W w') := fun W hW => pgRead_any W B M hW _ p0 p1
  have HQ : Hid (∀ W, RamAt W B M → Calls Try.prog 83 #[.pointer (some ⟨B + 3, 0, none⟩), .int .u32 (fPte M c l)] W fun e w' => e = .returned (.int .u32 (fTwo M c l)) ∧ Kp noB W w') := fun W hW => pgRead_any W B M hW _ q0 q1
  have aO := and1 o0 o1
  have aT := and1 t0 t1
  have nC := not4095 c0 c1
  have nO := not4095 o0 o1
  have hF : fHere M c l = (hasF (fOne M c l) 1 && hasF (fTwo M c l) 1) := rfl
  unfold FolPost
  rw [hF]
  generalize fTwo M c l = t at *
  generalize fOne M c l = o at *
  generalize fPte M c l = q at *
  generalize pdeA c l = p at *
  clear hF hr
  have HI0 : Hid (∀ W, Calls Try.prog 82 #[.int .u32 l, .int .i64 0] W fun e w' => e = .returned (.int .u32 (l / 4194304)) ∧ w' = W) := fun W => pgIndex0 W l l0 l1
  have HI1 : Hid (∀ W, Calls Try.prog 82 #[.int .u32 l, .int .i64 1] W fun e w' => e = .returned (.int .u32 (l / 4096 % 1024)) ∧ w' = W) := fun W => pgIndex1 W l l0 l1
  have i00 : 0 ≤ l / 4194304 ∧ l / 4194304 < 1024 := by omega
  have i10 : 0 ≤ l / 4096 % 1024 ∧ l / 4096 % 1024 < 1024 := by omega
  have cd : 0 ≤ c - c % 4096 ∧ c - c % 4096 ≤ 4294963200 := by omega
  have od : 0 ≤ o - o % 4096 ∧ o - o % 4096 ≤ 4294963200 := by omega
  generalize l / 4194304 = i0 at *
  generalize l / 4096 % 1024 = i1 at *
  generalize c - c % 4096 = ca at *
  generalize o - o % 4096 = oa at *
  obtain ⟨i00, i01⟩ := i00
  obtain ⟨i10, i11⟩ := i10
  obtain ⟨cd0, cd1⟩ := cd
  obtain ⟨od0, od1⟩ := od
  have eP' : ca + 4 * i0 = p := by omega
  have eQ' : oa + 4 * i1 = q := by omega
  clear eP eQ
  obtain ⟨b0, hb0⟩ : ∃ b, b = hasF o 1 := ⟨_, rfl⟩
  obtain ⟨b1, hb1⟩ : ∃ b, b = hasF t 1 := ⟨_, rfl⟩
  rw [← hb0] at aO ⊢
  rw [← hb1] at aT ⊢
  clear hb0 hb1
  unfold wordsV
  have hlt := h.lt
  obtain ⟨X, hX⟩ : ∃ X, w.heap.size = X := ⟨_, rfl⟩
  have HX : Hid (w.heap.size = X) := hX
  have HA : Hid (∀ y : Int, RamAt ((w.alloc (.cells #[.int .u32 0, .int .u32 0, .int .u32 0, .int .u32 0] 156)).alloc (.cells #[.int .u32 y, .int .u32 0, .int .u32 0, .int .u32 0] 156)) B M) := fun y => (h.alloc _).alloc _
  have HK : Hid (∀ y : Int, Kp noB w ((w.alloc (.cells #[.int .u32 0, .int .u32 0, .int .u32 0, .int .u32 0] 156)).alloc (.cells #[.int .u32 y, .int .u32 0, .int .u32 0, .int .u32 0] 156))) := fun y => (Kp.alloc _ _ _).trans (Kp.alloc _ _ _)
  have HR0 : Hid (∀ y : Int, Row4 ((w.alloc (.cells #[.int .u32 0, .int .u32 0, .int .u32 0, .int .u32 0] 156)).alloc (.cells #[.int .u32 y, .int .u32 0, .int .u32 0, .int .u32 0] 156)) X 0 0 0 0) := fun y => by
    have e0 := (MapKept.heap_alloc w (.cells #[.int .u32 0, .int .u32 0, .int .u32 0, .int .u32 0] 156)).1
    rw [hX] at e0
    exact (Below.heap_alloc _ _ _ (by simp; omega)).trans e0
  have HR1 : Hid (∀ y : Int, Row4 ((w.alloc (.cells #[.int .u32 0, .int .u32 0, .int .u32 0, .int .u32 0] 156)).alloc (.cells #[.int .u32 y, .int .u32 0, .int .u32 0, .int .u32 0] 156)) (X + 1) y 0 0 0) := fun y => by
    have e0 := (MapKept.heap_alloc (w.alloc (.cells #[.int .u32 0, .int .u32 0, .int .u32 0, .int .u32 0] 156)) (.cells #[.int .u32 y, .int .u32 0, .int .u32 0, .int .u32 0] 156)).1
    have e1 : (w.alloc (.cells #[.int .u32 0, .int .u32 0, .int .u32 0, .int .u32 0] 156)).heap.size = X + 1 := by simp [hX]
    rw [e1] at e0
    exact e0
  clear hX hlt
  cases b0
  · have aO' : bits .and .u32 o 1 = 0 := aO
    clear aO
    go_enter Try.func76, Try.ntmps76
    go_wp2_with fail
    refine wp_loop_rounds 3 ?_
    rw [rounds_succ]
    go_wp2_with fail
    refine (HI0.out _).mono ?_; rintro e w' ⟨rfl, hw⟩; replace hw := hw.symm; subst hw
    go_wp2_with fail
    refine (HP.out _ (HA.out _)).mono ?_; rintro e w1 ⟨rfl, k1⟩
    have r0 := (HR0.out p).kp k1 (fun f => f)
    have r1 := (HR1.out p).kp k1 (fun f => f)
    have k2 := (HK.out p).trans k1
    rw [HX.out]
    have a0 := r0.c0; have a1 := r0.c1; have a2 := r0.c2; have a3 := r0.c3
    have f0 := r0.fz 0; have f1 := r0.fz 1; have f2 := r0.fz 2; have f3 := r0.fz 3
    have d2 := r1.c2; have g2 := r1.fz 2
    have HXX : Hid (X = w.heap.size) := HX.out.symm
    go_wp2
    have z0 := (r0.other (Y := X + 1) (i := 2) (v := .int .u32 o) (by omega)).s0 0
    have z1 := z0.s1 0
    have z2 := z1.s2 0
    have z3 := z2.s3 0
    refine bodyPost_ret (v := .tuple #[.agg #[.int .u32 0, .int .u32 0, .int .u32 0, .int .u32 0], .bool false]) ?_ rfl ⟨rfl, ?_⟩
    · simp [results, Try.results76, go_sem, z0.c0, z1.c1, z2.c2, z3.c3]
    · have hx := HX.out
      exact ((((k2.own (by omega) _).own (by omega) _).own (by omega) _).own (by omega) _).own (by omega) _
  · have aO' : bits .and .u32 o 1 = 1 := aO
    clear aO
    go_enter Try.func76, Try.ntmps76
    go_wp2_with fail
    refine wp_loop_rounds 3 ?_
    rw [rounds_succ]
    go_wp2_with fail
    refine (HI0.out _).mono ?_; rintro e w' ⟨rfl, hw⟩; replace hw := hw.symm; subst hw
    go_wp2_with fail
    refine (HP.out _ (HA.out _)).mono ?_; rintro e w1 ⟨rfl, k1⟩
    have r0 := (HR0.out p).kp k1 (fun f => f)
    have r1 := (HR1.out p).kp k1 (fun f => f)
    have k2 := (HK.out p).trans k1
    rw [HX.out]
    have d2 := r1.c2; have g2 := r1.fz 2
    go_wp2_with fail
    have hx := HX.out
    have k3 : Kp noB w (w1.setCell ⟨X + 1, 2, none⟩ (.int .u32 o)) := k2.own (by omega) _
    replace r0 := r0.other (Y := X + 1) (i := 2) (v := .int .u32 o) (by omega)
    replace r1 := r1.s2 o
    clear hx k1 k2 d2 g2
    obtain ⟨w2, hgen⟩ : ∃ W, W = w1.setCell ⟨X + 1, 2, none⟩ (.int .u32 o) := ⟨_, rfl⟩
    rw [← hgen] at r0 r1 k3 ⊢
    clear hgen
    rw [rounds_succ]
    go_wp2_with fail
    refine (HI1.out _).mono ?_; rintro e w' ⟨rfl, hw⟩; replace hw := hw.symm; subst hw
    have d1 := r1.c1; have g1 := r1.fz 1
    go_wp2_with fail
    have k4 : Kp noB w (w2.setCell ⟨X + 1, 1, none⟩ (.int .u32 q)) := k3.own (by have := HX.out; omega) _
    replace r0 := r0.other (Y := X + 1) (i := 1) (v := .int .u32 q) (by omega)
    replace r1 := r1.s1 q
    clear d1 g1 k3
    obtain ⟨w3, hgen⟩ : ∃ W, W = w2.setCell ⟨X + 1, 1, none⟩ (.int .u32 q) := ⟨_, rfl⟩
    rw [← hgen] at r0 r1 k4 ⊢
    clear hgen
    refine (HQ.out _ (h.kp k4 (fun _ _ f => f))).mono ?_; rintro e w4 ⟨rfl, k5⟩
    replace r0 := r0.kp k5 (fun f => f)
    replace r1 := r1.kp k5 (fun f => f)
    replace k5 := k4.trans k5
    clear k4
    have d3 := r1.c3; have g3 := r1.fz 3
    cases b1
    · have aT' : bits .and .u32 t 1 = 0 := aT
      clear aT
      have a0 := r0.c0; have a1 := r0.c1; have a2 := r0.c2; have a3 := r0.c3
      have f0 := r0.fz 0; have f1 := r0.fz 1; have f2 := r0.fz 2; have f3 := r0.fz 3
      go_wp2
      have z0 := (r0.other (Y := X + 1) (i := 3) (v := .int .u32 t) (by omega)).s0 0
      have z1 := z0.s1 0
      have z2 := z1.s2 0
      have z3 := z2.s3 0
      refine bodyPost_ret (v := .tuple #[.agg #[.int .u32 0, .int .u32 0, .int .u32 0, .int .u32 0], .bool false]) ?_ rfl ⟨rfl, ?_⟩
      · simp [results, Try.results76, go_sem, z0.c0, z1.c1, z2.c2, z3.c3]
      · have hx := HX.out
        exact ((((k5.own (by omega) _).own (by omega) _).own (by omega) _).own (by omega) _).own (by omega) _
    · have aT' : bits .and .u32 t 1 = 1 := aT
      clear aT
      go_wp2_with fail
      have k6 : Kp noB w (w4.setCell ⟨X + 1, 3, none⟩ (.int .u32 t)) := k5.own (by have := HX.out; omega) _
      replace r0 := r0.other (Y := X + 1) (i := 3) (v := .int .u32 t) (by omega)
      replace r1 := r1.s3 t
      clear d3 g3 k5
      obtain ⟨w5, hgen⟩ : ∃ W, W = w4.setCell ⟨X + 1, 3, none⟩ (.int .u32 t) := ⟨_, rfl⟩
      rw [← hgen] at r0 r1 k6 ⊢
      clear hgen
      rw [rounds_succ]
      have a0 := r0.c0; have a1 := r0.c1; have a2 := r0.c2; have a3 := r0.c3
      have f0 := r0.fz 0; have f1 := r0.fz 1; have f2 := r0.fz 2; have f3 := r0.fz 3
      have e0 := r1.c0; have e1 := r1.c1; have e2 := r1.c2; have e3 := r1.c3
      go_wp2
      have z0 := r0.s0 p
      have z1 := z0.s1 q
      have z2 := z1.s2 o
      have z3 := z2.s3 t
      refine bodyPost_ret (v := .tuple #[.agg #[.int .u32 p, .int .u32 q, .int .u32 o, .int .u32 t], .bool true]) ?_ rfl ⟨rfl, ?_⟩
      · simp [results, Try.results76, go_sem, z0.c0, z1.c1, z2.c2, z3.c3]
      · have hx := HX.out
        exact (((k6.own (by omega) _).own (by omega) _).own (by omega) _).own (by omega) _
end Go.Proofs.Ytmmnnafjikilpaa
