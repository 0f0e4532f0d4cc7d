/- What vmem's calls hand to faultOf. -/
import Derived.Test.YtmmnnafjikilpaaVmFault
namespace Go.Proofs.Ytmmnnafjikilpaa
open Go.ChangeShapes Go.WideShapes Go.ChangeAt Go.RowKit Go.Maps
set_option linter.unusedVariables false
set_option maxRecDepth 20000

def RowV (W : World) (X : Nat) (v : Int) : Prop := W.heap[X]? = some (.cells #[.int .u32 v] 23 (0, 0))
theorem RowV.lt {W : World} {X : Nat} {v : Int} (r : RowV W X v) : X < W.heap.size := (Array.getElem?_eq_some_iff.1 r).1
theorem RowV.kp {S : Nat → Prop} {W W' : World} {X : Nat} {v : Int} (r : RowV W X v) (k : Kp S W W') (hS : ¬ S X) : RowV W' X v := (k.block X r.lt hS).trans r
theorem RowV.c {W : World} {X : Nat} {v : Int} (r : RowV W X v) : W.cell? ⟨X, 0, none⟩ = some (.int .u32 v) := by rw [cell_at r]; rfl
theorem RowV.fz {W : World} {X : Nat} {v : Int} (r : RowV W X v) : W.frozen? ⟨X, 0, none⟩ = false := frozen_at r
theorem RowV.set {W : World} {X : Nat} {v : Int} (r : RowV W X v) (u : Int) : RowV (W.setCell ⟨X, 0, none⟩ (.int .u32 u)) X u := heap_setCell_at r _

abbrev BxLoad (X : Nat) (pm pc : Value) (k off z : Int) (W : World) : Prop := W.cell? ⟨X, 0, none⟩ = some (pm) ∧ W.cell? ⟨X + 1, 0, none⟩ = some (pc) ∧ W.cell? ⟨X + 2, 0, none⟩ = some (.int .i64 k) ∧ W.cell? ⟨X + 3, 0, none⟩ = some (.int .u32 off) ∧ W.cell? ⟨X + 4, 0, none⟩ = some (.int .i64 z)
theorem BxLoad.kp {X : Nat} {pm pc : Value} {k off z : Int} {S : Nat → Prop} {W W' : World} (h : BxLoad X pm pc k off z W) (kq : Kp S W W') (hS : ∀ j, S j → j < X ∨ X + 5 ≤ j) : BxLoad X pm pc k off z W' := by
  obtain ⟨h0, h1, h2, h3, h4⟩ := h
  exact ⟨cell_kp h0 kq (fun f => by have := hS _ f; omega), cell_kp h1 kq (fun f => by have := hS _ f; omega), cell_kp h2 kq (fun f => by have := hS _ f; omega), cell_kp h3 kq (fun f => by have := hS _ f; omega), cell_kp h4 kq (fun f => by have := hS _ f; omega)⟩

theorem load1_no (w : World) (X Y : Nat) (pm pc : Value) (k off z : Int) (f : Ft) (S : Nat → Prop) (P : World → Prop) (hb : BxLoad X pm pc k off z w)
    (H : Hid (∀ W, Kp noB w W → Calls Try.prog 33 #[pm, pc, .int .i64 k, .int .u32 off, .int .i64 z, .bool false] W fun e w' => e = .panicked (pan f) ∧ Kp S W w' ∧ P w')) :
    Calls Try.prog 37 #[.pointer (some ⟨X, 0, none⟩), .pointer (some ⟨X + 1, 0, none⟩), .pointer (some ⟨X + 2, 0, none⟩), .pointer (some ⟨X + 3, 0, none⟩), .pointer (some ⟨X + 4, 0, none⟩), .pointer (some ⟨Y, 0, none⟩)] w fun e w' => e = .panicked (pan f) ∧ Kp S w w' ∧ P w' := by
  have HC : Hid _ := H.out w.drew (Kp.refl noB w).drew
  obtain ⟨b0, b1, b2, b3, b4⟩ := hb
  go_enter Try.func37, Try.ntmps37
  refine OrdP.region_vals (τ := Unit) (fun ch w' => ch = pan f ∧ Kp S w.drew w' ∧ P w') (fun _ => [pm, pm, pc, .int .i64 k, .int .u32 off, .int .i64 z, undef, undef, undef]) (fun _ listed W' => W' = w.drew ∧ listed.getD 6 false = false) () ?_ (by kernel_rfl) (by kernel_rfl) (by kernel_rfl) (by kernel_rfl) (fun _ => rfl) (fun t => by simp only [OrdG.puts, Act.put, List.setIfInBounds_toArray, List.set_cons_zero, List.set_cons_succ]; rfl) (fun _ => by kernel_rfl) ⟨rfl, rfl⟩ ?_ ?_
  · rintro ch a' w' hd ⟨rfl, k, p⟩
    exact ⟨hd, rfl, k.undrew, p⟩
  · refine ⟨?_, ?_, ?_, ?_, ?_, ?_, ?_, ?_, ?_, trivial⟩
    all_goals (intro t listed W' hz hSh hl hI hb K hK hK0; obtain ⟨rfl, h7⟩ := hI)
    case refine_7 =>
      go_simp
      refine Calls.mono HC.out ?_
      rintro e w4 ⟨rfl, r⟩
      exact ⟨rfl, r⟩
    case refine_9 => exact absurd (OrdG.on_of (i := 6) hb (by kernel_rfl)) (by rw [h7]; decide)
    case refine_8 => exact absurd (OrdG.on_of (i := 6) hb (by kernel_rfl)) (by rw [h7]; decide)
    all_goals (go_simp; exact hK0 _ ⟨rfl, OrdP.keep h7 (by decide)⟩)
  · rintro t listed w' hal ⟨_, h7⟩
    have := hal 6 (by decide)
    rw [h7] at this
    cases this

theorem load1_ok (w : World) (X Y V K B pl tn : Nat) (pc : Value) (k off z : Int) (y0 : Int) (hY : RowV w Y y0) (hX : X + 5 ≤ Y) (q : Qy) (hq : q.s.Ok) (hb : BxLoad X (.pointer (some ⟨V, 0, none⟩)) pc k off z w) (hm : ∀ j, modVm K B q.m.n j → j < X) (hV : V < X)
    (H : Hid (∀ W, Kp noB w W → Calls Try.prog 33 #[.pointer (some ⟨V, 0, none⟩), pc, .int .i64 k, .int .u32 off, .int .i64 z, .bool false] W fun e w' => e = .returned q.s.val ∧ VmP W V K B pl tn q.m 2 w')) :
    Calls Try.prog 37 #[.pointer (some ⟨X, 0, none⟩), .pointer (some ⟨X + 1, 0, none⟩), .pointer (some ⟨X + 2, 0, none⟩), .pointer (some ⟨X + 3, 0, none⟩), .pointer (some ⟨X + 4, 0, none⟩), .pointer (some ⟨Y, 0, none⟩)] w fun e w' => e = .returned (.tuple #[]) ∧ Kp (fun j => modVm K B q.m.n j ∨ j = Y) w w' ∧ (∃ tn', tn' ≤ tn + 2 ∧ VmAt w' V K B pl tn' q.m) ∧ RowV w' Y (q.m.rdS q.s) := by
  have HC : Hid _ := H.out w.drew (Kp.refl noB w).drew
  have HB0 : Hid (BxLoad X (.pointer (some ⟨V, 0, none⟩)) pc k off z w.drew) := hb
  have HBV : Hid (∀ W', VmP w.drew V K B pl tn q.m 2 W' → BxLoad X (.pointer (some ⟨V, 0, none⟩)) pc k off z W') := fun W' v => BxLoad.kp (W := w.drew) HB0.out v.2 (fun j f => .inl (hm j f))

  have nY : ¬ modVm K B q.m.n Y := fun f => by have := hm _ f; omega
  have HRd : Hid (∀ W', VmP w.drew V K B pl tn q.m 2 W' → Calls Try.prog 38 #[.pointer (some ⟨V, 0, none⟩), q.s.val] W' fun e w' => e = .returned (.int .u32 (q.m.rdS q.s)) ∧ Kp noB W' w') := fun W' ⟨⟨tn', _, v⟩, _⟩ => vread_any W' V K B pl tn' q.m v q.s hq
  have HBR : Hid (∀ W W', VmP w.drew V K B pl tn q.m 2 W → Kp noB W W' → BxLoad X (.pointer (some ⟨V, 0, none⟩)) pc k off z W') := fun W W' v k => BxLoad.kp (HBV.out _ v) k (fun j f => f.elim)
  have HBS : Hid (∀ W W' (u : Value), VmP w.drew V K B pl tn q.m 2 W → Kp noB W W' → BxLoad X (.pointer (some ⟨V, 0, none⟩)) pc k off z (W'.setCell ⟨Y, 0, none⟩ u)) := fun W W' u v k => BxLoad.kp (HBR.out _ _ v k) (Kp.setCell (S := fun j => j = Y) W' (p := ⟨Y, 0, none⟩) rfl u) (fun j f => .inr (by omega))
  have HRY : Hid (∀ W W', VmP w.drew V K B pl tn q.m 2 W → Kp noB W W' → RowV W' Y y0) := fun W W' v k => by
    have r : RowV w.drew Y y0 := hY
    exact (r.kp v.2 nY).kp k (fun f => f)

  generalize q.s.val = sv at *
  go_enter Try.func37, Try.ntmps37
  go_region_held3 (fun W => W.cell? ⟨X, 0, none⟩ = some (.pointer (some ⟨V, 0, none⟩)) ∧ W.cell? ⟨X + 1, 0, none⟩ = some (pc) ∧ W.cell? ⟨X + 2, 0, none⟩ = some (.int .i64 k) ∧ W.cell? ⟨X + 3, 0, none⟩ = some (.int .u32 off) ∧ W.cell? ⟨X + 4, 0, none⟩ = some (.int .i64 z))
    (first | with_reducible exact HB0.out | with_reducible exact HBV.out _ v4 | with_reducible exact HBR.out _ _ v4 k5 | with_reducible exact HBS.out _ _ _ v4 k5)
    (first | (go_at_call 33; refine Calls.mono HC.out ?_; rintro e w4 ⟨rfl, v4⟩) | (go_at_call 38; refine Calls.mono (HRd.out _ v4) ?_; rintro e w5 ⟨rfl, k5⟩; have rz := HRY.out _ _ v4 k5; obtain ⟨z0, y0'⟩ := And.intro rz.c rz.fz))
  have r5 := rz.set (q.m.rdS q.s)
  obtain ⟨⟨tn4, ht4, at4⟩, k4⟩ := v4
  have vF := (at4.kp0 k5).kp (Kp.setCell (S := fun j => j = Y) w5 (p := ⟨Y, 0, none⟩) rfl (.int .u32 (q.m.rdS q.s))) (fun j hj e => by
    subst e
    rcases hj with e | e
    · omega
    · exact nY e)
  have kF : Kp (fun j => modVm K B q.m.n j ∨ j = Y) w _ := ((k4.undrew.mono (fun _ _ f => .inl f)).trans (k5.mono (fun _ _ f => f.elim))).trans (Kp.setCell (S := fun j => modVm K B q.m.n j ∨ j = Y) w5 (p := ⟨Y, 0, none⟩) (.inr rfl) (.int .u32 (q.m.rdS q.s)))
  go_wp2
  go_end0
  exact ⟨rfl, kF, ⟨tn4, ht4, vF⟩, r5⟩

abbrev BxStore (X : Nat) (pm pc : Value) (k off z v : Int) (W : World) : Prop := W.cell? ⟨X, 0, none⟩ = some (pm) ∧ W.cell? ⟨X + 1, 0, none⟩ = some (pc) ∧ W.cell? ⟨X + 2, 0, none⟩ = some (.int .i64 k) ∧ W.cell? ⟨X + 3, 0, none⟩ = some (.int .u32 off) ∧ W.cell? ⟨X + 4, 0, none⟩ = some (.int .i64 z) ∧ W.cell? ⟨X + 5, 0, none⟩ = some (.int .u32 v)
theorem BxStore.kp {X : Nat} {pm pc : Value} {k off z v : Int} {S : Nat → Prop} {W W' : World} (h : BxStore X pm pc k off z v W) (kq : Kp S W W') (hS : ∀ j, S j → j < X ∨ X + 6 ≤ j) : BxStore X pm pc k off z v W' := by
  obtain ⟨h0, h1, h2, h3, h4, h5⟩ := h
  exact ⟨cell_kp h0 kq (fun f => by have := hS _ f; omega), cell_kp h1 kq (fun f => by have := hS _ f; omega), cell_kp h2 kq (fun f => by have := hS _ f; omega), cell_kp h3 kq (fun f => by have := hS _ f; omega), cell_kp h4 kq (fun f => by have := hS _ f; omega), cell_kp h5 kq (fun f => by have := hS _ f; omega)⟩

theorem store1_no (w : World) (X : Nat) (pm pc : Value) (k off z v : Int) (f : Ft) (S : Nat → Prop) (P : World → Prop) (hb : BxStore X pm pc k off z v w)
    (H : Hid (∀ W, Kp noB w W → Calls Try.prog 33 #[pm, pc, .int .i64 k, .int .u32 off, .int .i64 z, .bool true] W fun e w' => e = .panicked (pan f) ∧ Kp S W w' ∧ P w')) :
    Calls Try.prog 35 #[.pointer (some ⟨X, 0, none⟩), .pointer (some ⟨X + 1, 0, none⟩), .pointer (some ⟨X + 2, 0, none⟩), .pointer (some ⟨X + 3, 0, none⟩), .pointer (some ⟨X + 4, 0, none⟩), .pointer (some ⟨X + 5, 0, none⟩)] w fun e w' => e = .panicked (pan f) ∧ Kp S w w' ∧ P w' := by
  have HC : Hid _ := H.out w.drew (Kp.refl noB w).drew
  obtain ⟨b0, b1, b2, b3, b4, b5⟩ := hb
  go_enter Try.func35, Try.ntmps35
  refine OrdP.region_vals (τ := Unit) (fun ch w' => ch = pan f ∧ Kp S w.drew w' ∧ P w') (fun _ => [pm, pm, pc, .int .i64 k, .int .u32 off, .int .i64 z, undef, .int .u32 v, undef]) (fun _ listed W' => W' = w.drew ∧ listed.getD 6 false = false) () ?_ (by kernel_rfl) (by kernel_rfl) (by kernel_rfl) (by kernel_rfl) (fun _ => rfl) (fun t => by simp only [OrdG.puts, Act.put, List.setIfInBounds_toArray, List.set_cons_zero, List.set_cons_succ]; rfl) (fun _ => by kernel_rfl) ⟨rfl, rfl⟩ ?_ ?_
  · rintro ch a' w' hd ⟨rfl, k, p⟩
    exact ⟨hd, rfl, k.undrew, p⟩
  · refine ⟨?_, ?_, ?_, ?_, ?_, ?_, ?_, ?_, ?_, trivial⟩
    all_goals (intro t listed W' hz hSh hl hI hb K hK hK0; obtain ⟨rfl, h7⟩ := hI)
    case refine_7 =>
      go_simp
      refine Calls.mono HC.out ?_
      rintro e w4 ⟨rfl, r⟩
      exact ⟨rfl, r⟩
    case refine_9 => exact absurd (OrdG.on_of (i := 6) hb (by kernel_rfl)) (by rw [h7]; decide)
    all_goals (go_simp; exact hK0 _ ⟨rfl, OrdP.keep h7 (by decide)⟩)
  · rintro t listed w' hal ⟨_, h7⟩
    have := hal 6 (by decide)
    rw [h7] at this
    cases this

theorem store1_ok (w : World) (X V K B pl tn : Nat) (pc : Value) (k off z v : Int) (v0 : 0 ≤ v) (v1 : v < 4294967296) (q : Qy) (hq : q.s.Ok) (hb : BxStore X (.pointer (some ⟨V, 0, none⟩)) pc k off z v w) (hm : ∀ j, modVm K B q.m.n j → j < X) (hV : V < X)
    (H : Hid (∀ W, Kp noB w W → Calls Try.prog 33 #[.pointer (some ⟨V, 0, none⟩), pc, .int .i64 k, .int .u32 off, .int .i64 z, .bool true] W fun e w' => e = .returned q.s.val ∧ VmP W V K B pl tn q.m 2 w')) :
    Calls Try.prog 35 #[.pointer (some ⟨X, 0, none⟩), .pointer (some ⟨X + 1, 0, none⟩), .pointer (some ⟨X + 2, 0, none⟩), .pointer (some ⟨X + 3, 0, none⟩), .pointer (some ⟨X + 4, 0, none⟩), .pointer (some ⟨X + 5, 0, none⟩)] w fun e w' => e = .returned (.tuple #[]) ∧ VmP w V K B pl tn (q.m.wrS q.s v) 2 w' := by
  have HC : Hid _ := H.out w.drew (Kp.refl noB w).drew
  have HB0 : Hid (BxStore X (.pointer (some ⟨V, 0, none⟩)) pc k off z v w.drew) := hb
  have HBV : Hid (∀ W', VmP w.drew V K B pl tn q.m 2 W' → BxStore X (.pointer (some ⟨V, 0, none⟩)) pc k off z v W') := fun W' v => BxStore.kp (W := w.drew) HB0.out v.2 (fun j f => .inl (hm j f))

  have HWr : Hid (∀ W', VmP w.drew V K B pl tn q.m 2 W' → Calls Try.prog 36 #[.pointer (some ⟨V, 0, none⟩), q.s.val, .int .u32 v] W' fun e w' => e = .returned (.tuple #[]) ∧ VmP w.drew V K B pl tn (q.m.wrS q.s v) 2 w') := fun W' ⟨⟨tn', ht, vm⟩, kv⟩ => (vwrite_any W' V K B pl tn' q.m vm q.s hq v v0 v1).mono (fun e w' ⟨h1, ⟨tn2, ht2, v2⟩, k2⟩ => ⟨h1, ⟨tn2, by omega, v2⟩, by rw [(wrK_same q.m q.s v q.s.n).1.symm] at kv; exact kv.trans k2⟩)
  have HBW : Hid (∀ W', VmP w.drew V K B pl tn (q.m.wrS q.s v) 2 W' → BxStore X (.pointer (some ⟨V, 0, none⟩)) pc k off z v W') := fun W' vv => BxStore.kp (W := w.drew) HB0.out vv.2 (fun j f => .inl (hm j (by rw [show (q.m.wrS q.s v).n = q.m.n from (wrK_same q.m q.s v q.s.n).1] at f; exact f)))

  generalize q.s.val = sv at *
  go_enter Try.func35, Try.ntmps35
  go_region_held3 (fun W => W.cell? ⟨X, 0, none⟩ = some (.pointer (some ⟨V, 0, none⟩)) ∧ W.cell? ⟨X + 1, 0, none⟩ = some (pc) ∧ W.cell? ⟨X + 2, 0, none⟩ = some (.int .i64 k) ∧ W.cell? ⟨X + 3, 0, none⟩ = some (.int .u32 off) ∧ W.cell? ⟨X + 4, 0, none⟩ = some (.int .i64 z) ∧ W.cell? ⟨X + 5, 0, none⟩ = some (.int .u32 v))
    (first | with_reducible exact HB0.out | with_reducible exact HBV.out _ v4 | with_reducible exact HBW.out _ v5)
    (first | (go_at_call 33; refine Calls.mono HC.out ?_; rintro e w4 ⟨rfl, v4⟩) | (go_at_call 36; refine Calls.mono (HWr.out _ v4) ?_; rintro e w5 ⟨rfl, v5⟩))
  go_wp2
  go_end0
  exact ⟨rfl, v5.1, v5.2.undrew⟩

abbrev BxCheck (X : Nat) (pm pc : Value) (k off z : Int) (W : World) : Prop := W.cell? ⟨X, 0, none⟩ = some (pm) ∧ W.cell? ⟨X + 1, 0, none⟩ = some (pc) ∧ W.cell? ⟨X + 2, 0, none⟩ = some (.int .i64 k) ∧ W.cell? ⟨X + 3, 0, none⟩ = some (.int .u32 off) ∧ W.cell? ⟨X + 4, 0, none⟩ = some (.int .i64 z)
theorem BxCheck.kp {X : Nat} {pm pc : Value} {k off z : Int} {S : Nat → Prop} {W W' : World} (h : BxCheck X pm pc k off z W) (kq : Kp S W W') (hS : ∀ j, S j → j < X ∨ X + 5 ≤ j) : BxCheck X pm pc k off z W' := by
  obtain ⟨h0, h1, h2, h3, h4⟩ := h
  exact ⟨cell_kp h0 kq (fun f => by have := hS _ f; omega), cell_kp h1 kq (fun f => by have := hS _ f; omega), cell_kp h2 kq (fun f => by have := hS _ f; omega), cell_kp h3 kq (fun f => by have := hS _ f; omega), cell_kp h4 kq (fun f => by have := hS _ f; omega)⟩

theorem check1_no (w : World) (X : Nat) (pm pc : Value) (k off z : Int) (f : Ft) (S : Nat → Prop) (P : World → Prop) (hb : BxCheck X pm pc k off z w)
    (H : Hid (∀ W, Kp noB w W → Calls Try.prog 33 #[pm, pc, .int .i64 k, .int .u32 off, .int .i64 z, .bool true] W fun e w' => e = .panicked (pan f) ∧ Kp S W w' ∧ P w')) :
    Calls Try.prog 32 #[.pointer (some ⟨X, 0, none⟩), .pointer (some ⟨X + 1, 0, none⟩), .pointer (some ⟨X + 2, 0, none⟩), .pointer (some ⟨X + 3, 0, none⟩), .pointer (some ⟨X + 4, 0, none⟩)] w fun e w' => e = .panicked (pan f) ∧ Kp S w w' ∧ P w' := by
  have HC : Hid _ := H.out w (Kp.refl _ _)
  obtain ⟨b0, b1, b2, b3, b4⟩ := hb
  go_enter Try.func32, Try.ntmps32
  go_wp2_with (go_at_call 33; refine Calls.mono HC.out ?_; rintro e w4 ⟨rfl, k4, p4⟩)
  exact ⟨rfl, rfl, k4, p4⟩

theorem check1_ok (w : World) (X V K B pl tn : Nat) (pc : Value) (k off z : Int) (q : Qy) (hq : q.s.Ok) (hb : BxCheck X (.pointer (some ⟨V, 0, none⟩)) pc k off z w) (hm : ∀ j, modVm K B q.m.n j → j < X) (hV : V < X)
    (H : Hid (∀ W, Kp noB w W → Calls Try.prog 33 #[.pointer (some ⟨V, 0, none⟩), pc, .int .i64 k, .int .u32 off, .int .i64 z, .bool true] W fun e w' => e = .returned q.s.val ∧ VmP W V K B pl tn q.m 2 w')) :
    Calls Try.prog 32 #[.pointer (some ⟨X, 0, none⟩), .pointer (some ⟨X + 1, 0, none⟩), .pointer (some ⟨X + 2, 0, none⟩), .pointer (some ⟨X + 3, 0, none⟩), .pointer (some ⟨X + 4, 0, none⟩)] w fun e w' => e = .returned (.tuple #[]) ∧ VmP w V K B pl tn q.m 2 w' := by
  have HC : Hid _ := H.out w (Kp.refl _ _)
  obtain ⟨b0, b1, b2, b3, b4⟩ := hb
  unfold Sp.val at HC
  go_enter Try.func32, Try.ntmps32
  go_wp2_with (go_at_call 33; refine Calls.mono HC.out ?_; rintro e w4 ⟨rfl, v4⟩)
  go_end0
  exact ⟨rfl, v4⟩

abbrev BxSys (X : Nat) (pm pc : Value) (off z : Int) (W : World) : Prop := W.cell? ⟨X, 0, none⟩ = some (pm) ∧ W.cell? ⟨X + 1, 0, none⟩ = some (pc) ∧ W.cell? ⟨X + 2, 0, none⟩ = some (.int .u32 off) ∧ W.cell? ⟨X + 3, 0, none⟩ = some (.int .i64 z)
theorem BxSys.kp {X : Nat} {pm pc : Value} {off z : Int} {S : Nat → Prop} {W W' : World} (h : BxSys X pm pc off z W) (kq : Kp S W W') (hS : ∀ j, S j → j < X ∨ X + 4 ≤ j) : BxSys X pm pc off z W' := by
  obtain ⟨h0, h1, h2, h3⟩ := h
  exact ⟨cell_kp h0 kq (fun f => by have := hS _ f; omega), cell_kp h1 kq (fun f => by have := hS _ f; omega), cell_kp h2 kq (fun f => by have := hS _ f; omega), cell_kp h3 kq (fun f => by have := hS _ f; omega)⟩

theorem sys1_no (w : World) (X Y : Nat) (pm pc : Value) (off z : Int) (f : Ft) (S : Nat → Prop) (P : World → Prop) (hb : BxSys X pm pc off z w)
    (H : Hid (∀ W, Kp noB w W → Calls Try.prog 40 #[pm, pc, .int .u32 off, .int .i64 z, .bool false] W fun e w' => e = .panicked (pan f) ∧ Kp S W w' ∧ P w')) :
    Calls Try.prog 41 #[.pointer (some ⟨X, 0, none⟩), .pointer (some ⟨X + 1, 0, none⟩), .pointer (some ⟨X + 2, 0, none⟩), .pointer (some ⟨X + 3, 0, none⟩), .pointer (some ⟨Y, 0, none⟩)] w fun e w' => e = .panicked (pan f) ∧ Kp S w w' ∧ P w' := by
  have HC : Hid _ := H.out w.drew (Kp.refl noB w).drew
  obtain ⟨b0, b1, b2, b3⟩ := hb
  go_enter Try.func41, Try.ntmps41
  refine OrdP.region_vals (τ := Unit) (fun ch w' => ch = pan f ∧ Kp S w.drew w' ∧ P w') (fun _ => [pm, pm, pc, .int .u32 off, .int .i64 z, undef, undef, undef]) (fun _ listed W' => W' = w.drew ∧ listed.getD 5 false = false) () ?_ (by kernel_rfl) (by kernel_rfl) (by kernel_rfl) (by kernel_rfl) (fun _ => rfl) (fun t => by simp only [OrdG.puts, Act.put, List.setIfInBounds_toArray, List.set_cons_zero, List.set_cons_succ]; rfl) (fun _ => by kernel_rfl) ⟨rfl, rfl⟩ ?_ ?_
  · rintro ch a' w' hd ⟨rfl, k, p⟩
    exact ⟨hd, rfl, k.undrew, p⟩
  · refine ⟨?_, ?_, ?_, ?_, ?_, ?_, ?_, ?_, trivial⟩
    all_goals (intro t listed W' hz hSh hl hI hb K hK hK0; obtain ⟨rfl, h7⟩ := hI)
    case refine_6 =>
      go_simp
      refine Calls.mono HC.out ?_
      rintro e w4 ⟨rfl, r⟩
      exact ⟨rfl, r⟩
    case refine_8 => exact absurd (OrdG.on_of (i := 5) hb (by kernel_rfl)) (by rw [h7]; decide)
    case refine_7 => exact absurd (OrdG.on_of (i := 5) hb (by kernel_rfl)) (by rw [h7]; decide)
    all_goals (go_simp; exact hK0 _ ⟨rfl, OrdP.keep h7 (by decide)⟩)
  · rintro t listed w' hal ⟨_, h7⟩
    have := hal 5 (by decide)
    rw [h7] at this
    cases this

theorem sys1_ok (w : World) (X Y V K B pl tn : Nat) (pc : Value) (off z : Int) (y0 : Int) (hY : RowV w Y y0) (hX : X + 4 ≤ Y) (q : Qy) (hq : q.s.Ok) (hb : BxSys X (.pointer (some ⟨V, 0, none⟩)) pc off z w) (hm : ∀ j, modVm K B q.m.n j → j < X) (hV : V < X)
    (H : Hid (∀ W, Kp noB w W → Calls Try.prog 40 #[.pointer (some ⟨V, 0, none⟩), pc, .int .u32 off, .int .i64 z, .bool false] W fun e w' => e = .returned q.s.val ∧ VmP W V K B pl tn q.m 2 w')) :
    Calls Try.prog 41 #[.pointer (some ⟨X, 0, none⟩), .pointer (some ⟨X + 1, 0, none⟩), .pointer (some ⟨X + 2, 0, none⟩), .pointer (some ⟨X + 3, 0, none⟩), .pointer (some ⟨Y, 0, none⟩)] w fun e w' => e = .returned (.tuple #[]) ∧ Kp (fun j => modVm K B q.m.n j ∨ j = Y) w w' ∧ (∃ tn', tn' ≤ tn + 2 ∧ VmAt w' V K B pl tn' q.m) ∧ RowV w' Y (q.m.rdS q.s) := by
  have HC : Hid _ := H.out w.drew (Kp.refl noB w).drew
  have HB0 : Hid (BxSys X (.pointer (some ⟨V, 0, none⟩)) pc off z w.drew) := hb
  have HBV : Hid (∀ W', VmP w.drew V K B pl tn q.m 2 W' → BxSys X (.pointer (some ⟨V, 0, none⟩)) pc off z W') := fun W' v => BxSys.kp (W := w.drew) HB0.out v.2 (fun j f => .inl (hm j f))

  have nY : ¬ modVm K B q.m.n Y := fun f => by have := hm _ f; omega
  have HRd : Hid (∀ W', VmP w.drew V K B pl tn q.m 2 W' → Calls Try.prog 38 #[.pointer (some ⟨V, 0, none⟩), q.s.val] W' fun e w' => e = .returned (.int .u32 (q.m.rdS q.s)) ∧ Kp noB W' w') := fun W' ⟨⟨tn', _, v⟩, _⟩ => vread_any W' V K B pl tn' q.m v q.s hq
  have HBR : Hid (∀ W W', VmP w.drew V K B pl tn q.m 2 W → Kp noB W W' → BxSys X (.pointer (some ⟨V, 0, none⟩)) pc off z W') := fun W W' v k => BxSys.kp (HBV.out _ v) k (fun j f => f.elim)
  have HBS : Hid (∀ W W' (u : Value), VmP w.drew V K B pl tn q.m 2 W → Kp noB W W' → BxSys X (.pointer (some ⟨V, 0, none⟩)) pc off z (W'.setCell ⟨Y, 0, none⟩ u)) := fun W W' u v k => BxSys.kp (HBR.out _ _ v k) (Kp.setCell (S := fun j => j = Y) W' (p := ⟨Y, 0, none⟩) rfl u) (fun j f => .inr (by omega))
  have HRY : Hid (∀ W W', VmP w.drew V K B pl tn q.m 2 W → Kp noB W W' → RowV W' Y y0) := fun W W' v k => by
    have r : RowV w.drew Y y0 := hY
    exact (r.kp v.2 nY).kp k (fun f => f)

  generalize q.s.val = sv at *
  go_enter Try.func41, Try.ntmps41
  go_region_held3 (fun W => W.cell? ⟨X, 0, none⟩ = some (.pointer (some ⟨V, 0, none⟩)) ∧ W.cell? ⟨X + 1, 0, none⟩ = some (pc) ∧ W.cell? ⟨X + 2, 0, none⟩ = some (.int .u32 off) ∧ W.cell? ⟨X + 3, 0, none⟩ = some (.int .i64 z))
    (first | with_reducible exact HB0.out | with_reducible exact HBV.out _ v4 | with_reducible exact HBR.out _ _ v4 k5 | with_reducible exact HBS.out _ _ _ v4 k5)
    (first | (go_at_call 40; refine Calls.mono HC.out ?_; rintro e w4 ⟨rfl, v4⟩) | (go_at_call 38; refine Calls.mono (HRd.out _ v4) ?_; rintro e w5 ⟨rfl, k5⟩; have rz := HRY.out _ _ v4 k5; obtain ⟨z0, y0'⟩ := And.intro rz.c rz.fz))
  have r5 := rz.set (q.m.rdS q.s)
  obtain ⟨⟨tn4, ht4, at4⟩, k4⟩ := v4
  have vF := (at4.kp0 k5).kp (Kp.setCell (S := fun j => j = Y) w5 (p := ⟨Y, 0, none⟩) rfl (.int .u32 (q.m.rdS q.s))) (fun j hj e => by
    subst e
    rcases hj with e | e
    · omega
    · exact nY e)
  have kF : Kp (fun j => modVm K B q.m.n j ∨ j = Y) w _ := ((k4.undrew.mono (fun _ _ f => .inl f)).trans (k5.mono (fun _ _ f => f.elim))).trans (Kp.setCell (S := fun j => modVm K B q.m.n j ∨ j = Y) w5 (p := ⟨Y, 0, none⟩) (.inr rfl) (.int .u32 (q.m.rdS q.s)))
  go_wp2
  go_end0
  exact ⟨rfl, kF, ⟨tn4, ht4, vF⟩, r5⟩

abbrev BxSetSys (X : Nat) (pm pc : Value) (off z v : Int) (W : World) : Prop := W.cell? ⟨X, 0, none⟩ = some (pm) ∧ W.cell? ⟨X + 1, 0, none⟩ = some (pc) ∧ W.cell? ⟨X + 2, 0, none⟩ = some (.int .u32 off) ∧ W.cell? ⟨X + 3, 0, none⟩ = some (.int .i64 z) ∧ W.cell? ⟨X + 4, 0, none⟩ = some (.int .u32 v)
theorem BxSetSys.kp {X : Nat} {pm pc : Value} {off z v : Int} {S : Nat → Prop} {W W' : World} (h : BxSetSys X pm pc off z v W) (kq : Kp S W W') (hS : ∀ j, S j → j < X ∨ X + 5 ≤ j) : BxSetSys X pm pc off z v W' := by
  obtain ⟨h0, h1, h2, h3, h4⟩ := h
  exact ⟨cell_kp h0 kq (fun f => by have := hS _ f; omega), cell_kp h1 kq (fun f => by have := hS _ f; omega), cell_kp h2 kq (fun f => by have := hS _ f; omega), cell_kp h3 kq (fun f => by have := hS _ f; omega), cell_kp h4 kq (fun f => by have := hS _ f; omega)⟩

theorem setSys1_no (w : World) (X : Nat) (pm pc : Value) (off z v : Int) (f : Ft) (S : Nat → Prop) (P : World → Prop) (hb : BxSetSys X pm pc off z v w)
    (H : Hid (∀ W, Kp noB w W → Calls Try.prog 40 #[pm, pc, .int .u32 off, .int .i64 z, .bool true] W fun e w' => e = .panicked (pan f) ∧ Kp S W w' ∧ P w')) :
    Calls Try.prog 39 #[.pointer (some ⟨X, 0, none⟩), .pointer (some ⟨X + 1, 0, none⟩), .pointer (some ⟨X + 2, 0, none⟩), .pointer (some ⟨X + 3, 0, none⟩), .pointer (some ⟨X + 4, 0, none⟩)] w fun e w' => e = .panicked (pan f) ∧ Kp S w w' ∧ P w' := by
  have HC : Hid _ := H.out w.drew (Kp.refl noB w).drew
  obtain ⟨b0, b1, b2, b3, b4⟩ := hb
  go_enter Try.func39, Try.ntmps39
  refine OrdP.region_vals (τ := Unit) (fun ch w' => ch = pan f ∧ Kp S w.drew w' ∧ P w') (fun _ => [pm, pm, pc, .int .u32 off, .int .i64 z, undef, .int .u32 v, undef]) (fun _ listed W' => W' = w.drew ∧ listed.getD 5 false = false) () ?_ (by kernel_rfl) (by kernel_rfl) (by kernel_rfl) (by kernel_rfl) (fun _ => rfl) (fun t => by simp only [OrdG.puts, Act.put, List.setIfInBounds_toArray, List.set_cons_zero, List.set_cons_succ]; rfl) (fun _ => by kernel_rfl) ⟨rfl, rfl⟩ ?_ ?_
  · rintro ch a' w' hd ⟨rfl, k, p⟩
    exact ⟨hd, rfl, k.undrew, p⟩
  · refine ⟨?_, ?_, ?_, ?_, ?_, ?_, ?_, ?_, trivial⟩
    all_goals (intro t listed W' hz hSh hl hI hb K hK hK0; obtain ⟨rfl, h7⟩ := hI)
    case refine_6 =>
      go_simp
      refine Calls.mono HC.out ?_
      rintro e w4 ⟨rfl, r⟩
      exact ⟨rfl, r⟩
    case refine_8 => exact absurd (OrdG.on_of (i := 5) hb (by kernel_rfl)) (by rw [h7]; decide)
    all_goals (go_simp; exact hK0 _ ⟨rfl, OrdP.keep h7 (by decide)⟩)
  · rintro t listed w' hal ⟨_, h7⟩
    have := hal 5 (by decide)
    rw [h7] at this
    cases this

theorem setSys1_ok (w : World) (X V K B pl tn : Nat) (pc : Value) (off z v : Int) (v0 : 0 ≤ v) (v1 : v < 4294967296) (q : Qy) (hq : q.s.Ok) (hb : BxSetSys X (.pointer (some ⟨V, 0, none⟩)) pc off z v w) (hm : ∀ j, modVm K B q.m.n j → j < X) (hV : V < X)
    (H : Hid (∀ W, Kp noB w W → Calls Try.prog 40 #[.pointer (some ⟨V, 0, none⟩), pc, .int .u32 off, .int .i64 z, .bool true] W fun e w' => e = .returned q.s.val ∧ VmP W V K B pl tn q.m 2 w')) :
    Calls Try.prog 39 #[.pointer (some ⟨X, 0, none⟩), .pointer (some ⟨X + 1, 0, none⟩), .pointer (some ⟨X + 2, 0, none⟩), .pointer (some ⟨X + 3, 0, none⟩), .pointer (some ⟨X + 4, 0, none⟩)] w fun e w' => e = .returned (.tuple #[]) ∧ VmP w V K B pl tn (q.m.wrS q.s v) 2 w' := by
  have HC : Hid _ := H.out w.drew (Kp.refl noB w).drew
  have HB0 : Hid (BxSetSys X (.pointer (some ⟨V, 0, none⟩)) pc off z v w.drew) := hb
  have HBV : Hid (∀ W', VmP w.drew V K B pl tn q.m 2 W' → BxSetSys X (.pointer (some ⟨V, 0, none⟩)) pc off z v W') := fun W' v => BxSetSys.kp (W := w.drew) HB0.out v.2 (fun j f => .inl (hm j f))

  have HWr : Hid (∀ W', VmP w.drew V K B pl tn q.m 2 W' → Calls Try.prog 36 #[.pointer (some ⟨V, 0, none⟩), q.s.val, .int .u32 v] W' fun e w' => e = .returned (.tuple #[]) ∧ VmP w.drew V K B pl tn (q.m.wrS q.s v) 2 w') := fun W' ⟨⟨tn', ht, vm⟩, kv⟩ => (vwrite_any W' V K B pl tn' q.m vm q.s hq v v0 v1).mono (fun e w' ⟨h1, ⟨tn2, ht2, v2⟩, k2⟩ => ⟨h1, ⟨tn2, by omega, v2⟩, by rw [(wrK_same q.m q.s v q.s.n).1.symm] at kv; exact kv.trans k2⟩)
  have HBW : Hid (∀ W', VmP w.drew V K B pl tn (q.m.wrS q.s v) 2 W' → BxSetSys X (.pointer (some ⟨V, 0, none⟩)) pc off z v W') := fun W' vv => BxSetSys.kp (W := w.drew) HB0.out vv.2 (fun j f => .inl (hm j (by rw [show (q.m.wrS q.s v).n = q.m.n from (wrK_same q.m q.s v q.s.n).1] at f; exact f)))

  generalize q.s.val = sv at *
  go_enter Try.func39, Try.ntmps39
  go_region_held3 (fun W => W.cell? ⟨X, 0, none⟩ = some (.pointer (some ⟨V, 0, none⟩)) ∧ W.cell? ⟨X + 1, 0, none⟩ = some (pc) ∧ W.cell? ⟨X + 2, 0, none⟩ = some (.int .u32 off) ∧ W.cell? ⟨X + 3, 0, none⟩ = some (.int .i64 z) ∧ W.cell? ⟨X + 4, 0, none⟩ = some (.int .u32 v))
    (first | with_reducible exact HB0.out | with_reducible exact HBV.out _ v4 | with_reducible exact HBW.out _ v5)
    (first | (go_at_call 40; refine Calls.mono HC.out ?_; rintro e w4 ⟨rfl, v4⟩) | (go_at_call 36; refine Calls.mono (HWr.out _ v4) ?_; rintro e w5 ⟨rfl, v5⟩))
  go_wp2
  go_end0
  exact ⟨rfl, v5.1, v5.2.undrew⟩

def RowB8 (W : World) (X : Nat) (v : Int) : Prop := W.heap[X]? = some (.cells #[.int .u8 v] 5 (0, 0))
theorem RowB8.lt {W : World} {X : Nat} {v : Int} (r : RowB8 W X v) : X < W.heap.size := (Array.getElem?_eq_some_iff.1 r).1
theorem RowB8.kp {S : Nat → Prop} {W W' : World} {X : Nat} {v : Int} (r : RowB8 W X v) (k : Kp S W W') (hS : ¬ S X) : RowB8 W' X v := (k.block X r.lt hS).trans r
theorem RowB8.c {W : World} {X : Nat} {v : Int} (r : RowB8 W X v) : W.cell? ⟨X, 0, none⟩ = some (.int .u8 v) := by rw [cell_at r]; rfl
theorem RowB8.fz {W : World} {X : Nat} {v : Int} (r : RowB8 W X v) : W.frozen? ⟨X, 0, none⟩ = false := frozen_at r
theorem RowB8.set {W : World} {X : Nat} {v : Int} (r : RowB8 W X v) (u : Int) : RowB8 (W.setCell ⟨X, 0, none⟩ (.int .u8 u)) X u := heap_setCell_at r _

theorem code1_no (w : World) (X Y Z : Nat) (pm pc : Value) (off : Int) (f : Ft) (S : Nat → Prop) (P : World → Prop) (b0 : w.cell? ⟨X, 0, none⟩ = some pm) (b1 : w.cell? ⟨X + 1, 0, none⟩ = some pc) (b2 : w.cell? ⟨X + 2, 0, none⟩ = some (.int .u32 off))
    (H : Hid (∀ W, Kp noB w W → Calls Try.prog 43 #[pm, pc, .int .u32 off] W fun e w' => e = .panicked (pan f) ∧ Kp S W w' ∧ P w')) :
    Calls Try.prog 42 #[.pointer (some ⟨X, 0, none⟩), .pointer (some ⟨X + 1, 0, none⟩), .pointer (some ⟨X + 2, 0, none⟩), .pointer (some ⟨Y, 0, none⟩), .pointer (some ⟨Z, 0, none⟩)] w fun e w' => e = .panicked (pan f) ∧ Kp S w w' ∧ P w' := by
  have HC : Hid _ := H.out w (Kp.refl _ _)
  go_enter Try.func42, Try.ntmps42
  go_wp2_with (go_at_call 43; refine Calls.mono HC.out ?_; rintro e w4 ⟨rfl, k4, p4⟩)
  exact ⟨rfl, rfl, k4, p4⟩

theorem code1_ok (w : World) (X V K B pl tn : Nat) (pc : Value) (off : Int) (y0 z0 : Int) (hY : RowB8 w (X + 3) y0) (hZ : RowV w (X + 4) z0) (q : Qy) (hq : q.s.Ok) (hq1 : q.s.n = 1) (b0 : w.cell? ⟨X, 0, none⟩ = some (.pointer (some ⟨V, 0, none⟩))) (b1 : w.cell? ⟨X + 1, 0, none⟩ = some pc) (b2 : w.cell? ⟨X + 2, 0, none⟩ = some (.int .u32 off)) (hm : ∀ j, modVm K B q.m.n j → j < X) (hV : V < X)
    (H : Hid (∀ W, Kp noB w W → Calls Try.prog 43 #[.pointer (some ⟨V, 0, none⟩), pc, .int .u32 off] W fun e w' => e = .returned q.s.val ∧ VmP W V K B pl tn q.m 2 w')) :
    Calls Try.prog 42 #[.pointer (some ⟨X, 0, none⟩), .pointer (some ⟨X + 1, 0, none⟩), .pointer (some ⟨X + 2, 0, none⟩), .pointer (some ⟨X + 3, 0, none⟩), .pointer (some ⟨X + 4, 0, none⟩)] w fun e w' => e = .returned (.tuple #[]) ∧ Kp (fun j => modVm K B q.m.n j ∨ j = X + 3 ∨ j = X + 4) w w' ∧ (∃ tn', tn' ≤ tn + 2 ∧ VmAt w' V K B pl tn' q.m) ∧ RowB8 w' (X + 3) (q.m.rdS q.s) ∧ RowV w' (X + 4) q.s.a := by
  have hZl := hZ.lt
  have HC : Hid _ := H.out w (Kp.refl _ _)
  have n0 : ¬ modVm K B q.m.n X := fun f => by have := hm _ f; omega
  have n1 : ¬ modVm K B q.m.n (X + 1) := fun f => by have := hm _ f; omega
  have n3 : ¬ modVm K B q.m.n (X + 3) := fun f => by have := hm _ f; omega
  have n4 : ¬ modVm K B q.m.n (X + 4) := fun f => by have := hm _ f; omega
  have HRd : Hid (∀ (W' : World) (tn' : Nat), VmAt W' V K B pl tn' q.m → Calls Try.prog 38 #[.pointer (some ⟨V, 0, none⟩), q.s.val] W' fun e w' => e = .returned (.int .u32 (q.m.rdS q.s)) ∧ Kp noB W' w') := fun W' tn' v => vread_any W' V K B pl tn' q.m v q.s hq
  have HNV : Hid (∀ j, inVm V K B q.m.n j → j < X) := fun j hj => by
    rcases hj with e | e
    · omega
    · exact hm _ e
  have HRv : Hid (∀ W' tn', VmAt W' V K B pl tn' q.m → 0 ≤ q.m.rdS q.s ∧ q.m.rdS q.s < 256) := fun W' tn' v => by
    have b := v.ram.rdB (q.s.at 0) (q.s.at_bd 0).1 (q.s.at_bd 0).2
    have e : q.m.rdS q.s = q.m.rd (q.s.at 0) := by unfold Mem.rdS Mem.spB; simp [hq1]
    rw [e]
    exact b
  clear hq1 hq
  generalize q.m.rdS q.s = rv at *
  unfold Sp.val at HC HRd
  generalize q.s.a = sa at *
  generalize q.s.b = sb at *
  generalize q.s.h = sh at *
  generalize q.s.n = sn at *
  go_enter Try.func42, Try.ntmps42
  go_upto_region 1 with (go_at_call 43; refine Calls.mono HC.out ?_; rintro e w4 ⟨rfl, v4⟩)
  obtain ⟨⟨tn4, ht4, at4⟩, k4⟩ := v4
  have kA := Kp.alloc noB w4 (.cells #[.int .u32 sa, .int .u32 sb, .int .i64 sh, .int .i64 sn] 86)
  have rS : RowS (w4.alloc (.cells #[.int .u32 sa, .int .u32 sb, .int .i64 sh, .int .i64 sn] 86)) w4.heap.size sa sb sh sn := (MapKept.heap_alloc w4 _).1
  have x0 := cell_kp (cell_kp b0 k4 n0) kA (fun f => f)
  replace hY := (hY.kp k4 n3).kp kA (fun f => f)
  replace hZ := (hZ.kp k4 n4).kp kA (fun f => f)
  replace at4 := at4.kp0 kA
  have k5 : Kp (modVm K B q.m.n) w (w4.alloc (.cells #[.int .u32 sa, .int .u32 sb, .int .i64 sh, .int .i64 sn] 86)) := k4.trans (kA.mono (fun _ _ f => f.elim))
  obtain ⟨W5, hW5⟩ : ∃ W, W = w4.alloc (.cells #[.int .u32 sa, .int .u32 sb, .int .i64 sh, .int .i64 sn] 86) := ⟨_, rfl⟩
  obtain ⟨T, hT⟩ : ∃ T, T = w4.heap.size := ⟨_, rfl⟩
  rw [← hW5] at rS x0 hY hZ at4 k5 ⊢
  rw [← hT] at rS ⊢
  have hTY : X + 4 < T := by rw [hT]; have := k4.size; omega
  clear hW5 hT kA k4 HC b0 b1 b2
  obtain ⟨rv0, rv1⟩ := HRv.out _ _ at4
  have ew : IntKind.u8.wrap rv = rv := by have := IntKind.wrap_u8 rv; omega
  have ew2 : rv % 256 = rv := by omega
  have HC2 : Hid _ := HRd.out W5.drew tn4 (at4.kp0 (Kp.refl noB W5).drew)
  have HT0 : Hid (W5.drew.cell? ⟨X, 0, none⟩ = some (.pointer (some ⟨V, 0, none⟩)) ∧ W5.drew.cell? ⟨T, 0, none⟩ = some (.int .u32 sa) ∧ W5.drew.cell? ⟨T, 1, none⟩ = some (.int .u32 sb) ∧ W5.drew.cell? ⟨T, 2, none⟩ = some (.int .i64 sh) ∧ W5.drew.cell? ⟨T, 3, none⟩ = some (.int .i64 sn)) := ⟨x0, rS.c0, rS.c1, rS.c2, rS.c3⟩
  have HTK : Hid (∀ (S : Nat → Prop) (W W' : World), Kp S W W' → ¬ S X → ¬ S T → (W.cell? ⟨X, 0, none⟩ = some (.pointer (some ⟨V, 0, none⟩)) ∧ W.cell? ⟨T, 0, none⟩ = some (.int .u32 sa) ∧ W.cell? ⟨T, 1, none⟩ = some (.int .u32 sb) ∧ W.cell? ⟨T, 2, none⟩ = some (.int .i64 sh) ∧ W.cell? ⟨T, 3, none⟩ = some (.int .i64 sn)) → (W'.cell? ⟨X, 0, none⟩ = some (.pointer (some ⟨V, 0, none⟩)) ∧ W'.cell? ⟨T, 0, none⟩ = some (.int .u32 sa) ∧ W'.cell? ⟨T, 1, none⟩ = some (.int .u32 sb) ∧ W'.cell? ⟨T, 2, none⟩ = some (.int .i64 sh) ∧ W'.cell? ⟨T, 3, none⟩ = some (.int .i64 sn))) := fun S W W' k a b h => ⟨cell_kp h.1 k a, cell_kp h.2.1 k b, cell_kp h.2.2.1 k b, cell_kp h.2.2.2.1 k b, cell_kp h.2.2.2.2 k b⟩
  have HTY : Hid (∀ (W : World) (u : Value), (W.cell? ⟨X, 0, none⟩ = some (.pointer (some ⟨V, 0, none⟩)) ∧ W.cell? ⟨T, 0, none⟩ = some (.int .u32 sa) ∧ W.cell? ⟨T, 1, none⟩ = some (.int .u32 sb) ∧ W.cell? ⟨T, 2, none⟩ = some (.int .i64 sh) ∧ W.cell? ⟨T, 3, none⟩ = some (.int .i64 sn)) → _) := fun W u => HTK.out (fun j => j = X + 3) W (W.setCell ⟨X + 3, 0, none⟩ u) (Kp.setCell (S := fun j => j = X + 3) W (p := ⟨X + 3, 0, none⟩) rfl u) (by omega) (by omega)
  have HTZ : Hid (∀ (W : World) (u : Value), (W.cell? ⟨X, 0, none⟩ = some (.pointer (some ⟨V, 0, none⟩)) ∧ W.cell? ⟨T, 0, none⟩ = some (.int .u32 sa) ∧ W.cell? ⟨T, 1, none⟩ = some (.int .u32 sb) ∧ W.cell? ⟨T, 2, none⟩ = some (.int .i64 sh) ∧ W.cell? ⟨T, 3, none⟩ = some (.int .i64 sn)) → _) := fun W u => HTK.out (fun j => j = X + 4) W (W.setCell ⟨X + 4, 0, none⟩ u) (Kp.setCell (S := fun j => j = X + 4) W (p := ⟨X + 4, 0, none⟩) rfl u) (by omega) (by omega)
  have HRY : Hid (∀ W', Kp noB W5.drew W' → RowB8 W' (X + 3) y0) := fun W' k => by
    have r : RowB8 W5.drew (X + 3) y0 := hY
    exact r.kp k (fun f => f)
  have HRZ : Hid (∀ W', Kp noB W5.drew W' → RowV W' (X + 4) z0) := fun W' k => by
    have r : RowV W5.drew (X + 4) z0 := hZ
    exact r.kp k (fun f => f)
  go_region_held3 (fun W => W.cell? ⟨X, 0, none⟩ = some (.pointer (some ⟨V, 0, none⟩)) ∧ W.cell? ⟨T, 0, none⟩ = some (.int .u32 sa) ∧ W.cell? ⟨T, 1, none⟩ = some (.int .u32 sb) ∧ W.cell? ⟨T, 2, none⟩ = some (.int .i64 sh) ∧ W.cell? ⟨T, 3, none⟩ = some (.int .i64 sn))
    (first | with_reducible exact HT0.out | with_reducible exact HTK.out noB _ _ k6 (fun f => f) (fun f => f) HT0.out | with_reducible exact HTY.out _ _ (HTK.out noB _ _ k6 (fun f => f) (fun f => f) HT0.out) | with_reducible exact HTZ.out _ _ (HTK.out noB _ _ k6 (fun f => f) (fun f => f) HT0.out) | with_reducible exact HTZ.out _ _ (HTY.out _ _ (HTK.out noB _ _ k6 (fun f => f) (fun f => f) HT0.out)) | with_reducible exact HTY.out _ _ (HTZ.out _ _ (HTK.out noB _ _ k6 (fun f => f) (fun f => f) HT0.out)))
    (first | (go_at_call 38; refine Calls.mono HC2.out ?_; rintro e w6 ⟨rfl, k6⟩; have ry := HRY.out _ k6; have rz := HRZ.out _ k6; obtain ⟨u0, u1, u2, u3⟩ : _ ∧ _ ∧ _ ∧ _ := ⟨ry.c, ry.fz, rz.c, rz.fz⟩))
  have sy := ry.set rv
  have ry2 := sy.kp (Kp.setCell (S := fun j => j = X + 4) _ (p := ⟨X + 4, 0, none⟩) rfl (.int .u32 sa)) (by omega)
  have rz2 := (rz.kp (Kp.setCell (S := fun j => j = X + 3) w6 (p := ⟨X + 3, 0, none⟩) rfl (.int .u8 rv)) (by omega)).set sa
  have vF := ((at4.kp0 k6.undrew).kp (Kp.setCell (S := fun j => j = X + 3) w6 (p := ⟨X + 3, 0, none⟩) rfl (.int .u8 rv)) (fun j hj e => by have := HNV.out j hj; omega)).kp (Kp.setCell (S := fun j => j = X + 4) _ (p := ⟨X + 4, 0, none⟩) rfl (.int .u32 sa)) (fun j hj e => by have := HNV.out j hj; omega)
  have kF : Kp (fun j => modVm K B q.m.n j ∨ j = X + 3 ∨ j = X + 4) w _ := (((k5.mono (fun _ _ f => .inl f)).trans (k6.undrew.mono (fun _ _ f => f.elim))).trans (Kp.setCell (S := fun j => modVm K B q.m.n j ∨ j = X + 3 ∨ j = X + 4) w6 (p := ⟨X + 3, 0, none⟩) (.inr (.inl rfl)) (.int .u8 rv))).trans (Kp.setCell (S := fun j => modVm K B q.m.n j ∨ j = X + 3 ∨ j = X + 4) _ (p := ⟨X + 4, 0, none⟩) (.inr (.inr rfl)) (.int .u32 sa))
  go_wp2
  go_end0
  exact ⟨rfl, kF, ⟨tn4, ht4, vF⟩, ry2, rz2⟩

end Go.Proofs.Ytmmnnafjikilpaa
