/- The contract of encode.prefixes, without memory and repetition. -/
import Derived.Test.YtolnaodlghahlaaGreatDoorEnForms
namespace Go.Proofs.YtolnaodlghahlaaGreatDoor
open Go.ChangeShapes Go.WideShapes Go.ChangeAt Go.RowKit
set_option linter.unusedVariables false
set_option maxRecDepth 20000

def preE (s : Int) : List (List Int) := if s = 2 then [[], [102]] else [[]]

theorem rep_0 (w : World) : Calls Tryz.prog 59 #[.int .i64 0] w fun e w' => e = .returned (.slice none 0 0) ∧ w' = w := by
  go_enter Tryz.func59, Tryz.ntmps59
  go_wp2
  go_ret
  exact ⟨rfl, rfl⟩

theorem index3_0 (a b c : Opd) (w : World) : (Instr.index 80 (.agg #[.int .i64 a.kind, .int .i64 a.reg, .int .i64 a.size, .int .i64 a.seg, .int .i64 a.base, .int .i64 a.index, .int .i64 a.scale, .int .u32 a.disp, .int .u32 a.imm, .int .i64 b.kind, .int .i64 b.reg, .int .i64 b.size, .int .i64 b.seg, .int .i64 b.base, .int .i64 b.index, .int .i64 b.scale, .int .u32 b.disp, .int .u32 b.imm, .int .i64 c.kind, .int .i64 c.reg, .int .i64 c.size, .int .i64 c.seg, .int .i64 c.base, .int .i64 c.index, .int .i64 c.scale, .int .u32 c.disp, .int .u32 c.imm]) (.int .i64 0)).run Tryz.prog w = .ok (.agg #[.int .i64 a.kind, .int .i64 a.reg, .int .i64 a.size, .int .i64 a.seg, .int .i64 a.base, .int .i64 a.index, .int .i64 a.scale, .int .u32 a.disp, .int .u32 a.imm]) w := by kernel_rfl
theorem index3_1 (a b c : Opd) (w : World) : (Instr.index 80 (.agg #[.int .i64 a.kind, .int .i64 a.reg, .int .i64 a.size, .int .i64 a.seg, .int .i64 a.base, .int .i64 a.index, .int .i64 a.scale, .int .u32 a.disp, .int .u32 a.imm, .int .i64 b.kind, .int .i64 b.reg, .int .i64 b.size, .int .i64 b.seg, .int .i64 b.base, .int .i64 b.index, .int .i64 b.scale, .int .u32 b.disp, .int .u32 b.imm, .int .i64 c.kind, .int .i64 c.reg, .int .i64 c.size, .int .i64 c.seg, .int .i64 c.base, .int .i64 c.index, .int .i64 c.scale, .int .u32 c.disp, .int .u32 c.imm]) (.int .i64 1)).run Tryz.prog w = .ok (.agg #[.int .i64 b.kind, .int .i64 b.reg, .int .i64 b.size, .int .i64 b.seg, .int .i64 b.base, .int .i64 b.index, .int .i64 b.scale, .int .u32 b.disp, .int .u32 b.imm]) w := by kernel_rfl
theorem index3_2 (a b c : Opd) (w : World) : (Instr.index 80 (.agg #[.int .i64 a.kind, .int .i64 a.reg, .int .i64 a.size, .int .i64 a.seg, .int .i64 a.base, .int .i64 a.index, .int .i64 a.scale, .int .u32 a.disp, .int .u32 a.imm, .int .i64 b.kind, .int .i64 b.reg, .int .i64 b.size, .int .i64 b.seg, .int .i64 b.base, .int .i64 b.index, .int .i64 b.scale, .int .u32 b.disp, .int .u32 b.imm, .int .i64 c.kind, .int .i64 c.reg, .int .i64 c.size, .int .i64 c.seg, .int .i64 c.base, .int .i64 c.index, .int .i64 c.scale, .int .u32 c.disp, .int .u32 c.imm]) (.int .i64 2)).run Tryz.prog w = .ok (.agg #[.int .i64 c.kind, .int .i64 c.reg, .int .i64 c.size, .int .i64 c.seg, .int .i64 c.base, .int .i64 c.index, .int .i64 c.scale, .int .u32 c.disp, .int .u32 c.imm]) w := by kernel_rfl

theorem new_bb2 (W : World) {u v : Value} {a b : List Int} (h : BSl W u a) (h' : BSl W v b) : BB (W.alloc (.cells #[u, v] 23)) (.slice (some ⟨W.heap.size, 0, none⟩) 2 2) [a, b] := by
  have hh := (MapKept.heap_alloc W (.cells #[u, v] 23)).1
  refine ⟨_, 2, rfl, .inr ⟨W.heap.size, 0, rfl, by simp, fun j x hx => ?_⟩⟩
  match j, hx with
  | 0, hx =>
    simp at hx
    subst hx
    exact ⟨u, by rw [cellA hh]; rfl, h.kp (Kp.alloc _ _ _)⟩
  | 1, hx =>
    simp at hx
    subst hx
    exact ⟨v, by rw [cellA hh]; rfl, h'.kp (Kp.alloc _ _ _)⟩

set_option maxRecDepth 100000 in
set_option maxHeartbeats 4000000 in
theorem prefixes_ok (w : World) (x : Ins) (hrep : x.rep = 0) (ha : ¬ x.a.kind = 2) (hb : ¬ x.b.kind = 2) (hc : ¬ x.c.kind = 2) :
    Calls Tryz.prog 34 #[.agg (insV x)] w fun e w' => ∃ v, e = .returned v ∧ BB w' v (preE x.size) ∧ Fr w.heap.size v ∧ Kp noB w w' := by
  obtain ⟨T, nI, Z, fsI, psI, h⟩ := vlF
  obtain ⟨vl, vs, vb, va, ve⟩ := h.ops
  have vx := h.box
  have v1 := h.agg
  have v2 := h.size
  have v3 := h.zero
  have v4 := h.under
  have v5 := h.map
  have v7 := h.zs
  have v8 := h.zn
  have s0 := h.v.cells x
  have hqx := (MapKept.heap_alloc w (.cells (insV x) T)).1
  have c2 : (w.alloc (.cells (insV x) T)).cell? ⟨w.heap.size, 2, none⟩ = some (.int .i64 x.size) := cell_of_row _ _ _ _ _ _ hqx
  have c3 : (w.alloc (.cells (insV x) T)).cell? ⟨w.heap.size, 3, none⟩ = some (.int .i64 x.a.kind) := cell_of_row _ _ _ _ _ _ hqx
  have c4 : (w.alloc (.cells (insV x) T)).cell? ⟨w.heap.size, 4, none⟩ = some (.int .i64 x.a.reg) := cell_of_row _ _ _ _ _ _ hqx
  have c5 : (w.alloc (.cells (insV x) T)).cell? ⟨w.heap.size, 5, none⟩ = some (.int .i64 x.a.size) := cell_of_row _ _ _ _ _ _ hqx
  have c6 : (w.alloc (.cells (insV x) T)).cell? ⟨w.heap.size, 6, none⟩ = some (.int .i64 x.a.seg) := cell_of_row _ _ _ _ _ _ hqx
  have c7 : (w.alloc (.cells (insV x) T)).cell? ⟨w.heap.size, 7, none⟩ = some (.int .i64 x.a.base) := cell_of_row _ _ _ _ _ _ hqx
  have c8 : (w.alloc (.cells (insV x) T)).cell? ⟨w.heap.size, 8, none⟩ = some (.int .i64 x.a.index) := cell_of_row _ _ _ _ _ _ hqx
  have c9 : (w.alloc (.cells (insV x) T)).cell? ⟨w.heap.size, 9, none⟩ = some (.int .i64 x.a.scale) := cell_of_row _ _ _ _ _ _ hqx
  have c10 : (w.alloc (.cells (insV x) T)).cell? ⟨w.heap.size, 10, none⟩ = some (.int .u32 x.a.disp) := cell_of_row _ _ _ _ _ _ hqx
  have c11 : (w.alloc (.cells (insV x) T)).cell? ⟨w.heap.size, 11, none⟩ = some (.int .u32 x.a.imm) := cell_of_row _ _ _ _ _ _ hqx
  have c12 : (w.alloc (.cells (insV x) T)).cell? ⟨w.heap.size, 12, none⟩ = some (.int .i64 x.b.kind) := cell_of_row _ _ _ _ _ _ hqx
  have c13 : (w.alloc (.cells (insV x) T)).cell? ⟨w.heap.size, 13, none⟩ = some (.int .i64 x.b.reg) := cell_of_row _ _ _ _ _ _ hqx
  have c14 : (w.alloc (.cells (insV x) T)).cell? ⟨w.heap.size, 14, none⟩ = some (.int .i64 x.b.size) := cell_of_row _ _ _ _ _ _ hqx
  have c15 : (w.alloc (.cells (insV x) T)).cell? ⟨w.heap.size, 15, none⟩ = some (.int .i64 x.b.seg) := cell_of_row _ _ _ _ _ _ hqx
  have c16 : (w.alloc (.cells (insV x) T)).cell? ⟨w.heap.size, 16, none⟩ = some (.int .i64 x.b.base) := cell_of_row _ _ _ _ _ _ hqx
  have c17 : (w.alloc (.cells (insV x) T)).cell? ⟨w.heap.size, 17, none⟩ = some (.int .i64 x.b.index) := cell_of_row _ _ _ _ _ _ hqx
  have c18 : (w.alloc (.cells (insV x) T)).cell? ⟨w.heap.size, 18, none⟩ = some (.int .i64 x.b.scale) := cell_of_row _ _ _ _ _ _ hqx
  have c19 : (w.alloc (.cells (insV x) T)).cell? ⟨w.heap.size, 19, none⟩ = some (.int .u32 x.b.disp) := cell_of_row _ _ _ _ _ _ hqx
  have c20 : (w.alloc (.cells (insV x) T)).cell? ⟨w.heap.size, 20, none⟩ = some (.int .u32 x.b.imm) := cell_of_row _ _ _ _ _ _ hqx
  have c21 : (w.alloc (.cells (insV x) T)).cell? ⟨w.heap.size, 21, none⟩ = some (.int .i64 x.c.kind) := cell_of_row _ _ _ _ _ _ hqx
  have c22 : (w.alloc (.cells (insV x) T)).cell? ⟨w.heap.size, 22, none⟩ = some (.int .i64 x.c.reg) := cell_of_row _ _ _ _ _ _ hqx
  have c23 : (w.alloc (.cells (insV x) T)).cell? ⟨w.heap.size, 23, none⟩ = some (.int .i64 x.c.size) := cell_of_row _ _ _ _ _ _ hqx
  have c24 : (w.alloc (.cells (insV x) T)).cell? ⟨w.heap.size, 24, none⟩ = some (.int .i64 x.c.seg) := cell_of_row _ _ _ _ _ _ hqx
  have c25 : (w.alloc (.cells (insV x) T)).cell? ⟨w.heap.size, 25, none⟩ = some (.int .i64 x.c.base) := cell_of_row _ _ _ _ _ _ hqx
  have c26 : (w.alloc (.cells (insV x) T)).cell? ⟨w.heap.size, 26, none⟩ = some (.int .i64 x.c.index) := cell_of_row _ _ _ _ _ _ hqx
  have c27 : (w.alloc (.cells (insV x) T)).cell? ⟨w.heap.size, 27, none⟩ = some (.int .i64 x.c.scale) := cell_of_row _ _ _ _ _ _ hqx
  have c28 : (w.alloc (.cells (insV x) T)).cell? ⟨w.heap.size, 28, none⟩ = some (.int .u32 x.c.disp) := cell_of_row _ _ _ _ _ _ hqx
  have c29 : (w.alloc (.cells (insV x) T)).cell? ⟨w.heap.size, 29, none⟩ = some (.int .u32 x.c.imm) := cell_of_row _ _ _ _ _ _ hqx
  have c30 : (w.alloc (.cells (insV x) T)).cell? ⟨w.heap.size, 30, none⟩ = some (.int .i64 0) := by rw [← hrep]; exact cell_of_row _ _ _ _ _ _ hqx
  have na : (x.a.kind == 2) = false := by simp [ha]
  have nb : (x.b.kind == 2) = false := by simp [hb]
  have nc : (x.c.kind == 2) = false := by simp [hc]
  have K1 : Hid (Kp noB w (w.alloc (.cells (insV x) T))) := Kp.alloc _ _ _
  have HRp : Hid (∀ w, _) := rep_0
  have HQ : Hid _ := hqx
  clear h hqx ha hb hc hrep
  go_enter Tryz.func34, Tryz.ntmps34
  simp only [vx]
  clear vl vs vb va ve vx
  go_wp2_with fail
  refine Calls.mono (HRp.out _) ?_; rintro e w1 ⟨rfl, hw⟩; replace hw := hw.symm; subst hw
  go_wp2_with fail
  have HC2 : Hid _ := c2
  clear c2 c3 c4 c5 c6 c7 c8 c9 c10 c11 c12 c13 c14 c15 c16 c17 c18 c19 c20 c21 c22 c23 c24 c25 c26 c27 c28 c29 c30 s0 v1 v2 v3 v4 v5 v7 v8
  obtain ⟨q, hq⟩ : ∃ q, q = w.heap.size := ⟨_, rfl⟩
  have hql : q < (w.alloc (.cells (insV x) T)).heap.size := by rw [hq]; simp
  have HQl : Hid _ := hql
  rw [← hq] at HC2 ⊢
  clear hq hql
  generalize w.alloc (.cells (insV x) T) = w0 at K1 HC2 HQl HQ ⊢
  go_loopw [3, 16] (fun s3 s16 wr => ∃ i : Nat, s16 = .int .i64 i ∧ s3 = .slice none 0 0 ∧ i ≤ 3 ∧ Kp noB w0 wr) (fun _ s16 _ => (3 - intOf s16).toNat)
  case atStart => exact ⟨0, rfl, rfl, by omega, Kp.refl _ _⟩
  case round =>
    obtain ⟨i, rfl, rfl, hi, kr⟩ := hrel
    rcases (by omega : i = 0 ∨ i = 1 ∨ i = 2 ∨ i = 3) with rfl | rfl | rfl | rfl
    · have HK : Hid _ := kr
      have ix := index3_0 x.a x.b x.c wr
      clear kr
      go_wp2
      go_quiet (fail)
      go_wp2
      go_roundw
      case rel => exact ⟨1, by go_num, rfl, by omega, (HK.out.trans (Kp.alloc noB wr _)).drewN _⟩
      case measure => simp [intOf]
    · have HK : Hid _ := kr
      have ix := index3_1 x.a x.b x.c wr
      clear kr
      go_wp2
      go_quiet (fail)
      go_wp2
      go_roundw
      case rel => exact ⟨2, by go_num, rfl, by omega, (HK.out.trans (Kp.alloc noB wr _)).drewN _⟩
      case measure => simp [intOf]
    · have HK : Hid _ := kr
      have ix := index3_2 x.a x.b x.c wr
      clear kr
      go_wp2
      go_quiet (fail)
      go_wp2
      go_roundw
      case rel => exact ⟨3, by go_num, rfl, by omega, (HK.out.trans (Kp.alloc noB wr _)).drewN _⟩
      case measure => simp [intOf]
    · have c2 := cellK HC2.out kr HQl.out
      have KW : Hid (Kp noB w wr) := K1.out.trans kr
      have nil : ∀ W : World, BSl W (.slice none 0 0) [] := fun W => ⟨none, 0, rfl, .inl ⟨rfl, rfl, rfl⟩⟩
      have HNil : Hid _ := nil
      clear nil kr
      by_cases hs : x.size = 2
      · have eP : preE x.size = [[], [102]] := by unfold preE; rw [if_pos hs]
        have HP : Hid _ := eP
        clear eP
        rw [hs] at c2
        have hb6 : BSl (wr.alloc (.cells #[.int .u8 102] 5)) (.slice (some ⟨wr.heap.size, 0, none⟩) 1 1) [102] := new_bsl wr rfl [102] rfl 1 1 rfl
        have HC := cat2 (wr.alloc (.cells #[.int .u8 102] 5)) (.slice none 0 0) _ [] [102] (HNil.out _) hb6 (by simp) (by simp)
        rw [show (wr.alloc (.cells #[.int .u8 102] 5)).heap.size = wr.heap.size + 1 by simp] at HC
        have HCC : Hid _ := HC
        have K5 : Hid (Kp noB w (wr.alloc (.cells #[.int .u8 102] 5))) := KW.out.trans (Kp.alloc _ _ _)
        clear HC hb6 hs
        go_wp2_with fail
        refine Calls.mono HCC.out ?_; rintro e w5 ⟨p5, l5, k5, rfl, h5, k6⟩
        have hBB := new_bb2 w5 (HNil.out w5) h5
        simp only [List.nil_append] at hBB
        rw [← HP.out] at hBB
        have HBB : Hid _ := hBB
        have KF : Hid _ := (K5.out.trans k6).trans (Kp.alloc noB w5 (.cells #[.slice none 0 0, .slice p5 l5 k5] 23))
        have K65 : Hid (w.heap.size ≤ w5.heap.size) := (K5.out.trans k6).size
        clear hBB h5 k6
        go_wp2
        go_ret
        exact ⟨_, rfl, HBB.out, fun a l c e => by injection e with e _ _; injection e with e; subst e; exact K65.out, KF.out⟩
      · have eP : preE x.size = [[]] := by unfold preE; rw [if_neg hs]
        have ns : (x.size == 2) = false := by simp [hs]
        have hBB := new_bb1 wr rfl (HNil.out wr)
        rw [← eP] at hBB
        clear eP
        have HBB : Hid _ := hBB
        have KF : Hid _ := KW.out.trans (Kp.alloc noB wr (.cells #[.slice none 0 0] 23))
        clear hBB hs
        go_wp2
        go_ret
        exact ⟨_, rfl, HBB.out, fun a l c e => by injection e with e _ _; injection e with e; subst e; exact KW.out.size, KF.out⟩
end Go.Proofs.YtolnaodlghahlaaGreatDoor
