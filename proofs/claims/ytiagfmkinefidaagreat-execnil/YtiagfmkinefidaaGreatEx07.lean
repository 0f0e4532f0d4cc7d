/- The bus and its devices: DecPart, DecE. -/
import Derived.Test.YtiagfmkinefidaaGreatEx06
import Derived.Deep.Cut
namespace Go.Proofs.YtiagfmkinefidaaGreat.Dc
open Go.ChangeShapes Go.WideShapes Go.ChangeAt Go.RowKit
set_option linter.unusedVariables false
set_option maxRecDepth 20000
theorem res_done {X : Cx} {w w1 : World} {σ1 : Sg} (k : Kp X.own (w.alloc (.cells Opd.zero.vals 38)) w1) (h1 : St X w1 σ1) (hlow : X.lo ≤ w.heap.size) (hfre : ¬ X.own w.heap.size) (cs : Array Value) : Done X w σ1 (w1.setRow w.heap.size cs) :=
  ⟨h1.other (Kp.setRow (S := fun b => b = w.heap.size) w1 rfl cs) hlow (new_res k hfre).2 (by decide), res_kp k cs⟩
theorem Kp.nine (w : World) (q : Nat) (a b c d e f g h i : Value) : Kp (fun b => b = q) w (((((((((w.setCell ⟨q, 0, none⟩ a).setCell ⟨q, 1, none⟩ b).setCell ⟨q, 2, none⟩ c).setCell ⟨q, 3, none⟩ d).setCell ⟨q, 4, none⟩ e).setCell ⟨q, 5, none⟩ f).setCell ⟨q, 6, none⟩ g).setCell ⟨q, 7, none⟩ h).setCell ⟨q, 8, none⟩ i) := by
  have k0 := Kp.setCell (S := fun b => b = q) w (p := ⟨q, 0, none⟩) rfl a
  generalize w.setCell ⟨q, 0, none⟩ a = w0 at *
  have k1 := Kp.setCell (S := fun b => b = q) w0 (p := ⟨q, 1, none⟩) rfl b
  generalize w0.setCell ⟨q, 1, none⟩ b = w1 at *
  have k2 := Kp.setCell (S := fun b => b = q) w1 (p := ⟨q, 2, none⟩) rfl c
  generalize w1.setCell ⟨q, 2, none⟩ c = w2 at *
  have k3 := Kp.setCell (S := fun b => b = q) w2 (p := ⟨q, 3, none⟩) rfl d
  generalize w2.setCell ⟨q, 3, none⟩ d = w3 at *
  have k4 := Kp.setCell (S := fun b => b = q) w3 (p := ⟨q, 4, none⟩) rfl e
  generalize w3.setCell ⟨q, 4, none⟩ e = w4 at *
  have k5 := Kp.setCell (S := fun b => b = q) w4 (p := ⟨q, 5, none⟩) rfl f
  generalize w4.setCell ⟨q, 5, none⟩ f = w5 at *
  have k6 := Kp.setCell (S := fun b => b = q) w5 (p := ⟨q, 6, none⟩) rfl g
  generalize w5.setCell ⟨q, 6, none⟩ g = w6 at *
  have k7 := Kp.setCell (S := fun b => b = q) w6 (p := ⟨q, 7, none⟩) rfl h
  generalize w6.setCell ⟨q, 7, none⟩ h = w7 at *
  have k8 := Kp.setCell (S := fun b => b = q) w7 (p := ⟨q, 8, none⟩) rfl i
  generalize w7.setCell ⟨q, 8, none⟩ i = w8 at *
  exact (((((((k0.trans k1).trans k2).trans k3).trans k4).trans k5).trans k6).trans k7).trans k8
theorem nine_done {X : Cx} {w w1 : World} {σ1 : Sg} (k : Kp X.own (w.alloc (.cells Opd.zero.vals 38)) w1) (h1 : St X w1 σ1) (hlow : X.lo ≤ w.heap.size) (hfre : ¬ X.own w.heap.size) (a b c d e f g h i : Value) :
    Done X w σ1 (((((((((w1.setCell ⟨w.heap.size, 0, none⟩ a).setCell ⟨w.heap.size, 1, none⟩ b).setCell ⟨w.heap.size, 2, none⟩ c).setCell ⟨w.heap.size, 3, none⟩ d).setCell ⟨w.heap.size, 4, none⟩ e).setCell ⟨w.heap.size, 5, none⟩ f).setCell ⟨w.heap.size, 6, none⟩ g).setCell ⟨w.heap.size, 7, none⟩ h).setCell ⟨w.heap.size, 8, none⟩ i) := by
  have kn := Kp.nine w1 w.heap.size a b c d e f g h i
  refine ⟨h1.other kn hlow (new_res k hfre).2 (by decide), ?_⟩
  refine ⟨kn.os.trans k.os, kn.tape.trans k.tape, kn.output.trans k.output, ?_, fun j hj hs => ?_⟩
  · have := k.size
    have := kn.size
    simp at *
    omega
  · have hs1 := k.size
    simp at hs1
    rw [kn.block j (by omega) (by omega), k.block j (by simp; omega) hs]
    exact Below.heap_alloc _ _ _ hj
theorem fld0 (w : World) (a b c : Value) : (Instr.field 294 (.agg #[a, b, c]) 0).run Tryz.prog w = .ok a w := by kernel_rfl
theorem fld1 (w : World) (a b c : Value) : (Instr.field 294 (.agg #[a, b, c]) 1).run Tryz.prog w = .ok b w := by kernel_rfl
theorem fld2 (w : World) (a b c : Value) : (Instr.field 294 (.agg #[a, b, c]) 2).run Tryz.prog w = .ok c w := by kernel_rfl
def pA (X : Cx) (s : Int) (σ : Sg) : Opd × Sg := (regO 0 s, σ)
def pCL (X : Cx) (s : Int) (σ : Sg) : Opd × Sg := (regO 1 1, σ)
def pDX (X : Cx) (s : Int) (σ : Sg) : Opd × Sg := (regO 2 2, σ)
def pR (X : Cx) (s : Int) (σ : Sg) : Opd × Sg := (regO (σ.op % 8) s, σ)
def pG (X : Cx) (s : Int) (σ : Sg) : Opd × Sg := (regO (modrm X σ).1.2.1 s, (modrm X σ).2)
def pRm (X : Cx) (s : Int) (σ : Sg) : Opd × Sg := (regO (modrm X σ).1.2.2 s, (modrm X σ).2)
def crO (n : Int) : Opd := { Opd.zero with kind := 5, reg := n }
def pCr (X : Cx) (s : Int) (σ : Sg) : Opd × Sg := (crO (modrm X σ).1.2.1, (modrm X σ).2)
def pI (X : Cx) (s : Int) (σ : Sg) : Opd × Sg := (numO (bytesM X s σ).1, (bytesM X s σ).2)
def pIb (X : Cx) (s : Int) (σ : Sg) : Opd × Sg := pI X 1 σ
def pIw (X : Cx) (s : Int) (σ : Sg) : Opd × Sg := pI X 2 σ
def pIs (X : Cx) (s : Int) (σ : Sg) : Opd × Sg := (numO (cutM s (sgnM 1 (bytesM X 1 σ).1)), (bytesM X 1 σ).2)
def relO (n : Int) : Opd := { Opd.zero with kind := 6, imm := n }
def pJ (X : Cx) (s : Int) (σ : Sg) : Opd × Sg := (relO (sgnM s (bytesM X s σ).1), (bytesM X s σ).2)
def pJb (X : Cx) (s : Int) (σ : Sg) : Opd × Sg := pJ X 1 σ
def farO (n d : Int) : Opd := { Opd.zero with kind := 7, imm := n, disp := d }
def pFar (X : Cx) (s : Int) (σ : Sg) : Opd × Sg := (farO (bytesM X s σ).1 (bytesM X 2 (bytesM X s σ).2).1, (bytesM X 2 (bytesM X s σ).2).2)
def pString (X : Cx) (s : Int) (σ : Sg) : Opd × Sg := (memO σ.seg s, σ)
set_option maxHeartbeats 1000000 in
theorem pA_ok (w : World) (X : Cx) (σ : Sg) (h : St X w σ) (s : Int) (hs : s = 1 ∨ s = 2 ∨ s = 4) :
    Calls Tryz.prog 239 #[.pointer (some ⟨X.F, 0, none⟩), .int .i64 s] w fun e w' => e = .returned (.agg (pA X s σ).1.vals) ∧ Done X w (pA X s σ).2 w' := by
  have hlow := h.low
  have hfre := h.fresh
  have h0 : St X (w.alloc (.cells Opd.zero.vals 38)) σ := h.alloc _
  show Calls _ _ _ _ fun e w' => e = .returned (.agg (regO 0 s).vals) ∧ Done X w σ w'
  have HT : Hid (s = 1 ∨ s = 2 ∨ s = 4) := hs
  have Hh : Hid (St X w σ) := h
  clear hs h
  go_enter Tryz.func239, Tryz.ntmps239
  go_wp2_with fail
  refine (register_ok _ _ _).mono ?_; rintro e w1 ⟨rfl, k1⟩
  obtain ⟨hq0, hb0⟩ := new_res (k1.any (S := X.own)) hfre
  have hst := put_res hb0 (regO 0 s)
  have hsz := vals_size (regO 0 s)
  have hb1 := got_res hb0 (regO 0 s)
  obtain ⟨r0, r1, r2, r3, r4, r5, r6, r7, r8⟩ := res_cells hb1
  have Hk : Hid _ := res_done (k1.any (S := X.own)) (h0.no k1) hlow hfre (regO 0 s).vals
  go_wp2
  exact bodyPost_ret (v := .agg (regO 0 s).vals) (by simp [results, Tryz.results239, go_sem, r0, r1, r2, r3, r4, r5, r6, r7, r8]; rfl) rfl ⟨rfl, Hk.out⟩
set_option maxHeartbeats 1000000 in
theorem pCL_ok (w : World) (X : Cx) (σ : Sg) (h : St X w σ) (s : Int) (hs : s = 1 ∨ s = 2 ∨ s = 4) :
    Calls Tryz.prog 331 #[.pointer (some ⟨X.F, 0, none⟩), .int .i64 s] w fun e w' => e = .returned (.agg (pCL X s σ).1.vals) ∧ Done X w (pCL X s σ).2 w' := by
  have hlow := h.low
  have hfre := h.fresh
  have h0 : St X (w.alloc (.cells Opd.zero.vals 38)) σ := h.alloc _
  show Calls _ _ _ _ fun e w' => e = .returned (.agg (regO 1 1).vals) ∧ Done X w σ w'
  have HT : Hid (s = 1 ∨ s = 2 ∨ s = 4) := hs
  have Hh : Hid (St X w σ) := h
  clear hs h
  go_enter Tryz.func331, Tryz.ntmps331
  go_wp2_with fail
  refine (register_ok _ _ _).mono ?_; rintro e w1 ⟨rfl, k1⟩
  obtain ⟨hq0, hb0⟩ := new_res (k1.any (S := X.own)) hfre
  have hst := put_res hb0 (regO 1 1)
  have hsz := vals_size (regO 1 1)
  have hb1 := got_res hb0 (regO 1 1)
  obtain ⟨r0, r1, r2, r3, r4, r5, r6, r7, r8⟩ := res_cells hb1
  have Hk : Hid _ := res_done (k1.any (S := X.own)) (h0.no k1) hlow hfre (regO 1 1).vals
  go_wp2
  exact bodyPost_ret (v := .agg (regO 1 1).vals) (by simp [results, Tryz.results331, go_sem, r0, r1, r2, r3, r4, r5, r6, r7, r8]; rfl) rfl ⟨rfl, Hk.out⟩
set_option maxHeartbeats 1000000 in
theorem pDX_ok (w : World) (X : Cx) (σ : Sg) (h : St X w σ) (s : Int) (hs : s = 1 ∨ s = 2 ∨ s = 4) :
    Calls Tryz.prog 350 #[.pointer (some ⟨X.F, 0, none⟩), .int .i64 s] w fun e w' => e = .returned (.agg (pDX X s σ).1.vals) ∧ Done X w (pDX X s σ).2 w' := by
  have hlow := h.low
  have hfre := h.fresh
  have h0 : St X (w.alloc (.cells Opd.zero.vals 38)) σ := h.alloc _
  show Calls _ _ _ _ fun e w' => e = .returned (.agg (regO 2 2).vals) ∧ Done X w σ w'
  have HT : Hid (s = 1 ∨ s = 2 ∨ s = 4) := hs
  have Hh : Hid (St X w σ) := h
  clear hs h
  go_enter Tryz.func350, Tryz.ntmps350
  go_wp2_with fail
  refine (register_ok _ _ _).mono ?_; rintro e w1 ⟨rfl, k1⟩
  obtain ⟨hq0, hb0⟩ := new_res (k1.any (S := X.own)) hfre
  have hst := put_res hb0 (regO 2 2)
  have hsz := vals_size (regO 2 2)
  have hb1 := got_res hb0 (regO 2 2)
  obtain ⟨r0, r1, r2, r3, r4, r5, r6, r7, r8⟩ := res_cells hb1
  have Hk : Hid _ := res_done (k1.any (S := X.own)) (h0.no k1) hlow hfre (regO 2 2).vals
  go_wp2
  exact bodyPost_ret (v := .agg (regO 2 2).vals) (by simp [results, Tryz.results350, go_sem, r0, r1, r2, r3, r4, r5, r6, r7, r8]; rfl) rfl ⟨rfl, Hk.out⟩
set_option maxHeartbeats 1000000 in
theorem pR_ok (w : World) (X : Cx) (σ : Sg) (h : St X w σ) (s : Int) (hs : s = 1 ∨ s = 2 ∨ s = 4) :
    Calls Tryz.prog 255 #[.pointer (some ⟨X.F, 0, none⟩), .int .i64 s] w fun e w' => e = .returned (.agg (pR X s σ).1.vals) ∧ Done X w (pR X s σ).2 w' := by
  have hlow := h.low
  have hfre := h.fresh
  have h0 : St X (w.alloc (.cells Opd.zero.vals 38)) σ := h.alloc _
  show Calls _ _ _ _ fun e w' => e = .returned (.agg (regO (σ.op % 8) s).vals) ∧ Done X w σ w'
  have HT : Hid (s = 1 ∨ s = 2 ∨ s = 4) := hs
  have Hh : Hid (St X w σ) := h
  clear hs h
  go_enter Tryz.func255, Tryz.ntmps255
  go_wp2_with fail
  refine (r_ok _ X σ h0).mono ?_; rintro e w0 ⟨rfl, hw⟩; subst hw
  go_wp2_with fail
  refine (register_ok _ _ _).mono ?_; rintro e w1 ⟨rfl, k1⟩
  obtain ⟨hq0, hb0⟩ := new_res (k1.any (S := X.own)) hfre
  have hst := put_res hb0 (regO (σ.op % 8) s)
  have hsz := vals_size (regO (σ.op % 8) s)
  have hb1 := got_res hb0 (regO (σ.op % 8) s)
  obtain ⟨r0, r1, r2, r3, r4, r5, r6, r7, r8⟩ := res_cells hb1
  have Hk : Hid _ := res_done (k1.any (S := X.own)) (h0.no k1) hlow hfre (regO (σ.op % 8) s).vals
  go_wp2
  exact bodyPost_ret (v := .agg (regO (σ.op % 8) s).vals) (by simp [results, Tryz.results255, go_sem, r0, r1, r2, r3, r4, r5, r6, r7, r8]; rfl) rfl ⟨rfl, Hk.out⟩
set_option maxHeartbeats 1000000 in
theorem pG_ok (w : World) (X : Cx) (σ : Sg) (h : St X w σ) (s : Int) (hs : s = 1 ∨ s = 2 ∨ s = 4) :
    Calls Tryz.prog 234 #[.pointer (some ⟨X.F, 0, none⟩), .int .i64 s] w fun e w' => e = .returned (.agg (pG X s σ).1.vals) ∧ Done X w (pG X s σ).2 w' := by
  have hlow := h.low
  have hfre := h.fresh
  have h0 : St X (w.alloc (.cells Opd.zero.vals 38)) σ := h.alloc _
  have cM := modrm_ok _ X σ h0
  obtain ⟨⟨m, n, r⟩, hm⟩ : ∃ x, x = (modrm X σ).1 := ⟨_, rfl⟩
  have eG : pG X s σ = (regO n s, (modrm X σ).2) := by unfold pG; rw [← hm]
  rw [← hm] at cM
  simp only [mrV] at cM
  rw [eG]
  clear hm eG
  have fl0 := fld0
  have fl1 := fld1
  have fl2 := fld2
  show Calls _ _ _ _ fun e w' => e = .returned (.agg (regO n s).vals) ∧ Done X w (modrm X σ).2 w'
  have HT : Hid (s = 1 ∨ s = 2 ∨ s = 4) := hs
  have Hh : Hid (St X w σ) := h
  clear hs h
  go_enter Tryz.func234, Tryz.ntmps234
  go_wp2_with fail
  refine cM.mono ?_; rintro e w1 ⟨rfl, h1, k1⟩
  go_wp2_with fail
  refine (register_ok _ _ _).mono ?_; rintro e w2 ⟨rfl, k2⟩
  obtain ⟨hq0, hb0⟩ := new_res (k1.trans k2.any) hfre
  have hst := put_res hb0 (regO n s)
  have hsz := vals_size (regO n s)
  have hb1 := got_res hb0 (regO n s)
  obtain ⟨r0, r1, r2, r3, r4, r5, r6, r7, r8⟩ := res_cells hb1
  have Hk : Hid _ := res_done (k1.trans k2.any) (h1.no k2) hlow hfre (regO n s).vals
  go_wp2
  exact bodyPost_ret (v := .agg (regO n s).vals) (by simp [results, Tryz.results234, go_sem, r0, r1, r2, r3, r4, r5, r6, r7, r8]; rfl) rfl ⟨rfl, Hk.out⟩
set_option maxHeartbeats 1000000 in
theorem pRm_ok (w : World) (X : Cx) (σ : Sg) (h : St X w σ) (s : Int) (hs : s = 1 ∨ s = 2 ∨ s = 4) :
    Calls Tryz.prog 371 #[.pointer (some ⟨X.F, 0, none⟩), .int .i64 s] w fun e w' => e = .returned (.agg (pRm X s σ).1.vals) ∧ Done X w (pRm X s σ).2 w' := by
  have hlow := h.low
  have hfre := h.fresh
  have h0 : St X (w.alloc (.cells Opd.zero.vals 38)) σ := h.alloc _
  have cM := modrm_ok _ X σ h0
  obtain ⟨⟨m, n, r⟩, hm⟩ : ∃ x, x = (modrm X σ).1 := ⟨_, rfl⟩
  have eG : pRm X s σ = (regO r s, (modrm X σ).2) := by unfold pRm; rw [← hm]
  rw [← hm] at cM
  simp only [mrV] at cM
  rw [eG]
  clear hm eG
  have fl0 := fld0
  have fl1 := fld1
  have fl2 := fld2
  show Calls _ _ _ _ fun e w' => e = .returned (.agg (regO r s).vals) ∧ Done X w (modrm X σ).2 w'
  have HT : Hid (s = 1 ∨ s = 2 ∨ s = 4) := hs
  have Hh : Hid (St X w σ) := h
  clear hs h
  go_enter Tryz.func371, Tryz.ntmps371
  go_wp2_with fail
  refine cM.mono ?_; rintro e w1 ⟨rfl, h1, k1⟩
  go_wp2_with fail
  refine (register_ok _ _ _).mono ?_; rintro e w2 ⟨rfl, k2⟩
  obtain ⟨hq0, hb0⟩ := new_res (k1.trans k2.any) hfre
  have hst := put_res hb0 (regO r s)
  have hsz := vals_size (regO r s)
  have hb1 := got_res hb0 (regO r s)
  obtain ⟨r0, r1, r2, r3, r4, r5, r6, r7, r8⟩ := res_cells hb1
  have Hk : Hid _ := res_done (k1.trans k2.any) (h1.no k2) hlow hfre (regO r s).vals
  go_wp2
  exact bodyPost_ret (v := .agg (regO r s).vals) (by simp [results, Tryz.results371, go_sem, r0, r1, r2, r3, r4, r5, r6, r7, r8]; rfl) rfl ⟨rfl, Hk.out⟩
set_option maxHeartbeats 1000000 in
theorem pCr_ok (w : World) (X : Cx) (σ : Sg) (h : St X w σ) (s : Int) (hs : s = 1 ∨ s = 2 ∨ s = 4) :
    Calls Tryz.prog 372 #[.pointer (some ⟨X.F, 0, none⟩), .int .i64 s] w fun e w' => e = .returned (.agg (pCr X s σ).1.vals) ∧ Done X w (pCr X s σ).2 w' := by
  have hlow := h.low
  have hfre := h.fresh
  have h0 : St X (w.alloc (.cells Opd.zero.vals 38)) σ := h.alloc _
  have cM := modrm_ok _ X σ h0
  obtain ⟨⟨m, n, r⟩, hm⟩ : ∃ x, x = (modrm X σ).1 := ⟨_, rfl⟩
  have eG : pCr X s σ = (crO n, (modrm X σ).2) := by unfold pCr; rw [← hm]
  rw [← hm] at cM
  simp only [mrV] at cM
  rw [eG]
  clear hm eG
  have fl0 := fld0
  have fl1 := fld1
  have fl2 := fld2
  show Calls _ _ _ _ fun e w' => e = .returned (.agg (crO n).vals) ∧ Done X w (modrm X σ).2 w'
  have HT : Hid (s = 1 ∨ s = 2 ∨ s = 4) := hs
  have Hh : Hid (St X w σ) := h
  clear hs h
  go_enter Tryz.func372, Tryz.ntmps372
  go_wp2_with fail
  refine cM.mono ?_; rintro e w1 ⟨rfl, h1, k1⟩
  obtain ⟨hq0, hb0⟩ := new_res k1 hfre
  have hfz := res_fz hb0
  obtain ⟨r0, r1, r2, r3, r4, r5, r6, r7, r8⟩ := res_cells hb0
  have Hk : Hid _ := nine_done k1 h1 hlow hfre
  go_wp2
  exact bodyPost_ret (v := .agg (crO n).vals) (by simp [results, Tryz.results372, go_sem, r0, r1, r2, r3, r4, r5, r6, r7, r8]; rfl) rfl ⟨rfl, Hk.out _ _ _ _ _ _ _ _ _⟩
set_option maxHeartbeats 1000000 in
theorem pI_ok (w : World) (X : Cx) (σ : Sg) (h : St X w σ) (s : Int) (hs : s = 1 ∨ s = 2 ∨ s = 4) :
    Calls Tryz.prog 240 #[.pointer (some ⟨X.F, 0, none⟩), .int .i64 s] w fun e w' => e = .returned (.agg (pI X s σ).1.vals) ∧ Done X w (pI X s σ).2 w' := by
  have hlow := h.low
  have hfre := h.fresh
  have h0 : St X (w.alloc (.cells Opd.zero.vals 38)) σ := h.alloc _
  have cB := bytes_ok _ X σ h0 s hs
  show Calls _ _ _ _ fun e w' => e = .returned (.agg (numO (bytesM X s σ).1).vals) ∧ Done X w (bytesM X s σ).2 w'
  have HT : Hid (s = 1 ∨ s = 2 ∨ s = 4) := hs
  have Hh : Hid (St X w σ) := h
  clear hs h
  go_enter Tryz.func240, Tryz.ntmps240
  go_wp2_with fail
  refine cB.mono ?_; rintro e w1 ⟨rfl, h1, k1⟩
  go_wp2_with fail
  refine (number_ok _ _).mono ?_; rintro e w2 ⟨rfl, k2⟩
  obtain ⟨hq0, hb0⟩ := new_res (k1.trans k2.any) hfre
  have hst := put_res hb0 (numO (bytesM X s σ).1)
  have hsz := vals_size (numO (bytesM X s σ).1)
  have hb1 := got_res hb0 (numO (bytesM X s σ).1)
  obtain ⟨r0, r1, r2, r3, r4, r5, r6, r7, r8⟩ := res_cells hb1
  have Hk : Hid _ := res_done (k1.trans k2.any) (h1.no k2) hlow hfre (numO (bytesM X s σ).1).vals
  go_wp2
  exact bodyPost_ret (v := .agg (numO (bytesM X s σ).1).vals) (by simp [results, Tryz.results240, go_sem, r0, r1, r2, r3, r4, r5, r6, r7, r8]; rfl) rfl ⟨rfl, Hk.out⟩
set_option maxHeartbeats 1000000 in
theorem pIb_ok (w : World) (X : Cx) (σ : Sg) (h : St X w σ) (s : Int) (hs : s = 1 ∨ s = 2 ∨ s = 4) :
    Calls Tryz.prog 315 #[.pointer (some ⟨X.F, 0, none⟩), .int .i64 s] w fun e w' => e = .returned (.agg (pIb X s σ).1.vals) ∧ Done X w (pIb X s σ).2 w' := by
  have hlow := h.low
  have hfre := h.fresh
  have h0 : St X (w.alloc (.cells Opd.zero.vals 38)) σ := h.alloc _
  have cB := bytes_ok _ X σ h0 1 (by decide)
  show Calls _ _ _ _ fun e w' => e = .returned (.agg (numO (bytesM X 1 σ).1).vals) ∧ Done X w (bytesM X 1 σ).2 w'
  have HT : Hid (s = 1 ∨ s = 2 ∨ s = 4) := hs
  have Hh : Hid (St X w σ) := h
  clear hs h
  go_enter Tryz.func315, Tryz.ntmps315
  go_wp2_with fail
  refine cB.mono ?_; rintro e w1 ⟨rfl, h1, k1⟩
  go_wp2_with fail
  refine (number_ok _ _).mono ?_; rintro e w2 ⟨rfl, k2⟩
  obtain ⟨hq0, hb0⟩ := new_res (k1.trans k2.any) hfre
  have hst := put_res hb0 (numO (bytesM X 1 σ).1)
  have hsz := vals_size (numO (bytesM X 1 σ).1)
  have hb1 := got_res hb0 (numO (bytesM X 1 σ).1)
  obtain ⟨r0, r1, r2, r3, r4, r5, r6, r7, r8⟩ := res_cells hb1
  have Hk : Hid _ := res_done (k1.trans k2.any) (h1.no k2) hlow hfre (numO (bytesM X 1 σ).1).vals
  go_wp2
  exact bodyPost_ret (v := .agg (numO (bytesM X 1 σ).1).vals) (by simp [results, Tryz.results315, go_sem, r0, r1, r2, r3, r4, r5, r6, r7, r8]; rfl) rfl ⟨rfl, Hk.out⟩
set_option maxHeartbeats 1000000 in
theorem pIw_ok (w : World) (X : Cx) (σ : Sg) (h : St X w σ) (s : Int) (hs : s = 1 ∨ s = 2 ∨ s = 4) :
    Calls Tryz.prog 318 #[.pointer (some ⟨X.F, 0, none⟩), .int .i64 s] w fun e w' => e = .returned (.agg (pIw X s σ).1.vals) ∧ Done X w (pIw X s σ).2 w' := by
  have hlow := h.low
  have hfre := h.fresh
  have h0 : St X (w.alloc (.cells Opd.zero.vals 38)) σ := h.alloc _
  have cB := bytes_ok _ X σ h0 2 (by decide)
  show Calls _ _ _ _ fun e w' => e = .returned (.agg (numO (bytesM X 2 σ).1).vals) ∧ Done X w (bytesM X 2 σ).2 w'
  have HT : Hid (s = 1 ∨ s = 2 ∨ s = 4) := hs
  have Hh : Hid (St X w σ) := h
  clear hs h
  go_enter Tryz.func318, Tryz.ntmps318
  go_wp2_with fail
  refine cB.mono ?_; rintro e w1 ⟨rfl, h1, k1⟩
  go_wp2_with fail
  refine (number_ok _ _).mono ?_; rintro e w2 ⟨rfl, k2⟩
  obtain ⟨hq0, hb0⟩ := new_res (k1.trans k2.any) hfre
  have hst := put_res hb0 (numO (bytesM X 2 σ).1)
  have hsz := vals_size (numO (bytesM X 2 σ).1)
  have hb1 := got_res hb0 (numO (bytesM X 2 σ).1)
  obtain ⟨r0, r1, r2, r3, r4, r5, r6, r7, r8⟩ := res_cells hb1
  have Hk : Hid _ := res_done (k1.trans k2.any) (h1.no k2) hlow hfre (numO (bytesM X 2 σ).1).vals
  go_wp2
  exact bodyPost_ret (v := .agg (numO (bytesM X 2 σ).1).vals) (by simp [results, Tryz.results318, go_sem, r0, r1, r2, r3, r4, r5, r6, r7, r8]; rfl) rfl ⟨rfl, Hk.out⟩
set_option maxHeartbeats 1000000 in
theorem pIs_ok (w : World) (X : Cx) (σ : Sg) (h : St X w σ) (s : Int) (hs : s = 1 ∨ s = 2 ∨ s = 4) :
    Calls Tryz.prog 264 #[.pointer (some ⟨X.F, 0, none⟩), .int .i64 s] w fun e w' => e = .returned (.agg (pIs X s σ).1.vals) ∧ Done X w (pIs X s σ).2 w' := by
  have hlow := h.low
  have hfre := h.fresh
  have h0 : St X (w.alloc (.cells Opd.zero.vals 38)) σ := h.alloc _
  have cB := bytes_ok _ X σ h0 1 (by decide)
  have hb := bytesM_bd h0 1 (by decide)
  have hb2 := sgnM_bd 1 _ (by decide) hb.1 hb.2
  show Calls _ _ _ _ fun e w' => e = .returned (.agg (numO (cutM s (sgnM 1 (bytesM X 1 σ).1))).vals) ∧ Done X w (bytesM X 1 σ).2 w'
  have HT : Hid (s = 1 ∨ s = 2 ∨ s = 4) := hs
  have Hh : Hid (St X w σ) := h
  clear hs h
  go_enter Tryz.func264, Tryz.ntmps264
  go_wp2_with fail
  refine cB.mono ?_; rintro e w1 ⟨rfl, h1, k1⟩
  go_wp2_with fail
  refine (signed_ok _ 1 _ (by decide) hb.1 hb.2).mono ?_; rintro e w0 ⟨rfl, hw⟩; subst hw
  go_wp2_with fail
  refine (cut_ok _ s _ HT.out hb2.1 hb2.2).mono ?_; rintro e w0 ⟨rfl, hw⟩; subst hw
  go_wp2_with fail
  refine (number_ok _ _).mono ?_; rintro e w2 ⟨rfl, k2⟩
  obtain ⟨hq0, hb0⟩ := new_res (k1.trans k2.any) hfre
  have hst := put_res hb0 (numO (cutM s (sgnM 1 (bytesM X 1 σ).1)))
  have hsz := vals_size (numO (cutM s (sgnM 1 (bytesM X 1 σ).1)))
  have hb1 := got_res hb0 (numO (cutM s (sgnM 1 (bytesM X 1 σ).1)))
  obtain ⟨r0, r1, r2, r3, r4, r5, r6, r7, r8⟩ := res_cells hb1
  have Hk : Hid _ := res_done (k1.trans k2.any) (h1.no k2) hlow hfre (numO (cutM s (sgnM 1 (bytesM X 1 σ).1))).vals
  go_wp2
  exact bodyPost_ret (v := .agg (numO (cutM s (sgnM 1 (bytesM X 1 σ).1))).vals) (by simp [results, Tryz.results264, go_sem, r0, r1, r2, r3, r4, r5, r6, r7, r8]; rfl) rfl ⟨rfl, Hk.out⟩
set_option maxHeartbeats 1000000 in
theorem pJ_ok (w : World) (X : Cx) (σ : Sg) (h : St X w σ) (s : Int) (hs : s = 1 ∨ s = 2 ∨ s = 4) :
    Calls Tryz.prog 344 #[.pointer (some ⟨X.F, 0, none⟩), .int .i64 s] w fun e w' => e = .returned (.agg (pJ X s σ).1.vals) ∧ Done X w (pJ X s σ).2 w' := by
  have hlow := h.low
  have hfre := h.fresh
  have h0 : St X (w.alloc (.cells Opd.zero.vals 38)) σ := h.alloc _
  have cB := bytes_ok _ X σ h0 s hs
  have hb := bytesM_bd h0 s hs
  show Calls _ _ _ _ fun e w' => e = .returned (.agg (relO (sgnM s (bytesM X s σ).1)).vals) ∧ Done X w (bytesM X s σ).2 w'
  have HT : Hid (s = 1 ∨ s = 2 ∨ s = 4) := hs
  have Hh : Hid (St X w σ) := h
  clear hs h
  go_enter Tryz.func344, Tryz.ntmps344
  go_wp2_with fail
  refine cB.mono ?_; rintro e w1 ⟨rfl, h1, k1⟩
  go_wp2_with fail
  refine (signed_ok _ s _ HT.out hb.1 hb.2).mono ?_; rintro e w0 ⟨rfl, hw⟩; subst hw
  obtain ⟨hq0, hb0⟩ := new_res k1 hfre
  have hfz := res_fz hb0
  obtain ⟨r0, r1, r2, r3, r4, r5, r6, r7, r8⟩ := res_cells hb0
  have Hk : Hid _ := nine_done k1 h1 hlow hfre
  go_wp2
  exact bodyPost_ret (v := .agg (relO (sgnM s (bytesM X s σ).1)).vals) (by simp [results, Tryz.results344, go_sem, r0, r1, r2, r3, r4, r5, r6, r7, r8]; rfl) rfl ⟨rfl, Hk.out _ _ _ _ _ _ _ _ _⟩
set_option maxHeartbeats 1000000 in
theorem pJb_ok (w : World) (X : Cx) (σ : Sg) (h : St X w σ) (s : Int) (hs : s = 1 ∨ s = 2 ∨ s = 4) :
    Calls Tryz.prog 268 #[.pointer (some ⟨X.F, 0, none⟩), .int .i64 s] w fun e w' => e = .returned (.agg (pJb X s σ).1.vals) ∧ Done X w (pJb X s σ).2 w' := by
  have hlow := h.low
  have hfre := h.fresh
  have h0 : St X (w.alloc (.cells Opd.zero.vals 38)) σ := h.alloc _
  have cB := pJ_ok _ X σ h0 1 (by decide)
  show Calls _ _ _ _ fun e w' => e = .returned (.agg ((pJ X 1 σ).1).vals) ∧ Done X w (pJ X 1 σ).2 w'
  have HT : Hid (s = 1 ∨ s = 2 ∨ s = 4) := hs
  have Hh : Hid (St X w σ) := h
  clear hs h
  go_enter Tryz.func268, Tryz.ntmps268
  go_wp2_with fail
  refine cB.mono ?_; rintro e w1 ⟨rfl, h1, k1⟩
  obtain ⟨hq0, hb0⟩ := new_res k1 hfre
  have hst := put_res hb0 ((pJ X 1 σ).1)
  have hsz := vals_size ((pJ X 1 σ).1)
  have hb1 := got_res hb0 ((pJ X 1 σ).1)
  obtain ⟨r0, r1, r2, r3, r4, r5, r6, r7, r8⟩ := res_cells hb1
  have Hk : Hid _ := res_done k1 h1 hlow hfre ((pJ X 1 σ).1).vals
  go_wp2
  exact bodyPost_ret (v := .agg ((pJ X 1 σ).1).vals) (by simp [results, Tryz.results268, go_sem, r0, r1, r2, r3, r4, r5, r6, r7, r8]; rfl) rfl ⟨rfl, Hk.out⟩
set_option maxHeartbeats 1000000 in
theorem pFar_ok (w : World) (X : Cx) (σ : Sg) (h : St X w σ) (s : Int) (hs : s = 1 ∨ s = 2 ∨ s = 4) :
    Calls Tryz.prog 347 #[.pointer (some ⟨X.F, 0, none⟩), .int .i64 s] w fun e w' => e = .returned (.agg (pFar X s σ).1.vals) ∧ Done X w (pFar X s σ).2 w' := by
  have hlow := h.low
  have hfre := h.fresh
  have h0 : St X (w.alloc (.cells Opd.zero.vals 38)) σ := h.alloc _
  have cB := bytes_ok _ X σ h0 s hs
  show Calls _ _ _ _ fun e w' => e = .returned (.agg (farO (bytesM X s σ).1 (bytesM X 2 (bytesM X s σ).2).1).vals) ∧ Done X w (bytesM X 2 (bytesM X s σ).2).2 w'
  have HT : Hid (s = 1 ∨ s = 2 ∨ s = 4) := hs
  have Hh : Hid (St X w σ) := h
  clear hs h
  go_enter Tryz.func347, Tryz.ntmps347
  go_wp2_with fail
  refine cB.mono ?_; rintro e w1 ⟨rfl, h1, k1⟩
  go_wp2_with fail
  refine (bytes_ok _ X _ h1 2 (by decide)).mono ?_; rintro e w2 ⟨rfl, h2, k2⟩
  obtain ⟨hq0, hb0⟩ := new_res (k1.trans k2) hfre
  have hfz := res_fz hb0
  obtain ⟨r0, r1, r2, r3, r4, r5, r6, r7, r8⟩ := res_cells hb0
  have Hk : Hid _ := nine_done (k1.trans k2) h2 hlow hfre
  go_wp2
  exact bodyPost_ret (v := .agg (farO (bytesM X s σ).1 (bytesM X 2 (bytesM X s σ).2).1).vals) (by simp [results, Tryz.results347, go_sem, r0, r1, r2, r3, r4, r5, r6, r7, r8]; rfl) rfl ⟨rfl, Hk.out _ _ _ _ _ _ _ _ _⟩
set_option maxHeartbeats 1000000 in
theorem pString_ok (w : World) (X : Cx) (σ : Sg) (h : St X w σ) (s : Int) (hs : s = 1 ∨ s = 2 ∨ s = 4) :
    Calls Tryz.prog 461 #[.pointer (some ⟨X.F, 0, none⟩), .int .i64 s] w fun e w' => e = .returned (.agg (pString X s σ).1.vals) ∧ Done X w (pString X s σ).2 w' := by
  have hlow := h.low
  have hfre := h.fresh
  have h0 : St X (w.alloc (.cells Opd.zero.vals 38)) σ := h.alloc _
  have cM := memory_ok _ X σ h0 s
  show Calls _ _ _ _ fun e w' => e = .returned (.agg (memO σ.seg s).vals) ∧ Done X w σ w'
  have HT : Hid (s = 1 ∨ s = 2 ∨ s = 4) := hs
  have Hh : Hid (St X w σ) := h
  clear hs h
  go_enter Tryz.func461, Tryz.ntmps461
  go_wp2_with fail
  refine cM.mono ?_; rintro e w1 ⟨rfl, k1⟩
  obtain ⟨hq0, hb0⟩ := new_res (k1.any (S := X.own)) hfre
  have hst := put_res hb0 (memO σ.seg s)
  have hsz := vals_size (memO σ.seg s)
  have hb1 := got_res hb0 (memO σ.seg s)
  obtain ⟨r0, r1, r2, r3, r4, r5, r6, r7, r8⟩ := res_cells hb1
  have Hk : Hid _ := res_done (k1.any (S := X.own)) (h0.no k1) hlow hfre (memO σ.seg s).vals
  go_wp2
  exact bodyPost_ret (v := .agg (memO σ.seg s).vals) (by simp [results, Tryz.results461, go_sem, r0, r1, r2, r3, r4, r5, r6, r7, r8]; rfl) rfl ⟨rfl, Hk.out⟩
end Go.Proofs.YtiagfmkinefidaaGreat.Dc
namespace Go.Proofs.YtiagfmkinefidaaGreat.Dc
open Go.ChangeShapes Go.WideShapes Go.ChangeAt Go.RowKit
set_option linter.unusedVariables false
set_option maxRecDepth 20000
theorem take_seg (X : Cx) (σ : Sg) : (take X σ).2.seg = σ.seg := by
  unfold take
  split
  · rfl
  · split
    · rfl
    · split <;> rfl
theorem numM_seg (X : Cx) : ∀ (k i : Nat) (n : Int) (σ : Sg), (numM X k i n σ).2.seg = σ.seg
  | 0, _, _, _ => rfl
  | k + 1, i, n, σ => (numM_seg X k (i + 1) _ _).trans (take_seg X σ)
theorem bytesM_seg (X : Cx) (s : Int) (σ : Sg) : (bytesM X s σ).2.seg = σ.seg := numM_seg X _ _ _ _
def mem9 (s g b i c d : Int) : Opd := { kind := 2, reg := 0, size := s, seg := g, base := b, index := i, scale := c, disp := d, imm := 0 }
def segD (g : Int) : Int := if g = -1 then 3 else g
theorem memory_lit (w : World) (X : Cx) (σ : Sg) (h : St X w σ) (s g : Int) (hg : g = segD σ.seg) :
    Calls Tryz.prog 451 #[.pointer (some ⟨X.F, 0, none⟩), .int .i64 s] w fun e w' => e = .returned (.agg #[.int .i64 2, .int .i64 0, .int .i64 s, .int .i64 g, .int .i64 (-1), .int .i64 (-1), .int .i64 1, .int .u32 0, .int .u32 0]) ∧ Kp noB w w' := by
  rw [hg]
  exact memory_ok w X σ h s
/-- Nine stores into a result's block behind others. -/
theorem nine_fin {X : Cx} {w w1 : World} {σ1 : Sg} (k : Kp X.own (w.alloc (.cells Opd.zero.vals 38)) w1) (h1 : St X w1 σ1) (hlow : X.lo ≤ w.heap.size) (hfre : ¬ X.own w.heap.size) : Hid (∀ a b c d e f g h i : Value,
    Done X w σ1 (((((((((w1.setCell ⟨w.heap.size, 0, none⟩ a).setCell ⟨w.heap.size, 1, none⟩ b).setCell ⟨w.heap.size, 2, none⟩ c).setCell ⟨w.heap.size, 3, none⟩ d).setCell ⟨w.heap.size, 4, none⟩ e).setCell ⟨w.heap.size, 5, none⟩ f).setCell ⟨w.heap.size, 6, none⟩ g).setCell ⟨w.heap.size, 7, none⟩ h).setCell ⟨w.heap.size, 8, none⟩ i)) :=
  nine_done k h1 hlow hfre
def pO (X : Cx) (s : Int) (σ : Sg) : Opd × Sg := (mem9 s (segD σ.seg) (-1) (-1) 1 (bytesM X 4 σ).1, (bytesM X 4 σ).2)
set_option maxHeartbeats 1000000 in
theorem pO_ok (w : World) (X : Cx) (σ : Sg) (h : St X w σ) (s : Int) (hs : s = 1 ∨ s = 2 ∨ s = 4) :
    Calls Tryz.prog 295 #[.pointer (some ⟨X.F, 0, none⟩), .int .i64 s] w fun e w' => e = .returned (.agg (pO X s σ).1.vals) ∧ Done X w (pO X s σ).2 w' := by
  have hlow := h.low
  have hfre := h.fresh
  have h0 : St X (w.alloc (.cells Opd.zero.vals 38)) σ := h.alloc _
  obtain ⟨g, hg⟩ : ∃ g, g = segD σ.seg := ⟨_, rfl⟩
  have cM := memory_lit _ X σ h0 s g hg
  have e1 : pO X s σ = (mem9 s g (-1) (-1) 1 (bytesM X 4 σ).1, (bytesM X 4 σ).2) := by rw [hg]; rfl
  rw [e1]
  clear e1 hg h hs
  go_enter Tryz.func295, Tryz.ntmps295
  go_wp2_with fail
  refine cM.mono ?_; rintro e w1 ⟨rfl, k1⟩
  go_wp2_with fail
  have h1 : St X w1 σ := h0.no k1
  have h2 : St X (w1.alloc (.cells (mem9 s g (-1) (-1) 1 0).vals 38)) σ := h1.alloc _
  refine (bytes_ok _ X σ h2 4 (by decide)).mono ?_; rintro e w2 ⟨rfl, h3, k3⟩
  have kA : Kp X.own (w.alloc (.cells Opd.zero.vals 38)) w2 := (k1.any.trans (Kp.alloc _ _ _)).trans k3
  have hb1 := heap_kept (MapKept.heap_alloc w1 (.cells (mem9 s g (-1) (-1) 1 0).vals 38)).1 k3 h1.fresh
  obtain ⟨hq0, hb0⟩ := new_res kA hfre
  have hq1 := heap_lt hb1
  have hqq : w.heap.size < w1.heap.size := by have := k1.size; simp at this; omega
  have hne : ¬ w.heap.size = w1.heap.size := by omega
  have hne' : ¬ w1.heap.size = w.heap.size := by omega
  have hlow1 : X.lo ≤ w1.heap.size := by omega
  have h4 : ∀ v : Value, St X (w2.setCell ⟨w1.heap.size, 7, none⟩ v) (bytesM X 4 σ).2 := fun v => h3.other (Kp.setCell (S := fun b => b = w1.heap.size) w2 rfl v) hlow1 hb1 (by decide)
  have k4 : ∀ v : Value, Kp X.own (w.alloc (.cells Opd.zero.vals 38)) (w2.setCell ⟨w1.heap.size, 7, none⟩ v) := fun v => by
    refine ⟨kA.os, kA.tape, kA.output, ?_, fun i hi hs => ?_⟩
    · have := kA.size
      simp [World.setCell] at *
      omega
    · have : i < w1.heap.size := by simp at hi; omega
      rw [Below.heap_setCell _ _ _ _ (by show ¬ i = w1.heap.size; omega)]
      exact kA.block i hi hs
  have hfz := res_fz hb0
  have hfz1 := res_fz hb1
  obtain ⟨r0, r1, r2, r3, r4, r5, r6, r7, r8⟩ := res_cells hb0
  obtain ⟨s0, s1, s2, s3, s4, s5, s6, s7, s8⟩ := res_cells hb1
  have Hk := fun v => nine_fin (k4 v) (h4 v) hlow hfre
  clear h4 k4 hb0 hb1 kA k3 h3 h2 h1 k1 cM h0
  simp only [mem9] at s0 s1 s2 s3 s4 s5 s6 s7 s8
  go_wp2
  refine bodyPost_ret (v := .agg (mem9 s g (-1) (-1) 1 (bytesM X 4 σ).1).vals) (by simp [results, Tryz.results295, go_sem, r0, r1, r2, r3, r4, r5, r6, r7, r8]; rfl) rfl ⟨rfl, ?_⟩
  exact (Hk _).out _ _ _ _ _ _ _ _ _
def sibP (X : Cx) (r : Int) (σ : Sg) : (Int × Int × Int) × Sg := if r = 4 then sibM X σ else ((r, -1, 1), σ)
def dispP (X : Cx) (m b : Int) (σ : Sg) : Int × Sg := if m = 0 ∧ b = 5 then bytesM X 4 σ else if m = 1 then (sgnM 1 (bytesM X 1 σ).1, (bytesM X 1 σ).2) else if m = 2 then bytesM X 4 σ else (0, σ)
def segP (g m b : Int) : Int := if g = -1 then (if m = 0 ∧ b = 5 then 3 else if b = 4 ∨ b = 5 then 2 else 3) else g
def baseP (m b : Int) : Int := if m = 0 ∧ b = 5 then -1 else b
def finE (X : Cx) (s g m b i c : Int) (σ : Sg) : Opd × Sg := (mem9 s (segP g m b) (baseP m b) i c (dispP X m b σ).1, (dispP X m b σ).2)
def pE (X : Cx) (s : Int) (σ : Sg) : Opd × Sg :=
  if (modrm X σ).1.1 = 3 then (regO (modrm X σ).1.2.2 s, (modrm X σ).2)
  else finE X s (modrm X σ).2.seg (modrm X σ).1.1 (sibP X (modrm X σ).1.2.2 (modrm X σ).2).1.1 (sibP X (modrm X σ).1.2.2 (modrm X σ).2).1.2.1 (sibP X (modrm X σ).1.2.2 (modrm X σ).2).1.2.2 (sibP X (modrm X σ).1.2.2 (modrm X σ).2).2
set_option maxHeartbeats 1000000 in
theorem pE_reg (w : World) (X : Cx) (σ : Sg) (h : St X w σ) (s : Int) (hm3 : (modrm X σ).1.1 = 3) :
    Calls Tryz.prog 233 #[.pointer (some ⟨X.F, 0, none⟩), .int .i64 s] w fun e w' => e = .returned (.agg (pE X s σ).1.vals) ∧ Done X w (pE X s σ).2 w' := by
  have hlow := h.low
  have hfre := h.fresh
  have h0 : St X (w.alloc (.cells Opd.zero.vals 38)) σ := h.alloc _
  have cM := modrm_ok _ X σ h0
  have e1 : pE X s σ = (regO (modrm X σ).1.2.2 s, (modrm X σ).2) := by unfold pE; rw [if_pos hm3]
  rw [e1]
  obtain ⟨⟨m, n, r⟩, hm⟩ : ∃ x, x = (modrm X σ).1 := ⟨_, rfl⟩
  rw [← hm] at cM hm3 ⊢
  simp only [mrV] at cM hm3 ⊢
  clear e1 hm
  subst hm3
  go_enter Tryz.func233, Tryz.ntmps233
  go_wp2_with fail
  refine cM.mono ?_; rintro e w1 ⟨rfl, h1, k1⟩
  go_wp2_with fail
  refine (register_ok _ _ _).mono ?_; rintro e w2 ⟨rfl, k2⟩
  have kA : Kp X.own (w.alloc (.cells Opd.zero.vals 38)) w2 := (k1.trans (Kp.alloc _ _ _)).trans k2.any
  have h2 : St X w2 (modrm X σ).2 := (h1.alloc _).no k2
  obtain ⟨hq0, hb0⟩ := new_res kA hfre
  have hst := put_res hb0 (regO r s)
  have hsz := vals_size (regO r s)
  have hb1 := got_res hb0 (regO r s)
  obtain ⟨r0, r1, r2, r3, r4, r5, r6, r7, r8⟩ := res_cells hb1
  have Hk : Hid _ := res_done kA h2 hlow hfre (regO r s).vals
  go_wp2
  exact bodyPost_ret (v := .agg (regO r s).vals) (by simp [results, Tryz.results233, go_sem, r0, r1, r2, r3, r4, r5, r6, r7, r8]; rfl) rfl ⟨rfl, Hk.out⟩
theorem sibM_seg (X : Cx) (σ : Sg) : (sibM X σ).2.seg = σ.seg := take_seg X σ
theorem sib_bd {w : World} {X : Cx} {σ : Sg} (h : St X w σ) : 0 ≤ (sibM X σ).1.1 ∧ (sibM X σ).1.1 < 8 := by
  have e : (sibM X σ).1.1 = (take X σ).1 % 8 := by unfold sibM; simp only; split <;> rfl
  rw [e]
  omega
/-- Behind base, index and scale: the blocks of the part. -/
structure InE (X : Cx) (w : World) (qm qo : Nat) (m n r : Int) (o : Opd) (σ : Sg) (wr : World) : Prop where
  st : St X wr σ
  bo : wr.heap[qo]? = some (.cells o.vals 38 (0, 0))
  bm : wr.heap[qm]? = some (.cells #[.int .i64 m, .int .i64 n, .int .i64 r] 294 (0, 0))
  kp : Kp X.own (w.alloc (.cells Opd.zero.vals 38)) wr
def CutE (X : Cx) (w : World) (qm qo : Nat) (s gs m n r : Int) (V : Opd × Sg) (wr : World) : Prop :=
  ∃ (b i c : Int) (σ2 : Sg), Hid (V = finE X s gs m b i c σ2) ∧ (0 ≤ b ∧ b < 8) ∧ Hid (σ2.seg = gs) ∧ InE X w qm qo m n r (mem9 s (segD gs) b i c 0) σ2 wr
/-- A store into the operand's own block. -/
theorem InE.set {X : Cx} {w wr : World} {qm qo : Nat} {m n r : Int} {o o' : Opd} {σ : Sg} (h : InE X w qm qo m n r o σ wr) (k : Nat) (v : Value) (e : o.vals.setIfInBounds k v = o'.vals) (hq : w.heap.size < qo) (hm : qm ≠ qo) (hlo : X.lo ≤ qo) : InE X w qm qo m n r o' σ (wr.setCell ⟨qo, k, none⟩ v) := by
  have kk : Kp (fun b => b = qo) wr (wr.setCell ⟨qo, k, none⟩ v) := Kp.setCell (S := fun b => b = qo) wr rfl v
  refine ⟨h.st.other kk hlo h.bo (by decide), by rw [heap_set h.bo, e], heap_kept h.bm kk hm, ?_⟩
  refine ⟨kk.os.trans h.kp.os, kk.tape.trans h.kp.tape, kk.output.trans h.kp.output, Nat.le_trans h.kp.size kk.size, fun i hi hs => ?_⟩
  have h1 := h.kp.size
  have h2 := heap_lt h.bo
  rw [kk.block i (by omega) (by simp at hi; omega)]
  exact h.kp.block i hi hs
theorem InE.call {X : Cx} {w wr w' : World} {qm qo : Nat} {m n r : Int} {o : Opd} {σ σ' : Sg} (h : InE X w qm qo m n r o σ wr) (d : Done X wr σ' w') (hm : ¬ X.own qm) (ho : ¬ X.own qo) : InE X w qm qo m n r o σ' w' :=
  ⟨d.1, heap_kept h.bo d.2 ho, heap_kept h.bm d.2 hm, h.kp.trans d.2⟩
set_option maxHeartbeats 16000000 in
theorem pE_mem (w : World) (X : Cx) (σ : Sg) (h : St X w σ) (s : Int) (hm3 : ¬ (modrm X σ).1.1 = 3) :
    Calls Tryz.prog 233 #[.pointer (some ⟨X.F, 0, none⟩), .int .i64 s] w fun e w' => e = .returned (.agg (pE X s σ).1.vals) ∧ Done X w (pE X s σ).2 w' := by
  have hlow := h.low
  have hfre := h.fresh
  have h0 : St X (w.alloc (.cells Opd.zero.vals 38)) σ := h.alloc _
  have cM := modrm_ok _ X σ h0
  have hbd := modrm_bd h0
  obtain ⟨V, hV⟩ : ∃ V, V = pE X s σ := ⟨_, rfl⟩
  rw [← hV]
  unfold pE at hV
  rw [if_neg hm3] at hV
  obtain ⟨⟨m, n, r⟩, hm⟩ : ∃ x, x = (modrm X σ).1 := ⟨_, rfl⟩
  rw [← hm] at cM hm3 hbd hV
  obtain ⟨σ1, hσ1⟩ : ∃ σ1, σ1 = (modrm X σ).2 := ⟨_, rfl⟩
  rw [← hσ1] at cM hV
  simp only [mrV] at cM hm3 hbd hV
  clear hm hσ1
  obtain ⟨⟨m0, m1⟩, ⟨n0, n1⟩, r0, r1⟩ := hbd
  obtain ⟨gs, hgs⟩ : ∃ gs, gs = σ1.seg := ⟨_, rfl⟩
  obtain ⟨g, hg⟩ : ∃ g, g = segD gs := ⟨_, rfl⟩
  rw [← hgs] at hV
  have HV : Hid (V = finE X s gs m (sibP X r σ1).1.1 (sibP X r σ1).1.2.1 (sibP X r σ1).1.2.2 (sibP X r σ1).2) := hV
  have Hg : Hid (g = segD gs) := hg
  have Hgs : Hid (gs = σ1.seg) := hgs
  have Hh : Hid (St X w σ) := h
  clear hV hg hgs h
  go_enter Tryz.func233, Tryz.ntmps233
  go_wp2_with fail
  refine cM.mono ?_; rintro e w1 ⟨rfl, h1, k1⟩
  go_wp2_with fail
  have h2 : St X (w1.alloc (.cells #[.int .i64 m, .int .i64 n, .int .i64 r] 294)) σ1 := h1.alloc _
  refine (memory_lit _ X σ1 h2 s g (by rw [Hg.out, Hgs.out])).mono ?_; rintro e w2 ⟨rfl, k2⟩
  have bm2 := heap_kept (MapKept.heap_alloc w1 (.cells #[.int .i64 m, .int .i64 n, .int .i64 r] 294)).1 k2 id
  have hq1 := heap_lt bm2
  have d0 : w2.cell? ⟨w1.heap.size, 0, none⟩ = some (.int .i64 m) := by simp [World.cell?, bm2]
  have d2 : w2.cell? ⟨w1.heap.size, 2, none⟩ = some (.int .i64 r) := by simp [World.cell?, bm2]
  have hqq : w.heap.size < w1.heap.size := by have := k1.size; simp at this; omega
  have h3 : St X w2 σ1 := h2.no k2
  have kA : Kp X.own (w.alloc (.cells Opd.zero.vals 38)) w2 := (k1.trans (Kp.alloc _ _ _)).trans k2.any
  have hI : InE X w w1.heap.size w2.heap.size m n r (mem9 s g r (-1) 1 0) σ1 (w2.alloc (.cells (mem9 s g r (-1) 1 0).vals 38)) := by
    refine ⟨h3.alloc _, (MapKept.heap_alloc w2 _).1, heap_kept bm2 (Kp.alloc (fun _ => False) _ _) id, kA.trans (Kp.alloc _ _ _)⟩
  have hom : ¬ X.own w1.heap.size := h1.fresh
  have hoo : ¬ X.own w2.heap.size := h3.fresh
  have hlo2 : X.lo ≤ w2.heap.size := h3.low
  have hmo : w1.heap.size ≠ w2.heap.size := by omega
  have hwo : w.heap.size < w2.heap.size := by omega
  have HI : Hid (InE X w w1.heap.size w2.heap.size m n r (mem9 s g r (-1) 1 0) σ1 (w2.alloc (.cells (mem9 s g r (-1) 1 0).vals 38))) := hI
  clear hI bm2 kA h3 k2 h2 k1 h1 cM h0
  go_upto_if 24 with fail
  go_cut [] from 23 (CutE X w w1.heap.size w2.heap.size s gs m n r V)
  case first =>
    by_cases hr : r = 4
    · subst hr
      have e4 : sibP X 4 σ1 = sibM X σ1 := if_pos rfl
      have c := sib_ok _ X σ1 HI.out.st
      have bb := sib_bd HI.out.st
      have hsg := sibM_seg X σ1
      rw [e4] at HV
      generalize sibM X σ1 = Y at *
      obtain ⟨⟨b, i, c'⟩, σ2⟩ := Y
      simp only at c bb hsg HV
      go_wp2_with fail
      refine c.mono ?_; rintro e w3 ⟨rfl, hd⟩
      have hI3 := HI.out.call hd hom hoo
      obtain ⟨t0, t1, t2, t3, t4, t5, t6, t7, t8⟩ := res_cells hI3.bo
      have tz := res_fz hI3.bo
      have hI4 := ((hI3.set 4 (.int .i64 b) (o' := mem9 s g b (-1) 1 0) rfl hwo hmo hlo2).set 5 (.int .i64 i) (o' := mem9 s g b i 1 0) rfl hwo hmo hlo2).set 6 (.int .i64 c') (o' := mem9 s g b i c' 0) rfl hwo hmo hlo2
      rw [Hg.out] at hI4
      have hfin : CutE X w w1.heap.size w2.heap.size s gs m n 4 V _ := ⟨b, i, c', σ2, HV, bb, hsg.trans Hgs.out.symm, hI4⟩
      have Hfin : Hid _ := hfin
      clear hfin hI4 hI3 hd c
      go_wp2_with fail
      go_meet
      case rel => exact Hfin.out
    · have e4 : sibP X r σ1 = ((r, -1, 1), σ1) := if_neg hr
      rw [e4] at HV
      have hI := HI.out
      rw [Hg.out] at hI
      have hfin : CutE X w w1.heap.size w2.heap.size s gs m n r V _ := ⟨r, -1, 1, σ1, HV, ⟨r0, r1⟩, Hgs.out.symm, hI⟩
      rw [← Hg.out] at hfin
      have Hfin : Hid _ := hfin
      clear hfin hI
      go_wp2_with fail
      go_meet
      case rel => exact Hfin.out
  case rest =>
    clear HI HV
    obtain ⟨b, i, c, σ2, hV, ⟨b0, b1⟩, hsg, hI⟩ := hcut
    obtain ⟨s0, s1, s2, s3, s4, s5, s6, s7, s8⟩ := res_cells hI.bo
    have sz := res_fz hI.bo
    have e0 : wc.cell? ⟨w1.heap.size, 0, none⟩ = some (.int .i64 m) := by simp [World.cell?, hI.bm]
    have e2 : wc.cell? ⟨w1.heap.size, 2, none⟩ = some (.int .i64 r) := by simp [World.cell?, hI.bm]
    have hF := hI.st.ltF
    have f4 := hI.st.f4
    rw [hsg.out] at f4
    obtain ⟨hq0, hb0⟩ := new_res hI.kp hfre
    have qz := res_fz hb0
    obtain ⟨q0, q1, q2, q3, q4, q5, q6, q7, q8⟩ := res_cells hb0
    have n1' : ¬ w.heap.size = w1.heap.size := by omega
    have n2' : ¬ w.heap.size = w2.heap.size := by omega
    have n3' : ¬ w1.heap.size = w.heap.size := by omega
    have n4' : ¬ w2.heap.size = w.heap.size := by omega
    have n5' : ¬ w1.heap.size = w2.heap.size := by omega
    have n6' : ¬ w2.heap.size = w1.heap.size := by omega
    have n7' : ¬ X.F = w2.heap.size := fun e => hoo (Or.inr e.symm)
    have n8' : ¬ w2.heap.size = X.F := fun e => hoo (Or.inr e)
    have n9' : ¬ X.F = w.heap.size := fun e => hfre (Or.inr e.symm)
    have n10' : ¬ w.heap.size = X.F := fun e => hfre (Or.inr e)
    simp only [mem9] at s0 s1 s2 s3 s4 s5 s6 s7 s8
    rw [← Hg.out] at s3 hI
    have HInE : Hid (InE X w w1.heap.size w2.heap.size m n r (mem9 s g b i c 0) σ2 wc) := hI
    clear hI hb0 f4
    rcases (by omega : m = 0 ∨ m = 1 ∨ m = 2) with rfl | rfl | rfl
    · by_cases hb5 : b = 5
      · subst hb5
        by_cases hgs : gs = -1
        · subst hgs
          have hV2 : V = (mem9 s g (-1) i c (bytesM X 4 σ2).1, (bytesM X 4 σ2).2) := by
            rw [hV.out]
            have := Hg.out
            simp_all [finE, segP, baseP, dispP, segD]
          have HV2 : Hid _ := hV2
          clear hV2 hV
          have hI1 := HInE.out.set 4 (.int .i64 (-1)) (o' := mem9 s g (-1) i c 0) rfl hwo hmo hlo2
          have cB := bytes_ok _ X σ2 hI1.st 4 (by decide)
          have hsgn := bytesM_seg X 4 σ2
          rw [hsg.out] at hsgn
          go_wp2_with fail
          refine cB.mono ?_; rintro e w4 ⟨rfl, hd4⟩
          have hI2 := hI1.call hd4 hom hoo
          obtain ⟨x0, x1, x2, x3, x4, x5, x6, x7, x8⟩ := res_cells hI2.bo
          have xz := res_fz hI2.bo
          have xF := hI2.st.ltF
          have xf := hI2.st.f4
          rw [hsgn] at xf
          obtain ⟨yq, yb⟩ := new_res hI2.kp hfre
          have yz := res_fz yb
          obtain ⟨y0, y1, y2, y3, y4, y5, y6, y7, y8⟩ := res_cells yb
          simp only [mem9] at x0 x1 x2 x3 x4 x5 x6 x7 x8
          have hI3 := hI2.set 7 (.int .u32 (bytesM X 4 σ2).1) (o' := mem9 s g (-1) i c (bytesM X 4 σ2).1) rfl hwo hmo hlo2
          have Hk := nine_fin hI3.kp hI3.st hlow hfre
          clear HInE
          clear hI3 hI2 hd4 cB yb
          clear hI1
          go_wp2
          refine bodyPost_ret (v := .agg (mem9 s g (-1) i c (bytesM X 4 σ2).1).vals) (by simp [results, Tryz.results233, go_sem, y0, y1, y2, y3, y4, y5, y6, y7, y8]; rfl) rfl ?_
          rw [HV2.out]
          exact ⟨rfl, Hk.out _ _ _ _ _ _ _ _ _⟩
        · have hgg : (gs == -1) = false := by simpa using hgs
          have hV2 : V = (mem9 s g (-1) i c (bytesM X 4 σ2).1, (bytesM X 4 σ2).2) := by
            rw [hV.out]
            have := Hg.out
            simp_all [finE, segP, baseP, dispP, segD]
          have HV2 : Hid _ := hV2
          clear hV2 hV
          have hI1 := HInE.out.set 4 (.int .i64 (-1)) (o' := mem9 s g (-1) i c 0) rfl hwo hmo hlo2
          have cB := bytes_ok _ X σ2 hI1.st 4 (by decide)
          have hsgn := bytesM_seg X 4 σ2
          rw [hsg.out] at hsgn
          go_wp2_with fail
          refine cB.mono ?_; rintro e w4 ⟨rfl, hd4⟩
          have hI2 := hI1.call hd4 hom hoo
          obtain ⟨x0, x1, x2, x3, x4, x5, x6, x7, x8⟩ := res_cells hI2.bo
          have xz := res_fz hI2.bo
          have xF := hI2.st.ltF
          have xf := hI2.st.f4
          rw [hsgn] at xf
          obtain ⟨yq, yb⟩ := new_res hI2.kp hfre
          have yz := res_fz yb
          obtain ⟨y0, y1, y2, y3, y4, y5, y6, y7, y8⟩ := res_cells yb
          simp only [mem9] at x0 x1 x2 x3 x4 x5 x6 x7 x8
          have hI3 := hI2.set 7 (.int .u32 (bytesM X 4 σ2).1) (o' := mem9 s g (-1) i c (bytesM X 4 σ2).1) rfl hwo hmo hlo2
          have Hk := nine_fin hI3.kp hI3.st hlow hfre
          clear HInE
          clear hI3 hI2 hd4 cB yb
          clear hI1
          go_wp2
          refine bodyPost_ret (v := .agg (mem9 s g (-1) i c (bytesM X 4 σ2).1).vals) (by simp [results, Tryz.results233, go_sem, y0, y1, y2, y3, y4, y5, y6, y7, y8]; rfl) rfl ?_
          rw [HV2.out]
          exact ⟨rfl, Hk.out _ _ _ _ _ _ _ _ _⟩
      · have hb5' : (b == 5) = false := by simpa using hb5
        by_cases hgs : gs = -1
        · subst hgs
          by_cases hb4 : b = 4
          · subst hb4
            have hV2 : V = (mem9 s 2 (4) i c 0, σ2) := by
              rw [hV.out]
              have := Hg.out
              simp_all [finE, segP, baseP, dispP, segD]
            have HV2 : Hid _ := hV2
            clear hV2 hV
            have xf := HInE.out.st.f4
            rw [hsg.out] at xf
            have hI5 := HInE.out.set 3 (.int .i64 2) (o' := mem9 s 2 (4) i c 0) rfl hwo hmo hlo2
            have Hk := nine_fin hI5.kp hI5.st hlow hfre
            clear HInE
            clear hI5
            go_wp2
            refine bodyPost_ret (v := .agg (mem9 s 2 (4) i c 0).vals) (by simp [results, Tryz.results233, go_sem, q0, q1, q2, q3, q4, q5, q6, q7, q8]; rfl) rfl ?_
            rw [HV2.out]
            exact ⟨rfl, Hk.out _ _ _ _ _ _ _ _ _⟩
          · have hb4' : (b == 4) = false := by simpa using hb4
            have hV2 : V = (mem9 s g (b) i c 0, σ2) := by
              rw [hV.out]
              have := Hg.out
              simp_all [finE, segP, baseP, dispP, segD]
            have HV2 : Hid _ := hV2
            clear hV2 hV
            have xf := HInE.out.st.f4
            rw [hsg.out] at xf
            have Hk := nine_fin HInE.out.kp HInE.out.st hlow hfre
            clear HInE
            go_wp2
            refine bodyPost_ret (v := .agg (mem9 s g (b) i c 0).vals) (by simp [results, Tryz.results233, go_sem, q0, q1, q2, q3, q4, q5, q6, q7, q8]; rfl) rfl ?_
            rw [HV2.out]
            exact ⟨rfl, Hk.out _ _ _ _ _ _ _ _ _⟩
        · have hgg : (gs == -1) = false := by simpa using hgs
          have hV2 : V = (mem9 s g (b) i c 0, σ2) := by
            rw [hV.out]
            have := Hg.out
            simp_all [finE, segP, baseP, dispP, segD]
          have HV2 : Hid _ := hV2
          clear hV2 hV
          have xf := HInE.out.st.f4
          rw [hsg.out] at xf
          have Hk := nine_fin HInE.out.kp HInE.out.st hlow hfre
          clear HInE
          go_wp2
          refine bodyPost_ret (v := .agg (mem9 s g (b) i c 0).vals) (by simp [results, Tryz.results233, go_sem, q0, q1, q2, q3, q4, q5, q6, q7, q8]; rfl) rfl ?_
          rw [HV2.out]
          exact ⟨rfl, Hk.out _ _ _ _ _ _ _ _ _⟩
    · skip
      by_cases hgs : gs = -1
      · subst hgs
        by_cases hb4 : b = 4
        · subst hb4
          have hV2 : V = (mem9 s 2 (4) i c (sgnM 1 (bytesM X 1 σ2).1), (bytesM X 1 σ2).2) := by
            rw [hV.out]
            have := Hg.out
            simp_all [finE, segP, baseP, dispP, segD]
          have HV2 : Hid _ := hV2
          clear hV2 hV
          have cB := bytes_ok _ X σ2 HInE.out.st 1 (by decide)
          have hbb := bytesM_bd HInE.out.st 1 (by decide)
          have hsgn := bytesM_seg X 1 σ2
          rw [hsg.out] at hsgn
          go_wp2_with fail
          refine cB.mono ?_; rintro e w4 ⟨rfl, hd4⟩
          have hI2 := HInE.out.call hd4 hom hoo
          go_wp2_with fail
          refine (signed_ok _ 1 _ (by decide) hbb.1 hbb.2).mono ?_; rintro e w0 ⟨rfl, hw⟩; subst hw
          obtain ⟨x0, x1, x2, x3, x4, x5, x6, x7, x8⟩ := res_cells hI2.bo
          have xz := res_fz hI2.bo
          have xF := hI2.st.ltF
          have xf := hI2.st.f4
          rw [hsgn] at xf
          obtain ⟨yq, yb⟩ := new_res hI2.kp hfre
          have yz := res_fz yb
          obtain ⟨y0, y1, y2, y3, y4, y5, y6, y7, y8⟩ := res_cells yb
          simp only [mem9] at x0 x1 x2 x3 x4 x5 x6 x7 x8
          have hI3 := hI2.set 7 (.int .u32 (sgnM 1 (bytesM X 1 σ2).1)) (o' := mem9 s g (4) i c (sgnM 1 (bytesM X 1 σ2).1)) rfl hwo hmo hlo2
          have hI5 := hI3.set 3 (.int .i64 2) (o' := mem9 s 2 (4) i c (sgnM 1 (bytesM X 1 σ2).1)) rfl hwo hmo hlo2
          have Hk := nine_fin hI5.kp hI5.st hlow hfre
          clear HInE
          clear hI5 hI3 hI2 hd4 cB yb
          go_wp2
          refine bodyPost_ret (v := .agg (mem9 s 2 (4) i c (sgnM 1 (bytesM X 1 σ2).1)).vals) (by simp [results, Tryz.results233, go_sem, y0, y1, y2, y3, y4, y5, y6, y7, y8]; rfl) rfl ?_
          rw [HV2.out]
          exact ⟨rfl, Hk.out _ _ _ _ _ _ _ _ _⟩
        · by_cases hb5 : b = 5
          · subst hb5
            have hV2 : V = (mem9 s 2 (5) i c (sgnM 1 (bytesM X 1 σ2).1), (bytesM X 1 σ2).2) := by
              rw [hV.out]
              have := Hg.out
              simp_all [finE, segP, baseP, dispP, segD]
            have HV2 : Hid _ := hV2
            clear hV2 hV
            have cB := bytes_ok _ X σ2 HInE.out.st 1 (by decide)
            have hbb := bytesM_bd HInE.out.st 1 (by decide)
            have hsgn := bytesM_seg X 1 σ2
            rw [hsg.out] at hsgn
            go_wp2_with fail
            refine cB.mono ?_; rintro e w4 ⟨rfl, hd4⟩
            have hI2 := HInE.out.call hd4 hom hoo
            go_wp2_with fail
            refine (signed_ok _ 1 _ (by decide) hbb.1 hbb.2).mono ?_; rintro e w0 ⟨rfl, hw⟩; subst hw
            obtain ⟨x0, x1, x2, x3, x4, x5, x6, x7, x8⟩ := res_cells hI2.bo
            have xz := res_fz hI2.bo
            have xF := hI2.st.ltF
            have xf := hI2.st.f4
            rw [hsgn] at xf
            obtain ⟨yq, yb⟩ := new_res hI2.kp hfre
            have yz := res_fz yb
            obtain ⟨y0, y1, y2, y3, y4, y5, y6, y7, y8⟩ := res_cells yb
            simp only [mem9] at x0 x1 x2 x3 x4 x5 x6 x7 x8
            have hI3 := hI2.set 7 (.int .u32 (sgnM 1 (bytesM X 1 σ2).1)) (o' := mem9 s g (5) i c (sgnM 1 (bytesM X 1 σ2).1)) rfl hwo hmo hlo2
            have hI5 := hI3.set 3 (.int .i64 2) (o' := mem9 s 2 (5) i c (sgnM 1 (bytesM X 1 σ2).1)) rfl hwo hmo hlo2
            have Hk := nine_fin hI5.kp hI5.st hlow hfre
            clear HInE
            clear hI5 hI3 hI2 hd4 cB yb
            go_wp2
            refine bodyPost_ret (v := .agg (mem9 s 2 (5) i c (sgnM 1 (bytesM X 1 σ2).1)).vals) (by simp [results, Tryz.results233, go_sem, y0, y1, y2, y3, y4, y5, y6, y7, y8]; rfl) rfl ?_
            rw [HV2.out]
            exact ⟨rfl, Hk.out _ _ _ _ _ _ _ _ _⟩
          · have hb4' : (b == 4) = false := by simpa using hb4
            have hb5' : (b == 5) = false := by simpa using hb5
            have hV2 : V = (mem9 s g (b) i c (sgnM 1 (bytesM X 1 σ2).1), (bytesM X 1 σ2).2) := by
              rw [hV.out]
              have := Hg.out
              simp_all [finE, segP, baseP, dispP, segD]
            have HV2 : Hid _ := hV2
            clear hV2 hV
            have cB := bytes_ok _ X σ2 HInE.out.st 1 (by decide)
            have hbb := bytesM_bd HInE.out.st 1 (by decide)
            have hsgn := bytesM_seg X 1 σ2
            rw [hsg.out] at hsgn
            go_wp2_with fail
            refine cB.mono ?_; rintro e w4 ⟨rfl, hd4⟩
            have hI2 := HInE.out.call hd4 hom hoo
            go_wp2_with fail
            refine (signed_ok _ 1 _ (by decide) hbb.1 hbb.2).mono ?_; rintro e w0 ⟨rfl, hw⟩; subst hw
            obtain ⟨x0, x1, x2, x3, x4, x5, x6, x7, x8⟩ := res_cells hI2.bo
            have xz := res_fz hI2.bo
            have xF := hI2.st.ltF
            have xf := hI2.st.f4
            rw [hsgn] at xf
            obtain ⟨yq, yb⟩ := new_res hI2.kp hfre
            have yz := res_fz yb
            obtain ⟨y0, y1, y2, y3, y4, y5, y6, y7, y8⟩ := res_cells yb
            simp only [mem9] at x0 x1 x2 x3 x4 x5 x6 x7 x8
            have hI3 := hI2.set 7 (.int .u32 (sgnM 1 (bytesM X 1 σ2).1)) (o' := mem9 s g (b) i c (sgnM 1 (bytesM X 1 σ2).1)) rfl hwo hmo hlo2
            have Hk := nine_fin hI3.kp hI3.st hlow hfre
            clear HInE
            clear hI3 hI2 hd4 cB yb
            go_wp2
            refine bodyPost_ret (v := .agg (mem9 s g (b) i c (sgnM 1 (bytesM X 1 σ2).1)).vals) (by simp [results, Tryz.results233, go_sem, y0, y1, y2, y3, y4, y5, y6, y7, y8]; rfl) rfl ?_
            rw [HV2.out]
            exact ⟨rfl, Hk.out _ _ _ _ _ _ _ _ _⟩
      · have hgg : (gs == -1) = false := by simpa using hgs
        have hV2 : V = (mem9 s g (b) i c (sgnM 1 (bytesM X 1 σ2).1), (bytesM X 1 σ2).2) := by
          rw [hV.out]
          have := Hg.out
          simp_all [finE, segP, baseP, dispP, segD]
        have HV2 : Hid _ := hV2
        clear hV2 hV
        have cB := bytes_ok _ X σ2 HInE.out.st 1 (by decide)
        have hbb := bytesM_bd HInE.out.st 1 (by decide)
        have hsgn := bytesM_seg X 1 σ2
        rw [hsg.out] at hsgn
        go_wp2_with fail
        refine cB.mono ?_; rintro e w4 ⟨rfl, hd4⟩
        have hI2 := HInE.out.call hd4 hom hoo
        go_wp2_with fail
        refine (signed_ok _ 1 _ (by decide) hbb.1 hbb.2).mono ?_; rintro e w0 ⟨rfl, hw⟩; subst hw
        obtain ⟨x0, x1, x2, x3, x4, x5, x6, x7, x8⟩ := res_cells hI2.bo
        have xz := res_fz hI2.bo
        have xF := hI2.st.ltF
        have xf := hI2.st.f4
        rw [hsgn] at xf
        obtain ⟨yq, yb⟩ := new_res hI2.kp hfre
        have yz := res_fz yb
        obtain ⟨y0, y1, y2, y3, y4, y5, y6, y7, y8⟩ := res_cells yb
        simp only [mem9] at x0 x1 x2 x3 x4 x5 x6 x7 x8
        have hI3 := hI2.set 7 (.int .u32 (sgnM 1 (bytesM X 1 σ2).1)) (o' := mem9 s g (b) i c (sgnM 1 (bytesM X 1 σ2).1)) rfl hwo hmo hlo2
        have Hk := nine_fin hI3.kp hI3.st hlow hfre
        clear HInE
        clear hI3 hI2 hd4 cB yb
        go_wp2
        refine bodyPost_ret (v := .agg (mem9 s g (b) i c (sgnM 1 (bytesM X 1 σ2).1)).vals) (by simp [results, Tryz.results233, go_sem, y0, y1, y2, y3, y4, y5, y6, y7, y8]; rfl) rfl ?_
        rw [HV2.out]
        exact ⟨rfl, Hk.out _ _ _ _ _ _ _ _ _⟩
    · skip
      by_cases hgs : gs = -1
      · subst hgs
        by_cases hb4 : b = 4
        · subst hb4
          have hV2 : V = (mem9 s 2 (4) i c (bytesM X 4 σ2).1, (bytesM X 4 σ2).2) := by
            rw [hV.out]
            have := Hg.out
            simp_all [finE, segP, baseP, dispP, segD]
          have HV2 : Hid _ := hV2
          clear hV2 hV
          have cB := bytes_ok _ X σ2 HInE.out.st 4 (by decide)
          have hsgn := bytesM_seg X 4 σ2
          rw [hsg.out] at hsgn
          go_wp2_with fail
          refine cB.mono ?_; rintro e w4 ⟨rfl, hd4⟩
          have hI2 := HInE.out.call hd4 hom hoo
          obtain ⟨x0, x1, x2, x3, x4, x5, x6, x7, x8⟩ := res_cells hI2.bo
          have xz := res_fz hI2.bo
          have xF := hI2.st.ltF
          have xf := hI2.st.f4
          rw [hsgn] at xf
          obtain ⟨yq, yb⟩ := new_res hI2.kp hfre
          have yz := res_fz yb
          obtain ⟨y0, y1, y2, y3, y4, y5, y6, y7, y8⟩ := res_cells yb
          simp only [mem9] at x0 x1 x2 x3 x4 x5 x6 x7 x8
          have hI3 := hI2.set 7 (.int .u32 (bytesM X 4 σ2).1) (o' := mem9 s g (4) i c (bytesM X 4 σ2).1) rfl hwo hmo hlo2
          have hI5 := hI3.set 3 (.int .i64 2) (o' := mem9 s 2 (4) i c (bytesM X 4 σ2).1) rfl hwo hmo hlo2
          have Hk := nine_fin hI5.kp hI5.st hlow hfre
          clear HInE
          clear hI5 hI3 hI2 hd4 cB yb
          go_wp2
          refine bodyPost_ret (v := .agg (mem9 s 2 (4) i c (bytesM X 4 σ2).1).vals) (by simp [results, Tryz.results233, go_sem, y0, y1, y2, y3, y4, y5, y6, y7, y8]; rfl) rfl ?_
          rw [HV2.out]
          exact ⟨rfl, Hk.out _ _ _ _ _ _ _ _ _⟩
        · by_cases hb5 : b = 5
          · subst hb5
            have hV2 : V = (mem9 s 2 (5) i c (bytesM X 4 σ2).1, (bytesM X 4 σ2).2) := by
              rw [hV.out]
              have := Hg.out
              simp_all [finE, segP, baseP, dispP, segD]
            have HV2 : Hid _ := hV2
            clear hV2 hV
            have cB := bytes_ok _ X σ2 HInE.out.st 4 (by decide)
            have hsgn := bytesM_seg X 4 σ2
            rw [hsg.out] at hsgn
            go_wp2_with fail
            refine cB.mono ?_; rintro e w4 ⟨rfl, hd4⟩
            have hI2 := HInE.out.call hd4 hom hoo
            obtain ⟨x0, x1, x2, x3, x4, x5, x6, x7, x8⟩ := res_cells hI2.bo
            have xz := res_fz hI2.bo
            have xF := hI2.st.ltF
            have xf := hI2.st.f4
            rw [hsgn] at xf
            obtain ⟨yq, yb⟩ := new_res hI2.kp hfre
            have yz := res_fz yb
            obtain ⟨y0, y1, y2, y3, y4, y5, y6, y7, y8⟩ := res_cells yb
            simp only [mem9] at x0 x1 x2 x3 x4 x5 x6 x7 x8
            have hI3 := hI2.set 7 (.int .u32 (bytesM X 4 σ2).1) (o' := mem9 s g (5) i c (bytesM X 4 σ2).1) rfl hwo hmo hlo2
            have hI5 := hI3.set 3 (.int .i64 2) (o' := mem9 s 2 (5) i c (bytesM X 4 σ2).1) rfl hwo hmo hlo2
            have Hk := nine_fin hI5.kp hI5.st hlow hfre
            clear HInE
            clear hI5 hI3 hI2 hd4 cB yb
            go_wp2
            refine bodyPost_ret (v := .agg (mem9 s 2 (5) i c (bytesM X 4 σ2).1).vals) (by simp [results, Tryz.results233, go_sem, y0, y1, y2, y3, y4, y5, y6, y7, y8]; rfl) rfl ?_
            rw [HV2.out]
            exact ⟨rfl, Hk.out _ _ _ _ _ _ _ _ _⟩
          · have hb4' : (b == 4) = false := by simpa using hb4
            have hb5' : (b == 5) = false := by simpa using hb5
            have hV2 : V = (mem9 s g (b) i c (bytesM X 4 σ2).1, (bytesM X 4 σ2).2) := by
              rw [hV.out]
              have := Hg.out
              simp_all [finE, segP, baseP, dispP, segD]
            have HV2 : Hid _ := hV2
            clear hV2 hV
            have cB := bytes_ok _ X σ2 HInE.out.st 4 (by decide)
            have hsgn := bytesM_seg X 4 σ2
            rw [hsg.out] at hsgn
            go_wp2_with fail
            refine cB.mono ?_; rintro e w4 ⟨rfl, hd4⟩
            have hI2 := HInE.out.call hd4 hom hoo
            obtain ⟨x0, x1, x2, x3, x4, x5, x6, x7, x8⟩ := res_cells hI2.bo
            have xz := res_fz hI2.bo
            have xF := hI2.st.ltF
            have xf := hI2.st.f4
            rw [hsgn] at xf
            obtain ⟨yq, yb⟩ := new_res hI2.kp hfre
            have yz := res_fz yb
            obtain ⟨y0, y1, y2, y3, y4, y5, y6, y7, y8⟩ := res_cells yb
            simp only [mem9] at x0 x1 x2 x3 x4 x5 x6 x7 x8
            have hI3 := hI2.set 7 (.int .u32 (bytesM X 4 σ2).1) (o' := mem9 s g (b) i c (bytesM X 4 σ2).1) rfl hwo hmo hlo2
            have Hk := nine_fin hI3.kp hI3.st hlow hfre
            clear HInE
            clear hI3 hI2 hd4 cB yb
            go_wp2
            refine bodyPost_ret (v := .agg (mem9 s g (b) i c (bytesM X 4 σ2).1).vals) (by simp [results, Tryz.results233, go_sem, y0, y1, y2, y3, y4, y5, y6, y7, y8]; rfl) rfl ?_
            rw [HV2.out]
            exact ⟨rfl, Hk.out _ _ _ _ _ _ _ _ _⟩
      · have hgg : (gs == -1) = false := by simpa using hgs
        have hV2 : V = (mem9 s g (b) i c (bytesM X 4 σ2).1, (bytesM X 4 σ2).2) := by
          rw [hV.out]
          have := Hg.out
          simp_all [finE, segP, baseP, dispP, segD]
        have HV2 : Hid _ := hV2
        clear hV2 hV
        have cB := bytes_ok _ X σ2 HInE.out.st 4 (by decide)
        have hsgn := bytesM_seg X 4 σ2
        rw [hsg.out] at hsgn
        go_wp2_with fail
        refine cB.mono ?_; rintro e w4 ⟨rfl, hd4⟩
        have hI2 := HInE.out.call hd4 hom hoo
        obtain ⟨x0, x1, x2, x3, x4, x5, x6, x7, x8⟩ := res_cells hI2.bo
        have xz := res_fz hI2.bo
        have xF := hI2.st.ltF
        have xf := hI2.st.f4
        rw [hsgn] at xf
        obtain ⟨yq, yb⟩ := new_res hI2.kp hfre
        have yz := res_fz yb
        obtain ⟨y0, y1, y2, y3, y4, y5, y6, y7, y8⟩ := res_cells yb
        simp only [mem9] at x0 x1 x2 x3 x4 x5 x6 x7 x8
        have hI3 := hI2.set 7 (.int .u32 (bytesM X 4 σ2).1) (o' := mem9 s g (b) i c (bytesM X 4 σ2).1) rfl hwo hmo hlo2
        have Hk := nine_fin hI3.kp hI3.st hlow hfre
        clear HInE
        clear hI3 hI2 hd4 cB yb
        go_wp2
        refine bodyPost_ret (v := .agg (mem9 s g (b) i c (bytesM X 4 σ2).1).vals) (by simp [results, Tryz.results233, go_sem, y0, y1, y2, y3, y4, y5, y6, y7, y8]; rfl) rfl ?_
        rw [HV2.out]
        exact ⟨rfl, Hk.out _ _ _ _ _ _ _ _ _⟩
end Go.Proofs.YtiagfmkinefidaaGreat.Dc
