/- Contracts of the parts of an instruction: each takes its bytes and answers an operand. -/
import Derived.Test.YtolnaodlghahlaaGreatDoorDecNum
namespace Go.Proofs.YtolnaodlghahlaaGreatDoor
open Go.ChangeShapes Go.WideShapes Go.ChangeAt Go.RowKit
set_option linter.unusedVariables false

theorem res_done {X : Cx} {w w1 : World} {σ1 : Sg} (k : Kp X.own (w.alloc (.cells Opd.zero.vals 26)) w1) (h1 : St X w1 σ1) (hlow : X.lo ≤ w.heap.size) (hfre : ¬ X.own w.heap.size) (cs : Array Value) : Done X w σ1 (w1.setRow w.heap.size cs) :=
  ⟨h1.other (Kp.setRow (S := fun b => b = w.heap.size) w1 rfl cs) hlow (new_res k hfre).2 (by decide), res_kp k cs⟩

theorem Kp.nine (w : World) (q : Nat) (a b c d e f g h i : Value) : Kp (fun b => b = q) w (((((((((w.setCell ⟨q, 0, none⟩ a).setCell ⟨q, 1, none⟩ b).setCell ⟨q, 2, none⟩ c).setCell ⟨q, 3, none⟩ d).setCell ⟨q, 4, none⟩ e).setCell ⟨q, 5, none⟩ f).setCell ⟨q, 6, none⟩ g).setCell ⟨q, 7, none⟩ h).setCell ⟨q, 8, none⟩ i) := by
  have k0 := Kp.setCell (S := fun b => b = q) w (p := ⟨q, 0, none⟩) rfl a
  generalize w.setCell ⟨q, 0, none⟩ a = w0 at *
  have k1 := Kp.setCell (S := fun b => b = q) w0 (p := ⟨q, 1, none⟩) rfl b
  generalize w0.setCell ⟨q, 1, none⟩ b = w1 at *
  have k2 := Kp.setCell (S := fun b => b = q) w1 (p := ⟨q, 2, none⟩) rfl c
  generalize w1.setCell ⟨q, 2, none⟩ c = w2 at *
  have k3 := Kp.setCell (S := fun b => b = q) w2 (p := ⟨q, 3, none⟩) rfl d
  generalize w2.setCell ⟨q, 3, none⟩ d = w3 at *
  have k4 := Kp.setCell (S := fun b => b = q) w3 (p := ⟨q, 4, none⟩) rfl e
  generalize w3.setCell ⟨q, 4, none⟩ e = w4 at *
  have k5 := Kp.setCell (S := fun b => b = q) w4 (p := ⟨q, 5, none⟩) rfl f
  generalize w4.setCell ⟨q, 5, none⟩ f = w5 at *
  have k6 := Kp.setCell (S := fun b => b = q) w5 (p := ⟨q, 6, none⟩) rfl g
  generalize w5.setCell ⟨q, 6, none⟩ g = w6 at *
  have k7 := Kp.setCell (S := fun b => b = q) w6 (p := ⟨q, 7, none⟩) rfl h
  generalize w6.setCell ⟨q, 7, none⟩ h = w7 at *
  have k8 := Kp.setCell (S := fun b => b = q) w7 (p := ⟨q, 8, none⟩) rfl i
  generalize w7.setCell ⟨q, 8, none⟩ i = w8 at *
  exact (((((((k0.trans k1).trans k2).trans k3).trans k4).trans k5).trans k6).trans k7).trans k8

theorem nine_done {X : Cx} {w w1 : World} {σ1 : Sg} (k : Kp X.own (w.alloc (.cells Opd.zero.vals 26)) w1) (h1 : St X w1 σ1) (hlow : X.lo ≤ w.heap.size) (hfre : ¬ X.own w.heap.size) (a b c d e f g h i : Value) :
    Done X w σ1 (((((((((w1.setCell ⟨w.heap.size, 0, none⟩ a).setCell ⟨w.heap.size, 1, none⟩ b).setCell ⟨w.heap.size, 2, none⟩ c).setCell ⟨w.heap.size, 3, none⟩ d).setCell ⟨w.heap.size, 4, none⟩ e).setCell ⟨w.heap.size, 5, none⟩ f).setCell ⟨w.heap.size, 6, none⟩ g).setCell ⟨w.heap.size, 7, none⟩ h).setCell ⟨w.heap.size, 8, none⟩ i) := by
  have kn := Kp.nine w1 w.heap.size a b c d e f g h i
  refine ⟨h1.other kn hlow (new_res k hfre).2 (by decide), ?_⟩
  refine ⟨kn.os.trans k.os, kn.tape.trans k.tape, kn.output.trans k.output, ?_, fun j hj hs => ?_⟩
  · have := k.size
    have := kn.size
    simp at *
    omega
  · have hs1 := k.size
    simp at hs1
    rw [kn.block j (by omega) (by omega), k.block j (by simp; omega) hs]
    exact Below.heap_alloc _ _ _ hj

theorem fld0 (w : World) (a b c : Value) : (Instr.field 88 (.agg #[a, b, c]) 0).run Tryz.prog w = .ok a w := by kernel_rfl
theorem fld1 (w : World) (a b c : Value) : (Instr.field 88 (.agg #[a, b, c]) 1).run Tryz.prog w = .ok b w := by kernel_rfl
theorem fld2 (w : World) (a b c : Value) : (Instr.field 88 (.agg #[a, b, c]) 2).run Tryz.prog w = .ok c w := by kernel_rfl

def pA (X : Cx) (s : Int) (σ : Sg) : Opd × Sg := (regO 0 s, σ)
def pCL (X : Cx) (s : Int) (σ : Sg) : Opd × Sg := (regO 1 1, σ)
def pDX (X : Cx) (s : Int) (σ : Sg) : Opd × Sg := (regO 2 2, σ)
def pR (X : Cx) (s : Int) (σ : Sg) : Opd × Sg := (regO (σ.op % 8) s, σ)
def pG (X : Cx) (s : Int) (σ : Sg) : Opd × Sg := (regO (modrm X σ).1.2.1 s, (modrm X σ).2)
def pRm (X : Cx) (s : Int) (σ : Sg) : Opd × Sg := (regO (modrm X σ).1.2.2 s, (modrm X σ).2)
def crO (n : Int) : Opd := { Opd.zero with kind := 5, reg := n }
def pCr (X : Cx) (s : Int) (σ : Sg) : Opd × Sg := (crO (modrm X σ).1.2.1, (modrm X σ).2)
def pI (X : Cx) (s : Int) (σ : Sg) : Opd × Sg := (numO (bytesM X s σ).1, (bytesM X s σ).2)
def pIb (X : Cx) (s : Int) (σ : Sg) : Opd × Sg := pI X 1 σ
def pIw (X : Cx) (s : Int) (σ : Sg) : Opd × Sg := pI X 2 σ
def pIs (X : Cx) (s : Int) (σ : Sg) : Opd × Sg := (numO (cutM s (sgnM 1 (bytesM X 1 σ).1)), (bytesM X 1 σ).2)
def relO (n : Int) : Opd := { Opd.zero with kind := 6, imm := n }
def pJ (X : Cx) (s : Int) (σ : Sg) : Opd × Sg := (relO (sgnM s (bytesM X s σ).1), (bytesM X s σ).2)
def pJb (X : Cx) (s : Int) (σ : Sg) : Opd × Sg := pJ X 1 σ
def farO (n d : Int) : Opd := { Opd.zero with kind := 7, imm := n, disp := d }
def pFar (X : Cx) (s : Int) (σ : Sg) : Opd × Sg := (farO (bytesM X s σ).1 (bytesM X 2 (bytesM X s σ).2).1, (bytesM X 2 (bytesM X s σ).2).2)
def pString (X : Cx) (s : Int) (σ : Sg) : Opd × Sg := (memO σ.seg s, σ)

set_option maxHeartbeats 1000000 in
theorem pA_ok (w : World) (X : Cx) (σ : Sg) (h : St X w σ) (s : Int) (hs : s = 1 ∨ s = 2 ∨ s = 4) :
    Calls Tryz.prog 72 #[.pointer (some ⟨X.F, 0, none⟩), .int .i64 s] w fun e w' => e = .returned (.agg (pA X s σ).1.vals) ∧ Done X w (pA X s σ).2 w' := by
  have hlow := h.low
  have hfre := h.fresh
  have h0 : St X (w.alloc (.cells Opd.zero.vals 26)) σ := h.alloc _
  show Calls _ _ _ _ fun e w' => e = .returned (.agg (regO 0 s).vals) ∧ Done X w σ w'
  have HT : Hid (s = 1 ∨ s = 2 ∨ s = 4) := hs
  have Hh : Hid (St X w σ) := h
  clear hs h
  go_enter Tryz.func72, Tryz.ntmps72
  go_wp2_with fail
  refine (register_ok _ _ _).mono ?_; rintro e w1 ⟨rfl, k1⟩
  obtain ⟨hq0, hb0⟩ := new_res (k1.any (S := X.own)) hfre
  have hst := put_res hb0 (regO 0 s)
  have hsz := vals_size (regO 0 s)
  have hb1 := got_res hb0 (regO 0 s)
  obtain ⟨r0, r1, r2, r3, r4, r5, r6, r7, r8⟩ := res_cells hb1
  have Hk : Hid _ := res_done (k1.any (S := X.own)) (h0.no k1) hlow hfre (regO 0 s).vals
  go_wp2
  exact bodyPost_ret (v := .agg (regO 0 s).vals) (by simp [results, Tryz.results72, go_sem, r0, r1, r2, r3, r4, r5, r6, r7, r8]; rfl) rfl ⟨rfl, Hk.out⟩

set_option maxHeartbeats 1000000 in
theorem pCL_ok (w : World) (X : Cx) (σ : Sg) (h : St X w σ) (s : Int) (hs : s = 1 ∨ s = 2 ∨ s = 4) :
    Calls Tryz.prog 164 #[.pointer (some ⟨X.F, 0, none⟩), .int .i64 s] w fun e w' => e = .returned (.agg (pCL X s σ).1.vals) ∧ Done X w (pCL X s σ).2 w' := by
  have hlow := h.low
  have hfre := h.fresh
  have h0 : St X (w.alloc (.cells Opd.zero.vals 26)) σ := h.alloc _
  show Calls _ _ _ _ fun e w' => e = .returned (.agg (regO 1 1).vals) ∧ Done X w σ w'
  have HT : Hid (s = 1 ∨ s = 2 ∨ s = 4) := hs
  have Hh : Hid (St X w σ) := h
  clear hs h
  go_enter Tryz.func164, Tryz.ntmps164
  go_wp2_with fail
  refine (register_ok _ _ _).mono ?_; rintro e w1 ⟨rfl, k1⟩
  obtain ⟨hq0, hb0⟩ := new_res (k1.any (S := X.own)) hfre
  have hst := put_res hb0 (regO 1 1)
  have hsz := vals_size (regO 1 1)
  have hb1 := got_res hb0 (regO 1 1)
  obtain ⟨r0, r1, r2, r3, r4, r5, r6, r7, r8⟩ := res_cells hb1
  have Hk : Hid _ := res_done (k1.any (S := X.own)) (h0.no k1) hlow hfre (regO 1 1).vals
  go_wp2
  exact bodyPost_ret (v := .agg (regO 1 1).vals) (by simp [results, Tryz.results164, go_sem, r0, r1, r2, r3, r4, r5, r6, r7, r8]; rfl) rfl ⟨rfl, Hk.out⟩

set_option maxHeartbeats 1000000 in
theorem pDX_ok (w : World) (X : Cx) (σ : Sg) (h : St X w σ) (s : Int) (hs : s = 1 ∨ s = 2 ∨ s = 4) :
    Calls Tryz.prog 183 #[.pointer (some ⟨X.F, 0, none⟩), .int .i64 s] w fun e w' => e = .returned (.agg (pDX X s σ).1.vals) ∧ Done X w (pDX X s σ).2 w' := by
  have hlow := h.low
  have hfre := h.fresh
  have h0 : St X (w.alloc (.cells Opd.zero.vals 26)) σ := h.alloc _
  show Calls _ _ _ _ fun e w' => e = .returned (.agg (regO 2 2).vals) ∧ Done X w σ w'
  have HT : Hid (s = 1 ∨ s = 2 ∨ s = 4) := hs
  have Hh : Hid (St X w σ) := h
  clear hs h
  go_enter Tryz.func183, Tryz.ntmps183
  go_wp2_with fail
  refine (register_ok _ _ _).mono ?_; rintro e w1 ⟨rfl, k1⟩
  obtain ⟨hq0, hb0⟩ := new_res (k1.any (S := X.own)) hfre
  have hst := put_res hb0 (regO 2 2)
  have hsz := vals_size (regO 2 2)
  have hb1 := got_res hb0 (regO 2 2)
  obtain ⟨r0, r1, r2, r3, r4, r5, r6, r7, r8⟩ := res_cells hb1
  have Hk : Hid _ := res_done (k1.any (S := X.own)) (h0.no k1) hlow hfre (regO 2 2).vals
  go_wp2
  exact bodyPost_ret (v := .agg (regO 2 2).vals) (by simp [results, Tryz.results183, go_sem, r0, r1, r2, r3, r4, r5, r6, r7, r8]; rfl) rfl ⟨rfl, Hk.out⟩

set_option maxHeartbeats 1000000 in
theorem pR_ok (w : World) (X : Cx) (σ : Sg) (h : St X w σ) (s : Int) (hs : s = 1 ∨ s = 2 ∨ s = 4) :
    Calls Tryz.prog 88 #[.pointer (some ⟨X.F, 0, none⟩), .int .i64 s] w fun e w' => e = .returned (.agg (pR X s σ).1.vals) ∧ Done X w (pR X s σ).2 w' := by
  have hlow := h.low
  have hfre := h.fresh
  have h0 : St X (w.alloc (.cells Opd.zero.vals 26)) σ := h.alloc _
  show Calls _ _ _ _ fun e w' => e = .returned (.agg (regO (σ.op % 8) s).vals) ∧ Done X w σ w'
  have HT : Hid (s = 1 ∨ s = 2 ∨ s = 4) := hs
  have Hh : Hid (St X w σ) := h
  clear hs h
  go_enter Tryz.func88, Tryz.ntmps88
  go_wp2_with fail
  refine (r_ok _ X σ h0).mono ?_; rintro e w0 ⟨rfl, hw⟩; subst hw
  go_wp2_with fail
  refine (register_ok _ _ _).mono ?_; rintro e w1 ⟨rfl, k1⟩
  obtain ⟨hq0, hb0⟩ := new_res (k1.any (S := X.own)) hfre
  have hst := put_res hb0 (regO (σ.op % 8) s)
  have hsz := vals_size (regO (σ.op % 8) s)
  have hb1 := got_res hb0 (regO (σ.op % 8) s)
  obtain ⟨r0, r1, r2, r3, r4, r5, r6, r7, r8⟩ := res_cells hb1
  have Hk : Hid _ := res_done (k1.any (S := X.own)) (h0.no k1) hlow hfre (regO (σ.op % 8) s).vals
  go_wp2
  exact bodyPost_ret (v := .agg (regO (σ.op % 8) s).vals) (by simp [results, Tryz.results88, go_sem, r0, r1, r2, r3, r4, r5, r6, r7, r8]; rfl) rfl ⟨rfl, Hk.out⟩

set_option maxHeartbeats 1000000 in
theorem pG_ok (w : World) (X : Cx) (σ : Sg) (h : St X w σ) (s : Int) (hs : s = 1 ∨ s = 2 ∨ s = 4) :
    Calls Tryz.prog 67 #[.pointer (some ⟨X.F, 0, none⟩), .int .i64 s] w fun e w' => e = .returned (.agg (pG X s σ).1.vals) ∧ Done X w (pG X s σ).2 w' := by
  have hlow := h.low
  have hfre := h.fresh
  have h0 : St X (w.alloc (.cells Opd.zero.vals 26)) σ := h.alloc _
  have cM := modrm_ok _ X σ h0
  obtain ⟨⟨m, n, r⟩, hm⟩ : ∃ x, x = (modrm X σ).1 := ⟨_, rfl⟩
  have eG : pG X s σ = (regO n s, (modrm X σ).2) := by unfold pG; rw [← hm]
  rw [← hm] at cM
  simp only [mrV] at cM
  rw [eG]
  clear hm eG
  have fl0 := fld0
  have fl1 := fld1
  have fl2 := fld2
  show Calls _ _ _ _ fun e w' => e = .returned (.agg (regO n s).vals) ∧ Done X w (modrm X σ).2 w'
  have HT : Hid (s = 1 ∨ s = 2 ∨ s = 4) := hs
  have Hh : Hid (St X w σ) := h
  clear hs h
  go_enter Tryz.func67, Tryz.ntmps67
  go_wp2_with fail
  refine cM.mono ?_; rintro e w1 ⟨rfl, h1, k1⟩
  go_wp2_with fail
  refine (register_ok _ _ _).mono ?_; rintro e w2 ⟨rfl, k2⟩
  obtain ⟨hq0, hb0⟩ := new_res (k1.trans k2.any) hfre
  have hst := put_res hb0 (regO n s)
  have hsz := vals_size (regO n s)
  have hb1 := got_res hb0 (regO n s)
  obtain ⟨r0, r1, r2, r3, r4, r5, r6, r7, r8⟩ := res_cells hb1
  have Hk : Hid _ := res_done (k1.trans k2.any) (h1.no k2) hlow hfre (regO n s).vals
  go_wp2
  exact bodyPost_ret (v := .agg (regO n s).vals) (by simp [results, Tryz.results67, go_sem, r0, r1, r2, r3, r4, r5, r6, r7, r8]; rfl) rfl ⟨rfl, Hk.out⟩

set_option maxHeartbeats 1000000 in
theorem pRm_ok (w : World) (X : Cx) (σ : Sg) (h : St X w σ) (s : Int) (hs : s = 1 ∨ s = 2 ∨ s = 4) :
    Calls Tryz.prog 204 #[.pointer (some ⟨X.F, 0, none⟩), .int .i64 s] w fun e w' => e = .returned (.agg (pRm X s σ).1.vals) ∧ Done X w (pRm X s σ).2 w' := by
  have hlow := h.low
  have hfre := h.fresh
  have h0 : St X (w.alloc (.cells Opd.zero.vals 26)) σ := h.alloc _
  have cM := modrm_ok _ X σ h0
  obtain ⟨⟨m, n, r⟩, hm⟩ : ∃ x, x = (modrm X σ).1 := ⟨_, rfl⟩
  have eG : pRm X s σ = (regO r s, (modrm X σ).2) := by unfold pRm; rw [← hm]
  rw [← hm] at cM
  simp only [mrV] at cM
  rw [eG]
  clear hm eG
  have fl0 := fld0
  have fl1 := fld1
  have fl2 := fld2
  show Calls _ _ _ _ fun e w' => e = .returned (.agg (regO r s).vals) ∧ Done X w (modrm X σ).2 w'
  have HT : Hid (s = 1 ∨ s = 2 ∨ s = 4) := hs
  have Hh : Hid (St X w σ) := h
  clear hs h
  go_enter Tryz.func204, Tryz.ntmps204
  go_wp2_with fail
  refine cM.mono ?_; rintro e w1 ⟨rfl, h1, k1⟩
  go_wp2_with fail
  refine (register_ok _ _ _).mono ?_; rintro e w2 ⟨rfl, k2⟩
  obtain ⟨hq0, hb0⟩ := new_res (k1.trans k2.any) hfre
  have hst := put_res hb0 (regO r s)
  have hsz := vals_size (regO r s)
  have hb1 := got_res hb0 (regO r s)
  obtain ⟨r0, r1, r2, r3, r4, r5, r6, r7, r8⟩ := res_cells hb1
  have Hk : Hid _ := res_done (k1.trans k2.any) (h1.no k2) hlow hfre (regO r s).vals
  go_wp2
  exact bodyPost_ret (v := .agg (regO r s).vals) (by simp [results, Tryz.results204, go_sem, r0, r1, r2, r3, r4, r5, r6, r7, r8]; rfl) rfl ⟨rfl, Hk.out⟩

set_option maxHeartbeats 1000000 in
theorem pCr_ok (w : World) (X : Cx) (σ : Sg) (h : St X w σ) (s : Int) (hs : s = 1 ∨ s = 2 ∨ s = 4) :
    Calls Tryz.prog 205 #[.pointer (some ⟨X.F, 0, none⟩), .int .i64 s] w fun e w' => e = .returned (.agg (pCr X s σ).1.vals) ∧ Done X w (pCr X s σ).2 w' := by
  have hlow := h.low
  have hfre := h.fresh
  have h0 : St X (w.alloc (.cells Opd.zero.vals 26)) σ := h.alloc _
  have cM := modrm_ok _ X σ h0
  obtain ⟨⟨m, n, r⟩, hm⟩ : ∃ x, x = (modrm X σ).1 := ⟨_, rfl⟩
  have eG : pCr X s σ = (crO n, (modrm X σ).2) := by unfold pCr; rw [← hm]
  rw [← hm] at cM
  simp only [mrV] at cM
  rw [eG]
  clear hm eG
  have fl0 := fld0
  have fl1 := fld1
  have fl2 := fld2
  show Calls _ _ _ _ fun e w' => e = .returned (.agg (crO n).vals) ∧ Done X w (modrm X σ).2 w'
  have HT : Hid (s = 1 ∨ s = 2 ∨ s = 4) := hs
  have Hh : Hid (St X w σ) := h
  clear hs h
  go_enter Tryz.func205, Tryz.ntmps205
  go_wp2_with fail
  refine cM.mono ?_; rintro e w1 ⟨rfl, h1, k1⟩
  obtain ⟨hq0, hb0⟩ := new_res k1 hfre
  have hfz := res_fz hb0
  obtain ⟨r0, r1, r2, r3, r4, r5, r6, r7, r8⟩ := res_cells hb0
  have Hk : Hid _ := nine_done k1 h1 hlow hfre
  go_wp2
  exact bodyPost_ret (v := .agg (crO n).vals) (by simp [results, Tryz.results205, go_sem, r0, r1, r2, r3, r4, r5, r6, r7, r8]; rfl) rfl ⟨rfl, Hk.out _ _ _ _ _ _ _ _ _⟩

set_option maxHeartbeats 1000000 in
theorem pI_ok (w : World) (X : Cx) (σ : Sg) (h : St X w σ) (s : Int) (hs : s = 1 ∨ s = 2 ∨ s = 4) :
    Calls Tryz.prog 73 #[.pointer (some ⟨X.F, 0, none⟩), .int .i64 s] w fun e w' => e = .returned (.agg (pI X s σ).1.vals) ∧ Done X w (pI X s σ).2 w' := by
  have hlow := h.low
  have hfre := h.fresh
  have h0 : St X (w.alloc (.cells Opd.zero.vals 26)) σ := h.alloc _
  have cB := bytes_ok _ X σ h0 s hs
  show Calls _ _ _ _ fun e w' => e = .returned (.agg (numO (bytesM X s σ).1).vals) ∧ Done X w (bytesM X s σ).2 w'
  have HT : Hid (s = 1 ∨ s = 2 ∨ s = 4) := hs
  have Hh : Hid (St X w σ) := h
  clear hs h
  go_enter Tryz.func73, Tryz.ntmps73
  go_wp2_with fail
  refine cB.mono ?_; rintro e w1 ⟨rfl, h1, k1⟩
  go_wp2_with fail
  refine (number_ok _ _).mono ?_; rintro e w2 ⟨rfl, k2⟩
  obtain ⟨hq0, hb0⟩ := new_res (k1.trans k2.any) hfre
  have hst := put_res hb0 (numO (bytesM X s σ).1)
  have hsz := vals_size (numO (bytesM X s σ).1)
  have hb1 := got_res hb0 (numO (bytesM X s σ).1)
  obtain ⟨r0, r1, r2, r3, r4, r5, r6, r7, r8⟩ := res_cells hb1
  have Hk : Hid _ := res_done (k1.trans k2.any) (h1.no k2) hlow hfre (numO (bytesM X s σ).1).vals
  go_wp2
  exact bodyPost_ret (v := .agg (numO (bytesM X s σ).1).vals) (by simp [results, Tryz.results73, go_sem, r0, r1, r2, r3, r4, r5, r6, r7, r8]; rfl) rfl ⟨rfl, Hk.out⟩

set_option maxHeartbeats 1000000 in
theorem pIb_ok (w : World) (X : Cx) (σ : Sg) (h : St X w σ) (s : Int) (hs : s = 1 ∨ s = 2 ∨ s = 4) :
    Calls Tryz.prog 148 #[.pointer (some ⟨X.F, 0, none⟩), .int .i64 s] w fun e w' => e = .returned (.agg (pIb X s σ).1.vals) ∧ Done X w (pIb X s σ).2 w' := by
  have hlow := h.low
  have hfre := h.fresh
  have h0 : St X (w.alloc (.cells Opd.zero.vals 26)) σ := h.alloc _
  have cB := bytes_ok _ X σ h0 1 (by decide)
  show Calls _ _ _ _ fun e w' => e = .returned (.agg (numO (bytesM X 1 σ).1).vals) ∧ Done X w (bytesM X 1 σ).2 w'
  have HT : Hid (s = 1 ∨ s = 2 ∨ s = 4) := hs
  have Hh : Hid (St X w σ) := h
  clear hs h
  go_enter Tryz.func148, Tryz.ntmps148
  go_wp2_with fail
  refine cB.mono ?_; rintro e w1 ⟨rfl, h1, k1⟩
  go_wp2_with fail
  refine (number_ok _ _).mono ?_; rintro e w2 ⟨rfl, k2⟩
  obtain ⟨hq0, hb0⟩ := new_res (k1.trans k2.any) hfre
  have hst := put_res hb0 (numO (bytesM X 1 σ).1)
  have hsz := vals_size (numO (bytesM X 1 σ).1)
  have hb1 := got_res hb0 (numO (bytesM X 1 σ).1)
  obtain ⟨r0, r1, r2, r3, r4, r5, r6, r7, r8⟩ := res_cells hb1
  have Hk : Hid _ := res_done (k1.trans k2.any) (h1.no k2) hlow hfre (numO (bytesM X 1 σ).1).vals
  go_wp2
  exact bodyPost_ret (v := .agg (numO (bytesM X 1 σ).1).vals) (by simp [results, Tryz.results148, go_sem, r0, r1, r2, r3, r4, r5, r6, r7, r8]; rfl) rfl ⟨rfl, Hk.out⟩

set_option maxHeartbeats 1000000 in
theorem pIw_ok (w : World) (X : Cx) (σ : Sg) (h : St X w σ) (s : Int) (hs : s = 1 ∨ s = 2 ∨ s = 4) :
    Calls Tryz.prog 151 #[.pointer (some ⟨X.F, 0, none⟩), .int .i64 s] w fun e w' => e = .returned (.agg (pIw X s σ).1.vals) ∧ Done X w (pIw X s σ).2 w' := by
  have hlow := h.low
  have hfre := h.fresh
  have h0 : St X (w.alloc (.cells Opd.zero.vals 26)) σ := h.alloc _
  have cB := bytes_ok _ X σ h0 2 (by decide)
  show Calls _ _ _ _ fun e w' => e = .returned (.agg (numO (bytesM X 2 σ).1).vals) ∧ Done X w (bytesM X 2 σ).2 w'
  have HT : Hid (s = 1 ∨ s = 2 ∨ s = 4) := hs
  have Hh : Hid (St X w σ) := h
  clear hs h
  go_enter Tryz.func151, Tryz.ntmps151
  go_wp2_with fail
  refine cB.mono ?_; rintro e w1 ⟨rfl, h1, k1⟩
  go_wp2_with fail
  refine (number_ok _ _).mono ?_; rintro e w2 ⟨rfl, k2⟩
  obtain ⟨hq0, hb0⟩ := new_res (k1.trans k2.any) hfre
  have hst := put_res hb0 (numO (bytesM X 2 σ).1)
  have hsz := vals_size (numO (bytesM X 2 σ).1)
  have hb1 := got_res hb0 (numO (bytesM X 2 σ).1)
  obtain ⟨r0, r1, r2, r3, r4, r5, r6, r7, r8⟩ := res_cells hb1
  have Hk : Hid _ := res_done (k1.trans k2.any) (h1.no k2) hlow hfre (numO (bytesM X 2 σ).1).vals
  go_wp2
  exact bodyPost_ret (v := .agg (numO (bytesM X 2 σ).1).vals) (by simp [results, Tryz.results151, go_sem, r0, r1, r2, r3, r4, r5, r6, r7, r8]; rfl) rfl ⟨rfl, Hk.out⟩

set_option maxHeartbeats 1000000 in
theorem pIs_ok (w : World) (X : Cx) (σ : Sg) (h : St X w σ) (s : Int) (hs : s = 1 ∨ s = 2 ∨ s = 4) :
    Calls Tryz.prog 97 #[.pointer (some ⟨X.F, 0, none⟩), .int .i64 s] w fun e w' => e = .returned (.agg (pIs X s σ).1.vals) ∧ Done X w (pIs X s σ).2 w' := by
  have hlow := h.low
  have hfre := h.fresh
  have h0 : St X (w.alloc (.cells Opd.zero.vals 26)) σ := h.alloc _
  have cB := bytes_ok _ X σ h0 1 (by decide)
  have hb := bytesM_bd h0 1 (by decide)
  have hb2 := sgnM_bd 1 _ (by decide) hb.1 hb.2
  show Calls _ _ _ _ fun e w' => e = .returned (.agg (numO (cutM s (sgnM 1 (bytesM X 1 σ).1))).vals) ∧ Done X w (bytesM X 1 σ).2 w'
  have HT : Hid (s = 1 ∨ s = 2 ∨ s = 4) := hs
  have Hh : Hid (St X w σ) := h
  clear hs h
  go_enter Tryz.func97, Tryz.ntmps97
  go_wp2_with fail
  refine cB.mono ?_; rintro e w1 ⟨rfl, h1, k1⟩
  go_wp2_with fail
  refine (signed_ok _ 1 _ (by decide) hb.1 hb.2).mono ?_; rintro e w0 ⟨rfl, hw⟩; subst hw
  go_wp2_with fail
  refine (cut_ok _ s _ HT.out hb2.1 hb2.2).mono ?_; rintro e w0 ⟨rfl, hw⟩; subst hw
  go_wp2_with fail
  refine (number_ok _ _).mono ?_; rintro e w2 ⟨rfl, k2⟩
  obtain ⟨hq0, hb0⟩ := new_res (k1.trans k2.any) hfre
  have hst := put_res hb0 (numO (cutM s (sgnM 1 (bytesM X 1 σ).1)))
  have hsz := vals_size (numO (cutM s (sgnM 1 (bytesM X 1 σ).1)))
  have hb1 := got_res hb0 (numO (cutM s (sgnM 1 (bytesM X 1 σ).1)))
  obtain ⟨r0, r1, r2, r3, r4, r5, r6, r7, r8⟩ := res_cells hb1
  have Hk : Hid _ := res_done (k1.trans k2.any) (h1.no k2) hlow hfre (numO (cutM s (sgnM 1 (bytesM X 1 σ).1))).vals
  go_wp2
  exact bodyPost_ret (v := .agg (numO (cutM s (sgnM 1 (bytesM X 1 σ).1))).vals) (by simp [results, Tryz.results97, go_sem, r0, r1, r2, r3, r4, r5, r6, r7, r8]; rfl) rfl ⟨rfl, Hk.out⟩

set_option maxHeartbeats 1000000 in
theorem pJ_ok (w : World) (X : Cx) (σ : Sg) (h : St X w σ) (s : Int) (hs : s = 1 ∨ s = 2 ∨ s = 4) :
    Calls Tryz.prog 177 #[.pointer (some ⟨X.F, 0, none⟩), .int .i64 s] w fun e w' => e = .returned (.agg (pJ X s σ).1.vals) ∧ Done X w (pJ X s σ).2 w' := by
  have hlow := h.low
  have hfre := h.fresh
  have h0 : St X (w.alloc (.cells Opd.zero.vals 26)) σ := h.alloc _
  have cB := bytes_ok _ X σ h0 s hs
  have hb := bytesM_bd h0 s hs
  show Calls _ _ _ _ fun e w' => e = .returned (.agg (relO (sgnM s (bytesM X s σ).1)).vals) ∧ Done X w (bytesM X s σ).2 w'
  have HT : Hid (s = 1 ∨ s = 2 ∨ s = 4) := hs
  have Hh : Hid (St X w σ) := h
  clear hs h
  go_enter Tryz.func177, Tryz.ntmps177
  go_wp2_with fail
  refine cB.mono ?_; rintro e w1 ⟨rfl, h1, k1⟩
  go_wp2_with fail
  refine (signed_ok _ s _ HT.out hb.1 hb.2).mono ?_; rintro e w0 ⟨rfl, hw⟩; subst hw
  obtain ⟨hq0, hb0⟩ := new_res k1 hfre
  have hfz := res_fz hb0
  obtain ⟨r0, r1, r2, r3, r4, r5, r6, r7, r8⟩ := res_cells hb0
  have Hk : Hid _ := nine_done k1 h1 hlow hfre
  go_wp2
  exact bodyPost_ret (v := .agg (relO (sgnM s (bytesM X s σ).1)).vals) (by simp [results, Tryz.results177, go_sem, r0, r1, r2, r3, r4, r5, r6, r7, r8]; rfl) rfl ⟨rfl, Hk.out _ _ _ _ _ _ _ _ _⟩

set_option maxHeartbeats 1000000 in
theorem pJb_ok (w : World) (X : Cx) (σ : Sg) (h : St X w σ) (s : Int) (hs : s = 1 ∨ s = 2 ∨ s = 4) :
    Calls Tryz.prog 101 #[.pointer (some ⟨X.F, 0, none⟩), .int .i64 s] w fun e w' => e = .returned (.agg (pJb X s σ).1.vals) ∧ Done X w (pJb X s σ).2 w' := by
  have hlow := h.low
  have hfre := h.fresh
  have h0 : St X (w.alloc (.cells Opd.zero.vals 26)) σ := h.alloc _
  have cB := pJ_ok _ X σ h0 1 (by decide)
  show Calls _ _ _ _ fun e w' => e = .returned (.agg ((pJ X 1 σ).1).vals) ∧ Done X w (pJ X 1 σ).2 w'
  have HT : Hid (s = 1 ∨ s = 2 ∨ s = 4) := hs
  have Hh : Hid (St X w σ) := h
  clear hs h
  go_enter Tryz.func101, Tryz.ntmps101
  go_wp2_with fail
  refine cB.mono ?_; rintro e w1 ⟨rfl, h1, k1⟩
  obtain ⟨hq0, hb0⟩ := new_res k1 hfre
  have hst := put_res hb0 ((pJ X 1 σ).1)
  have hsz := vals_size ((pJ X 1 σ).1)
  have hb1 := got_res hb0 ((pJ X 1 σ).1)
  obtain ⟨r0, r1, r2, r3, r4, r5, r6, r7, r8⟩ := res_cells hb1
  have Hk : Hid _ := res_done k1 h1 hlow hfre ((pJ X 1 σ).1).vals
  go_wp2
  exact bodyPost_ret (v := .agg ((pJ X 1 σ).1).vals) (by simp [results, Tryz.results101, go_sem, r0, r1, r2, r3, r4, r5, r6, r7, r8]; rfl) rfl ⟨rfl, Hk.out⟩

set_option maxHeartbeats 1000000 in
theorem pFar_ok (w : World) (X : Cx) (σ : Sg) (h : St X w σ) (s : Int) (hs : s = 1 ∨ s = 2 ∨ s = 4) :
    Calls Tryz.prog 180 #[.pointer (some ⟨X.F, 0, none⟩), .int .i64 s] w fun e w' => e = .returned (.agg (pFar X s σ).1.vals) ∧ Done X w (pFar X s σ).2 w' := by
  have hlow := h.low
  have hfre := h.fresh
  have h0 : St X (w.alloc (.cells Opd.zero.vals 26)) σ := h.alloc _
  have cB := bytes_ok _ X σ h0 s hs
  show Calls _ _ _ _ fun e w' => e = .returned (.agg (farO (bytesM X s σ).1 (bytesM X 2 (bytesM X s σ).2).1).vals) ∧ Done X w (bytesM X 2 (bytesM X s σ).2).2 w'
  have HT : Hid (s = 1 ∨ s = 2 ∨ s = 4) := hs
  have Hh : Hid (St X w σ) := h
  clear hs h
  go_enter Tryz.func180, Tryz.ntmps180
  go_wp2_with fail
  refine cB.mono ?_; rintro e w1 ⟨rfl, h1, k1⟩
  go_wp2_with fail
  refine (bytes_ok _ X _ h1 2 (by decide)).mono ?_; rintro e w2 ⟨rfl, h2, k2⟩
  obtain ⟨hq0, hb0⟩ := new_res (k1.trans k2) hfre
  have hfz := res_fz hb0
  obtain ⟨r0, r1, r2, r3, r4, r5, r6, r7, r8⟩ := res_cells hb0
  have Hk : Hid _ := nine_done (k1.trans k2) h2 hlow hfre
  go_wp2
  exact bodyPost_ret (v := .agg (farO (bytesM X s σ).1 (bytesM X 2 (bytesM X s σ).2).1).vals) (by simp [results, Tryz.results180, go_sem, r0, r1, r2, r3, r4, r5, r6, r7, r8]; rfl) rfl ⟨rfl, Hk.out _ _ _ _ _ _ _ _ _⟩

set_option maxHeartbeats 1000000 in
theorem pString_ok (w : World) (X : Cx) (σ : Sg) (h : St X w σ) (s : Int) (hs : s = 1 ∨ s = 2 ∨ s = 4) :
    Calls Tryz.prog 257 #[.pointer (some ⟨X.F, 0, none⟩), .int .i64 s] w fun e w' => e = .returned (.agg (pString X s σ).1.vals) ∧ Done X w (pString X s σ).2 w' := by
  have hlow := h.low
  have hfre := h.fresh
  have h0 : St X (w.alloc (.cells Opd.zero.vals 26)) σ := h.alloc _
  have cM := memory_ok _ X σ h0 s
  show Calls _ _ _ _ fun e w' => e = .returned (.agg (memO σ.seg s).vals) ∧ Done X w σ w'
  have HT : Hid (s = 1 ∨ s = 2 ∨ s = 4) := hs
  have Hh : Hid (St X w σ) := h
  clear hs h
  go_enter Tryz.func257, Tryz.ntmps257
  go_wp2_with fail
  refine cM.mono ?_; rintro e w1 ⟨rfl, k1⟩
  obtain ⟨hq0, hb0⟩ := new_res (k1.any (S := X.own)) hfre
  have hst := put_res hb0 (memO σ.seg s)
  have hsz := vals_size (memO σ.seg s)
  have hb1 := got_res hb0 (memO σ.seg s)
  obtain ⟨r0, r1, r2, r3, r4, r5, r6, r7, r8⟩ := res_cells hb1
  have Hk : Hid _ := res_done (k1.any (S := X.own)) (h0.no k1) hlow hfre (memO σ.seg s).vals
  go_wp2
  exact bodyPost_ret (v := .agg (memO σ.seg s).vals) (by simp [results, Tryz.results257, go_sem, r0, r1, r2, r3, r4, r5, r6, r7, r8]; rfl) rfl ⟨rfl, Hk.out⟩

end Go.Proofs.YtolnaodlghahlaaGreatDoor
