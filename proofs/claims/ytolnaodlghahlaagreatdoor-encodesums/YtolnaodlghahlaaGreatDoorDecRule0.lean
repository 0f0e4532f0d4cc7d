/- The parts as what 'is' wants of them; strings. -/
import Derived.Test.YtolnaodlghahlaaGreatDoorDecE
import Derived.Test.YtolnaodlghahlaaGreatDoorDecOnly
namespace Go.Proofs.YtolnaodlghahlaaGreatDoor
open Go.ChangeShapes Go.WideShapes Go.ChangeAt Go.RowKit
set_option linter.unusedVariables false

theorem pE_ok (w : World) (X : Cx) (σ : Sg) (h : St X w σ) (s : Int) (hs : s = 1 ∨ s = 2 ∨ s = 4) :
    Calls Tryz.prog 66 #[.pointer (some ⟨X.F, 0, none⟩), .int .i64 s] w fun e w' => e = .returned (.agg (pE X s σ).1.vals) ∧ Done X w (pE X s σ).2 w' := by
  by_cases h3 : (modrm X σ).1.1 = 3
  · exact pE_reg w X σ h s h3
  · exact pE_mem w X σ h s h3

def pEb (X : Cx) (s : Int) (σ : Sg) : Opd × Sg := pE X 1 σ
def pEw (X : Cx) (s : Int) (σ : Sg) : Opd × Sg := pE X 2 σ

set_option maxHeartbeats 1000000 in
theorem pEb_ok (w : World) (X : Cx) (σ : Sg) (h : St X w σ) (s : Int) (hs : s = 1 ∨ s = 2 ∨ s = 4) :
    Calls Tryz.prog 223 #[.pointer (some ⟨X.F, 0, none⟩), .int .i64 s] w fun e w' => e = .returned (.agg (pEb X s σ).1.vals) ∧ Done X w (pEb X s σ).2 w' := by
  have hlow := h.low
  have hfre := h.fresh
  have h0 : St X (w.alloc (.cells Opd.zero.vals 26)) σ := h.alloc _
  have cB := pE_ok _ X σ h0 1 (by decide)
  show Calls _ _ _ _ fun e w' => e = .returned (.agg (pE X 1 σ).1.vals) ∧ Done X w (pE X 1 σ).2 w'
  generalize pE X 1 σ = Y at *
  obtain ⟨o, σ1⟩ := Y
  simp only at cB ⊢
  clear hs h
  go_enter Tryz.func223, Tryz.ntmps223
  go_wp2_with fail
  refine cB.mono ?_; rintro e w1 ⟨rfl, h1, k1⟩
  obtain ⟨hq0, hb0⟩ := new_res k1 hfre
  have hst := put_res hb0 o
  have hsz := vals_size o
  have hb1 := got_res hb0 o
  obtain ⟨r0, r1, r2, r3, r4, r5, r6, r7, r8⟩ := res_cells hb1
  have Hk : Hid _ := res_done k1 h1 hlow hfre o.vals
  go_wp2
  exact bodyPost_ret (v := .agg o.vals) (by simp [results, Tryz.results223, go_sem, r0, r1, r2, r3, r4, r5, r6, r7, r8]; rfl) rfl ⟨rfl, Hk.out⟩

set_option maxHeartbeats 1000000 in
theorem pEw_ok (w : World) (X : Cx) (σ : Sg) (h : St X w σ) (s : Int) (hs : s = 1 ∨ s = 2 ∨ s = 4) :
    Calls Tryz.prog 225 #[.pointer (some ⟨X.F, 0, none⟩), .int .i64 s] w fun e w' => e = .returned (.agg (pEw X s σ).1.vals) ∧ Done X w (pEw X s σ).2 w' := by
  have hlow := h.low
  have hfre := h.fresh
  have h0 : St X (w.alloc (.cells Opd.zero.vals 26)) σ := h.alloc _
  have cB := pE_ok _ X σ h0 2 (by decide)
  show Calls _ _ _ _ fun e w' => e = .returned (.agg (pE X 2 σ).1.vals) ∧ Done X w (pE X 2 σ).2 w'
  generalize pE X 2 σ = Y at *
  obtain ⟨o, σ1⟩ := Y
  simp only at cB ⊢
  clear hs h
  go_enter Tryz.func225, Tryz.ntmps225
  go_wp2_with fail
  refine cB.mono ?_; rintro e w1 ⟨rfl, h1, k1⟩
  obtain ⟨hq0, hb0⟩ := new_res k1 hfre
  have hst := put_res hb0 o
  have hsz := vals_size o
  have hb1 := got_res hb0 o
  obtain ⟨r0, r1, r2, r3, r4, r5, r6, r7, r8⟩ := res_cells hb1
  have Hk : Hid _ := res_done k1 h1 hlow hfre o.vals
  go_wp2
  exact bodyPost_ret (v := .agg o.vals) (by simp [results, Tryz.results225, go_sem, r0, r1, r2, r3, r4, r5, r6, r7, r8]; rfl) rfl ⟨rfl, Hk.out⟩

theorem okA {X : Cx} {w0 : World} {s : Int} (hs : s = 1 ∨ s = 2 ∨ s = 4) : PartOk X w0 72 #[] pA s := plain_ok (fun a b w => by kernel_rfl) (fun w σ h => pA_ok w X σ h s hs)
theorem okCL {X : Cx} {w0 : World} {s : Int} (hs : s = 1 ∨ s = 2 ∨ s = 4) : PartOk X w0 164 #[] pCL s := plain_ok (fun a b w => by kernel_rfl) (fun w σ h => pCL_ok w X σ h s hs)
theorem okDX {X : Cx} {w0 : World} {s : Int} (hs : s = 1 ∨ s = 2 ∨ s = 4) : PartOk X w0 183 #[] pDX s := plain_ok (fun a b w => by kernel_rfl) (fun w σ h => pDX_ok w X σ h s hs)
theorem okR {X : Cx} {w0 : World} {s : Int} (hs : s = 1 ∨ s = 2 ∨ s = 4) : PartOk X w0 88 #[] pR s := plain_ok (fun a b w => by kernel_rfl) (fun w σ h => pR_ok w X σ h s hs)
theorem okG {X : Cx} {w0 : World} {s : Int} (hs : s = 1 ∨ s = 2 ∨ s = 4) : PartOk X w0 67 #[] pG s := plain_ok (fun a b w => by kernel_rfl) (fun w σ h => pG_ok w X σ h s hs)
theorem okRm {X : Cx} {w0 : World} {s : Int} (hs : s = 1 ∨ s = 2 ∨ s = 4) : PartOk X w0 204 #[] pRm s := plain_ok (fun a b w => by kernel_rfl) (fun w σ h => pRm_ok w X σ h s hs)
theorem okCr {X : Cx} {w0 : World} {s : Int} (hs : s = 1 ∨ s = 2 ∨ s = 4) : PartOk X w0 205 #[] pCr s := plain_ok (fun a b w => by kernel_rfl) (fun w σ h => pCr_ok w X σ h s hs)
theorem okI {X : Cx} {w0 : World} {s : Int} (hs : s = 1 ∨ s = 2 ∨ s = 4) : PartOk X w0 73 #[] pI s := plain_ok (fun a b w => by kernel_rfl) (fun w σ h => pI_ok w X σ h s hs)
theorem okIb {X : Cx} {w0 : World} {s : Int} (hs : s = 1 ∨ s = 2 ∨ s = 4) : PartOk X w0 148 #[] pIb s := plain_ok (fun a b w => by kernel_rfl) (fun w σ h => pIb_ok w X σ h s hs)
theorem okIw {X : Cx} {w0 : World} {s : Int} (hs : s = 1 ∨ s = 2 ∨ s = 4) : PartOk X w0 151 #[] pIw s := plain_ok (fun a b w => by kernel_rfl) (fun w σ h => pIw_ok w X σ h s hs)
theorem okIs {X : Cx} {w0 : World} {s : Int} (hs : s = 1 ∨ s = 2 ∨ s = 4) : PartOk X w0 97 #[] pIs s := plain_ok (fun a b w => by kernel_rfl) (fun w σ h => pIs_ok w X σ h s hs)
theorem okJ {X : Cx} {w0 : World} {s : Int} (hs : s = 1 ∨ s = 2 ∨ s = 4) : PartOk X w0 177 #[] pJ s := plain_ok (fun a b w => by kernel_rfl) (fun w σ h => pJ_ok w X σ h s hs)
theorem okJb {X : Cx} {w0 : World} {s : Int} (hs : s = 1 ∨ s = 2 ∨ s = 4) : PartOk X w0 101 #[] pJb s := plain_ok (fun a b w => by kernel_rfl) (fun w σ h => pJb_ok w X σ h s hs)
theorem okFar {X : Cx} {w0 : World} {s : Int} (hs : s = 1 ∨ s = 2 ∨ s = 4) : PartOk X w0 180 #[] pFar s := plain_ok (fun a b w => by kernel_rfl) (fun w σ h => pFar_ok w X σ h s hs)
theorem okString {X : Cx} {w0 : World} {s : Int} (hs : s = 1 ∨ s = 2 ∨ s = 4) : PartOk X w0 257 #[] pString s := plain_ok (fun a b w => by kernel_rfl) (fun w σ h => pString_ok w X σ h s hs)
theorem okO {X : Cx} {w0 : World} {s : Int} (hs : s = 1 ∨ s = 2 ∨ s = 4) : PartOk X w0 128 #[] pO s := plain_ok (fun a b w => by kernel_rfl) (fun w σ h => pO_ok w X σ h s hs)
theorem okE {X : Cx} {w0 : World} {s : Int} (hs : s = 1 ∨ s = 2 ∨ s = 4) : PartOk X w0 66 #[] pE s := plain_ok (fun a b w => by kernel_rfl) (fun w σ h => pE_ok w X σ h s hs)
theorem okEb {X : Cx} {w0 : World} {s : Int} (hs : s = 1 ∨ s = 2 ∨ s = 4) : PartOk X w0 223 #[] pEb s := plain_ok (fun a b w => by kernel_rfl) (fun w σ h => pEb_ok w X σ h s hs)
theorem okEw {X : Cx} {w0 : World} {s : Int} (hs : s = 1 ∨ s = 2 ∨ s = 4) : PartOk X w0 225 #[] pEw s := plain_ok (fun a b w => by kernel_rfl) (fun w σ h => pEw_ok w X σ h s hs)

theorem modrm_v (X : Cx) (σ : Sg) : (modrm X σ).2.v = σ.v := by
  have ht : (take X σ).2.v = σ.v := by
    unfold take
    split
    · rfl
    · split
      · rfl
      · split <;> rfl
  unfold modrm
  split
  · rfl
  · exact ht

theorem St.vs {X : Cx} {w : World} {σ : Sg} (h : St X w σ) : σ.v = 1 ∨ σ.v = 2 ∨ σ.v = 4 := Or.inr h.gd.vv

def RuleOk (n : Nat) (g : Cx → Sg → Sg) : Prop := ∀ (w : World) (X : Cx) (σ : Sg), St X w σ → Calls Tryz.prog n #[.pointer (some ⟨X.F, 0, none⟩)] w fun e w' => e = .returned (.tuple #[]) ∧ Done X w (g X σ) w'

def isStr (X : Cx) (sub s : Int) (σ : Sg) : Sg := { isM X 36 sub s [pString] σ with ins := { (isM X 36 sub s [pString] σ).ins with rep := (isM X 36 sub s [pString] σ).rep } }

theorem isString_ok (w : World) (X : Cx) (σ : Sg) (h : St X w σ) (sub s : Int) (hs : s = 1 ∨ s = 2 ∨ s = 4) :
    Calls Tryz.prog 133 #[.pointer (some ⟨X.F, 0, none⟩), .int .i64 sub, .int .i64 s] w fun e w' => e = .returned (.tuple #[]) ∧ Done X w (isStr X sub s σ) w' := by
  have hfre := h.fresh
  have h1 : St X (w.alloc (.cells #[.func (.func 257) #[] #[]] 85)) σ := h.alloc _
  have c := is_gen _ X σ h1 36 sub s w.heap.size [⟨257, #[], pString⟩] (by decide) hfre (MapKept.heap_alloc w _).1 (by intro p hp; simp at hp; subst hp; exact okString hs)
  clear h h1 hs
  go_enter Tryz.func133, Tryz.ntmps133
  go_wp2_with fail
  refine c.mono ?_; rintro e w1 ⟨rfl, hst, k1⟩
  have f5 := hst.f5
  have hc : ∃ v, w1.cell? ⟨X.F, 37, none⟩ = some v := by obtain ⟨fp, g, _⟩ := hst.frm; exact ⟨_, by simp [World.cell?, g, frmC]; rfl⟩
  obtain ⟨v, hc⟩ := hc
  have hz := hst.ff 37
  have Hd : Hid (Done X w (isStr X sub s σ) (w1.setCell ⟨X.F, 37, none⟩ (.int .i64 (isM X 36 sub s (List.map Prt.f [⟨257, #[], pString⟩]) σ).rep))) :=
    ⟨hst.setF 37 _ (fun _ => rfl) rfl rfl rfl ⟨hst.gd.op0, hst.gd.op1, hst.gd.vv, hst.gd.fb⟩, ((Kp.alloc _ _ _).trans k1).trans (Kp.setCell _ (Or.inr rfl) _)⟩
  clear hst k1 c
  go_wp2
  go_end0
  exact ⟨rfl, Hd.out⟩

theorem St.fresh1 {X : Cx} {w : World} {σ : Sg} (h : St X w σ) : ¬ X.own (w.heap.size + 1) := by
  have := h.ltS
  have := h.ltF
  rintro (e | e) <;> omega

theorem heap2 (w : World) (a b : Obj) : ((w.alloc a).alloc b).heap[w.heap.size + 1]? = some b := by
  have h := (MapKept.heap_alloc (w.alloc a) b).1
  have e : (w.alloc a).heap.size = w.heap.size + 1 := by simp
  rw [e] at h
  exact h

theorem cell_new (w : World) (v : Value) (t : TypeId) : (w.alloc (.cells #[v] t)).cell? ⟨w.heap.size, 0, none⟩ = some v := by
  have h := (MapKept.heap_alloc w (.cells #[v] t)).1
  unfold World.cell?
  rw [h]
  rfl

end Go.Proofs.YtolnaodlghahlaaGreatDoor
