/- Contracts of what takes several bytes: ModRM, SIB, numbers. -/
import Derived.Test.YtolnaodlghahlaaGreatDoorDecLeaf
import Derived.LoopTactic
import Derived.LoopN
namespace Go.Proofs.YtolnaodlghahlaaGreatDoor
open Go.ChangeShapes Go.WideShapes Go.ChangeAt Go.RowKit
set_option linter.unusedVariables false

def modrm (X : Cx) (σ : Sg) : (Int × Int × Int) × Sg :=
  match σ.fl with
  | some x => (x, σ)
  | none => (((take X σ).1 / 64, (take X σ).1 / 8 % 8, (take X σ).1 % 8), { (take X σ).2 with fl := some ((take X σ).1 / 64, (take X σ).1 / 8 % 8, (take X σ).1 % 8) })

theorem modrm_bd {w : World} {X : Cx} {σ : Sg} (h : St X w σ) : (0 ≤ (modrm X σ).1.1 ∧ (modrm X σ).1.1 < 4) ∧ (0 ≤ (modrm X σ).1.2.1 ∧ (modrm X σ).1.2.1 < 8) ∧ 0 ≤ (modrm X σ).1.2.2 ∧ (modrm X σ).1.2.2 < 8 := by
  unfold modrm
  split
  · rename_i x hx
    obtain ⟨m, n, r⟩ := x
    exact h.gd.fb m n r hx
  · have := take_bd h
    refine ⟨⟨?_, ?_⟩, ⟨?_, ?_⟩, ?_, ?_⟩ <;> simp only <;> omega

def mrV (x : Int × Int × Int) : Array Value := #[.int .i64 x.1, .int .i64 x.2.1, .int .i64 x.2.2]

theorem take_fl (X : Cx) (σ : Sg) : (take X σ).2.fl = σ.fl := by
  unfold take
  split
  · rfl
  · split
    · rfl
    · split <;> rfl

theorem St.mr {X : Cx} {w : World} {σ : Sg} (h : St X w σ) (q : Nat) (hlo : X.lo ≤ q) (hq : ¬ X.own q) (hql : q < w.heap.size) (x y z : Value) (m n r : Int) (b : (0 ≤ m ∧ m < 4) ∧ (0 ≤ n ∧ n < 8) ∧ 0 ≤ r ∧ r < 8) :
    St X (((((w.setCell ⟨X.F, 6, none⟩ (.pointer (some ⟨w.heap.size, 0, none⟩))).setCell ⟨q, 0, none⟩ x).setCell ⟨q, 1, none⟩ y).setCell ⟨q, 2, none⟩ z).alloc (.cells #[.int .i64 m, .int .i64 n, .int .i64 r] 88)) { σ with fl := some (m, n, r) } := by
  obtain ⟨w1, hw1⟩ : ∃ w1, w1 = w.setCell ⟨X.F, 6, none⟩ (.pointer (some ⟨w.heap.size, 0, none⟩)) := ⟨_, rfl⟩
  have k1 : Kp (fun b => b = X.F) w w1 := by rw [hw1]; exact Kp.setCell (S := fun b => b = X.F) w rfl _
  have s1 : w1.heap.size = w.heap.size := by rw [hw1]; simp [World.setCell]
  obtain ⟨fp, hf, h2⟩ := h.frm
  have f1 : w1.heap[X.F]? = some (.cells (frmC X { σ with fl := some (m, n, r) } (.pointer (some ⟨w.heap.size, 0, none⟩))) 55 (0, 0)) := by rw [hw1, heap_set hf]; rfl
  rw [← hw1]
  obtain ⟨w2, hw2⟩ : ∃ w2, w2 = ((w1.setCell ⟨q, 0, none⟩ x).setCell ⟨q, 1, none⟩ y).setCell ⟨q, 2, none⟩ z := ⟨_, rfl⟩
  have k2 : Kp (fun b => b = q) w1 w2 := by
    rw [hw2]
    have a := Kp.setCell (S := fun b => b = q) w1 (p := ⟨q, 0, none⟩) rfl x
    have b := Kp.setCell (S := fun b => b = q) (w1.setCell ⟨q, 0, none⟩ x) (p := ⟨q, 1, none⟩) rfl y
    have c := Kp.setCell (S := fun b => b = q) ((w1.setCell ⟨q, 0, none⟩ x).setCell ⟨q, 1, none⟩ y) (p := ⟨q, 2, none⟩) rfl z
    exact (a.trans b).trans c
  have s2 : w2.heap.size = w.heap.size := by rw [hw2, ← s1]; simp [World.setCell]
  rw [← hw2]
  clear hw1 hw2
  have hS : ¬ X.S = q := fun e => hq (Or.inl e.symm)
  have hF : ¬ X.F = q := fun e => hq (Or.inr e.symm)
  have k3 : Kp (fun b => b = X.F ∨ b = q) w (w2.alloc (.cells #[.int .i64 m, .int .i64 n, .int .i64 r] 88)) :=
    ((k1.mono fun _ _ e => Or.inl e).trans (k2.mono fun _ _ e => Or.inr e)).trans (Kp.alloc _ _ _)
  have hn := (MapKept.heap_alloc w2 (.cells #[.int .i64 m, .int .i64 n, .int .i64 r] 88)).1
  rw [s2] at hn
  refine ⟨h.ne, heap_kept h.src k3 ?_, ⟨_, heap_kept (heap_kept f1 k2 hF) (Kp.alloc (fun _ => False) _ _) id, w.heap.size, rfl, h.fresh, hn⟩, fun j hj => ?_, h.bd, h.lt, h.le, h.lL, h.los, h.lof, ⟨h.gd.op0, h.gd.op1, h.gd.vv, ?_⟩⟩
  · rintro (e | e)
    · exact h.ne e
    · exact hS e
  · obtain ⟨b', o, e, hb, hc⟩ := h.byt j hj
    refine ⟨b', o, e, hb, cell_kept hc k3 ?_⟩
    have := h.lof
    rintro (e | e) <;> omega
  · rintro m' n' r' e
    injection e with e
    injection e with e1 e
    injection e with e2 e3
    subst e1 e2 e3
    exact b

theorem Kp.mr (X : Cx) (w : World) (q : Nat) (p x y z : Value) (o : Obj) : Kp (fun b => b = X.F ∨ b = q) w (((((w.setCell ⟨X.F, 6, none⟩ p).setCell ⟨q, 0, none⟩ x).setCell ⟨q, 1, none⟩ y).setCell ⟨q, 2, none⟩ z).alloc o) := by
  have a := Kp.setCell (S := fun b => b = X.F ∨ b = q) w (p := ⟨X.F, 6, none⟩) (Or.inl rfl) p
  generalize w.setCell ⟨X.F, 6, none⟩ p = w1 at *
  have b := Kp.setCell (S := fun b => b = X.F ∨ b = q) w1 (p := ⟨q, 0, none⟩) (Or.inr rfl) x
  generalize w1.setCell ⟨q, 0, none⟩ x = w2 at *
  have c := Kp.setCell (S := fun b => b = X.F ∨ b = q) w2 (p := ⟨q, 1, none⟩) (Or.inr rfl) y
  generalize w2.setCell ⟨q, 1, none⟩ y = w3 at *
  have d := Kp.setCell (S := fun b => b = X.F ∨ b = q) w3 (p := ⟨q, 2, none⟩) (Or.inr rfl) z
  generalize w3.setCell ⟨q, 2, none⟩ z = w4 at *
  exact (((a.trans b).trans c).trans d).trans (Kp.alloc _ _ _)

set_option maxHeartbeats 1000000 in
theorem modrm_ok (w : World) (X : Cx) (σ : Sg) (h : St X w σ) :
    Calls Tryz.prog 103 #[.pointer (some ⟨X.F, 0, none⟩)] w fun e w' => e = .returned (.agg (mrV (modrm X σ).1)) ∧ Done X w (modrm X σ).2 w' := by
  have c0 := h.f0
  have hF := h.ltF
  have hz := h.ff 6
  obtain ⟨fp, h1, h2⟩ := h.frm
  have c6 : w.cell? ⟨X.F, 6, none⟩ = some fp := by simp [World.cell?, h1, frmC]
  cases hf : σ.fl with
  | some x =>
    have e1 : modrm X σ = (x, σ) := by unfold modrm; rw [hf]
    rw [hf] at h2
    obtain ⟨m, n, r⟩ := x
    obtain ⟨q, rfl, hq, hh⟩ := h2
    have hqs := heap_lt hh
    have d0 : w.cell? ⟨q, 0, none⟩ = some (.int .i64 m) := by simp [World.cell?, hh]
    have d1 : w.cell? ⟨q, 1, none⟩ = some (.int .i64 n) := by simp [World.cell?, hh]
    have d2 : w.cell? ⟨q, 2, none⟩ = some (.int .i64 r) := by simp [World.cell?, hh]
    rw [e1]
    have hd : ∀ o, Done X w σ (w.alloc o) := fun o => ⟨h.alloc o, Kp.alloc _ _ _⟩
    clear hh hq h1 e1 h
    go_enter Tryz.func103, Tryz.ntmps103
    go_wp2
    exact bodyPost_ret (v := .agg (mrV (m, n, r))) (by simp [results, Tryz.results103, go_sem, mrV]) rfl ⟨rfl, hd _⟩
  | none =>
    rw [hf] at h2
    cases h2
    have hw0 : St X (w.alloc (.cells #[.int .i64 0, .int .i64 0, .int .i64 0] 88)) σ := h.alloc _
    have cT := take_ok _ X σ hw0
    have hbd := take_bd h
    have hlow := h.low
    have hfre := h.fresh
    obtain ⟨b, hb⟩ : ∃ b, b = (take X σ).1 := ⟨_, rfl⟩
    obtain ⟨σ1, hσ1⟩ : ∃ σ1, σ1 = (take X σ).2 := ⟨_, rfl⟩
    have e1 : modrm X σ = ((b / 64, b / 8 % 8, b % 8), { σ1 with fl := some (b / 64, b / 8 % 8, b % 8) }) := by unfold modrm; rw [hf, hb, hσ1]
    rw [e1]
    rw [← hb] at hbd cT
    rw [← hσ1] at cT
    obtain ⟨b0, b1⟩ := hbd
    clear e1 hb hw0 h1
    go_enter Tryz.func103, Tryz.ntmps103
    go_wp2_with fail
    refine cT.mono ?_; rintro e w1 ⟨rfl, hst, k1⟩
    have hnew := heap_kept (MapKept.heap_alloc w (.cells #[.int .i64 0, .int .i64 0, .int .i64 0] 88)).1 k1 hfre
    have hnl := heap_lt hnew
    have d0 : w1.cell? ⟨w.heap.size, 0, none⟩ = some (.int .i64 0) := by simp [World.cell?, hnew]
    have d1 : w1.cell? ⟨w.heap.size, 1, none⟩ = some (.int .i64 0) := by simp [World.cell?, hnew]
    have d2 : w1.cell? ⟨w.heap.size, 2, none⟩ = some (.int .i64 0) := by simp [World.cell?, hnew]
    have dz : ∀ j, w1.frozen? ⟨w.heap.size, j, none⟩ = false := fun j => by simp [World.frozen?, hnew]
    have dz0 := dz 0
    have dz1 := dz 1
    have dz2 := dz 2
    have g6 : ∃ v, w1.cell? ⟨X.F, 6, none⟩ = some v := by obtain ⟨fp, g, _⟩ := hst.frm; exact ⟨_, by simp [World.cell?, g, frmC]; rfl⟩
    obtain ⟨v6, g6⟩ := g6
    have gz := hst.ff 6
    have hF1 := hst.ltF
    have hne : ¬ X.F = w.heap.size := by omega
    have hne' : ¬ w.heap.size = X.F := by omega
    have q0 : bits .and .i64 (b / 8) 7 = b / 8 % 8 := and7 _
    have q1 : bits .and .i64 b 7 = b % 8 := and7 _
    have hfin : Done X w { σ1 with fl := some (b / 64, b / 8 % 8, b % 8) } (((((w1.setCell ⟨X.F, 6, none⟩ (.pointer (some ⟨w1.heap.size, 0, none⟩))).setCell ⟨w.heap.size, 0, none⟩ (.int .i64 (b / 64))).setCell ⟨w.heap.size, 1, none⟩ (.int .i64 (b / 8 % 8))).setCell ⟨w.heap.size, 2, none⟩ (.int .i64 (b % 8))).alloc (.cells #[.int .i64 (b / 64), .int .i64 (b / 8 % 8), .int .i64 (b % 8)] 88)) := by
      refine ⟨hst.mr w.heap.size hlow hfre hnl _ _ _ _ _ _ ⟨⟨by omega, by omega⟩, ⟨by omega, by omega⟩, by omega, by omega⟩, ?_⟩
      refine ⟨k1.os, k1.tape, k1.output, ?_, fun i hi hs => ?_⟩
      · have := k1.size
        simp [World.setCell] at this ⊢
        omega
      · have hi' : i < w1.heap.size := by omega
        have ka := Kp.mr X w1 w.heap.size (.pointer (some ⟨w1.heap.size, 0, none⟩)) (.int .i64 (b / 64)) (.int .i64 (b / 8 % 8)) (.int .i64 (b % 8)) (.cells #[.int .i64 (b / 64), .int .i64 (b / 8 % 8), .int .i64 (b % 8)] 88)
        rw [ka.block i hi' (by rintro (e | e); exact hs (Or.inr e); omega), k1.block i (by simp; omega) hs]
        exact Below.heap_alloc _ _ _ hi
    have Hfin : Hid _ := hfin
    clear hfin hst hnew k1
    go_wp2
    exact bodyPost_ret (v := .agg (mrV (b / 64, b / 8 % 8, b % 8))) (by simp [results, Tryz.results103, go_sem, mrV, d0, d1, d2, hnl]) rfl ⟨rfl, Hfin.out⟩

def sibM (X : Cx) (σ : Sg) : (Int × Int × Int) × Sg :=
  let b := (take X σ).1
  (if b / 8 % 8 = 4 then (b % 8, -1, 1) else (b % 8, b / 8 % 8, 2 ^ (b / 64).toNat), (take X σ).2)

theorem shl1 (b : Int) (h0 : 0 ≤ b) (h1 : b < 256) : b / 64 = 0 ∨ b / 64 = 1 ∨ b / 64 = 2 ∨ b / 64 = 3 := by omega

set_option maxHeartbeats 1000000 in
theorem sib_ok (w : World) (X : Cx) (σ : Sg) (h : St X w σ) :
    Calls Tryz.prog 248 #[.pointer (some ⟨X.F, 0, none⟩)] w fun e w' => e = .returned (.tuple #[.int .i64 (sibM X σ).1.1, .int .i64 (sibM X σ).1.2.1, .int .i64 (sibM X σ).1.2.2]) ∧ Done X w (sibM X σ).2 w' := by
  have c0 := h.f0
  have cT := take_ok w X σ h
  have hbd := take_bd h
  have e1 : sibM X σ = (if (take X σ).1 / 8 % 8 = 4 then ((take X σ).1 % 8, -1, 1) else ((take X σ).1 % 8, (take X σ).1 / 8 % 8, 2 ^ ((take X σ).1 / 64).toNat), (take X σ).2) := rfl
  rw [e1]
  generalize (take X σ).1 = b at *
  generalize (take X σ).2 = σ1 at *
  obtain ⟨b0, b1⟩ := hbd
  have q0 : bits .and .i64 (b / 8) 7 = b / 8 % 8 := and7 _
  have q1 : bits .and .i64 b 7 = b % 8 := and7 _
  clear e1
  rcases shl1 b b0 b1 with hs | hs | hs | hs
  all_goals
    by_cases h4 : b / 8 % 8 = 4
    all_goals
      first | rw [if_pos h4] | rw [if_neg h4]
      go_enter Tryz.func248, Tryz.ntmps248
      go_wp2_with fail
      refine cT.mono ?_; rintro e w1 ⟨rfl, hd⟩
      have hd' : ∀ n, Done X w σ1 (w1.drewN n) := fun n => ⟨hd.1.drewN n, hd.2.drewN n⟩
      have Hd : Hid _ := hd'
      clear hd hd' cT
      go_wp2
      go_quiet (fail)
      go_wp2
      go_ret3
      refine ⟨?_, Hd.out _⟩
      simp [*]

end Go.Proofs.YtolnaodlghahlaaGreatDoor
