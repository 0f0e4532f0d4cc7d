/- The bus and its devices: UrAll. -/
import Derived.Test.YtonfjhbfkichkaaGreatBz31
namespace Go.Proofs.YtonfjhbfkichkaaGreat.Ut
open Go.ChangeShapes Go.WideShapes Go.ChangeAt Go.RowKit
set_option linter.unusedVariables false
set_option maxRecDepth 20000
section
variable {w : World} {R : Nat} {cq sv : Value} {u : U}
theorem rpush_lost (h : RAt w R cq sv u) (b : Int) (hr : ¬ u.came.length < u.room) : Calls Tryz.prog 84 #[.pointer (some ⟨R, 0, none⟩), .int .u8 b] w fun e w' => e = .returned (.tuple #[]) ∧ ROut w R cq sv (u.push b) w' := by
 have c0 := h.c0
 have c1 := h.c1
 have c8 := h.c8
 have z1 := h.fz 1
 obtain ⟨p, c, rfl⟩ := h.chn.sl
 have hC : Hid (RAt w R _ sv u) := h
 have e : u.push b = { u with lost := true } := by unfold U.push; rw [if_neg hr]
 rw [e]
 unfold U.room at hr
 clear h e
 have fin : Hid (ROut w R (.slice p u.came.length c) sv { u with lost := true } (w.setCell ⟨R, 1, none⟩ (.bool true))) := (hC.out.set { u with lost := true } rfl rfl rfl).out (kpB R _ _ _)
 generalize { u with lost := true } = u' at fin ⊢
 generalize u.came.length = n at c0 hr fin ⊢
 cases eo : u.on
 ·rw [eo] at c8 hr
  rw [if_neg (by decide)] at hr
  have h1 : (1 : Int) ≤ n := by omega
  have h2 : 1 ≤ n := by omega
  have h3 : decide (1 ≤ n) = true := by simp; omega
  clear hr
  go_enter Tryz.func84, Tryz.ntmps84
  go_wp2
  refine bodyPost_ret (results_none rfl _ _ _) rfl ?_
  exact ⟨rfl, fin.out⟩
 ·rw [eo] at c8 hr
  rw [if_pos rfl] at hr
  have h1 : (16 : Int) ≤ n := by omega
  have h2 : 16 ≤ n := by omega
  have h3 : decide (16 ≤ n) = true := by simp; omega
  clear hr
  go_enter Tryz.func84, Tryz.ntmps84
  go_wp2
  refine bodyPost_ret (results_none rfl _ _ _) rfl ?_
  exact ⟨rfl, fin.out⟩
theorem rpush_room (h : RAt w R cq sv u) (b : Int) (hr : u.came.length < u.room) : Calls Tryz.prog 84 #[.pointer (some ⟨R, 0, none⟩), .int .u8 b] w fun e w' => e = .returned (.tuple #[]) ∧ ROut w R cq sv (u.push b) w' := by
 have c0 := h.c0
 have c8 := h.c8
 have h16 : u.came.length < 16 := by unfold U.room at hr; split at hr <;> omega
 obtain ⟨v', w', hrun, h2, h3, h4⟩ := appQ h.chn b h16
 obtain ⟨pa, ca, ev⟩ := h2.sl
 rw [List.length_append, List.length_singleton] at ev
 subst ev
 have HR : Hid _ := hrun
 unfold wB at HR
 have h1 : w'.heap[R]? = some (.cells (rC cq sv u) 149 (0, 0)) := heap_kept h.blk h3 (fun e => off_row h.blk (h.chn.lt e) rfl)
 have hsn : OwnB w' sv u.sent := h.snt.kept h3 (fun g e e' => h.apart g e' e)
 have c0' : w'.cell? ⟨R, 0, none⟩ = some cq := by simp [World.cell?, h1, rC]
 have z0' : w'.frozen? ⟨R, 0, none⟩ = false := by simp [World.frozen?, h1]
 have hap : ∀ g, (Value.slice pa (u.came.length + 1) ca).ownBlock = some g → sv.ownBlock ≠ some g := fun g e e' => by
  rcases h4 g e with f | f
  ·exact h.apart g f e'
  ·obtain ⟨cur, hc⟩ := h.snt.lt e'
   have := heap_lt hc
   omega
 have e : u.push b = { u with came := u.came ++ [b] } := by unfold U.push; rw [if_pos hr]
 have hF : Hid (ROut w R cq sv (u.push b) (w'.setCell ⟨R, 0, none⟩ (.slice pa (u.came.length + 1) ca))) := by
  have hk := kpB R w' 0 (.slice pa (u.came.length + 1) ca)
  rw [e]
  have hA : RAt (w'.setCell ⟨R, 0, none⟩ (.slice pa (u.came.length + 1) ca)) R (.slice pa (u.came.length + 1) ca) sv { u with came := u.came ++ [b] } := ⟨by rw [heap_set h1]; simp [rC], h2.kept hk (fun g e => off_row h1 (h2.lt e)), hsn.kept hk (fun g e => off_row h1 (hsn.lt e)), hap⟩
  refine ⟨_, sv, hA, fun k g => ?_, ?_⟩
  ·rcases g with g | g | g
   ·exact .inl (.inl g)
   ·rcases h4 k g with g | g
    ·exact .inl (.inr (.inl g))
    ·exact .inr g
   ·exact .inl (.inr (.inr g))
  ·exact (h3.mono fun k _ e => .inr (.inl e)).trans hk.rfoot
 obtain ⟨p0, c0x, e0⟩ := h.chn.sl
 subst e0
 clear h1 hsn h2 h3 h4 hrun hap h e h16
 generalize u.push b = u' at hF ⊢
 unfold U.room at hr
 generalize u.came.length = n at *
 cases eo : u.on
 ·rw [eo] at c8 hr
  rw [if_neg (by decide)] at hr
  have h1 : ¬ (1 : Int) ≤ n := by omega
  have h2 : ¬ 1 ≤ n := by omega
  have h3 : decide (1 ≤ n) = false := by simp; omega
  clear hr
  go_enter Tryz.func84, Tryz.ntmps84
  go_wp2_with (at_builtin; refine wpList_appB rfl _ _ rfl rfl rfl rfl HR.out ?_)
  go_end0
  exact ⟨rfl, hF.out⟩
 ·rw [eo] at c8 hr
  rw [if_pos rfl] at hr
  have h1 : ¬ (16 : Int) ≤ n := by omega
  have h2 : ¬ 16 ≤ n := by omega
  have h3 : decide (16 ≤ n) = false := by simp; omega
  clear hr
  go_enter Tryz.func84, Tryz.ntmps84
  go_wp2_with (at_builtin; refine wpList_appB rfl _ _ rfl rfl rfl rfl HR.out ?_)
  go_end0
  exact ⟨rfl, hF.out⟩
end
section
variable {w : World} {S : Nat → Prop} {R : Nat} {u : U}
def RNx (w : World) (S : Nat → Prop) (R : Nat) (u : U) (w' : World) : Prop := ∃ S', RW w' S' R u ∧ Nxt w S w' S'
theorem rfoot_lt {w : World} {cq sv : Value} (h : RAt w R cq sv u) {k : Nat} (g : rfoot R cq sv k) : k < w.heap.size := by
 rcases g with rfl | g | g
 ·exact h.lt
 ·obtain ⟨cur, e⟩ := h.chn.lt g
  exact heap_lt e
 ·obtain ⟨cur, e⟩ := h.snt.lt g
  exact heap_lt e
theorem RNx.of {w' : World} {cq sv : Value} {u' : U} (h2 : ∀ k, rfoot R cq sv k → S k) (h : ROut w R cq sv u' w') : RNx w S R u' w' := by
 obtain ⟨cq', sv', b1, b2, b3⟩ := h
 refine ⟨fun k => k < w'.heap.size ∧ (S k ∨ w.heap.size ≤ k), ⟨⟨cq', sv', b1, fun k g => ⟨rfoot_lt b1 g, ?_⟩⟩, fun k g => g.1⟩, ⟨fun k g => g.2, b3.mono fun j _ hj => h2 j hj⟩⟩
 rcases b2 k g with f | f
 ·exact .inl (h2 k f)
 ·exact .inr f
theorem RNx.same {w' : World} (h : RW w S R u) (e : w' = w) : RNx w S R u w' := by
 subst e
 exact ⟨S, h, fun _ f => .inl f, Kp.refl _ _⟩
theorem xOut (h : RW w S R u) (k : u.Ok) (n v : Int) (hv : By v) (hs : u.sent.length < 140737488355328) : Calls Tryz.prog 128 #[.pointer (some ⟨R, 0, none⟩), .int .i64 n, .int .u8 v] w fun e w' => e = .returned (.int .i64 (if 0 ≤ n ∧ n < 8 then 0 else 1)) ∧ RNx w S R (if 0 ≤ n ∧ n < 8 then u.out n v else u) w' := by
 obtain ⟨cv, sv, h1, h2⟩ := h.ex
 by_cases g : 0 ≤ n ∧ n < 8
 ·rw [if_pos g, if_pos g]
  exact (rwrite_ok h1 k n v g.1 g.2 hv hs).mono fun e w' ⟨a, b⟩ => ⟨a, .of h2 b⟩
 ·rw [if_neg g, if_neg g]
  exact (rwrite_no h1 n v (by omega)).mono fun e w' ⟨a, b⟩ => ⟨a, .same h b⟩
theorem xIn (h : RW w S R u) (k : u.Ok) (n : Int) : Calls Tryz.prog 132 #[.pointer (some ⟨R, 0, none⟩), .int .i64 n] w fun e w' => e = .returned (.tuple #[.int .u8 (if 0 ≤ n ∧ n < 8 then u.inV n else 0), .int .i64 (if 0 ≤ n ∧ n < 8 then 0 else 1)]) ∧ RNx w S R (if 0 ≤ n ∧ n < 8 then u.inn n else u) w' := by
 obtain ⟨cv, sv, h1, h2⟩ := h.ex
 by_cases g : 0 ≤ n ∧ n < 8
 ·rw [if_pos g, if_pos g, if_pos g]
  exact (rread_ok h1 k n g.1 g.2).mono fun e w' ⟨a, b⟩ => ⟨a, .of h2 b⟩
 ·rw [if_neg g, if_neg g, if_neg g]
  exact (rread_no h1 n (by omega)).mono fun e w' ⟨a, b⟩ => ⟨a, .same h b⟩
theorem xPush (h : RW w S R u) (b : Int) : Calls Tryz.prog 84 #[.pointer (some ⟨R, 0, none⟩), .int .u8 b] w fun e w' => e = .returned (.tuple #[]) ∧ RNx w S R (u.push b) w' := by
 obtain ⟨cv, sv, h1, h2⟩ := h.ex
 by_cases g : u.came.length < u.room
 ·exact (rpush_room h1 b g).mono fun e w' ⟨a, b⟩ => ⟨a, .of h2 b⟩
 ·exact (rpush_lost h1 b g).mono fun e w' ⟨a, b⟩ => ⟨a, .of h2 b⟩
theorem xLine (h : RW w S R u) (k : u.Ok) : Calls Tryz.prog 77 #[.pointer (some ⟨R, 0, none⟩)] w fun e w' => e = .returned (.bool u.ln) ∧ w' = w := by
 obtain ⟨cv, sv, h1, h2⟩ := h.ex
 exact rline_any h1 k
theorem xSent (h : RW w S R u) : ∃ p c, OwnB w (.slice p u.sent.length c) u.sent ∧ (∀ g, (Value.slice p u.sent.length c).ownBlock = some g → S g) ∧ Calls Tryz.prog 49 #[.pointer (some ⟨R, 0, none⟩)] w fun e w' => e = .returned (.slice p u.sent.length c) ∧ OwnB w' (.slice p u.sent.length c) u.sent ∧ ∃ S', RW w' S' R u.hush ∧ Nxt w S w' S' ∧ (∀ k, S' k → S k) := by
 obtain ⟨cq, sv, h1, h2⟩ := h.ex
 obtain ⟨p, c, es⟩ := h1.snt.sl
 subst es
 refine ⟨p, c, h1.snt, fun g e => h2 g (.inr (.inr e)), (rsent_ok h1).mono fun e w' ⟨a, b1, b3⟩ => ⟨a, h1.snt.kept b3 (fun g e => off_row h1.blk (h1.snt.lt e)), S, ⟨⟨cq, _, b1, fun k g => ?_⟩, fun k g => Nat.lt_of_lt_of_le (h.lt k g) b3.size⟩, ⟨fun k g => .inl g, b3.mono fun j _ hj => h2 j (.inl hj)⟩, fun k g => g⟩⟩
 rcases g with g | g | g
 ·exact h2 k (.inl g)
 ·exact h2 k (.inr (.inl g))
 ·cases g
end
theorem xNew (w : World) : Calls Tryz.prog 33 #[] w fun e w' => ∃ R S, e = .returned (.pointer (some ⟨R, 0, none⟩)) ∧ RW w' S R u0 ∧ (∀ k, S k → w.heap.size ≤ k) ∧ Kp noB w w' := by
 refine (rnew_ok w).mono fun e w' ⟨a, b1, b3⟩ => ⟨w.heap.size, fun k => k = w.heap.size, a, ⟨⟨_, _, b1, fun k g => ?_⟩, fun k g => ?_⟩, fun k g => by omega, b3⟩
 ·rcases g with g | g | g
  ·exact g
  ·cases g
  ·cases g
 ·have := b1.lt
  omega
end Go.Proofs.YtonfjhbfkichkaaGreat.Ut
