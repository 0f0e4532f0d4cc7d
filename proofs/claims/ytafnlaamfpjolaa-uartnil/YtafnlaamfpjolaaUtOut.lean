/- The contract of Out. -/
import Derived.Test.YtafnlaamfpjolaaUtIn
import Derived.Test.YtafnlaamfpjolaaUtApp
namespace Go.Proofs.Ytafnlaamfpjolaa
open Go.ChangeShapes Go.WideShapes Go.ChangeAt Go.RowKit
set_option linter.unusedVariables false

section
variable {w : World} {B : Nat} {cv : Option Nat} {sv : Value} {u : U}

/-- Behind a call that may have made blocks. -/
def UOut (w : World) (B : Nat) (cv : Option Nat) (sv : Value) (u : U) (w' : World) : Prop :=
  ∃ cv' sv', UAt w' B cv' sv' u ∧ (∀ k, foot B cv' sv' k → foot B cv sv k ∨ w.heap.size ≤ k) ∧ Kp (foot B cv sv) w w'

theorem Kp.foot {w' : World} (h : Kp (isB B) w w') : Kp (foot B cv sv) w w' := h.mono fun k _ e => .inl e

theorem UAt.out {w' : World} (h : UAt w' B cv sv u) (k : Kp (isB B) w w') : UOut w B cv sv u w' := ⟨cv, sv, h, fun _ g => .inl g, k.foot⟩

theorem out_no (w : World) (x : Option Addr) (n v : Int) (h : x = none ∨ n < 0 ∨ 8 ≤ n) : Calls Try.prog 11 #[.pointer x, .int .i64 n, .int .u8 v] w fun e w' => e = .returned (.int .i64 1) ∧ w' = w := by
  have HH : Hid _ := has_no w x n h
  clear h
  go_enter Try.func11, Try.ntmps11
  go_wp2_with fail
  refine Calls.mono HH.out ?_; rintro e w1 ⟨rfl, hw⟩; replace hw := hw.symm; subst hw
  go_wp2
  go_ret
  exact ⟨rfl, rfl⟩

theorem out_div0 (h : UAt w B cv sv u) (k : u.Ok) (v : Int) (hl : u.lat = true) : Calls Try.prog 11 #[.pointer (some ⟨B, 0, none⟩), .int .i64 0, .int .u8 v] w fun e w' => e = .returned (.int .i64 0) ∧ UOut w B cv sv (u.out 0 v) w' := by
  have HH : Hid _ := has_ok w ⟨B, 0, none⟩ 0 (by decide) (by decide)
  have HD : Hid _ := divides_any h k.line 0
  have cc := h.c5
  have zz := h.fz 5
  have hC : Hid (UAt w B cv sv u) := h
  rw [hl] at HD
  simp only [Bool.true_and, Int.reduceLT, decide_true] at HD
  clear h k
  go_enter Try.func11, Try.ntmps11
  go_wp2_with fail
  refine Calls.mono HH.out ?_; rintro e w1 ⟨rfl, hw⟩; replace hw := hw.symm; subst hw
  go_wp2_with fail
  refine Calls.mono HD.out ?_; rintro e w1 ⟨rfl, hw⟩; replace hw := hw.symm; subst hw
  go_wp2
  go_ret
  refine ⟨rfl, ?_⟩
  have e : u.out 0 v = { u with d0 := v } := by unfold U.out; rw [if_pos rfl, if_pos hl]
  rw [e]
  exact (hC.out.set { u with d0 := v } rfl rfl rfl).out (kpB B _ _ _)

theorem out_div1 (h : UAt w B cv sv u) (k : u.Ok) (v : Int) (hl : u.lat = true) : Calls Try.prog 11 #[.pointer (some ⟨B, 0, none⟩), .int .i64 1, .int .u8 v] w fun e w' => e = .returned (.int .i64 0) ∧ UOut w B cv sv (u.out 1 v) w' := by
  have HH : Hid _ := has_ok w ⟨B, 0, none⟩ 1 (by decide) (by decide)
  have HD : Hid _ := divides_any h k.line 1
  have cc := h.c6
  have zz := h.fz 6
  have hC : Hid (UAt w B cv sv u) := h
  rw [hl] at HD
  simp only [Bool.true_and, Int.reduceLT, decide_true] at HD
  clear h k
  go_enter Try.func11, Try.ntmps11
  go_wp2_with fail
  refine Calls.mono HH.out ?_; rintro e w1 ⟨rfl, hw⟩; replace hw := hw.symm; subst hw
  go_wp2_with fail
  refine Calls.mono HD.out ?_; rintro e w1 ⟨rfl, hw⟩; replace hw := hw.symm; subst hw
  go_wp2
  go_ret
  refine ⟨rfl, ?_⟩
  have e : u.out 1 v = { u with d1 := v } := by unfold U.out; rw [if_neg (by decide), if_pos rfl, if_pos hl]
  rw [e]
  exact (hC.out.set { u with d1 := v } rfl rfl rfl).out (kpB B _ _ _)

theorem out_0 (h : UAt w B cv sv u) (k : u.Ok) (v : Int) (hv : By v) (hl : u.lat = false) (hs : u.sent.length < 140737488355328) : Calls Try.prog 11 #[.pointer (some ⟨B, 0, none⟩), .int .i64 0, .int .u8 v] w fun e w' => e = .returned (.int .i64 0) ∧ UOut w B cv sv (u.out 0 v) w' := by
  have HH : Hid _ := has_ok w ⟨B, 0, none⟩ 0 (by decide) (by decide)
  have HD : Hid _ := divides_any h k.line 0
  have hC : Hid (UAt w B cv sv u) := h
  rw [hl] at HD
  simp only [Bool.false_and] at HD
  have c2 := h.c2
  have z2 := h.fz 2
  obtain ⟨v', w', hr, h2, h3, h4⟩ := appB h.snt v hs
  obtain ⟨pa, ca, ev⟩ := h2.sl
  subst ev
  have HR : Hid _ := hr
  unfold wB at HR
  have h1 : w'.heap[B]? = some (.cells (uC cv sv u) 44 (0, 0)) := heap_kept h.blk h3 (fun e => by obtain ⟨cur, g⟩ := h.snt.lt e; rw [h.blk] at g; simp at g)
  have hch : ChAt w' cv u.came := h.chn.kept h3 (fun c e e' => by subst e; obtain ⟨s, r, g⟩ := h.chn.lt; obtain ⟨cur, g'⟩ := h.snt.lt e'; rw [g] at g'; cases g')
  have c2' : w'.cell? ⟨B, 2, none⟩ = some sv := by simp [World.cell?, h1, uC]
  have c3' : w'.cell? ⟨B, 3, none⟩ = some (.bool u.tell) := by simp [World.cell?, h1, uC]
  have z2' : w'.frozen? ⟨B, 2, none⟩ = false := by simp [World.frozen?, h1]
  have z3' : w'.frozen? ⟨B, 3, none⟩ = false := by simp [World.frozen?, h1]
  have hF : Hid (UOut w B cv sv (u.send v) ((w'.setCell ⟨B, 2, none⟩ (.slice pa (u.sent ++ [v]).length ca)).setCell ⟨B, 3, none⟩ (.bool true))) := by
    have hk := kpB B w' 2 (.slice pa (u.sent ++ [v]).length ca)
    have hne : ∀ g, (Value.slice pa (u.sent ++ [v]).length ca).ownBlock = some g → ¬ isB B g := by
      rintro g e (rfl : g = B)
      obtain ⟨cur, g⟩ := h2.lt e
      rw [h1] at g
      simp at g
    have hcb : ∀ c, cv = some c → ¬ isB B c := by
      rintro c rfl (rfl : c = B)
      obtain ⟨s, r, g⟩ := hch.lt
      rw [h1] at g
      cases g
    have hA : UAt (w'.setCell ⟨B, 2, none⟩ (.slice pa (u.sent ++ [v]).length ca)) B cv (.slice pa (u.sent ++ [v]).length ca) { u with sent := u.sent ++ [v] } := ⟨by rw [heap_set h1]; simp [uC], hch.kept hk hcb, h2.kept hk hne⟩
    refine ⟨cv, (.slice pa (u.sent ++ [v]).length ca), hA.set _ rfl rfl rfl, fun k g => ?_, ?_⟩
    · rcases g with g | g | g
      · exact .inl (.inl g)
      · exact .inl (.inr (.inl g))
      · rcases h4 k g with g | g
        · exact .inl (.inr (.inr g))
        · exact .inr g
    · exact ((h3.mono fun k _ e => .inr (.inr e)).trans hk.foot).trans (kpB B _ _ _).foot
  clear h1 hch h2 h3 h4 hr
  clear h k
  go_enter Try.func11, Try.ntmps11
  go_wp2_with fail
  refine Calls.mono HH.out ?_; rintro e w1 ⟨rfl, hw⟩; replace hw := hw.symm; subst hw
  go_wp2_with fail
  refine Calls.mono HD.out ?_; rintro e w1 ⟨rfl, hw⟩; replace hw := hw.symm; subst hw
  go_wp2_with (at_builtin; refine wpList_appB rfl _ _ rfl rfl rfl rfl HR.out ?_)
  go_ret
  refine ⟨rfl, ?_⟩
  have e : u.out 0 v = u.send v := by unfold U.out; rw [if_pos rfl, if_neg (by rw [hl]; decide)]
  rw [e]
  have hF' := hF.out
  simp only [List.length_append, List.length_singleton] at hF'
  exact hF'

theorem out_1 (h : UAt w B cv sv u) (k : u.Ok) (v : Int) (hv : By v) (hl : u.lat = false) : Calls Try.prog 11 #[.pointer (some ⟨B, 0, none⟩), .int .i64 1, .int .u8 v] w fun e w' => e = .returned (.int .i64 0) ∧ UOut w B cv sv (u.out 1 v) w' := by
  have HH : Hid _ := has_ok w ⟨B, 0, none⟩ 1 (by decide) (by decide)
  have HD : Hid _ := divides_any h k.line 1
  have hC : Hid (UAt w B cv sv u) := h
  rw [hl] at HD
  simp only [Bool.false_and] at HD
  have eb := and15 hv
  have HW : Hid _ := want_ok h k (v % 16) (by omega)
  clear h k
  go_enter Try.func11, Try.ntmps11
  go_wp2_with fail
  refine Calls.mono HH.out ?_; rintro e w1 ⟨rfl, hw⟩; replace hw := hw.symm; subst hw
  go_wp2_with fail
  refine Calls.mono HD.out ?_; rintro e w1 ⟨rfl, hw⟩; replace hw := hw.symm; subst hw
  go_wp2_with fail
  refine Calls.mono HW.out ?_; rintro e w1 ⟨rfl, h1, k1⟩
  go_wp2
  go_ret
  refine ⟨rfl, ?_⟩
  have e : u.out 1 v = u.wants (v % 16) := by unfold U.out; rw [if_neg (by decide), if_pos rfl, if_neg (by rw [hl]; decide)]
  rw [e]
  exact h1.out k1

theorem out_2 (h : UAt w B cv sv u) (k : u.Ok) (v : Int) (hv : By v) : Calls Try.prog 11 #[.pointer (some ⟨B, 0, none⟩), .int .i64 2, .int .u8 v] w fun e w' => e = .returned (.int .i64 0) ∧ UOut w B cv sv (u.out 2 v) w' := by
  have HH : Hid _ := has_ok w ⟨B, 0, none⟩ 2 (by decide) (by decide)
  have HD : Hid _ := divides_any h k.line 2
  have hC : Hid (UAt w B cv sv u) := h
  simp only [Int.reduceLT, decide_false, Bool.and_false] at HD
  have HW : Hid _ := turn_ok h k v hv
  clear h k
  go_enter Try.func11, Try.ntmps11
  go_wp2_with fail
  refine Calls.mono HH.out ?_; rintro e w1 ⟨rfl, hw⟩; replace hw := hw.symm; subst hw
  go_wp2_with fail
  refine Calls.mono HD.out ?_; rintro e w1 ⟨rfl, hw⟩; replace hw := hw.symm; subst hw
  go_wp2_with fail
  refine Calls.mono HW.out ?_; rintro e w1 ⟨rfl, h1, k1⟩
  go_wp2
  go_ret
  refine ⟨rfl, ?_⟩
  obtain ⟨cv', g, h1⟩ := h1
  refine ⟨cv', sv, h1, fun j hj => .inl ?_, k1.foot⟩
  rcases hj with hj | hj | hj
  · exact .inl hj
  · rcases g with rfl | rfl
    · cases hj
    · exact .inr (.inl hj)
  · exact .inr (.inr hj)

theorem out_3 (h : UAt w B cv sv u) (k : u.Ok) (v : Int) (hv : By v) : Calls Try.prog 11 #[.pointer (some ⟨B, 0, none⟩), .int .i64 3, .int .u8 v] w fun e w' => e = .returned (.int .i64 0) ∧ UOut w B cv sv (u.out 3 v) w' := by
  have HH : Hid _ := has_ok w ⟨B, 0, none⟩ 3 (by decide) (by decide)
  have HD : Hid _ := divides_any h k.line 3
  have hC : Hid (UAt w B cv sv u) := h
  simp only [Int.reduceLT, decide_false, Bool.and_false] at HD
  have cc := h.c8
  have zz := h.fz 8
  clear h k
  go_enter Try.func11, Try.ntmps11
  go_wp2_with fail
  refine Calls.mono HH.out ?_; rintro e w1 ⟨rfl, hw⟩; replace hw := hw.symm; subst hw
  go_wp2_with fail
  refine Calls.mono HD.out ?_; rintro e w1 ⟨rfl, hw⟩; replace hw := hw.symm; subst hw
  go_wp2
  go_ret
  refine ⟨rfl, ?_⟩
  exact (hC.out.set (u.out 3 v) rfl rfl rfl).out (kpB B _ _ _)

theorem out_4 (h : UAt w B cv sv u) (k : u.Ok) (v : Int) (hv : By v) : Calls Try.prog 11 #[.pointer (some ⟨B, 0, none⟩), .int .i64 4, .int .u8 v] w fun e w' => e = .returned (.int .i64 0) ∧ UOut w B cv sv (u.out 4 v) w' := by
  have HH : Hid _ := has_ok w ⟨B, 0, none⟩ 4 (by decide) (by decide)
  have HD : Hid _ := divides_any h k.line 4
  have hC : Hid (UAt w B cv sv u) := h
  simp only [Int.reduceLT, decide_false, Bool.and_false] at HD
  have cc := h.c9
  have zz := h.fz 9
  have eb := and31 hv
  clear h k
  go_enter Try.func11, Try.ntmps11
  go_wp2_with fail
  refine Calls.mono HH.out ?_; rintro e w1 ⟨rfl, hw⟩; replace hw := hw.symm; subst hw
  go_wp2_with fail
  refine Calls.mono HD.out ?_; rintro e w1 ⟨rfl, hw⟩; replace hw := hw.symm; subst hw
  go_wp2
  go_ret
  refine ⟨rfl, ?_⟩
  exact (hC.out.set (u.out 4 v) rfl rfl rfl).out (kpB B _ _ _)

theorem out_7 (h : UAt w B cv sv u) (k : u.Ok) (v : Int) (hv : By v) : Calls Try.prog 11 #[.pointer (some ⟨B, 0, none⟩), .int .i64 7, .int .u8 v] w fun e w' => e = .returned (.int .i64 0) ∧ UOut w B cv sv (u.out 7 v) w' := by
  have HH : Hid _ := has_ok w ⟨B, 0, none⟩ 7 (by decide) (by decide)
  have HD : Hid _ := divides_any h k.line 7
  have hC : Hid (UAt w B cv sv u) := h
  simp only [Int.reduceLT, decide_false, Bool.and_false] at HD
  have cc := h.c10
  have zz := h.fz 10
  clear h k
  go_enter Try.func11, Try.ntmps11
  go_wp2_with fail
  refine Calls.mono HH.out ?_; rintro e w1 ⟨rfl, hw⟩; replace hw := hw.symm; subst hw
  go_wp2_with fail
  refine Calls.mono HD.out ?_; rintro e w1 ⟨rfl, hw⟩; replace hw := hw.symm; subst hw
  go_wp2
  go_ret
  refine ⟨rfl, ?_⟩
  exact (hC.out.set (u.out 7 v) rfl rfl rfl).out (kpB B _ _ _)

theorem out_5 (h : UAt w B cv sv u) (k : u.Ok) (v : Int) (hv : By v) : Calls Try.prog 11 #[.pointer (some ⟨B, 0, none⟩), .int .i64 5, .int .u8 v] w fun e w' => e = .returned (.int .i64 0) ∧ UOut w B cv sv (u.out 5 v) w' := by
  have HH : Hid _ := has_ok w ⟨B, 0, none⟩ 5 (by decide) (by decide)
  have HD : Hid _ := divides_any h k.line 5
  have hC : Hid (UAt w B cv sv u) := h
  simp only [Int.reduceLT, decide_false, Bool.and_false] at HD
  clear h k
  go_enter Try.func11, Try.ntmps11
  go_wp2_with fail
  refine Calls.mono HH.out ?_; rintro e w1 ⟨rfl, hw⟩; replace hw := hw.symm; subst hw
  go_wp2_with fail
  refine Calls.mono HD.out ?_; rintro e w1 ⟨rfl, hw⟩; replace hw := hw.symm; subst hw
  go_wp2
  go_ret
  refine ⟨rfl, ?_⟩
  exact hC.out.out (Kp.refl _ _)

theorem out_6 (h : UAt w B cv sv u) (k : u.Ok) (v : Int) (hv : By v) : Calls Try.prog 11 #[.pointer (some ⟨B, 0, none⟩), .int .i64 6, .int .u8 v] w fun e w' => e = .returned (.int .i64 0) ∧ UOut w B cv sv (u.out 6 v) w' := by
  have HH : Hid _ := has_ok w ⟨B, 0, none⟩ 6 (by decide) (by decide)
  have HD : Hid _ := divides_any h k.line 6
  have hC : Hid (UAt w B cv sv u) := h
  simp only [Int.reduceLT, decide_false, Bool.and_false] at HD
  clear h k
  go_enter Try.func11, Try.ntmps11
  go_wp2_with fail
  refine Calls.mono HH.out ?_; rintro e w1 ⟨rfl, hw⟩; replace hw := hw.symm; subst hw
  go_wp2_with fail
  refine Calls.mono HD.out ?_; rintro e w1 ⟨rfl, hw⟩; replace hw := hw.symm; subst hw
  go_wp2
  go_ret
  refine ⟨rfl, ?_⟩
  exact hC.out.out (Kp.refl _ _)

theorem out_ok (h : UAt w B cv sv u) (k : u.Ok) (n v : Int) (n0 : 0 ≤ n) (n1 : n < 8) (hv : By v) (hs : u.sent.length < 140737488355328) : Calls Try.prog 11 #[.pointer (some ⟨B, 0, none⟩), .int .i64 n, .int .u8 v] w fun e w' => e = .returned (.int .i64 0) ∧ UOut w B cv sv (u.out n v) w' := by
  rcases (by omega : n = 0 ∨ n = 1 ∨ n = 2 ∨ n = 3 ∨ n = 4 ∨ n = 5 ∨ n = 6 ∨ n = 7) with rfl | rfl | rfl | rfl | rfl | rfl | rfl | rfl
  · cases e : u.lat
    · exact out_0 h k v hv e hs
    · exact out_div0 h k v e
  · cases e : u.lat
    · exact out_1 h k v hv e
    · exact out_div1 h k v e
  · exact out_2 h k v hv
  · exact out_3 h k v hv
  · exact out_4 h k v hv
  · exact out_5 h k v hv
  · exact out_6 h k v hv
  · exact out_7 h k v hv
end
end Go.Proofs.Ytafnlaamfpjolaa
