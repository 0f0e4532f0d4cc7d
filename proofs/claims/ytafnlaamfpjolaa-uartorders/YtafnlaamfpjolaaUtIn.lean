/- The contracts of read, In, Sent, Line, New. -/
import Derived.Test.YtafnlaamfpjolaaUtMid
import Derived.Test.YtafnlaamfpjolaaUtTake
namespace Go.Proofs.Ytafnlaamfpjolaa
open Go.ChangeShapes Go.WideShapes Go.ChangeAt Go.RowKit
set_option linter.unusedVariables false

/-- The port's block and its channel's. -/
def isBC (B : Nat) (cv : Option Nat) (k : Nat) : Prop := k = B ∨ cv = some k

theorem Kp.bc {B : Nat} {cv : Option Nat} {w w' : World} (h : Kp (isB B) w w') : Kp (isBC B cv) w w' := h.mono fun k _ e => .inl e
theorem Kp.bc' {B : Nat} {cv : Option Nat} {w w' : World} (h : Kp (isC cv) w w') : Kp (isBC B cv) w w' := h.mono fun k _ e => .inr e

section
variable {w : World} {B : Nat} {cv : Option Nat} {sv : Value} {u : U}

/-- What 'read' tells, and what it leaves. -/
def U.rdV (u : U) (n : Int) : Int := if n = 0 then u.first else if n = 1 then u.want else if n = 2 then u.told else if n = 3 then u.line else if n = 4 then u.modem else if n = 5 then u.status else if n = 6 then 176 else u.jot
def U.rd (u : U) (n : Int) : U := if n = 0 then u.took else if n = 2 then u.telling else if n = 5 then { u with lost := false } else u

theorem read_0 (h : UAt w B cv sv u) (k : u.Ok) : Calls Try.prog 25 #[.pointer (some ⟨B, 0, none⟩), .int .i64 0] w fun e w' => e = .returned (.int .u8 (u.rdV 0)) ∧ UAt w' B cv sv (u.rd 0) ∧ Kp (isBC B cv) w w' := by
  have HT : Hid _ := take_ok h
  clear h k
  go_enter Try.func25, Try.ntmps25
  go_wp2_with fail
  refine Calls.mono HT.out ?_; rintro e w1 ⟨rfl, h1, k1⟩
  go_wp2
  go_ret
  exact ⟨rfl, h1, k1.bc'⟩

theorem read_1 (h : UAt w B cv sv u) (k : u.Ok) : Calls Try.prog 25 #[.pointer (some ⟨B, 0, none⟩), .int .i64 1] w fun e w' => e = .returned (.int .u8 (u.rdV 1)) ∧ UAt w' B cv sv (u.rd 1) ∧ Kp (isBC B cv) w w' := by
  have cc := h.c7
  have hC : Hid (UAt w B cv sv u) := h
  clear h k
  go_enter Try.func25, Try.ntmps25
  go_wp2
  go_ret
  exact ⟨rfl, hC.out, Kp.refl _ _⟩

theorem read_2 (h : UAt w B cv sv u) (k : u.Ok) : Calls Try.prog 25 #[.pointer (some ⟨B, 0, none⟩), .int .i64 2] w fun e w' => e = .returned (.int .u8 (u.rdV 2)) ∧ UAt w' B cv sv (u.rd 2) ∧ Kp (isBC B cv) w w' := by
  have HT : Hid _ := tell_ok h k
  clear h k
  go_enter Try.func25, Try.ntmps25
  go_wp2_with fail
  refine Calls.mono HT.out ?_; rintro e w1 ⟨rfl, h1, k1⟩
  go_wp2
  go_ret
  exact ⟨rfl, h1, k1.bc⟩

theorem read_3 (h : UAt w B cv sv u) (k : u.Ok) : Calls Try.prog 25 #[.pointer (some ⟨B, 0, none⟩), .int .i64 3] w fun e w' => e = .returned (.int .u8 (u.rdV 3)) ∧ UAt w' B cv sv (u.rd 3) ∧ Kp (isBC B cv) w w' := by
  have cc := h.c8
  have hC : Hid (UAt w B cv sv u) := h
  clear h k
  go_enter Try.func25, Try.ntmps25
  go_wp2
  go_ret
  exact ⟨rfl, hC.out, Kp.refl _ _⟩

theorem read_4 (h : UAt w B cv sv u) (k : u.Ok) : Calls Try.prog 25 #[.pointer (some ⟨B, 0, none⟩), .int .i64 4] w fun e w' => e = .returned (.int .u8 (u.rdV 4)) ∧ UAt w' B cv sv (u.rd 4) ∧ Kp (isBC B cv) w w' := by
  have cc := h.c9
  have hC : Hid (UAt w B cv sv u) := h
  clear h k
  go_enter Try.func25, Try.ntmps25
  go_wp2
  go_ret
  exact ⟨rfl, hC.out, Kp.refl _ _⟩

theorem read_5 (h : UAt w B cv sv u) (k : u.Ok) : Calls Try.prog 25 #[.pointer (some ⟨B, 0, none⟩), .int .i64 5] w fun e w' => e = .returned (.int .u8 (u.rdV 5)) ∧ UAt w' B cv sv (u.rd 5) ∧ Kp (isBC B cv) w w' := by
  have HT : Hid _ := status_ok h
  clear h k
  go_enter Try.func25, Try.ntmps25
  go_wp2_with fail
  refine Calls.mono HT.out ?_; rintro e w1 ⟨rfl, h1, k1⟩
  go_wp2
  go_ret
  exact ⟨rfl, h1, k1.bc⟩

theorem read_6 (h : UAt w B cv sv u) (k : u.Ok) : Calls Try.prog 25 #[.pointer (some ⟨B, 0, none⟩), .int .i64 6] w fun e w' => e = .returned (.int .u8 (u.rdV 6)) ∧ UAt w' B cv sv (u.rd 6) ∧ Kp (isBC B cv) w w' := by
  have hC : Hid (UAt w B cv sv u) := h
  clear h k
  go_enter Try.func25, Try.ntmps25
  go_wp2
  go_ret
  exact ⟨rfl, hC.out, Kp.refl _ _⟩

theorem read_7 (h : UAt w B cv sv u) (k : u.Ok) : Calls Try.prog 25 #[.pointer (some ⟨B, 0, none⟩), .int .i64 7] w fun e w' => e = .returned (.int .u8 (u.rdV 7)) ∧ UAt w' B cv sv (u.rd 7) ∧ Kp (isBC B cv) w w' := by
  have cc := h.c10
  have hC : Hid (UAt w B cv sv u) := h
  clear h k
  go_enter Try.func25, Try.ntmps25
  go_wp2
  go_ret
  exact ⟨rfl, hC.out, Kp.refl _ _⟩

theorem read_ok (h : UAt w B cv sv u) (k : u.Ok) (n : Int) (n0 : 0 ≤ n) (n1 : n < 8) : Calls Try.prog 25 #[.pointer (some ⟨B, 0, none⟩), .int .i64 n] w fun e w' => e = .returned (.int .u8 (u.rdV n)) ∧ UAt w' B cv sv (u.rd n) ∧ Kp (isBC B cv) w w' := by
  rcases (by omega : n = 0 ∨ n = 1 ∨ n = 2 ∨ n = 3 ∨ n = 4 ∨ n = 5 ∨ n = 6 ∨ n = 7) with rfl | rfl | rfl | rfl | rfl | rfl | rfl | rfl
  · exact read_0 h k
  · exact read_1 h k
  · exact read_2 h k
  · exact read_3 h k
  · exact read_4 h k
  · exact read_5 h k
  · exact read_6 h k
  · exact read_7 h k

theorem in_no (w : World) (x : Option Addr) (n : Int) (h : x = none ∨ n < 0 ∨ 8 ≤ n) : Calls Try.prog 13 #[.pointer x, .int .i64 n] w fun e w' => e = .returned (.tuple #[.int .u8 0, .int .i64 1]) ∧ w' = w := by
  have HH : Hid _ := has_no w x n h
  clear h
  go_enter Try.func13, Try.ntmps13
  go_wp2_with fail
  refine Calls.mono HH.out ?_; rintro e w1 ⟨rfl, hw⟩; replace hw := hw.symm; subst hw
  go_wp2
  go_ret2
  exact ⟨rfl, rfl⟩

theorem in_div (h : UAt w B cv sv u) (k : u.Ok) (n : Int) (hn : n = 0 ∨ n = 1) (hl : u.lat = true) : Calls Try.prog 13 #[.pointer (some ⟨B, 0, none⟩), .int .i64 n] w fun e w' => e = .returned (.tuple #[.int .u8 (u.inV n), .int .i64 0]) ∧ w' = w := by
  have HH : Hid _ := has_ok w ⟨B, 0, none⟩ n (by omega) (by omega)
  have HD : Hid _ := divides_any h k.line n
  have c5 := h.c5
  have c6 := h.c6
  unfold U.inV
  rw [hl] at HD ⊢
  clear h k
  rcases hn with rfl | rfl
  · simp only [Bool.true_and, Int.reduceLT, decide_true] at HD
    go_enter Try.func13, Try.ntmps13
    go_wp2_with fail
    refine Calls.mono HH.out ?_; rintro e w1 ⟨rfl, hw⟩; replace hw := hw.symm; subst hw
    go_wp2_with fail
    refine Calls.mono HD.out ?_; rintro e w1 ⟨rfl, hw⟩; replace hw := hw.symm; subst hw
    go_wp2
    go_ret2
    exact ⟨rfl, rfl⟩
  · simp only [Bool.true_and, Int.reduceLT, decide_true] at HD
    go_enter Try.func13, Try.ntmps13
    go_wp2_with fail
    refine Calls.mono HH.out ?_; rintro e w1 ⟨rfl, hw⟩; replace hw := hw.symm; subst hw
    go_wp2_with fail
    refine Calls.mono HD.out ?_; rintro e w1 ⟨rfl, hw⟩; replace hw := hw.symm; subst hw
    go_wp2
    go_ret2
    exact ⟨rfl, rfl⟩

theorem in_reg (h : UAt w B cv sv u) (k : u.Ok) (n : Int) (n0 : 0 ≤ n) (n1 : n < 8) (hl : (u.lat && decide (n < 2)) = false) : Calls Try.prog 13 #[.pointer (some ⟨B, 0, none⟩), .int .i64 n] w fun e w' => e = .returned (.tuple #[.int .u8 (u.rdV n), .int .i64 0]) ∧ UAt w' B cv sv (u.rd n) ∧ Kp (isBC B cv) w w' := by
  have HH : Hid _ := has_ok w ⟨B, 0, none⟩ n n0 n1
  have HD : Hid _ := divides_any h k.line n
  have HR : Hid _ := read_ok h k n n0 n1
  rw [hl] at HD
  clear h k
  go_enter Try.func13, Try.ntmps13
  go_wp2_with fail
  refine Calls.mono HH.out ?_; rintro e w1 ⟨rfl, hw⟩; replace hw := hw.symm; subst hw
  go_wp2_with fail
  refine Calls.mono HD.out ?_; rintro e w1 ⟨rfl, hw⟩; replace hw := hw.symm; subst hw
  go_wp2_with fail
  refine Calls.mono HR.out ?_; rintro e w1 ⟨rfl, h1, k1⟩
  go_wp2
  go_ret2
  exact ⟨rfl, h1, k1⟩

theorem rd_in {u : U} {n : Int} (n0 : 0 ≤ n) (hl : (u.lat && decide (n < 2)) = false) : u.rdV n = u.inV n ∧ u.rd n = u.inn n := by
  unfold U.rdV U.rd U.inV U.inn
  by_cases e0 : n = 0
  · subst e0
    have : ¬ u.lat = true := by intro e; rw [e] at hl; simp at hl
    simp [this]
  · by_cases e1 : n = 1
    · subst e1
      have : ¬ u.lat = true := by intro e; rw [e] at hl; simp at hl
      simp [this]
    · simp [e0, e1]

theorem in_ok (h : UAt w B cv sv u) (k : u.Ok) (n : Int) (n0 : 0 ≤ n) (n1 : n < 8) : Calls Try.prog 13 #[.pointer (some ⟨B, 0, none⟩), .int .i64 n] w fun e w' => e = .returned (.tuple #[.int .u8 (u.inV n), .int .i64 0]) ∧ UAt w' B cv sv (u.inn n) ∧ Kp (isBC B cv) w w' := by
  cases e : (u.lat && decide (n < 2))
  · obtain ⟨e1, e2⟩ := rd_in n0 e
    rw [← e1, ← e2]
    exact in_reg h k n n0 n1 e
  · simp only [Bool.and_eq_true, decide_eq_true_eq] at e
    have en : u.inn n = u := by
      unfold U.inn
      by_cases e0 : n = 0
      · rw [if_pos e0, if_pos e.1]
      · rw [if_neg e0, if_neg (by omega), if_neg (by omega)]
    rw [en]
    exact (in_div h k n (by omega) e.1).mono fun e w' ⟨a, b⟩ => ⟨a, b ▸ h, b ▸ Kp.refl _ _⟩

theorem sent_nil (w : World) : Calls Try.prog 17 #[.pointer none] w fun e w' => e = .returned (.slice none 0 0) ∧ w' = w := by
  go_enter Try.func17, Try.ntmps17
  go_wp2
  go_ret
  exact ⟨rfl, rfl⟩

theorem sent_ok (h : UAt w B cv sv u) : Calls Try.prog 17 #[.pointer (some ⟨B, 0, none⟩)] w fun e w' => e = .returned sv ∧ UAt w' B cv (.slice none 0 0) u.hush ∧ Kp (isB B) w w' := by
  have c2 := h.c2
  have z2 := h.fz 2
  have hC : Hid (UAt w B cv sv u) := h
  clear h
  go_enter Try.func17, Try.ntmps17
  go_wp2
  go_ret
  exact ⟨rfl, hC.out.put cv (.slice none 0 0) u.hush rfl hC.out.chn (OwnB.nil _), kpB B _ _ _⟩

theorem line_nil (w : World) : Calls Try.prog 19 #[.pointer none] w fun e w' => e = .returned (.bool false) ∧ w' = w := by
  go_enter Try.func19, Try.ntmps19
  go_wp2
  go_ret
  exact ⟨rfl, rfl⟩

theorem line_ok (h : UAt w B cv sv u) (k : u.Ok) : Calls Try.prog 19 #[.pointer (some ⟨B, 0, none⟩)] w fun e w' => e = .returned (.bool u.ln) ∧ w' = w := by
  have HT : Hid _ := cause_any h k
  unfold U.ln
  clear h k
  go_enter Try.func19, Try.ntmps19
  go_wp2_with fail
  refine Calls.mono HT.out ?_; rintro e w1 ⟨rfl, hw⟩; replace hw := hw.symm; subst hw
  go_wp2
  go_ret
  exact ⟨rfl, rfl⟩
end

def uz : Array Value := uC none (.slice none 0 0) u0

theorem new_ok (w : World) : Calls Try.prog 9 #[] w fun e w' => e = .returned (.pointer (some ⟨w.heap.size, 0, none⟩)) ∧ UAt w' w.heap.size none (.slice none 0 0) u0 ∧ Kp noB w w' := by
  have h0 : Hid (UAt (w.alloc (.cells uz 44)) w.heap.size none (.slice none 0 0) u0) := ⟨heap_new _ _, .no, OwnB.nil _⟩
  have k0 : Hid (Kp noB w (w.alloc (.cells uz 44))) := Kp.alloc _ _ _
  go_enter Try.func9, Try.ntmps9
  go_wp2
  go_ret
  exact ⟨rfl, h0.out, k0.out⟩
end Go.Proofs.Ytafnlaamfpjolaa
