/- The walk of UartLatches. -/
import Derived.Test.YtafnlaamfpjolaaUtAwake
import Derived.Test.YtafnlaamfpjolaaUartNilLaw
namespace Go.Proofs.Ytafnlaamfpjolaa
open Go.ChangeShapes Go.WideShapes Go.ChangeAt Go.RowKit
set_option linter.unusedVariables false

theorem wOut' {w : World} {S : Nat → Prop} {B : Nat} {u u' : U} (k : u.Ok) (n v : Int) (hn : 0 ≤ n ∧ n < 8) (hv : By v) (hs : u.sent.length < 140737488355328) (e : u.out n v = u') (h : UW w S B u) : Calls Try.prog 11 #[.pointer (some ⟨B, 0, none⟩), .int .i64 n, .int .u8 v] w fun e w' => e = .returned (.int .i64 0) ∧ UNx w S B u' w' := by
  have := wOut h k n v hv hs
  rw [if_pos hn, if_pos hn, e] at this
  exact this

theorem wIn' {w : World} {S : Nat → Prop} {B : Nat} {u u' : U} (k : u.Ok) (n x : Int) (hn : 0 ≤ n ∧ n < 8) (ex : u.inV n = x) (e : u.inn n = u') (h : UW w S B u) : Calls Try.prog 13 #[.pointer (some ⟨B, 0, none⟩), .int .i64 n] w fun e w' => e = .returned (.tuple #[.int .u8 x, .int .i64 0]) ∧ UNx w S B u' w' := by
  have := wIn h k n
  rw [if_pos hn, if_pos hn, if_pos hn, ex, e] at this
  exact this

theorem wSent' {w : World} {S : Nat → Prop} {B : Nat} {u u' : U} (l : List Int) (el : u.sent = l) (e : u.hush = u') (h : UW w S B u) : Calls Try.prog 17 #[.pointer (some ⟨B, 0, none⟩)] w fun e w' => ∃ p c, e = .returned (.slice p l.length c) ∧ ∃ S', UW w' S' B u' ∧ Nxt w S w' S' ∧ Aside w' S' (.slice p l.length c) l ∧ (∀ g, (Value.slice p l.length c).ownBlock = some g → S g) := by
  have := wSent h
  subst el e
  exact this

section
variable (lo hi x y : Int)
def v1 : U := ⟨[], false, false, false, 0, 0, 0, 131, 0, 0, []⟩
def v2 : U := ⟨[], false, false, false, lo, 0, 0, 131, 0, 0, []⟩
def v3 : U := ⟨[], false, false, false, lo, hi, 0, 131, 0, 0, []⟩
def v5 : U := ⟨[], false, false, false, lo, hi, 0, 3, 0, 0, []⟩
def v6 : U := ⟨[], false, true, false, lo, hi, 0, 3, 0, 0, [x]⟩
def v7 : U := ⟨[], false, true, false, lo, hi, y % 16, 3, 0, 0, [x]⟩
def v8 : U := ⟨[], false, true, false, lo, hi, y % 16, 3, 0, 0, []⟩
def v9 : U := ⟨[], false, true, false, lo, hi, y % 16, 128, 0, 0, []⟩
end

set_option maxRecDepth 20000 in
set_option maxHeartbeats 1000000 in
theorem UartLatches_walk (W : World) (lo : Int) (lo0 : 0 ≤ lo) (lo1 : lo ≤ 255) (hi : Int) (hi0 : 0 ≤ hi) (hi1 : hi ≤ 255) (x : Int) (x0 : 0 ≤ x) (x1 : x ≤ 255) (y : Int) (y0 : 0 ≤ y) (y1 : y ≤ 255) : Calls Try.prog 7 #[.int .u8 lo, .int .u8 hi, .int .u8 x, .int .u8 y] W fun e w' => e = .returned (.bool true) ∧ Below W.heap.size W w' := by
  have bl : By lo := ⟨lo0, by omega⟩
  have bh : By hi := ⟨hi0, by omega⟩
  have bx : By x := ⟨x0, by omega⟩
  have by' : By y := ⟨y0, by omega⟩
  have k1 : v1.Ok := { u0_ok with line := by_of (by decide) (by decide) }
  have k2 : (v2 lo).Ok := { k1 with d0 := bl }
  have k3 : (v3 lo hi).Ok := { k2 with d1 := bh }
  have k5 : (v5 lo hi).Ok := { k3 with line := (by_of (by decide) (by decide) : By 3) }
  have k6 : (v6 lo hi x).Ok := { k5 with sent := fun b hb => by rw [List.mem_singleton.1 hb]; exact bx }
  have k7 : (v7 lo hi x y).Ok := { k6 with want := ⟨by show 0 ≤ y % 16; omega, by show y % 16 < 16; omega⟩ }
  have k8 : (v8 lo hi y).Ok := { k7 with sent := fun b hb => nomatch hb }
  have k9 : (v9 lo hi y).Ok := { k8 with line := (by_of (by decide) (by decide) : By 128) }
  have HA : Hid (∀ w, _) := awake_ok
  have HN : Hid (∀ w, _) := wNew
  have H1 : Hid (∀ {w : World} {S : Nat → Prop} {B : Nat} (_ : UW w S B u0), Calls _ _ _ _ _) := fun h => wOut' u0_ok 3 131 (by decide) (by_of (by decide) (by decide)) (by decide) (u' := v1) rfl h
  have H2 : Hid (∀ {w : World} {S : Nat → Prop} {B : Nat} (_ : UW w S B v1), Calls _ _ _ _ _) := fun h => wOut' k1 0 lo (by decide) bl (by decide) (u' := v2 lo) rfl h
  have H3 : Hid (∀ {w : World} {S : Nat → Prop} {B : Nat} (_ : UW w S B (v2 lo)), Calls _ _ _ _ _) := fun h => wOut' k2 1 hi (by decide) bh (by show 0 < _; decide) (u' := v3 lo hi) rfl h
  have H4 : Hid (∀ {w : World} {S : Nat → Prop} {B : Nat} (_ : UW w S B (v3 lo hi)), Calls _ _ _ _ _) := fun h => wSent' [] rfl (u' := v3 lo hi) rfl h
  have H5 : Hid (∀ {w : World} {S : Nat → Prop} {B : Nat} (_ : UW w S B (v3 lo hi)), Calls _ _ _ _ _) := fun h => wOut' k3 3 3 (by decide) (by_of (by decide) (by decide)) (by show 0 < _; decide) (u' := v5 lo hi) rfl h
  have H6 : Hid (∀ {w : World} {S : Nat → Prop} {B : Nat} (_ : UW w S B (v5 lo hi)), Calls _ _ _ _ _) := fun h => wOut' k5 0 x (by decide) bx (by show 0 < _; decide) (u' := v6 lo hi x) rfl h
  have H7 : Hid (∀ {w : World} {S : Nat → Prop} {B : Nat} (_ : UW w S B (v6 lo hi x)), Calls _ _ _ _ _) := fun h => wOut' k6 1 y (by decide) by' (by show 1 < _; decide) (u' := v7 lo hi x y) rfl h
  have H8 : Hid (∀ {w : World} {S : Nat → Prop} {B : Nat} (_ : UW w S B (v7 lo hi x y)), Calls _ _ _ _ _) := fun h => wSent' [x] rfl (u' := v8 lo hi y) rfl h
  have H9 : Hid (∀ {w : World} {S : Nat → Prop} {B : Nat} (_ : UW w S B (v8 lo hi y)), Calls _ _ _ _ _) := fun h => wIn' k8 1 (y % 16) (by decide) rfl (u' := v8 lo hi y) rfl h
  have H10 : Hid (∀ {w : World} {S : Nat → Prop} {B : Nat} (_ : UW w S B (v8 lo hi y)), Calls _ _ _ _ _) := fun h => wOut' k8 3 128 (by decide) (by_of (by decide) (by decide)) (by show 0 < _; decide) (u' := v9 lo hi y) rfl h
  have H11 : Hid (∀ {w : World} {S : Nat → Prop} {B : Nat} (_ : UW w S B (v9 lo hi y)), Calls _ _ _ _ _) := fun h => wIn' k9 0 lo (by decide) rfl (u' := v9 lo hi y) rfl h
  have H12 : Hid (∀ {w : World} {S : Nat → Prop} {B : Nat} (_ : UW w S B (v9 lo hi y)), Calls _ _ _ _ _) := fun h => wIn' k9 1 hi (by decide) rfl (u' := v9 lo hi y) rfl h
  have H13 : Hid (∀ {w : World} {S : Nat → Prop} {B : Nat} (_ : UW w S B (v9 lo hi y)), Calls _ _ _ _ _) := fun h => wIn' k9 3 128 (by decide) rfl (u' := v9 lo hi y) rfl h
  have ym : Int.tmod y 16 = y % 16 := Int.tmod_eq_emod_of_nonneg y0
  simp only [List.length_nil, List.length_singleton] at H4 H8
  clear k1 k2 k3 k5 k6 k7 k8 k9 bl bh bx by'
  go_enter Try.func7, Try.ntmps7
  go_wp2_with fail
  refine Calls.mono (HA.out _) ?_; rintro e wa ⟨rfl, ka⟩
  go_wp2_with fail
  refine Calls.mono (HN.out _) ?_; rintro e w0 ⟨B, S0, rfl, h0, n0, k0⟩
  have q0 : Hid (Bs W w0 S0) := ⟨fun k g => Nat.le_trans ka.size (n0 k g), ka.trans k0⟩
  clear n0 k0 ka
  go_wp2_with fail
  refine Calls.mono (H1.out h0) ?_; rintro e w1 ⟨rfl, S1, h1, n1⟩
  have q1 : Hid (Bs W w1 S1) := q0.out.next n1
  clear q0 n1 h0
  go_wp2_with fail
  refine Calls.mono (H2.out h1) ?_; rintro e w2 ⟨rfl, S2, h2, n2⟩
  have q2 : Hid (Bs W w2 S2) := q1.out.next n2
  clear q1 n2 h1
  go_wp2_with fail
  refine Calls.mono (H3.out h2) ?_; rintro e w3 ⟨rfl, S3, h3, n3⟩
  have q3 : Hid (Bs W w3 S3) := q2.out.next n3
  clear q2 n3 h2
  go_wp2_with fail
  refine Calls.mono (H4.out h3) ?_; rintro e w4 ⟨p4, c4, rfl, S4, h4, n4, a4, _⟩
  have q4 : Hid (Bs W w4 S4) := q3.out.next n4
  clear a4
  clear q3 n4 h3
  go_wp2_with fail
  refine Calls.mono (H5.out h4) ?_; rintro e w5 ⟨rfl, S5, h5, n5⟩
  have q5 : Hid (Bs W w5 S5) := q4.out.next n5
  clear q4 n5 h4
  go_wp2_with fail
  refine Calls.mono (H6.out h5) ?_; rintro e w6 ⟨rfl, S6, h6, n6⟩
  have q6 : Hid (Bs W w6 S6) := q5.out.next n6
  clear q5 n6 h5
  go_wp2_with fail
  refine Calls.mono (H7.out h6) ?_; rintro e w7 ⟨rfl, S7, h7, n7⟩
  have q7 : Hid (Bs W w7 S7) := q6.out.next n7
  clear q6 n7 h6
  go_wp2_with fail
  refine Calls.mono (H8.out h7) ?_; rintro e w8 ⟨p8, c8, rfl, S8, h8, n8, a8, _⟩
  have q8 : Hid (Bs W w8 S8) := q7.out.next n8
  have A8 : Hid (Aside w8 S8 (.slice p8 1 c8) [x]) := a8
  clear a8
  clear q7 n8 h7
  go_wp2_with fail
  refine Calls.mono (H9.out h8) ?_; rintro e w9 ⟨rfl, S9, h9, n9⟩
  have q9 : Hid (Bs W w9 S9) := q8.out.next n9
  have A9 : Hid (Aside w9 S9 (.slice p8 1 c8) [x]) := A8.out.next n9
  clear A8
  clear q8 n9 h8
  go_wp2_with fail
  refine Calls.mono (H10.out h9) ?_; rintro e w10 ⟨rfl, S10, h10, n10⟩
  have q10 : Hid (Bs W w10 S10) := q9.out.next n10
  have A10 : Hid (Aside w10 S10 (.slice p8 1 c8) [x]) := A9.out.next n10
  clear A9
  clear q9 n10 h9
  go_wp2_with fail
  refine Calls.mono (H11.out h10) ?_; rintro e w11 ⟨rfl, S11, h11, n11⟩
  have q11 : Hid (Bs W w11 S11) := q10.out.next n11
  have A11 : Hid (Aside w11 S11 (.slice p8 1 c8) [x]) := A10.out.next n11
  clear A10
  clear q10 n11 h10
  go_wp2_with fail
  refine Calls.mono (H12.out h11) ?_; rintro e w12 ⟨rfl, S12, h12, n12⟩
  have q12 : Hid (Bs W w12 S12) := q11.out.next n12
  have A12 : Hid (Aside w12 S12 (.slice p8 1 c8) [x]) := A11.out.next n12
  clear A11
  clear q11 n12 h11
  go_wp2_with fail
  refine Calls.mono (H13.out h12) ?_; rintro e w13 ⟨rfl, S13, h13, n13⟩
  have q13 : Hid (Bs W w13 S13) := q12.out.next n13
  have A13 : Hid (Aside w13 S13 (.slice p8 1 c8) [x]) := A12.out.next n13
  clear A12
  clear q12 n13 h12
  obtain ⟨g, rfl, cl, _⟩ := A13.out.own.at (i := 0) (Nat.zero_lt_one)
  replace cl : w13.cell? ⟨g, 0, none⟩ = some (.int .u8 x) := cl
  clear A13
  go_wp2
  go_ret
  exact ⟨rfl, q13.out.kp.every⟩
end Go.Proofs.Ytafnlaamfpjolaa
