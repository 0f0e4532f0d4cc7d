/- The contracts of awake and started. -/
import Derived.Test.YteodnlloilmoaaaPtOps
import Derived.Test.YteodnlloilmoaaaPtNew
namespace Go.Proofs.Yteodnlloilmoaaa
open Go.ChangeShapes Go.WideShapes Go.ChangeAt Go.RowKit
set_option linter.unusedVariables false

theorem Kp.own {S : Nat → Prop} {w w1 w2 : World} {B : Nat} (h : Kp S w w1) (k : Kp (isB B) w1 w2) (hB : w.heap.size ≤ B) : Kp S w w2 := h.over k (fun j hj e => by have : j = B := e; omega)
theorem Kp.and {S : Nat → Prop} {w w1 w2 : World} (h : Kp S w w1) (k : Kp noB w1 w2) : Kp S w w2 := h.trans k.any

def f00 : Nat → Cn := fun _ => cn0
theorem f00_ok : Oks f00 := fun _ => cn0_ok

def fa1 : Nat → Cn := outF f00 3 52 0
def fa2 : Nat → Cn := outF fa1 0 10 0
def fa3 : Nat → Cn := outF fa2 0 0 5
def fa4 : Nat → Cn := outF fa3 3 0 16
theorem fa1_ok : Oks fa1 := f00_ok.out (by decide) (by decide) (by decide) (by decide)
theorem fa2_ok : Oks fa2 := fa1_ok.out (by decide) (by decide) (by decide) (by decide)
theorem fa3_ok : Oks fa3 := fa2_ok.out (by decide) (by decide) (by decide) (by decide)
theorem fa4_ok : Oks fa4 := fa3_ok.out (by decide) (by decide) (by decide) (by decide)
theorem fa3_13 : (fa3 0).line 13 = true := by decide +kernel
theorem fa3_14 : (fa3 0).line 14 = false := by decide +kernel
theorem fa3_15 : (fa3 0).line 15 = true := by decide +kernel
theorem fa4_99 : innV fa4 0 99 = 9 := by decide +kernel

set_option maxHeartbeats 1000000 in
theorem awake_ok (w : World) : Calls Try.prog 8 #[] w fun e w' => e = .returned (.bool true) ∧ Kp noB w w' := by
  have HN : Hid _ := new_ok w
  have HO : Hid (∀ {w : World} {B : Nat} {f : Nat → Cn} (p v now : Int), PAt w B f → Oks f → 0 ≤ p ∧ p < 4 ∧ 0 ≤ v ∧ v < 256 → _) := fun {w B f} p v now h k g => out_ok h k p v now g.1 g.2.1 g.2.2.1 g.2.2.2
  have HL : Hid (∀ {w : World} {B : Nat} {f : Nat → Cn} (now : Int), PAt w B f → Oks f → _) := fun {w B f} now h k => line_any h k now
  have HI : Hid (∀ {w : World} {B : Nat} {f : Nat → Cn} (p now : Int), PAt w B f → Oks f → 0 ≤ p ∧ p < 4 → _) := fun {w B f} p now h k g => in_ok h k p now g.1 g.2
  have HX : Hid (∀ (w : World) (a : Addr), Calls Try.prog 11 #[.pointer (some a), .int .i64 4, .int .u8 0, .int .u64 99] w _) := fun w a => out_no w (some a) 4 0 99 (by omega)
  go_enter Try.func8, Try.ntmps8
  go_wp2_with fail
  refine Calls.mono HN.out ?_; rintro e w0 ⟨B, rfl, lB, h0, k0⟩
  replace h0 : PAt w0 B f00 := h0
  have LB : Hid (w.heap.size ≤ B) := lB
  clear lB
  go_wp2_with fail
  refine Calls.mono (HO.out 3 52 0 h0 f00_ok ⟨by decide, by decide, by decide, by decide⟩) ?_; rintro e w1 ⟨rfl, h1, g1⟩
  replace h1 : PAt w1 B fa1 := h1
  have k1 := k0.own g1 LB.out
  go_wp2_with fail
  refine Calls.mono (HO.out 0 10 0 h1 fa1_ok ⟨by decide, by decide, by decide, by decide⟩) ?_; rintro e w2 ⟨rfl, h2, g2⟩
  replace h2 : PAt w2 B fa2 := h2
  have k2 := k1.own g2 LB.out
  go_wp2_with fail
  refine Calls.mono (HO.out 0 0 5 h2 fa2_ok ⟨by decide, by decide, by decide, by decide⟩) ?_; rintro e w3 ⟨rfl, h3, g3⟩
  replace h3 : PAt w3 B fa3 := h3
  have k3 := k2.own g3 LB.out
  go_wp2_with fail
  refine Calls.mono (HL.out 13 h3 fa3_ok) ?_; rintro e w4 ⟨rfl, g4⟩
  have h4 := h3.kept g4 id
  have k4 := k3.and g4
  go_wp2_with fail
  refine Calls.mono (HL.out 14 h4 fa3_ok) ?_; rintro e w5 ⟨rfl, g5⟩
  have h5 := h4.kept g5 id
  have k5 := k4.and g5
  go_wp2_with fail
  refine Calls.mono (HL.out 15 h5 fa3_ok) ?_; rintro e w6 ⟨rfl, g6⟩
  have h6 := h5.kept g6 id
  have k6 := k5.and g6
  go_wp2_with fail
  refine Calls.mono (HO.out 3 0 16 h6 fa3_ok ⟨by decide, by decide, by decide, by decide⟩) ?_; rintro e w7 ⟨rfl, h7, g7⟩
  replace h7 : PAt w7 B fa4 := h7
  have k7 := k6.own g7 LB.out
  go_wp2_with fail
  refine Calls.mono (HI.out 0 99 h7 fa4_ok ⟨by decide, by decide⟩) ?_; rintro e w8 ⟨rfl, h8, g8⟩
  have k8 := k7.own g8 LB.out
  rw [fa3_13, fa3_14, fa3_15, fa4_99]
  go_wp2_with fail
  refine Calls.mono (HX.out _ _) ?_; rintro e w9 ⟨rfl, hw⟩; replace hw := hw.symm; subst hw
  go_wp2
  go_ret
  exact ⟨rfl, k8⟩

/-- A timer whose counter 0 goes in a mode, with a length, from 0 on. -/
def cnS (m l : Int) : Cn := ⟨m, 3, l, 0, false, l % 256, false, false, 0, false⟩
def fS (m l : Int) : Nat → Cn := upd f00 0 (cnS m l)

theorem cnS_ok {m l : Int} (m0 : 0 ≤ m) (m1 : m ≤ 5) (l0 : 0 ≤ l) (l1 : l < 65536) : (cnS m l).Ok :=
  ⟨⟨m0, m1⟩, ⟨by show (1 : Int) ≤ 3; decide, by show (3 : Int) ≤ 3; decide⟩, ⟨l0, l1⟩, ⟨by show (0 : Int) ≤ 0; decide, by show (0 : Int) < _; decide⟩, ⟨by show 0 ≤ l % 256; omega, by show l % 256 < 256; omega⟩, ⟨by show (0 : Int) ≤ 0; decide, by show (0 : Int) < _; decide⟩, fun e => (by decide : (3 : Int) ≠ 1), fun e => absurd e (by decide : ¬ (3 : Int) = 2)⟩

theorem fS_ok {m l : Int} (m0 : 0 ≤ m) (m1 : m ≤ 5) (l0 : 0 ≤ l) (l1 : l < 65536) : Oks (fS m l) := f00_ok.upd 0 (cnS_ok m0 m1 l0 l1)

theorem upd_upd (f : Nat → Cn) (i : Nat) (a b : Cn) : upd (upd f i a) i b = upd f i b := by
  funext j
  unfold upd
  split <;> rfl

theorem fS_is {m l : Int} (m0 : 0 ≤ m) (m1 : m ≤ 5) (l0 : 0 ≤ l) (l1 : l < 65536) : outF (outF (outF f00 3 (48 + m * 2) 0) 0 (l % 256) 0) 0 (l / 256) 0 = fS m l := by
  have e1 : outF f00 3 (48 + m * 2) 0 = upd f00 0 ⟨m, 3, 0, 0, true, 0, false, false, 0, false⟩ := by
    unfold outF cmdF
    rw [if_pos rfl, if_neg (by omega), if_neg (by omega), show (48 + m * 2) / 64 = 0 by omega, show (48 + m * 2) / 16 % 4 = 3 by omega, show (48 + m * 2) / 2 % 8 = m by omega]
    have : md m = m := by unfold md; rw [if_neg (by omega)]
    show upd f00 0 (Cn.setUp cn0 3 m) = _
    unfold Cn.setUp
    rw [this]
    rfl
  have e2 : outF (upd f00 0 ⟨m, 3, 0, 0, true, 0, false, false, 0, false⟩) 0 (l % 256) 0 = upd f00 0 ⟨m, 3, 0, 0, true, l % 256, true, false, 0, false⟩ := by
    unfold outF
    rw [if_neg (by decide)]
    show upd (upd f00 0 _) 0 (Cn.write (upd f00 0 _ 0) (l % 256) 0) = _
    rw [upd_upd, upd_at]
    rfl
  have e3 : outF (upd f00 0 ⟨m, 3, 0, 0, true, l % 256, true, false, 0, false⟩) 0 (l / 256) 0 = fS m l := by
    unfold outF
    rw [if_neg (by decide)]
    show upd (upd f00 0 _) 0 (Cn.write (upd f00 0 _ 0) (l / 256) 0) = _
    rw [upd_upd, upd_at]
    have : l / 256 * 256 + l % 256 = l := by omega
    show upd f00 0 ⟨m, 3, l / 256 * 256 + l % 256, 0, false, l % 256, false, false, 0, false⟩ = _
    rw [this]
    rfl
  rw [e1, e2, e3]

set_option maxHeartbeats 1000000 in
theorem started_ok (w : World) (m l : Int) (m0 : 0 ≤ m) (m1 : m ≤ 5) (l0 : 0 ≤ l) (l1 : l < 65536) : Calls Try.prog 17 #[.int .u8 m, .int .u16 l] w fun e w' => ∃ B, e = .returned (.pointer (some ⟨B, 0, none⟩)) ∧ w.heap.size ≤ B ∧ PAt w' B (fS m l) ∧ Kp noB w w' := by
  have HN : Hid _ := new_ok w
  have HO : Hid (∀ {w : World} {B : Nat} {f : Nat → Cn} (p v : Int), PAt w B f → Oks f → 0 ≤ p ∧ p < 4 ∧ 0 ≤ v ∧ v < 256 → _) := fun {w B f} p v h k g => out_ok h k p v 0 g.1 g.2.1 g.2.2.1 g.2.2.2
  have a1 : (48 + m * 2 % 256) % 256 = 48 + m * 2 := by omega
  have a2 : m * 2 % 256 = m * 2 := by omega
  have a3 : l / 256 % 256 = l / 256 := by omega
  have a4 : (48 + m * 2) % 256 = 48 + m * 2 := by omega
  have K1 : Oks (outF f00 3 (48 + m * 2) 0) := f00_ok.out (by omega) (by omega) (by decide) (by decide)
  have K2 : Oks (outF (outF f00 3 (48 + m * 2) 0) 0 (l % 256) 0) := K1.out (by omega) (by omega) (by decide) (by decide)
  have hS := fS_is m0 m1 l0 l1
  go_enter Try.func17, Try.ntmps17
  go_wp2_with fail
  refine Calls.mono HN.out ?_; rintro e w0 ⟨B, rfl, lB, h0, k0⟩
  replace h0 : PAt w0 B f00 := h0
  go_wp2_with fail
  refine Calls.mono (HO.out 3 (48 + m * 2) h0 f00_ok ⟨by decide, by decide, by omega, by omega⟩) ?_; rintro e w1 ⟨rfl, h1, g1⟩
  have k1 := k0.own g1 lB
  go_wp2_with fail
  refine Calls.mono (HO.out 0 (l % 256) h1 K1 ⟨by decide, by decide, by omega, by omega⟩) ?_; rintro e w2 ⟨rfl, h2, g2⟩
  have k2 := k1.own g2 lB
  go_wp2_with fail
  refine Calls.mono (HO.out 0 (l / 256) h2 K2 ⟨by decide, by decide, by omega, by omega⟩) ?_; rintro e w3 ⟨rfl, h3, g3⟩
  have k3 := k2.own g3 lB
  rw [hS] at h3
  go_wp2
  go_ret
  exact ⟨B, rfl, lB, h3, k3⟩
end Go.Proofs.Yteodnlloilmoaaa
