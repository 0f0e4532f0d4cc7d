/- The walk of the statement MuldivDigits: for every input within its kinds it returns true, and the world has at most new blocks. -/
import Derived.Test.YtecfkgnffhiemabMulAwake
import Derived.Test.YtecfkgnffhiemabMulDgt
namespace Go.Proofs.Ytecfkgnffhiemab
open Go.ChangeShapes Go.WideShapes Go.ChangeAt Go.RowKit
set_option linter.unusedVariables false

theorem d_mod {a m : Int} (h : a % 100 = m) : 0 ≤ m ∧ m < 100 := by omega
theorem d_tens {m : Int} (m0 : 0 ≤ m) (m1 : m < 100) : 0 ≤ m / 10 ∧ m / 10 ≤ 9 := by omega
theorem d_ones (m : Int) : 0 ≤ m % 10 ∧ m % 10 ≤ 9 := by omega
theorem d_all (m : Int) : m = m / 10 * 10 + m % 10 := by omega
theorem d_low {x y p : Int} (y0 : 0 ≤ y) (y1 : y ≤ 9) (h : x * 16 + y = p) : p % 16 = y := by omega
theorem d_bd {x y p : Int} (x0 : 0 ≤ x) (x1 : x ≤ 9) (y0 : 0 ≤ y) (y1 : y ≤ 9) (h : x * 16 + y = p) : 0 ≤ p ∧ p ≤ 153 := by omega
theorem d_pk {m p : Int} (m0 : 0 ≤ m) (m1 : m < 100) (h : m / 10 * 16 + m % 10 = p) : 0 ≤ p ∧ p ≤ 153 := d_bd (d_tens m0 m1).1 (d_tens m0 m1).2 (d_ones m).1 (d_ones m).2 h
theorem d_dig (s : Int) : 0 ≤ s % 100 / 10 ∧ s % 100 / 10 ≤ 9 := by omega
theorem d_s {s S : Int} (h : s % 100 / 10 * 16 + s % 10 = S) : 0 ≤ S ∧ S ≤ 153 := d_bd (d_dig s).1 (d_dig s).2 (d_ones s).1 (d_ones s).2 h
theorem w_small {x : Int} (h0 : 0 ≤ x) (h1 : x ≤ 4294967295) : IntKind.u32.wrap x = x := (by omega : x % 4294967296 = x)
theorem d_16 {x : Int} (x0 : 0 ≤ x) (x1 : x ≤ 9) : IntKind.u32.wrap (x * 16) = x * 16 := w_small (by omega) (by omega)
theorem d_mm {p k : Int} : IntKind.u32.wrap (p % 16 + k % 16) = p % 16 + k % 16 := w_small (by omega) (by omega)
theorem d_add {p k : Int} (p0 : 0 ≤ p) (p1 : p ≤ 153) (k0 : 0 ≤ k) (k1 : k ≤ 153) : IntKind.u32.wrap (p + k) = p + k := w_small (by omega) (by omega)
theorem d_byte (x : Int) : 0 ≤ x % 256 ∧ x % 256 < 4294967296 := by omega
theorem d_twice (x : Int) : x % 256 % 256 = x % 256 := by omega
theorem d_no {x y z t p k m n : Int} (y0 : 0 ≤ y) (y1 : y ≤ 9) (t0 : 0 ≤ t) (t1 : t ≤ 9) (hp : x * 16 + y = p) (hk : z * 16 + t = k) (hm : m = x * 10 + y) (hn : n = z * 10 + t) (h : ¬ 99 < m + n) : ¬ 255 < p + k := by omega

theorem dig_sum {m n p k S : Int} (m0 : 0 ≤ m) (m1 : m < 100) (n0 : 0 ≤ n) (n1 : n < 100) (hp : m / 10 * 16 + m % 10 = p) (hk : n / 10 * 16 + n % 10 = k) (hS : (m + n) % 100 / 10 * 16 + (m + n) % 10 = S) (F : Int) (b1 b2 b3 : Bool) (F0 : 0 ≤ F) (F1 : F < 4294967296)
    (h16 : hasF F 16 = b1) (h1 : hasF F 1 = b2) (e1 : b1 = decide (15 < p % 16 + k % 16)) (e2 : b2 = decide (255 < p + k)) (e3 : decide (99 < m + n) = b3) :
    rX 0 ((p + k) % 256) 0 0 F = S ∧ rF 0 ((p + k) % 256) 0 0 F % 2 = if b3 = true then 1 else 0 := by
  have x0 := d_tens m0 m1
  have y0 := d_ones m
  have z0 := d_tens n0 n1
  have t0 := d_ones n
  have em := d_all m
  have en := d_all n
  have ep : p % 16 = m % 10 := d_low y0.1 y0.2 hp
  have ek : k % 16 = n % 10 := d_low t0.1 t0.2 hk
  have d := dig_ff x0.1 x0.2 y0.1 y0.2 z0.1 z0.2 t0.1 t0.2 (dOff ((p + k) % 256 % 256) (hasF F 16)) (dHi ((p + k) % 256 % 256) (hasF F 1))
  rw [hp, hk, ← em, ← en, hS] at d
  have A := d_twice (p + k)
  rw [A, h16, h1] at d
  rw [ep, ek] at e1
  have d' := d (by unfold dOff; rw [e1]) (by unfold dHi; rw [e2])
  constructor
  · rw [dX0, A, h16, h1]; exact d'.1
  · refine rF_odd F0 F1 b3 ?_
    rw [A, h16, h1]
    show dHi ((p + k) % 256) b2 = b3
    rw [d'.2, e3]

theorem dig_third {m n p k S : Int} (m0 : 0 ≤ m) (m1 : m < 100) (n0 : 0 ≤ n) (n1 : n < 100) (hp : m / 10 * 16 + m % 10 = p) (hk : n / 10 * 16 + n % 10 = k) (hS : (m + n) % 100 / 10 * 16 + (m + n) % 10 = S) (F : Int) (b1 b2 b3 : Bool) (F0 : 0 ≤ F) (F1 : F < 4294967296)
    (h16 : hasF F 16 = b1) (h1 : hasF F 1 = b2) (e1 : b1 = decide (15 < p % 16 + k % 16)) (e2 : b2 = decide (255 < p + k)) (e3 : decide (99 < m + n) = b3) (w : World) :
    Calls Try.prog 6 #[.int .i64 0, .int .u32 ((p + k) % 256), .int .u32 0, .int .u32 0, .int .u32 F] w fun e w' => e = .returned (.tuple #[.int .u32 S, .int .u32 (rY 0 ((p + k) % 256) 0 0 F), .int .u32 (rF 0 ((p + k) % 256) 0 0 F), .bool true, .int .i64 0]) ∧ Grown w w' := by
  have h := adj_ok 0 ((p + k) % 256) 0 0 F w (by decide) (by decide) (d_byte _).1 (d_byte _).2 (by decide) (by decide) (by decide) (by decide) F0 F1 (fun h => absurd h (by decide))
  rw [(dig_sum m0 m1 n0 n1 hp hk hS F b1 b2 b3 F0 F1 h16 h1 e1 e2 e3).1] at h
  exact h

theorem dig_first (a b : Int) (w : World) (a0 : 0 ≤ a) (a1 : a < 4294967296) (b0 : 0 ≤ b) (b1 : b < 4294967296) (hb : b % 256 ≠ 0) :
    Calls Try.prog 6 #[.int .i64 4, .int .u32 a, .int .u32 0, .int .u32 b, .int .u32 0] w fun e w' => e = .returned (.tuple #[.int .u32 (rX 4 a 0 b 0), .int .u32 (rY 4 a 0 b 0), .int .u32 (rF 4 a 0 b 0), .bool true, .int .i64 0]) ∧ Grown w w' :=
  adj_ok 4 a 0 b 0 w (by decide) (by decide) a0 a1 (by decide) (by decide) b0 b1 (by decide) (by decide) (fun _ => hb)

theorem dig_second (a b : Int) (w : World) (a0 : 0 ≤ a) (a1 : a < 4294967296) (b0 : 0 ≤ b) (b1 : b < 4294967296) (hb : b % 256 ≠ 0) :
    Calls Try.prog 6 #[.int .i64 5, .int .u32 (rX 4 a 0 b 0), .int .u32 (rY 4 a 0 b 0), .int .u32 b, .int .u32 0] w fun e w' => e = .returned (.tuple #[.int .u32 (a % 256), .int .u32 0, .int .u32 (rF 5 (rX 4 a 0 b 0) (rY 4 a 0 b 0) b 0), .bool true, .int .i64 0]) ∧ Grown w w' := by
  have x := rX_bd (op := 4) a 0 b 0 (by decide) (by decide) (fun _ => hb)
  have y := rY_bd (op := 4) a 0 b 0 (by decide) (by decide)
  have h := adj_ok 5 (rX 4 a 0 b 0) (rY 4 a 0 b 0) b 0 w (by decide) (by decide) x.1 (by omega) y.1 (by omega) b0 b1 (by decide) (by decide) (fun h => absurd h (by decide))
  rw [join_part a b 0 0 0 0 hb, dY5] at h
  exact h

set_option maxRecDepth 20000 in
set_option maxHeartbeats 2000000 in
theorem core_y000 (a0 a1 a2 m n d1 e1 g1 p d2 e2 g2 k pl kl pk sm tb su v1 v2 v3 v4 S R G G4 G5 : Int) (w : World) (l0 : 0 ≤ a0) (u0 : a0 < 4294967296) (l1 : 0 ≤ a1) (u1 : a1 < 4294967296) (l2 : 0 ≤ a2) (u2 : a2 < 4294967296)
    (hm : a0 % 100 = m) (lm : 0 ≤ m) (um : m < 4294967296) (hn : a2 % 100 = n) (ln : 0 ≤ n) (un : n < 4294967296)
    (hd1 : m / 10 = d1) (he1 : m % 10 = e1) (hg1 : IntKind.u32.wrap (d1 * 16) = g1) (hp : IntKind.u32.wrap (g1 + e1) = p) (lp : 0 ≤ p) (up : p < 4294967296)
    (hd2 : n / 10 = d2) (he2 : n % 10 = e2) (hg2 : IntKind.u32.wrap (d2 * 16) = g2) (hk : IntKind.u32.wrap (g2 + e2) = k) (lk : 0 ≤ k) (uk : k < 4294967296)
    (hpl : p % 16 = pl) (hkl : k % 16 = kl) (hpk : IntKind.u32.wrap (pl + kl) = pk) (h1 : ¬ 15 < pk)
    (hsm : IntKind.u32.wrap (p + k) = sm) (lsm : 0 ≤ sm) (usm : sm < 4294967296) (h2 : ¬ 255 < sm) (htb : sm % 256 = tb)
    (hsu : IntKind.u32.wrap (m + n) = su) (lsu : 0 ≤ su) (usu : su < 4294967296) (h3 : ¬ 99 < su) (hv1 : su % 100 = v1) (lv : 0 ≤ v1) (uv : v1 < 4294967296) (hv2 : v1 / 10 = v2) (hv3 : IntKind.u32.wrap (v2 * 16) = v3) (hv4 : su % 10 = v4) (hv5 : IntKind.u32.wrap (v3 + v4) = S)
    (lG : 0 ≤ G) (hG : G % 2 = 0) (hb : a1 % 256 ≠ 0)
    (HT : Hid (∀ w : World, Calls Try.prog 6 #[.int .i64 0, .int .u32 tb, .int .u32 0, .int .u32 0, .int .u32 0] w fun e w' => e = .returned (.tuple #[.int .u32 S, .int .u32 R, .int .u32 G, .bool true, .int .i64 0]) ∧ Grown w w'))
    (HA : Hid (∀ w : World, Calls Try.prog 6 #[.int .i64 4, .int .u32 a0, .int .u32 0, .int .u32 a1, .int .u32 0] w fun e w' => e = .returned (.tuple #[.int .u32 (rX 4 a0 0 a1 0), .int .u32 (rY 4 a0 0 a1 0), .int .u32 G4, .bool true, .int .i64 0]) ∧ Grown w w'))
    (HB : Hid (∀ w : World, Calls Try.prog 6 #[.int .i64 5, .int .u32 (rX 4 a0 0 a1 0), .int .u32 (rY 4 a0 0 a1 0), .int .u32 a1, .int .u32 0] w fun e w' => e = .returned (.tuple #[.int .u32 (a0 % 256), .int .u32 0, .int .u32 G5, .bool true, .int .i64 0]) ∧ Grown w w')) :
    Calls Try.prog 3 #[.int .u32 a0, .int .u32 a1, .int .u32 a2] w fun e w' => e = .returned (.bool true) ∧ Grown w w' := by
  have o1 : bits .or .u32 16 1 = 17 := by decide
  have o2 : bits .or .u32 0 1 = 1 := by decide
  have g1 : decide (15 < pk) = false := decide_eq_false h1
  have g2 : decide (255 < sm) = false := decide_eq_false h2
  have g3 : decide (99 < su) = false := decide_eq_false h3
  have hb' : (a1 % 256 != 0) = true := by simpa using hb
  go_enter Try.func3, Try.ntmps3
  go_wp2_with fail
  refine (awake_any _).mono ?_; rintro e w1 ⟨rfl, g5⟩
  go_wp2_with fail
  refine (HA.out _).mono ?_; rintro e w2 ⟨rfl, g6⟩
  go_wp2_with fail
  refine (HB.out _).mono ?_; rintro e w3 ⟨rfl, g7⟩
  go_wp2_with fail
  refine (HT.out _).mono ?_; rintro e w4 ⟨rfl, g8⟩
  go_wp2
  go_ret
  exact ⟨rfl, (Grown.trans (Grown.trans (Grown.trans g5 g6) g7) g8)⟩

set_option maxRecDepth 20000 in
set_option maxHeartbeats 2000000 in
theorem core_y001 (a0 a1 a2 m n d1 e1 g1 p d2 e2 g2 k pl kl pk sm tb su v1 v2 v3 v4 S R G G4 G5 : Int) (w : World) (l0 : 0 ≤ a0) (u0 : a0 < 4294967296) (l1 : 0 ≤ a1) (u1 : a1 < 4294967296) (l2 : 0 ≤ a2) (u2 : a2 < 4294967296)
    (hm : a0 % 100 = m) (lm : 0 ≤ m) (um : m < 4294967296) (hn : a2 % 100 = n) (ln : 0 ≤ n) (un : n < 4294967296)
    (hd1 : m / 10 = d1) (he1 : m % 10 = e1) (hg1 : IntKind.u32.wrap (d1 * 16) = g1) (hp : IntKind.u32.wrap (g1 + e1) = p) (lp : 0 ≤ p) (up : p < 4294967296)
    (hd2 : n / 10 = d2) (he2 : n % 10 = e2) (hg2 : IntKind.u32.wrap (d2 * 16) = g2) (hk : IntKind.u32.wrap (g2 + e2) = k) (lk : 0 ≤ k) (uk : k < 4294967296)
    (hpl : p % 16 = pl) (hkl : k % 16 = kl) (hpk : IntKind.u32.wrap (pl + kl) = pk) (h1 : ¬ 15 < pk)
    (hsm : IntKind.u32.wrap (p + k) = sm) (lsm : 0 ≤ sm) (usm : sm < 4294967296) (h2 : ¬ 255 < sm) (htb : sm % 256 = tb)
    (hsu : IntKind.u32.wrap (m + n) = su) (lsu : 0 ≤ su) (usu : su < 4294967296) (h3 : 99 < su) (hv1 : su % 100 = v1) (lv : 0 ≤ v1) (uv : v1 < 4294967296) (hv2 : v1 / 10 = v2) (hv3 : IntKind.u32.wrap (v2 * 16) = v3) (hv4 : su % 10 = v4) (hv5 : IntKind.u32.wrap (v3 + v4) = S)
    (lG : 0 ≤ G) (hG : G % 2 = 1) (hb : a1 % 256 ≠ 0)
    (HT : Hid (∀ w : World, Calls Try.prog 6 #[.int .i64 0, .int .u32 tb, .int .u32 0, .int .u32 0, .int .u32 0] w fun e w' => e = .returned (.tuple #[.int .u32 S, .int .u32 R, .int .u32 G, .bool true, .int .i64 0]) ∧ Grown w w'))
    (HA : Hid (∀ w : World, Calls Try.prog 6 #[.int .i64 4, .int .u32 a0, .int .u32 0, .int .u32 a1, .int .u32 0] w fun e w' => e = .returned (.tuple #[.int .u32 (rX 4 a0 0 a1 0), .int .u32 (rY 4 a0 0 a1 0), .int .u32 G4, .bool true, .int .i64 0]) ∧ Grown w w'))
    (HB : Hid (∀ w : World, Calls Try.prog 6 #[.int .i64 5, .int .u32 (rX 4 a0 0 a1 0), .int .u32 (rY 4 a0 0 a1 0), .int .u32 a1, .int .u32 0] w fun e w' => e = .returned (.tuple #[.int .u32 (a0 % 256), .int .u32 0, .int .u32 G5, .bool true, .int .i64 0]) ∧ Grown w w')) :
    Calls Try.prog 3 #[.int .u32 a0, .int .u32 a1, .int .u32 a2] w fun e w' => e = .returned (.bool true) ∧ Grown w w' := by
  have o1 : bits .or .u32 16 1 = 17 := by decide
  have o2 : bits .or .u32 0 1 = 1 := by decide
  have g1 : decide (15 < pk) = false := decide_eq_false h1
  have g2 : decide (255 < sm) = false := decide_eq_false h2
  have g3 : decide (99 < su) = true := decide_eq_true h3
  have hb' : (a1 % 256 != 0) = true := by simpa using hb
  go_enter Try.func3, Try.ntmps3
  go_wp2_with fail
  refine (awake_any _).mono ?_; rintro e w1 ⟨rfl, g5⟩
  go_wp2_with fail
  refine (HA.out _).mono ?_; rintro e w2 ⟨rfl, g6⟩
  go_wp2_with fail
  refine (HB.out _).mono ?_; rintro e w3 ⟨rfl, g7⟩
  go_wp2_with fail
  refine (HT.out _).mono ?_; rintro e w4 ⟨rfl, g8⟩
  go_wp2
  go_ret
  exact ⟨rfl, (Grown.trans (Grown.trans (Grown.trans g5 g6) g7) g8)⟩

set_option maxRecDepth 20000 in
set_option maxHeartbeats 2000000 in
theorem core_y011 (a0 a1 a2 m n d1 e1 g1 p d2 e2 g2 k pl kl pk sm tb su v1 v2 v3 v4 S R G G4 G5 : Int) (w : World) (l0 : 0 ≤ a0) (u0 : a0 < 4294967296) (l1 : 0 ≤ a1) (u1 : a1 < 4294967296) (l2 : 0 ≤ a2) (u2 : a2 < 4294967296)
    (hm : a0 % 100 = m) (lm : 0 ≤ m) (um : m < 4294967296) (hn : a2 % 100 = n) (ln : 0 ≤ n) (un : n < 4294967296)
    (hd1 : m / 10 = d1) (he1 : m % 10 = e1) (hg1 : IntKind.u32.wrap (d1 * 16) = g1) (hp : IntKind.u32.wrap (g1 + e1) = p) (lp : 0 ≤ p) (up : p < 4294967296)
    (hd2 : n / 10 = d2) (he2 : n % 10 = e2) (hg2 : IntKind.u32.wrap (d2 * 16) = g2) (hk : IntKind.u32.wrap (g2 + e2) = k) (lk : 0 ≤ k) (uk : k < 4294967296)
    (hpl : p % 16 = pl) (hkl : k % 16 = kl) (hpk : IntKind.u32.wrap (pl + kl) = pk) (h1 : ¬ 15 < pk)
    (hsm : IntKind.u32.wrap (p + k) = sm) (lsm : 0 ≤ sm) (usm : sm < 4294967296) (h2 : 255 < sm) (htb : sm % 256 = tb)
    (hsu : IntKind.u32.wrap (m + n) = su) (lsu : 0 ≤ su) (usu : su < 4294967296) (h3 : 99 < su) (hv1 : su % 100 = v1) (lv : 0 ≤ v1) (uv : v1 < 4294967296) (hv2 : v1 / 10 = v2) (hv3 : IntKind.u32.wrap (v2 * 16) = v3) (hv4 : su % 10 = v4) (hv5 : IntKind.u32.wrap (v3 + v4) = S)
    (lG : 0 ≤ G) (hG : G % 2 = 1) (hb : a1 % 256 ≠ 0)
    (HT : Hid (∀ w : World, Calls Try.prog 6 #[.int .i64 0, .int .u32 tb, .int .u32 0, .int .u32 0, .int .u32 1] w fun e w' => e = .returned (.tuple #[.int .u32 S, .int .u32 R, .int .u32 G, .bool true, .int .i64 0]) ∧ Grown w w'))
    (HA : Hid (∀ w : World, Calls Try.prog 6 #[.int .i64 4, .int .u32 a0, .int .u32 0, .int .u32 a1, .int .u32 0] w fun e w' => e = .returned (.tuple #[.int .u32 (rX 4 a0 0 a1 0), .int .u32 (rY 4 a0 0 a1 0), .int .u32 G4, .bool true, .int .i64 0]) ∧ Grown w w'))
    (HB : Hid (∀ w : World, Calls Try.prog 6 #[.int .i64 5, .int .u32 (rX 4 a0 0 a1 0), .int .u32 (rY 4 a0 0 a1 0), .int .u32 a1, .int .u32 0] w fun e w' => e = .returned (.tuple #[.int .u32 (a0 % 256), .int .u32 0, .int .u32 G5, .bool true, .int .i64 0]) ∧ Grown w w')) :
    Calls Try.prog 3 #[.int .u32 a0, .int .u32 a1, .int .u32 a2] w fun e w' => e = .returned (.bool true) ∧ Grown w w' := by
  have o1 : bits .or .u32 16 1 = 17 := by decide
  have o2 : bits .or .u32 0 1 = 1 := by decide
  have g1 : decide (15 < pk) = false := decide_eq_false h1
  have g2 : decide (255 < sm) = true := decide_eq_true h2
  have g3 : decide (99 < su) = true := decide_eq_true h3
  have hb' : (a1 % 256 != 0) = true := by simpa using hb
  go_enter Try.func3, Try.ntmps3
  go_wp2_with fail
  refine (awake_any _).mono ?_; rintro e w1 ⟨rfl, g5⟩
  go_wp2_with fail
  refine (HA.out _).mono ?_; rintro e w2 ⟨rfl, g6⟩
  go_wp2_with fail
  refine (HB.out _).mono ?_; rintro e w3 ⟨rfl, g7⟩
  go_wp2_with fail
  refine (HT.out _).mono ?_; rintro e w4 ⟨rfl, g8⟩
  go_wp2
  go_ret
  exact ⟨rfl, (Grown.trans (Grown.trans (Grown.trans g5 g6) g7) g8)⟩

set_option maxRecDepth 20000 in
set_option maxHeartbeats 2000000 in
theorem core_y100 (a0 a1 a2 m n d1 e1 g1 p d2 e2 g2 k pl kl pk sm tb su v1 v2 v3 v4 S R G G4 G5 : Int) (w : World) (l0 : 0 ≤ a0) (u0 : a0 < 4294967296) (l1 : 0 ≤ a1) (u1 : a1 < 4294967296) (l2 : 0 ≤ a2) (u2 : a2 < 4294967296)
    (hm : a0 % 100 = m) (lm : 0 ≤ m) (um : m < 4294967296) (hn : a2 % 100 = n) (ln : 0 ≤ n) (un : n < 4294967296)
    (hd1 : m / 10 = d1) (he1 : m % 10 = e1) (hg1 : IntKind.u32.wrap (d1 * 16) = g1) (hp : IntKind.u32.wrap (g1 + e1) = p) (lp : 0 ≤ p) (up : p < 4294967296)
    (hd2 : n / 10 = d2) (he2 : n % 10 = e2) (hg2 : IntKind.u32.wrap (d2 * 16) = g2) (hk : IntKind.u32.wrap (g2 + e2) = k) (lk : 0 ≤ k) (uk : k < 4294967296)
    (hpl : p % 16 = pl) (hkl : k % 16 = kl) (hpk : IntKind.u32.wrap (pl + kl) = pk) (h1 : 15 < pk)
    (hsm : IntKind.u32.wrap (p + k) = sm) (lsm : 0 ≤ sm) (usm : sm < 4294967296) (h2 : ¬ 255 < sm) (htb : sm % 256 = tb)
    (hsu : IntKind.u32.wrap (m + n) = su) (lsu : 0 ≤ su) (usu : su < 4294967296) (h3 : ¬ 99 < su) (hv1 : su % 100 = v1) (lv : 0 ≤ v1) (uv : v1 < 4294967296) (hv2 : v1 / 10 = v2) (hv3 : IntKind.u32.wrap (v2 * 16) = v3) (hv4 : su % 10 = v4) (hv5 : IntKind.u32.wrap (v3 + v4) = S)
    (lG : 0 ≤ G) (hG : G % 2 = 0) (hb : a1 % 256 ≠ 0)
    (HT : Hid (∀ w : World, Calls Try.prog 6 #[.int .i64 0, .int .u32 tb, .int .u32 0, .int .u32 0, .int .u32 16] w fun e w' => e = .returned (.tuple #[.int .u32 S, .int .u32 R, .int .u32 G, .bool true, .int .i64 0]) ∧ Grown w w'))
    (HA : Hid (∀ w : World, Calls Try.prog 6 #[.int .i64 4, .int .u32 a0, .int .u32 0, .int .u32 a1, .int .u32 0] w fun e w' => e = .returned (.tuple #[.int .u32 (rX 4 a0 0 a1 0), .int .u32 (rY 4 a0 0 a1 0), .int .u32 G4, .bool true, .int .i64 0]) ∧ Grown w w'))
    (HB : Hid (∀ w : World, Calls Try.prog 6 #[.int .i64 5, .int .u32 (rX 4 a0 0 a1 0), .int .u32 (rY 4 a0 0 a1 0), .int .u32 a1, .int .u32 0] w fun e w' => e = .returned (.tuple #[.int .u32 (a0 % 256), .int .u32 0, .int .u32 G5, .bool true, .int .i64 0]) ∧ Grown w w')) :
    Calls Try.prog 3 #[.int .u32 a0, .int .u32 a1, .int .u32 a2] w fun e w' => e = .returned (.bool true) ∧ Grown w w' := by
  have o1 : bits .or .u32 16 1 = 17 := by decide
  have o2 : bits .or .u32 0 1 = 1 := by decide
  have g1 : decide (15 < pk) = true := decide_eq_true h1
  have g2 : decide (255 < sm) = false := decide_eq_false h2
  have g3 : decide (99 < su) = false := decide_eq_false h3
  have hb' : (a1 % 256 != 0) = true := by simpa using hb
  go_enter Try.func3, Try.ntmps3
  go_wp2_with fail
  refine (awake_any _).mono ?_; rintro e w1 ⟨rfl, g5⟩
  go_wp2_with fail
  refine (HA.out _).mono ?_; rintro e w2 ⟨rfl, g6⟩
  go_wp2_with fail
  refine (HB.out _).mono ?_; rintro e w3 ⟨rfl, g7⟩
  go_wp2_with fail
  refine (HT.out _).mono ?_; rintro e w4 ⟨rfl, g8⟩
  go_wp2
  go_ret
  exact ⟨rfl, (Grown.trans (Grown.trans (Grown.trans g5 g6) g7) g8)⟩

set_option maxRecDepth 20000 in
set_option maxHeartbeats 2000000 in
theorem core_y101 (a0 a1 a2 m n d1 e1 g1 p d2 e2 g2 k pl kl pk sm tb su v1 v2 v3 v4 S R G G4 G5 : Int) (w : World) (l0 : 0 ≤ a0) (u0 : a0 < 4294967296) (l1 : 0 ≤ a1) (u1 : a1 < 4294967296) (l2 : 0 ≤ a2) (u2 : a2 < 4294967296)
    (hm : a0 % 100 = m) (lm : 0 ≤ m) (um : m < 4294967296) (hn : a2 % 100 = n) (ln : 0 ≤ n) (un : n < 4294967296)
    (hd1 : m / 10 = d1) (he1 : m % 10 = e1) (hg1 : IntKind.u32.wrap (d1 * 16) = g1) (hp : IntKind.u32.wrap (g1 + e1) = p) (lp : 0 ≤ p) (up : p < 4294967296)
    (hd2 : n / 10 = d2) (he2 : n % 10 = e2) (hg2 : IntKind.u32.wrap (d2 * 16) = g2) (hk : IntKind.u32.wrap (g2 + e2) = k) (lk : 0 ≤ k) (uk : k < 4294967296)
    (hpl : p % 16 = pl) (hkl : k % 16 = kl) (hpk : IntKind.u32.wrap (pl + kl) = pk) (h1 : 15 < pk)
    (hsm : IntKind.u32.wrap (p + k) = sm) (lsm : 0 ≤ sm) (usm : sm < 4294967296) (h2 : ¬ 255 < sm) (htb : sm % 256 = tb)
    (hsu : IntKind.u32.wrap (m + n) = su) (lsu : 0 ≤ su) (usu : su < 4294967296) (h3 : 99 < su) (hv1 : su % 100 = v1) (lv : 0 ≤ v1) (uv : v1 < 4294967296) (hv2 : v1 / 10 = v2) (hv3 : IntKind.u32.wrap (v2 * 16) = v3) (hv4 : su % 10 = v4) (hv5 : IntKind.u32.wrap (v3 + v4) = S)
    (lG : 0 ≤ G) (hG : G % 2 = 1) (hb : a1 % 256 ≠ 0)
    (HT : Hid (∀ w : World, Calls Try.prog 6 #[.int .i64 0, .int .u32 tb, .int .u32 0, .int .u32 0, .int .u32 16] w fun e w' => e = .returned (.tuple #[.int .u32 S, .int .u32 R, .int .u32 G, .bool true, .int .i64 0]) ∧ Grown w w'))
    (HA : Hid (∀ w : World, Calls Try.prog 6 #[.int .i64 4, .int .u32 a0, .int .u32 0, .int .u32 a1, .int .u32 0] w fun e w' => e = .returned (.tuple #[.int .u32 (rX 4 a0 0 a1 0), .int .u32 (rY 4 a0 0 a1 0), .int .u32 G4, .bool true, .int .i64 0]) ∧ Grown w w'))
    (HB : Hid (∀ w : World, Calls Try.prog 6 #[.int .i64 5, .int .u32 (rX 4 a0 0 a1 0), .int .u32 (rY 4 a0 0 a1 0), .int .u32 a1, .int .u32 0] w fun e w' => e = .returned (.tuple #[.int .u32 (a0 % 256), .int .u32 0, .int .u32 G5, .bool true, .int .i64 0]) ∧ Grown w w')) :
    Calls Try.prog 3 #[.int .u32 a0, .int .u32 a1, .int .u32 a2] w fun e w' => e = .returned (.bool true) ∧ Grown w w' := by
  have o1 : bits .or .u32 16 1 = 17 := by decide
  have o2 : bits .or .u32 0 1 = 1 := by decide
  have g1 : decide (15 < pk) = true := decide_eq_true h1
  have g2 : decide (255 < sm) = false := decide_eq_false h2
  have g3 : decide (99 < su) = true := decide_eq_true h3
  have hb' : (a1 % 256 != 0) = true := by simpa using hb
  go_enter Try.func3, Try.ntmps3
  go_wp2_with fail
  refine (awake_any _).mono ?_; rintro e w1 ⟨rfl, g5⟩
  go_wp2_with fail
  refine (HA.out _).mono ?_; rintro e w2 ⟨rfl, g6⟩
  go_wp2_with fail
  refine (HB.out _).mono ?_; rintro e w3 ⟨rfl, g7⟩
  go_wp2_with fail
  refine (HT.out _).mono ?_; rintro e w4 ⟨rfl, g8⟩
  go_wp2
  go_ret
  exact ⟨rfl, (Grown.trans (Grown.trans (Grown.trans g5 g6) g7) g8)⟩

set_option maxRecDepth 20000 in
set_option maxHeartbeats 2000000 in
theorem core_y111 (a0 a1 a2 m n d1 e1 g1 p d2 e2 g2 k pl kl pk sm tb su v1 v2 v3 v4 S R G G4 G5 : Int) (w : World) (l0 : 0 ≤ a0) (u0 : a0 < 4294967296) (l1 : 0 ≤ a1) (u1 : a1 < 4294967296) (l2 : 0 ≤ a2) (u2 : a2 < 4294967296)
    (hm : a0 % 100 = m) (lm : 0 ≤ m) (um : m < 4294967296) (hn : a2 % 100 = n) (ln : 0 ≤ n) (un : n < 4294967296)
    (hd1 : m / 10 = d1) (he1 : m % 10 = e1) (hg1 : IntKind.u32.wrap (d1 * 16) = g1) (hp : IntKind.u32.wrap (g1 + e1) = p) (lp : 0 ≤ p) (up : p < 4294967296)
    (hd2 : n / 10 = d2) (he2 : n % 10 = e2) (hg2 : IntKind.u32.wrap (d2 * 16) = g2) (hk : IntKind.u32.wrap (g2 + e2) = k) (lk : 0 ≤ k) (uk : k < 4294967296)
    (hpl : p % 16 = pl) (hkl : k % 16 = kl) (hpk : IntKind.u32.wrap (pl + kl) = pk) (h1 : 15 < pk)
    (hsm : IntKind.u32.wrap (p + k) = sm) (lsm : 0 ≤ sm) (usm : sm < 4294967296) (h2 : 255 < sm) (htb : sm % 256 = tb)
    (hsu : IntKind.u32.wrap (m + n) = su) (lsu : 0 ≤ su) (usu : su < 4294967296) (h3 : 99 < su) (hv1 : su % 100 = v1) (lv : 0 ≤ v1) (uv : v1 < 4294967296) (hv2 : v1 / 10 = v2) (hv3 : IntKind.u32.wrap (v2 * 16) = v3) (hv4 : su % 10 = v4) (hv5 : IntKind.u32.wrap (v3 + v4) = S)
    (lG : 0 ≤ G) (hG : G % 2 = 1) (hb : a1 % 256 ≠ 0)
    (HT : Hid (∀ w : World, Calls Try.prog 6 #[.int .i64 0, .int .u32 tb, .int .u32 0, .int .u32 0, .int .u32 17] w fun e w' => e = .returned (.tuple #[.int .u32 S, .int .u32 R, .int .u32 G, .bool true, .int .i64 0]) ∧ Grown w w'))
    (HA : Hid (∀ w : World, Calls Try.prog 6 #[.int .i64 4, .int .u32 a0, .int .u32 0, .int .u32 a1, .int .u32 0] w fun e w' => e = .returned (.tuple #[.int .u32 (rX 4 a0 0 a1 0), .int .u32 (rY 4 a0 0 a1 0), .int .u32 G4, .bool true, .int .i64 0]) ∧ Grown w w'))
    (HB : Hid (∀ w : World, Calls Try.prog 6 #[.int .i64 5, .int .u32 (rX 4 a0 0 a1 0), .int .u32 (rY 4 a0 0 a1 0), .int .u32 a1, .int .u32 0] w fun e w' => e = .returned (.tuple #[.int .u32 (a0 % 256), .int .u32 0, .int .u32 G5, .bool true, .int .i64 0]) ∧ Grown w w')) :
    Calls Try.prog 3 #[.int .u32 a0, .int .u32 a1, .int .u32 a2] w fun e w' => e = .returned (.bool true) ∧ Grown w w' := by
  have o1 : bits .or .u32 16 1 = 17 := by decide
  have o2 : bits .or .u32 0 1 = 1 := by decide
  have g1 : decide (15 < pk) = true := decide_eq_true h1
  have g2 : decide (255 < sm) = true := decide_eq_true h2
  have g3 : decide (99 < su) = true := decide_eq_true h3
  have hb' : (a1 % 256 != 0) = true := by simpa using hb
  go_enter Try.func3, Try.ntmps3
  go_wp2_with fail
  refine (awake_any _).mono ?_; rintro e w1 ⟨rfl, g5⟩
  go_wp2_with fail
  refine (HA.out _).mono ?_; rintro e w2 ⟨rfl, g6⟩
  go_wp2_with fail
  refine (HB.out _).mono ?_; rintro e w3 ⟨rfl, g7⟩
  go_wp2_with fail
  refine (HT.out _).mono ?_; rintro e w4 ⟨rfl, g8⟩
  go_wp2
  go_ret
  exact ⟨rfl, (Grown.trans (Grown.trans (Grown.trans g5 g6) g7) g8)⟩

set_option maxRecDepth 20000 in
set_option maxHeartbeats 2000000 in
theorem core_n000 (a0 a1 a2 m n d1 e1 g1 p d2 e2 g2 k pl kl pk sm tb su v1 v2 v3 v4 S R G G4 G5 : Int) (w : World) (l0 : 0 ≤ a0) (u0 : a0 < 4294967296) (l1 : 0 ≤ a1) (u1 : a1 < 4294967296) (l2 : 0 ≤ a2) (u2 : a2 < 4294967296)
    (hm : a0 % 100 = m) (lm : 0 ≤ m) (um : m < 4294967296) (hn : a2 % 100 = n) (ln : 0 ≤ n) (un : n < 4294967296)
    (hd1 : m / 10 = d1) (he1 : m % 10 = e1) (hg1 : IntKind.u32.wrap (d1 * 16) = g1) (hp : IntKind.u32.wrap (g1 + e1) = p) (lp : 0 ≤ p) (up : p < 4294967296)
    (hd2 : n / 10 = d2) (he2 : n % 10 = e2) (hg2 : IntKind.u32.wrap (d2 * 16) = g2) (hk : IntKind.u32.wrap (g2 + e2) = k) (lk : 0 ≤ k) (uk : k < 4294967296)
    (hpl : p % 16 = pl) (hkl : k % 16 = kl) (hpk : IntKind.u32.wrap (pl + kl) = pk) (h1 : ¬ 15 < pk)
    (hsm : IntKind.u32.wrap (p + k) = sm) (lsm : 0 ≤ sm) (usm : sm < 4294967296) (h2 : ¬ 255 < sm) (htb : sm % 256 = tb)
    (hsu : IntKind.u32.wrap (m + n) = su) (lsu : 0 ≤ su) (usu : su < 4294967296) (h3 : ¬ 99 < su) (hv1 : su % 100 = v1) (lv : 0 ≤ v1) (uv : v1 < 4294967296) (hv2 : v1 / 10 = v2) (hv3 : IntKind.u32.wrap (v2 * 16) = v3) (hv4 : su % 10 = v4) (hv5 : IntKind.u32.wrap (v3 + v4) = S)
    (lG : 0 ≤ G) (hG : G % 2 = 0) (hb : a1 % 256 = 0)
    (HT : Hid (∀ w : World, Calls Try.prog 6 #[.int .i64 0, .int .u32 tb, .int .u32 0, .int .u32 0, .int .u32 0] w fun e w' => e = .returned (.tuple #[.int .u32 S, .int .u32 R, .int .u32 G, .bool true, .int .i64 0]) ∧ Grown w w'))
    (HA : Hid (∀ w : World, Calls Try.prog 6 #[.int .i64 4, .int .u32 a0, .int .u32 0, .int .u32 a1, .int .u32 0] w fun e w' => e = .returned (.tuple #[.int .u32 0, .int .u32 0, .int .u32 0, .bool false, .int .i64 0]) ∧ Grown w w')) :
    Calls Try.prog 3 #[.int .u32 a0, .int .u32 a1, .int .u32 a2] w fun e w' => e = .returned (.bool true) ∧ Grown w w' := by
  have o1 : bits .or .u32 16 1 = 17 := by decide
  have o2 : bits .or .u32 0 1 = 1 := by decide
  have g1 : decide (15 < pk) = false := decide_eq_false h1
  have g2 : decide (255 < sm) = false := decide_eq_false h2
  have g3 : decide (99 < su) = false := decide_eq_false h3
  go_enter Try.func3, Try.ntmps3
  go_wp2_with fail
  refine (awake_any _).mono ?_; rintro e w1 ⟨rfl, g5⟩
  go_wp2_with fail
  refine (HA.out _).mono ?_; rintro e w2 ⟨rfl, g6⟩
  go_wp2_with fail
  refine (HT.out _).mono ?_; rintro e w3 ⟨rfl, g7⟩
  go_wp2
  go_ret
  exact ⟨rfl, (Grown.trans (Grown.trans g5 g6) g7)⟩

set_option maxRecDepth 20000 in
set_option maxHeartbeats 2000000 in
theorem core_n001 (a0 a1 a2 m n d1 e1 g1 p d2 e2 g2 k pl kl pk sm tb su v1 v2 v3 v4 S R G G4 G5 : Int) (w : World) (l0 : 0 ≤ a0) (u0 : a0 < 4294967296) (l1 : 0 ≤ a1) (u1 : a1 < 4294967296) (l2 : 0 ≤ a2) (u2 : a2 < 4294967296)
    (hm : a0 % 100 = m) (lm : 0 ≤ m) (um : m < 4294967296) (hn : a2 % 100 = n) (ln : 0 ≤ n) (un : n < 4294967296)
    (hd1 : m / 10 = d1) (he1 : m % 10 = e1) (hg1 : IntKind.u32.wrap (d1 * 16) = g1) (hp : IntKind.u32.wrap (g1 + e1) = p) (lp : 0 ≤ p) (up : p < 4294967296)
    (hd2 : n / 10 = d2) (he2 : n % 10 = e2) (hg2 : IntKind.u32.wrap (d2 * 16) = g2) (hk : IntKind.u32.wrap (g2 + e2) = k) (lk : 0 ≤ k) (uk : k < 4294967296)
    (hpl : p % 16 = pl) (hkl : k % 16 = kl) (hpk : IntKind.u32.wrap (pl + kl) = pk) (h1 : ¬ 15 < pk)
    (hsm : IntKind.u32.wrap (p + k) = sm) (lsm : 0 ≤ sm) (usm : sm < 4294967296) (h2 : ¬ 255 < sm) (htb : sm % 256 = tb)
    (hsu : IntKind.u32.wrap (m + n) = su) (lsu : 0 ≤ su) (usu : su < 4294967296) (h3 : 99 < su) (hv1 : su % 100 = v1) (lv : 0 ≤ v1) (uv : v1 < 4294967296) (hv2 : v1 / 10 = v2) (hv3 : IntKind.u32.wrap (v2 * 16) = v3) (hv4 : su % 10 = v4) (hv5 : IntKind.u32.wrap (v3 + v4) = S)
    (lG : 0 ≤ G) (hG : G % 2 = 1) (hb : a1 % 256 = 0)
    (HT : Hid (∀ w : World, Calls Try.prog 6 #[.int .i64 0, .int .u32 tb, .int .u32 0, .int .u32 0, .int .u32 0] w fun e w' => e = .returned (.tuple #[.int .u32 S, .int .u32 R, .int .u32 G, .bool true, .int .i64 0]) ∧ Grown w w'))
    (HA : Hid (∀ w : World, Calls Try.prog 6 #[.int .i64 4, .int .u32 a0, .int .u32 0, .int .u32 a1, .int .u32 0] w fun e w' => e = .returned (.tuple #[.int .u32 0, .int .u32 0, .int .u32 0, .bool false, .int .i64 0]) ∧ Grown w w')) :
    Calls Try.prog 3 #[.int .u32 a0, .int .u32 a1, .int .u32 a2] w fun e w' => e = .returned (.bool true) ∧ Grown w w' := by
  have o1 : bits .or .u32 16 1 = 17 := by decide
  have o2 : bits .or .u32 0 1 = 1 := by decide
  have g1 : decide (15 < pk) = false := decide_eq_false h1
  have g2 : decide (255 < sm) = false := decide_eq_false h2
  have g3 : decide (99 < su) = true := decide_eq_true h3
  go_enter Try.func3, Try.ntmps3
  go_wp2_with fail
  refine (awake_any _).mono ?_; rintro e w1 ⟨rfl, g5⟩
  go_wp2_with fail
  refine (HA.out _).mono ?_; rintro e w2 ⟨rfl, g6⟩
  go_wp2_with fail
  refine (HT.out _).mono ?_; rintro e w3 ⟨rfl, g7⟩
  go_wp2
  go_ret
  exact ⟨rfl, (Grown.trans (Grown.trans g5 g6) g7)⟩

set_option maxRecDepth 20000 in
set_option maxHeartbeats 2000000 in
theorem core_n011 (a0 a1 a2 m n d1 e1 g1 p d2 e2 g2 k pl kl pk sm tb su v1 v2 v3 v4 S R G G4 G5 : Int) (w : World) (l0 : 0 ≤ a0) (u0 : a0 < 4294967296) (l1 : 0 ≤ a1) (u1 : a1 < 4294967296) (l2 : 0 ≤ a2) (u2 : a2 < 4294967296)
    (hm : a0 % 100 = m) (lm : 0 ≤ m) (um : m < 4294967296) (hn : a2 % 100 = n) (ln : 0 ≤ n) (un : n < 4294967296)
    (hd1 : m / 10 = d1) (he1 : m % 10 = e1) (hg1 : IntKind.u32.wrap (d1 * 16) = g1) (hp : IntKind.u32.wrap (g1 + e1) = p) (lp : 0 ≤ p) (up : p < 4294967296)
    (hd2 : n / 10 = d2) (he2 : n % 10 = e2) (hg2 : IntKind.u32.wrap (d2 * 16) = g2) (hk : IntKind.u32.wrap (g2 + e2) = k) (lk : 0 ≤ k) (uk : k < 4294967296)
    (hpl : p % 16 = pl) (hkl : k % 16 = kl) (hpk : IntKind.u32.wrap (pl + kl) = pk) (h1 : ¬ 15 < pk)
    (hsm : IntKind.u32.wrap (p + k) = sm) (lsm : 0 ≤ sm) (usm : sm < 4294967296) (h2 : 255 < sm) (htb : sm % 256 = tb)
    (hsu : IntKind.u32.wrap (m + n) = su) (lsu : 0 ≤ su) (usu : su < 4294967296) (h3 : 99 < su) (hv1 : su % 100 = v1) (lv : 0 ≤ v1) (uv : v1 < 4294967296) (hv2 : v1 / 10 = v2) (hv3 : IntKind.u32.wrap (v2 * 16) = v3) (hv4 : su % 10 = v4) (hv5 : IntKind.u32.wrap (v3 + v4) = S)
    (lG : 0 ≤ G) (hG : G % 2 = 1) (hb : a1 % 256 = 0)
    (HT : Hid (∀ w : World, Calls Try.prog 6 #[.int .i64 0, .int .u32 tb, .int .u32 0, .int .u32 0, .int .u32 1] w fun e w' => e = .returned (.tuple #[.int .u32 S, .int .u32 R, .int .u32 G, .bool true, .int .i64 0]) ∧ Grown w w'))
    (HA : Hid (∀ w : World, Calls Try.prog 6 #[.int .i64 4, .int .u32 a0, .int .u32 0, .int .u32 a1, .int .u32 0] w fun e w' => e = .returned (.tuple #[.int .u32 0, .int .u32 0, .int .u32 0, .bool false, .int .i64 0]) ∧ Grown w w')) :
    Calls Try.prog 3 #[.int .u32 a0, .int .u32 a1, .int .u32 a2] w fun e w' => e = .returned (.bool true) ∧ Grown w w' := by
  have o1 : bits .or .u32 16 1 = 17 := by decide
  have o2 : bits .or .u32 0 1 = 1 := by decide
  have g1 : decide (15 < pk) = false := decide_eq_false h1
  have g2 : decide (255 < sm) = true := decide_eq_true h2
  have g3 : decide (99 < su) = true := decide_eq_true h3
  go_enter Try.func3, Try.ntmps3
  go_wp2_with fail
  refine (awake_any _).mono ?_; rintro e w1 ⟨rfl, g5⟩
  go_wp2_with fail
  refine (HA.out _).mono ?_; rintro e w2 ⟨rfl, g6⟩
  go_wp2_with fail
  refine (HT.out _).mono ?_; rintro e w3 ⟨rfl, g7⟩
  go_wp2
  go_ret
  exact ⟨rfl, (Grown.trans (Grown.trans g5 g6) g7)⟩

set_option maxRecDepth 20000 in
set_option maxHeartbeats 2000000 in
theorem core_n100 (a0 a1 a2 m n d1 e1 g1 p d2 e2 g2 k pl kl pk sm tb su v1 v2 v3 v4 S R G G4 G5 : Int) (w : World) (l0 : 0 ≤ a0) (u0 : a0 < 4294967296) (l1 : 0 ≤ a1) (u1 : a1 < 4294967296) (l2 : 0 ≤ a2) (u2 : a2 < 4294967296)
    (hm : a0 % 100 = m) (lm : 0 ≤ m) (um : m < 4294967296) (hn : a2 % 100 = n) (ln : 0 ≤ n) (un : n < 4294967296)
    (hd1 : m / 10 = d1) (he1 : m % 10 = e1) (hg1 : IntKind.u32.wrap (d1 * 16) = g1) (hp : IntKind.u32.wrap (g1 + e1) = p) (lp : 0 ≤ p) (up : p < 4294967296)
    (hd2 : n / 10 = d2) (he2 : n % 10 = e2) (hg2 : IntKind.u32.wrap (d2 * 16) = g2) (hk : IntKind.u32.wrap (g2 + e2) = k) (lk : 0 ≤ k) (uk : k < 4294967296)
    (hpl : p % 16 = pl) (hkl : k % 16 = kl) (hpk : IntKind.u32.wrap (pl + kl) = pk) (h1 : 15 < pk)
    (hsm : IntKind.u32.wrap (p + k) = sm) (lsm : 0 ≤ sm) (usm : sm < 4294967296) (h2 : ¬ 255 < sm) (htb : sm % 256 = tb)
    (hsu : IntKind.u32.wrap (m + n) = su) (lsu : 0 ≤ su) (usu : su < 4294967296) (h3 : ¬ 99 < su) (hv1 : su % 100 = v1) (lv : 0 ≤ v1) (uv : v1 < 4294967296) (hv2 : v1 / 10 = v2) (hv3 : IntKind.u32.wrap (v2 * 16) = v3) (hv4 : su % 10 = v4) (hv5 : IntKind.u32.wrap (v3 + v4) = S)
    (lG : 0 ≤ G) (hG : G % 2 = 0) (hb : a1 % 256 = 0)
    (HT : Hid (∀ w : World, Calls Try.prog 6 #[.int .i64 0, .int .u32 tb, .int .u32 0, .int .u32 0, .int .u32 16] w fun e w' => e = .returned (.tuple #[.int .u32 S, .int .u32 R, .int .u32 G, .bool true, .int .i64 0]) ∧ Grown w w'))
    (HA : Hid (∀ w : World, Calls Try.prog 6 #[.int .i64 4, .int .u32 a0, .int .u32 0, .int .u32 a1, .int .u32 0] w fun e w' => e = .returned (.tuple #[.int .u32 0, .int .u32 0, .int .u32 0, .bool false, .int .i64 0]) ∧ Grown w w')) :
    Calls Try.prog 3 #[.int .u32 a0, .int .u32 a1, .int .u32 a2] w fun e w' => e = .returned (.bool true) ∧ Grown w w' := by
  have o1 : bits .or .u32 16 1 = 17 := by decide
  have o2 : bits .or .u32 0 1 = 1 := by decide
  have g1 : decide (15 < pk) = true := decide_eq_true h1
  have g2 : decide (255 < sm) = false := decide_eq_false h2
  have g3 : decide (99 < su) = false := decide_eq_false h3
  go_enter Try.func3, Try.ntmps3
  go_wp2_with fail
  refine (awake_any _).mono ?_; rintro e w1 ⟨rfl, g5⟩
  go_wp2_with fail
  refine (HA.out _).mono ?_; rintro e w2 ⟨rfl, g6⟩
  go_wp2_with fail
  refine (HT.out _).mono ?_; rintro e w3 ⟨rfl, g7⟩
  go_wp2
  go_ret
  exact ⟨rfl, (Grown.trans (Grown.trans g5 g6) g7)⟩

set_option maxRecDepth 20000 in
set_option maxHeartbeats 2000000 in
theorem core_n101 (a0 a1 a2 m n d1 e1 g1 p d2 e2 g2 k pl kl pk sm tb su v1 v2 v3 v4 S R G G4 G5 : Int) (w : World) (l0 : 0 ≤ a0) (u0 : a0 < 4294967296) (l1 : 0 ≤ a1) (u1 : a1 < 4294967296) (l2 : 0 ≤ a2) (u2 : a2 < 4294967296)
    (hm : a0 % 100 = m) (lm : 0 ≤ m) (um : m < 4294967296) (hn : a2 % 100 = n) (ln : 0 ≤ n) (un : n < 4294967296)
    (hd1 : m / 10 = d1) (he1 : m % 10 = e1) (hg1 : IntKind.u32.wrap (d1 * 16) = g1) (hp : IntKind.u32.wrap (g1 + e1) = p) (lp : 0 ≤ p) (up : p < 4294967296)
    (hd2 : n / 10 = d2) (he2 : n % 10 = e2) (hg2 : IntKind.u32.wrap (d2 * 16) = g2) (hk : IntKind.u32.wrap (g2 + e2) = k) (lk : 0 ≤ k) (uk : k < 4294967296)
    (hpl : p % 16 = pl) (hkl : k % 16 = kl) (hpk : IntKind.u32.wrap (pl + kl) = pk) (h1 : 15 < pk)
    (hsm : IntKind.u32.wrap (p + k) = sm) (lsm : 0 ≤ sm) (usm : sm < 4294967296) (h2 : ¬ 255 < sm) (htb : sm % 256 = tb)
    (hsu : IntKind.u32.wrap (m + n) = su) (lsu : 0 ≤ su) (usu : su < 4294967296) (h3 : 99 < su) (hv1 : su % 100 = v1) (lv : 0 ≤ v1) (uv : v1 < 4294967296) (hv2 : v1 / 10 = v2) (hv3 : IntKind.u32.wrap (v2 * 16) = v3) (hv4 : su % 10 = v4) (hv5 : IntKind.u32.wrap (v3 + v4) = S)
    (lG : 0 ≤ G) (hG : G % 2 = 1) (hb : a1 % 256 = 0)
    (HT : Hid (∀ w : World, Calls Try.prog 6 #[.int .i64 0, .int .u32 tb, .int .u32 0, .int .u32 0, .int .u32 16] w fun e w' => e = .returned (.tuple #[.int .u32 S, .int .u32 R, .int .u32 G, .bool true, .int .i64 0]) ∧ Grown w w'))
    (HA : Hid (∀ w : World, Calls Try.prog 6 #[.int .i64 4, .int .u32 a0, .int .u32 0, .int .u32 a1, .int .u32 0] w fun e w' => e = .returned (.tuple #[.int .u32 0, .int .u32 0, .int .u32 0, .bool false, .int .i64 0]) ∧ Grown w w')) :
    Calls Try.prog 3 #[.int .u32 a0, .int .u32 a1, .int .u32 a2] w fun e w' => e = .returned (.bool true) ∧ Grown w w' := by
  have o1 : bits .or .u32 16 1 = 17 := by decide
  have o2 : bits .or .u32 0 1 = 1 := by decide
  have g1 : decide (15 < pk) = true := decide_eq_true h1
  have g2 : decide (255 < sm) = false := decide_eq_false h2
  have g3 : decide (99 < su) = true := decide_eq_true h3
  go_enter Try.func3, Try.ntmps3
  go_wp2_with fail
  refine (awake_any _).mono ?_; rintro e w1 ⟨rfl, g5⟩
  go_wp2_with fail
  refine (HA.out _).mono ?_; rintro e w2 ⟨rfl, g6⟩
  go_wp2_with fail
  refine (HT.out _).mono ?_; rintro e w3 ⟨rfl, g7⟩
  go_wp2
  go_ret
  exact ⟨rfl, (Grown.trans (Grown.trans g5 g6) g7)⟩

set_option maxRecDepth 20000 in
set_option maxHeartbeats 2000000 in
theorem core_n111 (a0 a1 a2 m n d1 e1 g1 p d2 e2 g2 k pl kl pk sm tb su v1 v2 v3 v4 S R G G4 G5 : Int) (w : World) (l0 : 0 ≤ a0) (u0 : a0 < 4294967296) (l1 : 0 ≤ a1) (u1 : a1 < 4294967296) (l2 : 0 ≤ a2) (u2 : a2 < 4294967296)
    (hm : a0 % 100 = m) (lm : 0 ≤ m) (um : m < 4294967296) (hn : a2 % 100 = n) (ln : 0 ≤ n) (un : n < 4294967296)
    (hd1 : m / 10 = d1) (he1 : m % 10 = e1) (hg1 : IntKind.u32.wrap (d1 * 16) = g1) (hp : IntKind.u32.wrap (g1 + e1) = p) (lp : 0 ≤ p) (up : p < 4294967296)
    (hd2 : n / 10 = d2) (he2 : n % 10 = e2) (hg2 : IntKind.u32.wrap (d2 * 16) = g2) (hk : IntKind.u32.wrap (g2 + e2) = k) (lk : 0 ≤ k) (uk : k < 4294967296)
    (hpl : p % 16 = pl) (hkl : k % 16 = kl) (hpk : IntKind.u32.wrap (pl + kl) = pk) (h1 : 15 < pk)
    (hsm : IntKind.u32.wrap (p + k) = sm) (lsm : 0 ≤ sm) (usm : sm < 4294967296) (h2 : 255 < sm) (htb : sm % 256 = tb)
    (hsu : IntKind.u32.wrap (m + n) = su) (lsu : 0 ≤ su) (usu : su < 4294967296) (h3 : 99 < su) (hv1 : su % 100 = v1) (lv : 0 ≤ v1) (uv : v1 < 4294967296) (hv2 : v1 / 10 = v2) (hv3 : IntKind.u32.wrap (v2 * 16) = v3) (hv4 : su % 10 = v4) (hv5 : IntKind.u32.wrap (v3 + v4) = S)
    (lG : 0 ≤ G) (hG : G % 2 = 1) (hb : a1 % 256 = 0)
    (HT : Hid (∀ w : World, Calls Try.prog 6 #[.int .i64 0, .int .u32 tb, .int .u32 0, .int .u32 0, .int .u32 17] w fun e w' => e = .returned (.tuple #[.int .u32 S, .int .u32 R, .int .u32 G, .bool true, .int .i64 0]) ∧ Grown w w'))
    (HA : Hid (∀ w : World, Calls Try.prog 6 #[.int .i64 4, .int .u32 a0, .int .u32 0, .int .u32 a1, .int .u32 0] w fun e w' => e = .returned (.tuple #[.int .u32 0, .int .u32 0, .int .u32 0, .bool false, .int .i64 0]) ∧ Grown w w')) :
    Calls Try.prog 3 #[.int .u32 a0, .int .u32 a1, .int .u32 a2] w fun e w' => e = .returned (.bool true) ∧ Grown w w' := by
  have o1 : bits .or .u32 16 1 = 17 := by decide
  have o2 : bits .or .u32 0 1 = 1 := by decide
  have g1 : decide (15 < pk) = true := decide_eq_true h1
  have g2 : decide (255 < sm) = true := decide_eq_true h2
  have g3 : decide (99 < su) = true := decide_eq_true h3
  go_enter Try.func3, Try.ntmps3
  go_wp2_with fail
  refine (awake_any _).mono ?_; rintro e w1 ⟨rfl, g5⟩
  go_wp2_with fail
  refine (HA.out _).mono ?_; rintro e w2 ⟨rfl, g6⟩
  go_wp2_with fail
  refine (HT.out _).mono ?_; rintro e w3 ⟨rfl, g7⟩
  go_wp2
  go_ret
  exact ⟨rfl, (Grown.trans (Grown.trans g5 g6) g7)⟩

theorem dig_y000 (a0 a1 a2 m n p k S : Int) (w : World) (l0 : 0 ≤ a0) (u0 : a0 < 4294967296) (l1 : 0 ≤ a1) (u1 : a1 < 4294967296) (l2 : 0 ≤ a2) (u2 : a2 < 4294967296)
    (hm : a0 % 100 = m) (hn : a2 % 100 = n) (hp : m / 10 * 16 + m % 10 = p) (hk : n / 10 * 16 + n % 10 = k) (hS : (m + n) % 100 / 10 * 16 + (m + n) % 10 = S) (hb : a1 % 256 ≠ 0)
    (h1 : ¬ 15 < p % 16 + k % 16) (h2 : ¬ 255 < p + k) (h3 : ¬ 99 < m + n) :
    Calls Try.prog 3 #[.int .u32 a0, .int .u32 a1, .int .u32 a2] w fun e w' => e = .returned (.bool true) ∧ Grown w w' := by
  have m0 := d_mod hm
  have n0 := d_mod hn
  have p0 := d_pk m0.1 m0.2 hp
  have k0 := d_pk n0.1 n0.2 hk
  have s0 := d_s hS
  have hp' : IntKind.u32.wrap (m / 10 * 16 + m % 10) = p := by rw [hp]; exact w_small p0.1 (Int.le_trans p0.2 (by decide))
  have hk' : IntKind.u32.wrap (n / 10 * 16 + n % 10) = k := by rw [hk]; exact w_small k0.1 (Int.le_trans k0.2 (by decide))
  have hS' : IntKind.u32.wrap ((m + n) % 100 / 10 * 16 + (m + n) % 10) = S := by rw [hS]; exact w_small s0.1 (Int.le_trans s0.2 (by decide))
  have hodd := (dig_sum m0.1 m0.2 n0.1 n0.2 hp hk hS 0 false false false (by decide) (by decide) (by decide) (by decide) (decide_eq_false h1).symm (decide_eq_false h2).symm (decide_eq_false h3)).2
  rw [if_neg (by decide)] at hodd
  exact core_y000 a0 a1 a2 m n _ _ _ p _ _ _ k _ _ _ _ _ _ _ _ _ _ S _ _ _ _ w l0 u0 l1 u1 l2 u2 hm m0.1 (Int.lt_trans m0.2 (by decide)) hn n0.1 (Int.lt_trans n0.2 (by decide))
    rfl rfl (d_16 (d_tens m0.1 m0.2).1 (d_tens m0.1 m0.2).2) hp' p0.1 (Int.lt_of_le_of_lt p0.2 (by decide))
    rfl rfl (d_16 (d_tens n0.1 n0.2).1 (d_tens n0.1 n0.2).2) hk' k0.1 (Int.lt_of_le_of_lt k0.2 (by decide))
    rfl rfl d_mm h1 (d_add p0.1 p0.2 k0.1 k0.2) (Int.add_nonneg p0.1 k0.1) (Int.lt_of_le_of_lt (Int.add_le_add p0.2 k0.2) (by decide)) h2 rfl
    (d_add m0.1 (Int.le_trans (Int.le_of_lt m0.2) (by decide)) n0.1 (Int.le_trans (Int.le_of_lt n0.2) (by decide))) (Int.add_nonneg m0.1 n0.1) (Int.lt_of_lt_of_le (Int.add_lt_add m0.2 n0.2) (by decide)) h3 rfl
    (mod_bd (by decide) _).1 (Int.lt_trans (mod_bd (by decide) _).2 (by decide)) rfl (d_16 (d_dig _).1 (d_dig _).2) rfl hS'
    (byF_bd (bd3 (f := 0) (by decide) (by decide) 16 1 2048 fl16 fl1 fl2048 _ _ _).1 (bd3 (f := 0) (by decide) (by decide) 16 1 2048 fl16 fl1 fl2048 _ _ _).2 _ _).1 hodd hb
    (fun w => dig_third m0.1 m0.2 n0.1 n0.2 hp hk hS 0 false false false (by decide) (by decide) (by decide) (by decide) (decide_eq_false h1).symm (decide_eq_false h2).symm (decide_eq_false h3) w)
    (fun w => dig_first a0 a1 w l0 u0 l1 u1 hb) (fun w => dig_second a0 a1 w l0 u0 l1 u1 hb)

theorem dig_y001 (a0 a1 a2 m n p k S : Int) (w : World) (l0 : 0 ≤ a0) (u0 : a0 < 4294967296) (l1 : 0 ≤ a1) (u1 : a1 < 4294967296) (l2 : 0 ≤ a2) (u2 : a2 < 4294967296)
    (hm : a0 % 100 = m) (hn : a2 % 100 = n) (hp : m / 10 * 16 + m % 10 = p) (hk : n / 10 * 16 + n % 10 = k) (hS : (m + n) % 100 / 10 * 16 + (m + n) % 10 = S) (hb : a1 % 256 ≠ 0)
    (h1 : ¬ 15 < p % 16 + k % 16) (h2 : ¬ 255 < p + k) (h3 : 99 < m + n) :
    Calls Try.prog 3 #[.int .u32 a0, .int .u32 a1, .int .u32 a2] w fun e w' => e = .returned (.bool true) ∧ Grown w w' := by
  have m0 := d_mod hm
  have n0 := d_mod hn
  have p0 := d_pk m0.1 m0.2 hp
  have k0 := d_pk n0.1 n0.2 hk
  have s0 := d_s hS
  have hp' : IntKind.u32.wrap (m / 10 * 16 + m % 10) = p := by rw [hp]; exact w_small p0.1 (Int.le_trans p0.2 (by decide))
  have hk' : IntKind.u32.wrap (n / 10 * 16 + n % 10) = k := by rw [hk]; exact w_small k0.1 (Int.le_trans k0.2 (by decide))
  have hS' : IntKind.u32.wrap ((m + n) % 100 / 10 * 16 + (m + n) % 10) = S := by rw [hS]; exact w_small s0.1 (Int.le_trans s0.2 (by decide))
  have hodd := (dig_sum m0.1 m0.2 n0.1 n0.2 hp hk hS 0 false false true (by decide) (by decide) (by decide) (by decide) (decide_eq_false h1).symm (decide_eq_false h2).symm (decide_eq_true h3)).2
  rw [if_pos rfl] at hodd
  exact core_y001 a0 a1 a2 m n _ _ _ p _ _ _ k _ _ _ _ _ _ _ _ _ _ S _ _ _ _ w l0 u0 l1 u1 l2 u2 hm m0.1 (Int.lt_trans m0.2 (by decide)) hn n0.1 (Int.lt_trans n0.2 (by decide))
    rfl rfl (d_16 (d_tens m0.1 m0.2).1 (d_tens m0.1 m0.2).2) hp' p0.1 (Int.lt_of_le_of_lt p0.2 (by decide))
    rfl rfl (d_16 (d_tens n0.1 n0.2).1 (d_tens n0.1 n0.2).2) hk' k0.1 (Int.lt_of_le_of_lt k0.2 (by decide))
    rfl rfl d_mm h1 (d_add p0.1 p0.2 k0.1 k0.2) (Int.add_nonneg p0.1 k0.1) (Int.lt_of_le_of_lt (Int.add_le_add p0.2 k0.2) (by decide)) h2 rfl
    (d_add m0.1 (Int.le_trans (Int.le_of_lt m0.2) (by decide)) n0.1 (Int.le_trans (Int.le_of_lt n0.2) (by decide))) (Int.add_nonneg m0.1 n0.1) (Int.lt_of_lt_of_le (Int.add_lt_add m0.2 n0.2) (by decide)) h3 rfl
    (mod_bd (by decide) _).1 (Int.lt_trans (mod_bd (by decide) _).2 (by decide)) rfl (d_16 (d_dig _).1 (d_dig _).2) rfl hS'
    (byF_bd (bd3 (f := 0) (by decide) (by decide) 16 1 2048 fl16 fl1 fl2048 _ _ _).1 (bd3 (f := 0) (by decide) (by decide) 16 1 2048 fl16 fl1 fl2048 _ _ _).2 _ _).1 hodd hb
    (fun w => dig_third m0.1 m0.2 n0.1 n0.2 hp hk hS 0 false false true (by decide) (by decide) (by decide) (by decide) (decide_eq_false h1).symm (decide_eq_false h2).symm (decide_eq_true h3) w)
    (fun w => dig_first a0 a1 w l0 u0 l1 u1 hb) (fun w => dig_second a0 a1 w l0 u0 l1 u1 hb)

theorem dig_y011 (a0 a1 a2 m n p k S : Int) (w : World) (l0 : 0 ≤ a0) (u0 : a0 < 4294967296) (l1 : 0 ≤ a1) (u1 : a1 < 4294967296) (l2 : 0 ≤ a2) (u2 : a2 < 4294967296)
    (hm : a0 % 100 = m) (hn : a2 % 100 = n) (hp : m / 10 * 16 + m % 10 = p) (hk : n / 10 * 16 + n % 10 = k) (hS : (m + n) % 100 / 10 * 16 + (m + n) % 10 = S) (hb : a1 % 256 ≠ 0)
    (h1 : ¬ 15 < p % 16 + k % 16) (h2 : 255 < p + k) (h3 : 99 < m + n) :
    Calls Try.prog 3 #[.int .u32 a0, .int .u32 a1, .int .u32 a2] w fun e w' => e = .returned (.bool true) ∧ Grown w w' := by
  have m0 := d_mod hm
  have n0 := d_mod hn
  have p0 := d_pk m0.1 m0.2 hp
  have k0 := d_pk n0.1 n0.2 hk
  have s0 := d_s hS
  have hp' : IntKind.u32.wrap (m / 10 * 16 + m % 10) = p := by rw [hp]; exact w_small p0.1 (Int.le_trans p0.2 (by decide))
  have hk' : IntKind.u32.wrap (n / 10 * 16 + n % 10) = k := by rw [hk]; exact w_small k0.1 (Int.le_trans k0.2 (by decide))
  have hS' : IntKind.u32.wrap ((m + n) % 100 / 10 * 16 + (m + n) % 10) = S := by rw [hS]; exact w_small s0.1 (Int.le_trans s0.2 (by decide))
  have hodd := (dig_sum m0.1 m0.2 n0.1 n0.2 hp hk hS 1 false true true (by decide) (by decide) (by decide) (by decide) (decide_eq_false h1).symm (decide_eq_true h2).symm (decide_eq_true h3)).2
  rw [if_pos rfl] at hodd
  exact core_y011 a0 a1 a2 m n _ _ _ p _ _ _ k _ _ _ _ _ _ _ _ _ _ S _ _ _ _ w l0 u0 l1 u1 l2 u2 hm m0.1 (Int.lt_trans m0.2 (by decide)) hn n0.1 (Int.lt_trans n0.2 (by decide))
    rfl rfl (d_16 (d_tens m0.1 m0.2).1 (d_tens m0.1 m0.2).2) hp' p0.1 (Int.lt_of_le_of_lt p0.2 (by decide))
    rfl rfl (d_16 (d_tens n0.1 n0.2).1 (d_tens n0.1 n0.2).2) hk' k0.1 (Int.lt_of_le_of_lt k0.2 (by decide))
    rfl rfl d_mm h1 (d_add p0.1 p0.2 k0.1 k0.2) (Int.add_nonneg p0.1 k0.1) (Int.lt_of_le_of_lt (Int.add_le_add p0.2 k0.2) (by decide)) h2 rfl
    (d_add m0.1 (Int.le_trans (Int.le_of_lt m0.2) (by decide)) n0.1 (Int.le_trans (Int.le_of_lt n0.2) (by decide))) (Int.add_nonneg m0.1 n0.1) (Int.lt_of_lt_of_le (Int.add_lt_add m0.2 n0.2) (by decide)) h3 rfl
    (mod_bd (by decide) _).1 (Int.lt_trans (mod_bd (by decide) _).2 (by decide)) rfl (d_16 (d_dig _).1 (d_dig _).2) rfl hS'
    (byF_bd (bd3 (f := 1) (by decide) (by decide) 16 1 2048 fl16 fl1 fl2048 _ _ _).1 (bd3 (f := 1) (by decide) (by decide) 16 1 2048 fl16 fl1 fl2048 _ _ _).2 _ _).1 hodd hb
    (fun w => dig_third m0.1 m0.2 n0.1 n0.2 hp hk hS 1 false true true (by decide) (by decide) (by decide) (by decide) (decide_eq_false h1).symm (decide_eq_true h2).symm (decide_eq_true h3) w)
    (fun w => dig_first a0 a1 w l0 u0 l1 u1 hb) (fun w => dig_second a0 a1 w l0 u0 l1 u1 hb)

theorem dig_y100 (a0 a1 a2 m n p k S : Int) (w : World) (l0 : 0 ≤ a0) (u0 : a0 < 4294967296) (l1 : 0 ≤ a1) (u1 : a1 < 4294967296) (l2 : 0 ≤ a2) (u2 : a2 < 4294967296)
    (hm : a0 % 100 = m) (hn : a2 % 100 = n) (hp : m / 10 * 16 + m % 10 = p) (hk : n / 10 * 16 + n % 10 = k) (hS : (m + n) % 100 / 10 * 16 + (m + n) % 10 = S) (hb : a1 % 256 ≠ 0)
    (h1 : 15 < p % 16 + k % 16) (h2 : ¬ 255 < p + k) (h3 : ¬ 99 < m + n) :
    Calls Try.prog 3 #[.int .u32 a0, .int .u32 a1, .int .u32 a2] w fun e w' => e = .returned (.bool true) ∧ Grown w w' := by
  have m0 := d_mod hm
  have n0 := d_mod hn
  have p0 := d_pk m0.1 m0.2 hp
  have k0 := d_pk n0.1 n0.2 hk
  have s0 := d_s hS
  have hp' : IntKind.u32.wrap (m / 10 * 16 + m % 10) = p := by rw [hp]; exact w_small p0.1 (Int.le_trans p0.2 (by decide))
  have hk' : IntKind.u32.wrap (n / 10 * 16 + n % 10) = k := by rw [hk]; exact w_small k0.1 (Int.le_trans k0.2 (by decide))
  have hS' : IntKind.u32.wrap ((m + n) % 100 / 10 * 16 + (m + n) % 10) = S := by rw [hS]; exact w_small s0.1 (Int.le_trans s0.2 (by decide))
  have hodd := (dig_sum m0.1 m0.2 n0.1 n0.2 hp hk hS 16 true false false (by decide) (by decide) (by decide) (by decide) (decide_eq_true h1).symm (decide_eq_false h2).symm (decide_eq_false h3)).2
  rw [if_neg (by decide)] at hodd
  exact core_y100 a0 a1 a2 m n _ _ _ p _ _ _ k _ _ _ _ _ _ _ _ _ _ S _ _ _ _ w l0 u0 l1 u1 l2 u2 hm m0.1 (Int.lt_trans m0.2 (by decide)) hn n0.1 (Int.lt_trans n0.2 (by decide))
    rfl rfl (d_16 (d_tens m0.1 m0.2).1 (d_tens m0.1 m0.2).2) hp' p0.1 (Int.lt_of_le_of_lt p0.2 (by decide))
    rfl rfl (d_16 (d_tens n0.1 n0.2).1 (d_tens n0.1 n0.2).2) hk' k0.1 (Int.lt_of_le_of_lt k0.2 (by decide))
    rfl rfl d_mm h1 (d_add p0.1 p0.2 k0.1 k0.2) (Int.add_nonneg p0.1 k0.1) (Int.lt_of_le_of_lt (Int.add_le_add p0.2 k0.2) (by decide)) h2 rfl
    (d_add m0.1 (Int.le_trans (Int.le_of_lt m0.2) (by decide)) n0.1 (Int.le_trans (Int.le_of_lt n0.2) (by decide))) (Int.add_nonneg m0.1 n0.1) (Int.lt_of_lt_of_le (Int.add_lt_add m0.2 n0.2) (by decide)) h3 rfl
    (mod_bd (by decide) _).1 (Int.lt_trans (mod_bd (by decide) _).2 (by decide)) rfl (d_16 (d_dig _).1 (d_dig _).2) rfl hS'
    (byF_bd (bd3 (f := 16) (by decide) (by decide) 16 1 2048 fl16 fl1 fl2048 _ _ _).1 (bd3 (f := 16) (by decide) (by decide) 16 1 2048 fl16 fl1 fl2048 _ _ _).2 _ _).1 hodd hb
    (fun w => dig_third m0.1 m0.2 n0.1 n0.2 hp hk hS 16 true false false (by decide) (by decide) (by decide) (by decide) (decide_eq_true h1).symm (decide_eq_false h2).symm (decide_eq_false h3) w)
    (fun w => dig_first a0 a1 w l0 u0 l1 u1 hb) (fun w => dig_second a0 a1 w l0 u0 l1 u1 hb)

theorem dig_y101 (a0 a1 a2 m n p k S : Int) (w : World) (l0 : 0 ≤ a0) (u0 : a0 < 4294967296) (l1 : 0 ≤ a1) (u1 : a1 < 4294967296) (l2 : 0 ≤ a2) (u2 : a2 < 4294967296)
    (hm : a0 % 100 = m) (hn : a2 % 100 = n) (hp : m / 10 * 16 + m % 10 = p) (hk : n / 10 * 16 + n % 10 = k) (hS : (m + n) % 100 / 10 * 16 + (m + n) % 10 = S) (hb : a1 % 256 ≠ 0)
    (h1 : 15 < p % 16 + k % 16) (h2 : ¬ 255 < p + k) (h3 : 99 < m + n) :
    Calls Try.prog 3 #[.int .u32 a0, .int .u32 a1, .int .u32 a2] w fun e w' => e = .returned (.bool true) ∧ Grown w w' := by
  have m0 := d_mod hm
  have n0 := d_mod hn
  have p0 := d_pk m0.1 m0.2 hp
  have k0 := d_pk n0.1 n0.2 hk
  have s0 := d_s hS
  have hp' : IntKind.u32.wrap (m / 10 * 16 + m % 10) = p := by rw [hp]; exact w_small p0.1 (Int.le_trans p0.2 (by decide))
  have hk' : IntKind.u32.wrap (n / 10 * 16 + n % 10) = k := by rw [hk]; exact w_small k0.1 (Int.le_trans k0.2 (by decide))
  have hS' : IntKind.u32.wrap ((m + n) % 100 / 10 * 16 + (m + n) % 10) = S := by rw [hS]; exact w_small s0.1 (Int.le_trans s0.2 (by decide))
  have hodd := (dig_sum m0.1 m0.2 n0.1 n0.2 hp hk hS 16 true false true (by decide) (by decide) (by decide) (by decide) (decide_eq_true h1).symm (decide_eq_false h2).symm (decide_eq_true h3)).2
  rw [if_pos rfl] at hodd
  exact core_y101 a0 a1 a2 m n _ _ _ p _ _ _ k _ _ _ _ _ _ _ _ _ _ S _ _ _ _ w l0 u0 l1 u1 l2 u2 hm m0.1 (Int.lt_trans m0.2 (by decide)) hn n0.1 (Int.lt_trans n0.2 (by decide))
    rfl rfl (d_16 (d_tens m0.1 m0.2).1 (d_tens m0.1 m0.2).2) hp' p0.1 (Int.lt_of_le_of_lt p0.2 (by decide))
    rfl rfl (d_16 (d_tens n0.1 n0.2).1 (d_tens n0.1 n0.2).2) hk' k0.1 (Int.lt_of_le_of_lt k0.2 (by decide))
    rfl rfl d_mm h1 (d_add p0.1 p0.2 k0.1 k0.2) (Int.add_nonneg p0.1 k0.1) (Int.lt_of_le_of_lt (Int.add_le_add p0.2 k0.2) (by decide)) h2 rfl
    (d_add m0.1 (Int.le_trans (Int.le_of_lt m0.2) (by decide)) n0.1 (Int.le_trans (Int.le_of_lt n0.2) (by decide))) (Int.add_nonneg m0.1 n0.1) (Int.lt_of_lt_of_le (Int.add_lt_add m0.2 n0.2) (by decide)) h3 rfl
    (mod_bd (by decide) _).1 (Int.lt_trans (mod_bd (by decide) _).2 (by decide)) rfl (d_16 (d_dig _).1 (d_dig _).2) rfl hS'
    (byF_bd (bd3 (f := 16) (by decide) (by decide) 16 1 2048 fl16 fl1 fl2048 _ _ _).1 (bd3 (f := 16) (by decide) (by decide) 16 1 2048 fl16 fl1 fl2048 _ _ _).2 _ _).1 hodd hb
    (fun w => dig_third m0.1 m0.2 n0.1 n0.2 hp hk hS 16 true false true (by decide) (by decide) (by decide) (by decide) (decide_eq_true h1).symm (decide_eq_false h2).symm (decide_eq_true h3) w)
    (fun w => dig_first a0 a1 w l0 u0 l1 u1 hb) (fun w => dig_second a0 a1 w l0 u0 l1 u1 hb)

theorem dig_y111 (a0 a1 a2 m n p k S : Int) (w : World) (l0 : 0 ≤ a0) (u0 : a0 < 4294967296) (l1 : 0 ≤ a1) (u1 : a1 < 4294967296) (l2 : 0 ≤ a2) (u2 : a2 < 4294967296)
    (hm : a0 % 100 = m) (hn : a2 % 100 = n) (hp : m / 10 * 16 + m % 10 = p) (hk : n / 10 * 16 + n % 10 = k) (hS : (m + n) % 100 / 10 * 16 + (m + n) % 10 = S) (hb : a1 % 256 ≠ 0)
    (h1 : 15 < p % 16 + k % 16) (h2 : 255 < p + k) (h3 : 99 < m + n) :
    Calls Try.prog 3 #[.int .u32 a0, .int .u32 a1, .int .u32 a2] w fun e w' => e = .returned (.bool true) ∧ Grown w w' := by
  have m0 := d_mod hm
  have n0 := d_mod hn
  have p0 := d_pk m0.1 m0.2 hp
  have k0 := d_pk n0.1 n0.2 hk
  have s0 := d_s hS
  have hp' : IntKind.u32.wrap (m / 10 * 16 + m % 10) = p := by rw [hp]; exact w_small p0.1 (Int.le_trans p0.2 (by decide))
  have hk' : IntKind.u32.wrap (n / 10 * 16 + n % 10) = k := by rw [hk]; exact w_small k0.1 (Int.le_trans k0.2 (by decide))
  have hS' : IntKind.u32.wrap ((m + n) % 100 / 10 * 16 + (m + n) % 10) = S := by rw [hS]; exact w_small s0.1 (Int.le_trans s0.2 (by decide))
  have hodd := (dig_sum m0.1 m0.2 n0.1 n0.2 hp hk hS 17 true true true (by decide) (by decide) (by decide) (by decide) (decide_eq_true h1).symm (decide_eq_true h2).symm (decide_eq_true h3)).2
  rw [if_pos rfl] at hodd
  exact core_y111 a0 a1 a2 m n _ _ _ p _ _ _ k _ _ _ _ _ _ _ _ _ _ S _ _ _ _ w l0 u0 l1 u1 l2 u2 hm m0.1 (Int.lt_trans m0.2 (by decide)) hn n0.1 (Int.lt_trans n0.2 (by decide))
    rfl rfl (d_16 (d_tens m0.1 m0.2).1 (d_tens m0.1 m0.2).2) hp' p0.1 (Int.lt_of_le_of_lt p0.2 (by decide))
    rfl rfl (d_16 (d_tens n0.1 n0.2).1 (d_tens n0.1 n0.2).2) hk' k0.1 (Int.lt_of_le_of_lt k0.2 (by decide))
    rfl rfl d_mm h1 (d_add p0.1 p0.2 k0.1 k0.2) (Int.add_nonneg p0.1 k0.1) (Int.lt_of_le_of_lt (Int.add_le_add p0.2 k0.2) (by decide)) h2 rfl
    (d_add m0.1 (Int.le_trans (Int.le_of_lt m0.2) (by decide)) n0.1 (Int.le_trans (Int.le_of_lt n0.2) (by decide))) (Int.add_nonneg m0.1 n0.1) (Int.lt_of_lt_of_le (Int.add_lt_add m0.2 n0.2) (by decide)) h3 rfl
    (mod_bd (by decide) _).1 (Int.lt_trans (mod_bd (by decide) _).2 (by decide)) rfl (d_16 (d_dig _).1 (d_dig _).2) rfl hS'
    (byF_bd (bd3 (f := 17) (by decide) (by decide) 16 1 2048 fl16 fl1 fl2048 _ _ _).1 (bd3 (f := 17) (by decide) (by decide) 16 1 2048 fl16 fl1 fl2048 _ _ _).2 _ _).1 hodd hb
    (fun w => dig_third m0.1 m0.2 n0.1 n0.2 hp hk hS 17 true true true (by decide) (by decide) (by decide) (by decide) (decide_eq_true h1).symm (decide_eq_true h2).symm (decide_eq_true h3) w)
    (fun w => dig_first a0 a1 w l0 u0 l1 u1 hb) (fun w => dig_second a0 a1 w l0 u0 l1 u1 hb)

theorem dig_n000 (a0 a1 a2 m n p k S : Int) (w : World) (l0 : 0 ≤ a0) (u0 : a0 < 4294967296) (l1 : 0 ≤ a1) (u1 : a1 < 4294967296) (l2 : 0 ≤ a2) (u2 : a2 < 4294967296)
    (hm : a0 % 100 = m) (hn : a2 % 100 = n) (hp : m / 10 * 16 + m % 10 = p) (hk : n / 10 * 16 + n % 10 = k) (hS : (m + n) % 100 / 10 * 16 + (m + n) % 10 = S) (hb : a1 % 256 = 0)
    (h1 : ¬ 15 < p % 16 + k % 16) (h2 : ¬ 255 < p + k) (h3 : ¬ 99 < m + n) :
    Calls Try.prog 3 #[.int .u32 a0, .int .u32 a1, .int .u32 a2] w fun e w' => e = .returned (.bool true) ∧ Grown w w' := by
  have m0 := d_mod hm
  have n0 := d_mod hn
  have p0 := d_pk m0.1 m0.2 hp
  have k0 := d_pk n0.1 n0.2 hk
  have s0 := d_s hS
  have hp' : IntKind.u32.wrap (m / 10 * 16 + m % 10) = p := by rw [hp]; exact w_small p0.1 (Int.le_trans p0.2 (by decide))
  have hk' : IntKind.u32.wrap (n / 10 * 16 + n % 10) = k := by rw [hk]; exact w_small k0.1 (Int.le_trans k0.2 (by decide))
  have hS' : IntKind.u32.wrap ((m + n) % 100 / 10 * 16 + (m + n) % 10) = S := by rw [hS]; exact w_small s0.1 (Int.le_trans s0.2 (by decide))
  have hodd := (dig_sum m0.1 m0.2 n0.1 n0.2 hp hk hS 0 false false false (by decide) (by decide) (by decide) (by decide) (decide_eq_false h1).symm (decide_eq_false h2).symm (decide_eq_false h3)).2
  rw [if_neg (by decide)] at hodd
  exact core_n000 a0 a1 a2 m n _ _ _ p _ _ _ k _ _ _ _ _ _ _ _ _ _ S _ _ 0 0 w l0 u0 l1 u1 l2 u2 hm m0.1 (Int.lt_trans m0.2 (by decide)) hn n0.1 (Int.lt_trans n0.2 (by decide))
    rfl rfl (d_16 (d_tens m0.1 m0.2).1 (d_tens m0.1 m0.2).2) hp' p0.1 (Int.lt_of_le_of_lt p0.2 (by decide))
    rfl rfl (d_16 (d_tens n0.1 n0.2).1 (d_tens n0.1 n0.2).2) hk' k0.1 (Int.lt_of_le_of_lt k0.2 (by decide))
    rfl rfl d_mm h1 (d_add p0.1 p0.2 k0.1 k0.2) (Int.add_nonneg p0.1 k0.1) (Int.lt_of_le_of_lt (Int.add_le_add p0.2 k0.2) (by decide)) h2 rfl
    (d_add m0.1 (Int.le_trans (Int.le_of_lt m0.2) (by decide)) n0.1 (Int.le_trans (Int.le_of_lt n0.2) (by decide))) (Int.add_nonneg m0.1 n0.1) (Int.lt_of_lt_of_le (Int.add_lt_add m0.2 n0.2) (by decide)) h3 rfl
    (mod_bd (by decide) _).1 (Int.lt_trans (mod_bd (by decide) _).2 (by decide)) rfl (d_16 (d_dig _).1 (d_dig _).2) rfl hS'
    (byF_bd (bd3 (f := 0) (by decide) (by decide) 16 1 2048 fl16 fl1 fl2048 _ _ _).1 (bd3 (f := 0) (by decide) (by decide) 16 1 2048 fl16 fl1 fl2048 _ _ _).2 _ _).1 hodd hb
    (fun w => dig_third m0.1 m0.2 n0.1 n0.2 hp hk hS 0 false false false (by decide) (by decide) (by decide) (by decide) (decide_eq_false h1).symm (decide_eq_false h2).symm (decide_eq_false h3) w)
    (fun w => adj4_zero a0 0 a1 0 w l0 u0 (by decide) (by decide) l1 u1 (by decide) (by decide) hb)

theorem dig_n001 (a0 a1 a2 m n p k S : Int) (w : World) (l0 : 0 ≤ a0) (u0 : a0 < 4294967296) (l1 : 0 ≤ a1) (u1 : a1 < 4294967296) (l2 : 0 ≤ a2) (u2 : a2 < 4294967296)
    (hm : a0 % 100 = m) (hn : a2 % 100 = n) (hp : m / 10 * 16 + m % 10 = p) (hk : n / 10 * 16 + n % 10 = k) (hS : (m + n) % 100 / 10 * 16 + (m + n) % 10 = S) (hb : a1 % 256 = 0)
    (h1 : ¬ 15 < p % 16 + k % 16) (h2 : ¬ 255 < p + k) (h3 : 99 < m + n) :
    Calls Try.prog 3 #[.int .u32 a0, .int .u32 a1, .int .u32 a2] w fun e w' => e = .returned (.bool true) ∧ Grown w w' := by
  have m0 := d_mod hm
  have n0 := d_mod hn
  have p0 := d_pk m0.1 m0.2 hp
  have k0 := d_pk n0.1 n0.2 hk
  have s0 := d_s hS
  have hp' : IntKind.u32.wrap (m / 10 * 16 + m % 10) = p := by rw [hp]; exact w_small p0.1 (Int.le_trans p0.2 (by decide))
  have hk' : IntKind.u32.wrap (n / 10 * 16 + n % 10) = k := by rw [hk]; exact w_small k0.1 (Int.le_trans k0.2 (by decide))
  have hS' : IntKind.u32.wrap ((m + n) % 100 / 10 * 16 + (m + n) % 10) = S := by rw [hS]; exact w_small s0.1 (Int.le_trans s0.2 (by decide))
  have hodd := (dig_sum m0.1 m0.2 n0.1 n0.2 hp hk hS 0 false false true (by decide) (by decide) (by decide) (by decide) (decide_eq_false h1).symm (decide_eq_false h2).symm (decide_eq_true h3)).2
  rw [if_pos rfl] at hodd
  exact core_n001 a0 a1 a2 m n _ _ _ p _ _ _ k _ _ _ _ _ _ _ _ _ _ S _ _ 0 0 w l0 u0 l1 u1 l2 u2 hm m0.1 (Int.lt_trans m0.2 (by decide)) hn n0.1 (Int.lt_trans n0.2 (by decide))
    rfl rfl (d_16 (d_tens m0.1 m0.2).1 (d_tens m0.1 m0.2).2) hp' p0.1 (Int.lt_of_le_of_lt p0.2 (by decide))
    rfl rfl (d_16 (d_tens n0.1 n0.2).1 (d_tens n0.1 n0.2).2) hk' k0.1 (Int.lt_of_le_of_lt k0.2 (by decide))
    rfl rfl d_mm h1 (d_add p0.1 p0.2 k0.1 k0.2) (Int.add_nonneg p0.1 k0.1) (Int.lt_of_le_of_lt (Int.add_le_add p0.2 k0.2) (by decide)) h2 rfl
    (d_add m0.1 (Int.le_trans (Int.le_of_lt m0.2) (by decide)) n0.1 (Int.le_trans (Int.le_of_lt n0.2) (by decide))) (Int.add_nonneg m0.1 n0.1) (Int.lt_of_lt_of_le (Int.add_lt_add m0.2 n0.2) (by decide)) h3 rfl
    (mod_bd (by decide) _).1 (Int.lt_trans (mod_bd (by decide) _).2 (by decide)) rfl (d_16 (d_dig _).1 (d_dig _).2) rfl hS'
    (byF_bd (bd3 (f := 0) (by decide) (by decide) 16 1 2048 fl16 fl1 fl2048 _ _ _).1 (bd3 (f := 0) (by decide) (by decide) 16 1 2048 fl16 fl1 fl2048 _ _ _).2 _ _).1 hodd hb
    (fun w => dig_third m0.1 m0.2 n0.1 n0.2 hp hk hS 0 false false true (by decide) (by decide) (by decide) (by decide) (decide_eq_false h1).symm (decide_eq_false h2).symm (decide_eq_true h3) w)
    (fun w => adj4_zero a0 0 a1 0 w l0 u0 (by decide) (by decide) l1 u1 (by decide) (by decide) hb)

theorem dig_n011 (a0 a1 a2 m n p k S : Int) (w : World) (l0 : 0 ≤ a0) (u0 : a0 < 4294967296) (l1 : 0 ≤ a1) (u1 : a1 < 4294967296) (l2 : 0 ≤ a2) (u2 : a2 < 4294967296)
    (hm : a0 % 100 = m) (hn : a2 % 100 = n) (hp : m / 10 * 16 + m % 10 = p) (hk : n / 10 * 16 + n % 10 = k) (hS : (m + n) % 100 / 10 * 16 + (m + n) % 10 = S) (hb : a1 % 256 = 0)
    (h1 : ¬ 15 < p % 16 + k % 16) (h2 : 255 < p + k) (h3 : 99 < m + n) :
    Calls Try.prog 3 #[.int .u32 a0, .int .u32 a1, .int .u32 a2] w fun e w' => e = .returned (.bool true) ∧ Grown w w' := by
  have m0 := d_mod hm
  have n0 := d_mod hn
  have p0 := d_pk m0.1 m0.2 hp
  have k0 := d_pk n0.1 n0.2 hk
  have s0 := d_s hS
  have hp' : IntKind.u32.wrap (m / 10 * 16 + m % 10) = p := by rw [hp]; exact w_small p0.1 (Int.le_trans p0.2 (by decide))
  have hk' : IntKind.u32.wrap (n / 10 * 16 + n % 10) = k := by rw [hk]; exact w_small k0.1 (Int.le_trans k0.2 (by decide))
  have hS' : IntKind.u32.wrap ((m + n) % 100 / 10 * 16 + (m + n) % 10) = S := by rw [hS]; exact w_small s0.1 (Int.le_trans s0.2 (by decide))
  have hodd := (dig_sum m0.1 m0.2 n0.1 n0.2 hp hk hS 1 false true true (by decide) (by decide) (by decide) (by decide) (decide_eq_false h1).symm (decide_eq_true h2).symm (decide_eq_true h3)).2
  rw [if_pos rfl] at hodd
  exact core_n011 a0 a1 a2 m n _ _ _ p _ _ _ k _ _ _ _ _ _ _ _ _ _ S _ _ 0 0 w l0 u0 l1 u1 l2 u2 hm m0.1 (Int.lt_trans m0.2 (by decide)) hn n0.1 (Int.lt_trans n0.2 (by decide))
    rfl rfl (d_16 (d_tens m0.1 m0.2).1 (d_tens m0.1 m0.2).2) hp' p0.1 (Int.lt_of_le_of_lt p0.2 (by decide))
    rfl rfl (d_16 (d_tens n0.1 n0.2).1 (d_tens n0.1 n0.2).2) hk' k0.1 (Int.lt_of_le_of_lt k0.2 (by decide))
    rfl rfl d_mm h1 (d_add p0.1 p0.2 k0.1 k0.2) (Int.add_nonneg p0.1 k0.1) (Int.lt_of_le_of_lt (Int.add_le_add p0.2 k0.2) (by decide)) h2 rfl
    (d_add m0.1 (Int.le_trans (Int.le_of_lt m0.2) (by decide)) n0.1 (Int.le_trans (Int.le_of_lt n0.2) (by decide))) (Int.add_nonneg m0.1 n0.1) (Int.lt_of_lt_of_le (Int.add_lt_add m0.2 n0.2) (by decide)) h3 rfl
    (mod_bd (by decide) _).1 (Int.lt_trans (mod_bd (by decide) _).2 (by decide)) rfl (d_16 (d_dig _).1 (d_dig _).2) rfl hS'
    (byF_bd (bd3 (f := 1) (by decide) (by decide) 16 1 2048 fl16 fl1 fl2048 _ _ _).1 (bd3 (f := 1) (by decide) (by decide) 16 1 2048 fl16 fl1 fl2048 _ _ _).2 _ _).1 hodd hb
    (fun w => dig_third m0.1 m0.2 n0.1 n0.2 hp hk hS 1 false true true (by decide) (by decide) (by decide) (by decide) (decide_eq_false h1).symm (decide_eq_true h2).symm (decide_eq_true h3) w)
    (fun w => adj4_zero a0 0 a1 0 w l0 u0 (by decide) (by decide) l1 u1 (by decide) (by decide) hb)

theorem dig_n100 (a0 a1 a2 m n p k S : Int) (w : World) (l0 : 0 ≤ a0) (u0 : a0 < 4294967296) (l1 : 0 ≤ a1) (u1 : a1 < 4294967296) (l2 : 0 ≤ a2) (u2 : a2 < 4294967296)
    (hm : a0 % 100 = m) (hn : a2 % 100 = n) (hp : m / 10 * 16 + m % 10 = p) (hk : n / 10 * 16 + n % 10 = k) (hS : (m + n) % 100 / 10 * 16 + (m + n) % 10 = S) (hb : a1 % 256 = 0)
    (h1 : 15 < p % 16 + k % 16) (h2 : ¬ 255 < p + k) (h3 : ¬ 99 < m + n) :
    Calls Try.prog 3 #[.int .u32 a0, .int .u32 a1, .int .u32 a2] w fun e w' => e = .returned (.bool true) ∧ Grown w w' := by
  have m0 := d_mod hm
  have n0 := d_mod hn
  have p0 := d_pk m0.1 m0.2 hp
  have k0 := d_pk n0.1 n0.2 hk
  have s0 := d_s hS
  have hp' : IntKind.u32.wrap (m / 10 * 16 + m % 10) = p := by rw [hp]; exact w_small p0.1 (Int.le_trans p0.2 (by decide))
  have hk' : IntKind.u32.wrap (n / 10 * 16 + n % 10) = k := by rw [hk]; exact w_small k0.1 (Int.le_trans k0.2 (by decide))
  have hS' : IntKind.u32.wrap ((m + n) % 100 / 10 * 16 + (m + n) % 10) = S := by rw [hS]; exact w_small s0.1 (Int.le_trans s0.2 (by decide))
  have hodd := (dig_sum m0.1 m0.2 n0.1 n0.2 hp hk hS 16 true false false (by decide) (by decide) (by decide) (by decide) (decide_eq_true h1).symm (decide_eq_false h2).symm (decide_eq_false h3)).2
  rw [if_neg (by decide)] at hodd
  exact core_n100 a0 a1 a2 m n _ _ _ p _ _ _ k _ _ _ _ _ _ _ _ _ _ S _ _ 0 0 w l0 u0 l1 u1 l2 u2 hm m0.1 (Int.lt_trans m0.2 (by decide)) hn n0.1 (Int.lt_trans n0.2 (by decide))
    rfl rfl (d_16 (d_tens m0.1 m0.2).1 (d_tens m0.1 m0.2).2) hp' p0.1 (Int.lt_of_le_of_lt p0.2 (by decide))
    rfl rfl (d_16 (d_tens n0.1 n0.2).1 (d_tens n0.1 n0.2).2) hk' k0.1 (Int.lt_of_le_of_lt k0.2 (by decide))
    rfl rfl d_mm h1 (d_add p0.1 p0.2 k0.1 k0.2) (Int.add_nonneg p0.1 k0.1) (Int.lt_of_le_of_lt (Int.add_le_add p0.2 k0.2) (by decide)) h2 rfl
    (d_add m0.1 (Int.le_trans (Int.le_of_lt m0.2) (by decide)) n0.1 (Int.le_trans (Int.le_of_lt n0.2) (by decide))) (Int.add_nonneg m0.1 n0.1) (Int.lt_of_lt_of_le (Int.add_lt_add m0.2 n0.2) (by decide)) h3 rfl
    (mod_bd (by decide) _).1 (Int.lt_trans (mod_bd (by decide) _).2 (by decide)) rfl (d_16 (d_dig _).1 (d_dig _).2) rfl hS'
    (byF_bd (bd3 (f := 16) (by decide) (by decide) 16 1 2048 fl16 fl1 fl2048 _ _ _).1 (bd3 (f := 16) (by decide) (by decide) 16 1 2048 fl16 fl1 fl2048 _ _ _).2 _ _).1 hodd hb
    (fun w => dig_third m0.1 m0.2 n0.1 n0.2 hp hk hS 16 true false false (by decide) (by decide) (by decide) (by decide) (decide_eq_true h1).symm (decide_eq_false h2).symm (decide_eq_false h3) w)
    (fun w => adj4_zero a0 0 a1 0 w l0 u0 (by decide) (by decide) l1 u1 (by decide) (by decide) hb)

theorem dig_n101 (a0 a1 a2 m n p k S : Int) (w : World) (l0 : 0 ≤ a0) (u0 : a0 < 4294967296) (l1 : 0 ≤ a1) (u1 : a1 < 4294967296) (l2 : 0 ≤ a2) (u2 : a2 < 4294967296)
    (hm : a0 % 100 = m) (hn : a2 % 100 = n) (hp : m / 10 * 16 + m % 10 = p) (hk : n / 10 * 16 + n % 10 = k) (hS : (m + n) % 100 / 10 * 16 + (m + n) % 10 = S) (hb : a1 % 256 = 0)
    (h1 : 15 < p % 16 + k % 16) (h2 : ¬ 255 < p + k) (h3 : 99 < m + n) :
    Calls Try.prog 3 #[.int .u32 a0, .int .u32 a1, .int .u32 a2] w fun e w' => e = .returned (.bool true) ∧ Grown w w' := by
  have m0 := d_mod hm
  have n0 := d_mod hn
  have p0 := d_pk m0.1 m0.2 hp
  have k0 := d_pk n0.1 n0.2 hk
  have s0 := d_s hS
  have hp' : IntKind.u32.wrap (m / 10 * 16 + m % 10) = p := by rw [hp]; exact w_small p0.1 (Int.le_trans p0.2 (by decide))
  have hk' : IntKind.u32.wrap (n / 10 * 16 + n % 10) = k := by rw [hk]; exact w_small k0.1 (Int.le_trans k0.2 (by decide))
  have hS' : IntKind.u32.wrap ((m + n) % 100 / 10 * 16 + (m + n) % 10) = S := by rw [hS]; exact w_small s0.1 (Int.le_trans s0.2 (by decide))
  have hodd := (dig_sum m0.1 m0.2 n0.1 n0.2 hp hk hS 16 true false true (by decide) (by decide) (by decide) (by decide) (decide_eq_true h1).symm (decide_eq_false h2).symm (decide_eq_true h3)).2
  rw [if_pos rfl] at hodd
  exact core_n101 a0 a1 a2 m n _ _ _ p _ _ _ k _ _ _ _ _ _ _ _ _ _ S _ _ 0 0 w l0 u0 l1 u1 l2 u2 hm m0.1 (Int.lt_trans m0.2 (by decide)) hn n0.1 (Int.lt_trans n0.2 (by decide))
    rfl rfl (d_16 (d_tens m0.1 m0.2).1 (d_tens m0.1 m0.2).2) hp' p0.1 (Int.lt_of_le_of_lt p0.2 (by decide))
    rfl rfl (d_16 (d_tens n0.1 n0.2).1 (d_tens n0.1 n0.2).2) hk' k0.1 (Int.lt_of_le_of_lt k0.2 (by decide))
    rfl rfl d_mm h1 (d_add p0.1 p0.2 k0.1 k0.2) (Int.add_nonneg p0.1 k0.1) (Int.lt_of_le_of_lt (Int.add_le_add p0.2 k0.2) (by decide)) h2 rfl
    (d_add m0.1 (Int.le_trans (Int.le_of_lt m0.2) (by decide)) n0.1 (Int.le_trans (Int.le_of_lt n0.2) (by decide))) (Int.add_nonneg m0.1 n0.1) (Int.lt_of_lt_of_le (Int.add_lt_add m0.2 n0.2) (by decide)) h3 rfl
    (mod_bd (by decide) _).1 (Int.lt_trans (mod_bd (by decide) _).2 (by decide)) rfl (d_16 (d_dig _).1 (d_dig _).2) rfl hS'
    (byF_bd (bd3 (f := 16) (by decide) (by decide) 16 1 2048 fl16 fl1 fl2048 _ _ _).1 (bd3 (f := 16) (by decide) (by decide) 16 1 2048 fl16 fl1 fl2048 _ _ _).2 _ _).1 hodd hb
    (fun w => dig_third m0.1 m0.2 n0.1 n0.2 hp hk hS 16 true false true (by decide) (by decide) (by decide) (by decide) (decide_eq_true h1).symm (decide_eq_false h2).symm (decide_eq_true h3) w)
    (fun w => adj4_zero a0 0 a1 0 w l0 u0 (by decide) (by decide) l1 u1 (by decide) (by decide) hb)

theorem dig_n111 (a0 a1 a2 m n p k S : Int) (w : World) (l0 : 0 ≤ a0) (u0 : a0 < 4294967296) (l1 : 0 ≤ a1) (u1 : a1 < 4294967296) (l2 : 0 ≤ a2) (u2 : a2 < 4294967296)
    (hm : a0 % 100 = m) (hn : a2 % 100 = n) (hp : m / 10 * 16 + m % 10 = p) (hk : n / 10 * 16 + n % 10 = k) (hS : (m + n) % 100 / 10 * 16 + (m + n) % 10 = S) (hb : a1 % 256 = 0)
    (h1 : 15 < p % 16 + k % 16) (h2 : 255 < p + k) (h3 : 99 < m + n) :
    Calls Try.prog 3 #[.int .u32 a0, .int .u32 a1, .int .u32 a2] w fun e w' => e = .returned (.bool true) ∧ Grown w w' := by
  have m0 := d_mod hm
  have n0 := d_mod hn
  have p0 := d_pk m0.1 m0.2 hp
  have k0 := d_pk n0.1 n0.2 hk
  have s0 := d_s hS
  have hp' : IntKind.u32.wrap (m / 10 * 16 + m % 10) = p := by rw [hp]; exact w_small p0.1 (Int.le_trans p0.2 (by decide))
  have hk' : IntKind.u32.wrap (n / 10 * 16 + n % 10) = k := by rw [hk]; exact w_small k0.1 (Int.le_trans k0.2 (by decide))
  have hS' : IntKind.u32.wrap ((m + n) % 100 / 10 * 16 + (m + n) % 10) = S := by rw [hS]; exact w_small s0.1 (Int.le_trans s0.2 (by decide))
  have hodd := (dig_sum m0.1 m0.2 n0.1 n0.2 hp hk hS 17 true true true (by decide) (by decide) (by decide) (by decide) (decide_eq_true h1).symm (decide_eq_true h2).symm (decide_eq_true h3)).2
  rw [if_pos rfl] at hodd
  exact core_n111 a0 a1 a2 m n _ _ _ p _ _ _ k _ _ _ _ _ _ _ _ _ _ S _ _ 0 0 w l0 u0 l1 u1 l2 u2 hm m0.1 (Int.lt_trans m0.2 (by decide)) hn n0.1 (Int.lt_trans n0.2 (by decide))
    rfl rfl (d_16 (d_tens m0.1 m0.2).1 (d_tens m0.1 m0.2).2) hp' p0.1 (Int.lt_of_le_of_lt p0.2 (by decide))
    rfl rfl (d_16 (d_tens n0.1 n0.2).1 (d_tens n0.1 n0.2).2) hk' k0.1 (Int.lt_of_le_of_lt k0.2 (by decide))
    rfl rfl d_mm h1 (d_add p0.1 p0.2 k0.1 k0.2) (Int.add_nonneg p0.1 k0.1) (Int.lt_of_le_of_lt (Int.add_le_add p0.2 k0.2) (by decide)) h2 rfl
    (d_add m0.1 (Int.le_trans (Int.le_of_lt m0.2) (by decide)) n0.1 (Int.le_trans (Int.le_of_lt n0.2) (by decide))) (Int.add_nonneg m0.1 n0.1) (Int.lt_of_lt_of_le (Int.add_lt_add m0.2 n0.2) (by decide)) h3 rfl
    (mod_bd (by decide) _).1 (Int.lt_trans (mod_bd (by decide) _).2 (by decide)) rfl (d_16 (d_dig _).1 (d_dig _).2) rfl hS'
    (byF_bd (bd3 (f := 17) (by decide) (by decide) 16 1 2048 fl16 fl1 fl2048 _ _ _).1 (bd3 (f := 17) (by decide) (by decide) 16 1 2048 fl16 fl1 fl2048 _ _ _).2 _ _).1 hodd hb
    (fun w => dig_third m0.1 m0.2 n0.1 n0.2 hp hk hS 17 true true true (by decide) (by decide) (by decide) (by decide) (decide_eq_true h1).symm (decide_eq_true h2).symm (decide_eq_true h3) w)
    (fun w => adj4_zero a0 0 a1 0 w l0 u0 (by decide) (by decide) l1 u1 (by decide) (by decide) hb)

theorem MuldivDigits_walk (a0 a1 a2 : Int) (w0 : (Lit.int .u32 a0).wf = true) (w1 : (Lit.int .u32 a1).wf = true) (w2 : (Lit.int .u32 a2).wf = true) (w : World) :
    Calls Try.prog 3 #[.int .u32 a0, .int .u32 a1, .int .u32 a2] w fun e w' => e = .returned (.bool true) ∧ Grown w w' := by
  have b0 := bounds_u32 w0
  have b1 := bounds_u32 w1
  have b2 := bounds_u32 w2
  have l0 : 0 ≤ a0 := b0.1
  have u0 : a0 < 4294967296 := by omega
  have l1 : 0 ≤ a1 := b1.1
  have u1 : a1 < 4294967296 := by omega
  have l2 : 0 ≤ a2 := b2.1
  have u2 : a2 < 4294967296 := by omega
  clear w0 w1 w2 b0 b1 b2
  obtain ⟨m, hm⟩ : ∃ m, a0 % 100 = m := ⟨_, rfl⟩
  obtain ⟨n, hn⟩ : ∃ n, a2 % 100 = n := ⟨_, rfl⟩
  obtain ⟨p, hp⟩ : ∃ p, m / 10 * 16 + m % 10 = p := ⟨_, rfl⟩
  obtain ⟨k, hk⟩ : ∃ k, n / 10 * 16 + n % 10 = k := ⟨_, rfl⟩
  obtain ⟨S, hS⟩ : ∃ S, (m + n) % 100 / 10 * 16 + (m + n) % 10 = S := ⟨_, rfl⟩
  have no : ¬ 99 < m + n → ¬ 255 < p + k := d_no (d_ones m).1 (d_ones m).2 (d_ones n).1 (d_ones n).2 hp hk (d_all m) (d_all n)
  by_cases hb : a1 % 256 = 0 <;> by_cases h1 : 15 < p % 16 + k % 16 <;> by_cases h2 : 255 < p + k <;> by_cases h3 : 99 < m + n
  · exact dig_n111 a0 a1 a2 m n p k S w l0 u0 l1 u1 l2 u2 hm hn hp hk hS hb h1 h2 h3
  · exact absurd h2 (no h3)
  · exact dig_n101 a0 a1 a2 m n p k S w l0 u0 l1 u1 l2 u2 hm hn hp hk hS hb h1 h2 h3
  · exact dig_n100 a0 a1 a2 m n p k S w l0 u0 l1 u1 l2 u2 hm hn hp hk hS hb h1 h2 h3
  · exact dig_n011 a0 a1 a2 m n p k S w l0 u0 l1 u1 l2 u2 hm hn hp hk hS hb h1 h2 h3
  · exact absurd h2 (no h3)
  · exact dig_n001 a0 a1 a2 m n p k S w l0 u0 l1 u1 l2 u2 hm hn hp hk hS hb h1 h2 h3
  · exact dig_n000 a0 a1 a2 m n p k S w l0 u0 l1 u1 l2 u2 hm hn hp hk hS hb h1 h2 h3
  · exact dig_y111 a0 a1 a2 m n p k S w l0 u0 l1 u1 l2 u2 hm hn hp hk hS hb h1 h2 h3
  · exact absurd h2 (no h3)
  · exact dig_y101 a0 a1 a2 m n p k S w l0 u0 l1 u1 l2 u2 hm hn hp hk hS hb h1 h2 h3
  · exact dig_y100 a0 a1 a2 m n p k S w l0 u0 l1 u1 l2 u2 hm hn hp hk hS hb h1 h2 h3
  · exact dig_y011 a0 a1 a2 m n p k S w l0 u0 l1 u1 l2 u2 hm hn hp hk hS hb h1 h2 h3
  · exact absurd h2 (no h3)
  · exact dig_y001 a0 a1 a2 m n p k S w l0 u0 l1 u1 l2 u2 hm hn hp hk hS hb h1 h2 h3
  · exact dig_y000 a0 a1 a2 m n p k S w l0 u0 l1 u1 l2 u2 hm hn hp hk hS hb h1 h2 h3
end Go.Proofs.Ytecfkgnffhiemab
