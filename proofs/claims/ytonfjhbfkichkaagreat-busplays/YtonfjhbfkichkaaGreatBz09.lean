/- The bus and its devices: PcOps, PcBits, RcBase, PcAwake, RcLeaf, RcTake, PcMask. -/
import Derived.Test.YtonfjhbfkichkaaGreatBz08
import Derived.Laws.CopyRow
import Derived.Deep.MidRow
import Derived.LoopTactic
namespace Go.Proofs.YtonfjhbfkichkaaGreat.Pc
open Go.ChangeShapes Go.WideShapes Go.ChangeAt Go.RowKit
set_option linter.unusedVariables false
def M2.out (m : M2) (p v : Int) : M2 := (if p = 0 then m.set false (m.a.cmd v) else if p = 1 then m.set false (m.a.dat v) else if p = 2 then m.set true (m.b.cmd v) else m.set true (m.b.dat v)).settle
def M2.inn (m : M2) (p : Int) : Int := if p = 0 then m.a.shown else if p = 1 then m.a.msk else if p = 2 then m.b.shown else m.b.msk
def M2.line (m : M2) (n : Int) (u : Bool) : M2 := (if n = 2 then m else if n < 8 then m.set false (m.a.line n u) else m.set true (m.b.line (n - 8) u)).settle
def M2.ack (m : M2) : M2 := m.acks.settle
theorem M2.Ok.out {m : M2} (k : m.Ok) {p v : Int} (hv : By v) : (m.out p v).Ok := by
 unfold M2.out
 apply M2.Ok.settle
 split
 ·exact k.set false (k.a.cmd hv)
 ·split
  ·exact k.set false (k.a.dat hv)
  ·split
   ·exact k.set true (k.b.cmd hv)
   ·exact k.set true (k.b.dat hv)
theorem M2.Ok.line {m : M2} (k : m.Ok) {n : Int} (n0 : 0 ≤ n) (n1 : n < 16) (u : Bool) : (m.line n u).Ok := by
 unfold M2.line
 apply M2.Ok.settle
 split
 ·exact k
 ·split
  ·exact k.set false (k.a.line n0 (by omega) u)
  ·exact k.set true (k.b.line (by omega) (by omega) u)
theorem M2.Ok.ack {m : M2} (k : m.Ok) : m.ack.Ok := k.acks.settle
theorem heap_new (w : World) (o : Obj) : (w.alloc o).heap[w.heap.size]? = some o := (MapKept.heap_alloc w o).1
theorem new_cell (w : World) (v : Value) (t : TypeId) : (w.alloc (.cells #[v] t)).cell? ⟨w.heap.size, 0, none⟩ = some v := by
 simp [go_sem]
theorem new_fz (w : World) (v : Value) (t : TypeId) : (w.alloc (.cells #[v] t)).frozen? ⟨w.heap.size, 0, none⟩ = false := by
 unfold World.frozen?
 rw [heap_new]
 rfl
theorem out_ok (w : World) (B : Nat) (m : M2) (h : PAt w B m) (k : m.Ok) (p v : Int) (p0 : 0 ≤ p) (p1 : p < 4) (hv : By v) : Calls Tryz.prog 60 #[.pointer (some ⟨B, 0, none⟩), .int .i64 p, .int .u8 v] w fun e w' => e = .returned (.int .i64 0) ∧ PAt w' B (m.out p v) ∧ Kp (isB B) w w' := by
 have h1 : PAt (w.alloc (.cells #[.int .u8 v] 5)) B m := h.alloc _
 have c1 := new_cell w (.int .u8 v) 5
 have k1 : Kp (isB B) w (w.alloc (.cells #[.int .u8 v] 5)) := Kp.alloc _ _ _
 have H : Hid (Calls Tryz.prog 102 #[.pointer (some ⟨B, 0, none⟩), .int .i64 p, .int .i64 2, .func (.func 105) #[] #[.pointer (some ⟨w.heap.size, 0, none⟩)]] (w.alloc (.cells #[.int .u8 v] 5)) fun e w' => e = .returned (.int .i64 0) ∧ PAt w' B (m.out p v) ∧ Kp (isB B) w w') := by
  have cases4 : p = 0 ∨ p = 1 ∨ p = 2 ∨ p = 3 := by omega
  rcases cases4 with rfl | rfl | rfl | rfl
  ·exact (withO_0 _ B _ m h1 k v hv c1).mono fun e w' ⟨a, b, c⟩ => ⟨a, b, k1.trans c⟩
  ·exact (withO_1 _ B _ m h1 k v hv c1).mono fun e w' ⟨a, b, c⟩ => ⟨a, b, k1.trans c⟩
  ·exact (withO_2 _ B _ m h1 k v hv c1).mono fun e w' ⟨a, b, c⟩ => ⟨a, b, k1.trans c⟩
  ·exact (withO_3 _ B _ m h1 k v hv c1).mono fun e w' ⟨a, b, c⟩ => ⟨a, b, k1.trans c⟩
 clear h1 c1 k1
 go_enter Tryz.func60, Tryz.ntmps60
 go_wp2_with fail
 refine Calls.mono H.out ?_; rintro e w2 ⟨rfl, h2, k2⟩
 go_wp2
 go_ret
 exact ⟨rfl, h2, k2⟩
theorem in_ok (w : World) (B : Nat) (m : M2) (h : PAt w B m) (k : m.Ok) (p : Int) (p0 : 0 ≤ p) (p1 : p < 4) : Calls Tryz.prog 61 #[.pointer (some ⟨B, 0, none⟩), .int .i64 p] w fun e w' => e = .returned (.tuple #[.int .u8 (m.inn p), .int .i64 0]) ∧ PAt w' B m.settle ∧ Kp (isB B) w w' := by
 have h1 : PAt (w.alloc (.cells #[.int .u8 0] 5)) B m := h.alloc _
 have c1 := new_cell w (.int .u8 0) 5
 have z1 := new_fz w (.int .u8 0) 5
 have qB : ¬ w.heap.size = B := by have := h.lt; omega
 have k1 : Kp (isB B) w (w.alloc (.cells #[.int .u8 0] 5)) := Kp.alloc _ _ _
 have hk : ∀ w', Kp (isBq B w.heap.size) (w.alloc (.cells #[.int .u8 0] 5)) w' → Kp (isB B) w w' := fun w' g => k1.over g (fun j hj e => by rcases e with e | e; exact e; omega)
 have H : Hid (Calls Tryz.prog 102 #[.pointer (some ⟨B, 0, none⟩), .int .i64 p, .int .i64 2, .func (.func 108) #[] #[.pointer (some ⟨w.heap.size, 0, none⟩)]] (w.alloc (.cells #[.int .u8 0] 5)) fun e w' => e = .returned (.int .i64 0) ∧ PAt w' B m.settle ∧ w'.cell? ⟨w.heap.size, 0, none⟩ = some (.int .u8 (m.inn p)) ∧ Kp (isB B) w w') := by
  have cases4 : p = 0 ∨ p = 1 ∨ p = 2 ∨ p = 3 := by omega
  rcases cases4 with rfl | rfl | rfl | rfl
  ·exact (withI_0 _ B _ m h1 k _ c1 z1 qB).mono fun e w' ⟨a, b, c, d⟩ => ⟨a, b, c, hk _ d⟩
  ·exact (withI_1 _ B _ m h1 k _ c1 z1 qB).mono fun e w' ⟨a, b, c, d⟩ => ⟨a, b, c, hk _ d⟩
  ·exact (withI_2 _ B _ m h1 k _ c1 z1 qB).mono fun e w' ⟨a, b, c, d⟩ => ⟨a, b, c, hk _ d⟩
  ·exact (withI_3 _ B _ m h1 k _ c1 z1 qB).mono fun e w' ⟨a, b, c, d⟩ => ⟨a, b, c, hk _ d⟩
 clear h1 c1 z1 k1 hk
 go_enter Tryz.func61, Tryz.ntmps61
 go_wp2_with fail
 refine Calls.mono H.out ?_; rintro e w2 ⟨rfl, h2, c2, k2⟩
 go_wp2
 go_ret2
 exact ⟨rfl, h2, k2⟩
theorem new_first (w : World) (v : Value) (t : TypeId) (o : Obj) : ((w.alloc (.cells #[v] t)).alloc o).cell? ⟨w.heap.size, 0, none⟩ = some v := by
 rw [World.cell?_alloc_lt _ _ _ (by simp)]; exact new_cell w v t
theorem line_ok (w : World) (B : Nat) (m : M2) (h : PAt w B m) (k : m.Ok) (n : Int) (u : Bool) (n0 : 0 ≤ n) (n1 : n < 16) : Calls Tryz.prog 70 #[.pointer (some ⟨B, 0, none⟩), .int .i64 n, .bool u] w fun e w' => e = .returned (.int .i64 0) ∧ PAt w' B (m.line n u) ∧ Kp (isB B) w w' := by
 have h1 : PAt ((w.alloc (.cells #[.int .i64 n] 3)).alloc (.cells #[.bool u] 4)) B m := (h.alloc _).alloc _
 have c1 := new_first w (.int .i64 n) 3 (.cells #[.bool u] 4)
 have c2 := new_cell (w.alloc (.cells #[.int .i64 n] 3)) (.bool u) 4
 have s1 : (w.alloc (.cells #[.int .i64 n] 3)).heap.size = w.heap.size + 1 := by simp
 rw [s1] at c2
 have k1 : Kp (isB B) w ((w.alloc (.cells #[.int .i64 n] 3)).alloc (.cells #[.bool u] 4)) := (Kp.alloc _ _ _).trans (Kp.alloc _ _ _)
 have H : Hid (Calls Tryz.prog 102 #[.pointer (some ⟨B, 0, none⟩), .int .i64 n, .int .i64 8, .func (.func 117) #[] #[.pointer (some ⟨w.heap.size, 0, none⟩), .pointer (some ⟨w.heap.size + 1, 0, none⟩)]] ((w.alloc (.cells #[.int .i64 n] 3)).alloc (.cells #[.bool u] 4)) fun e w' => e = .returned (.int .i64 0) ∧ PAt w' B (m.line n u) ∧ Kp (isB B) w w') := by
  unfold M2.line
  by_cases e2 : n = 2
  ·subst e2
   exact (withL_2 _ B _ _ m h1 k c1).mono fun e w' ⟨a, b, c⟩ => ⟨a, by rw [if_pos rfl]; exact b, k1.trans c⟩
  ·by_cases e8 : n < 8
   ·rw [if_neg e2, if_pos e8]
    exact (withL_a _ B _ _ m h1 k n n u n0 e8 rfl (by simp [e2]) c1 c2).mono fun e w' ⟨a, b, c⟩ => ⟨a, b, k1.trans c⟩
   ·rw [if_neg e2, if_neg e8]
    exact (withL_b _ B _ _ m h1 k (n - 8) n u (by omega) (by omega) (by omega) (by simp [e2]) c1 c2).mono fun e w' ⟨a, b, c⟩ => ⟨a, b, k1.trans c⟩
 have c0 := c1
 clear h1 c1 c2 k1 s1
 go_enter Tryz.func70, Tryz.ntmps70
 go_wp2_with fail
 refine Calls.mono H.out ?_; rintro e w2 ⟨rfl, h2, k2⟩
 go_wp2
 go_ret
 exact ⟨rfl, h2, k2⟩
theorem ack_ok (w : World) (B : Nat) (m : M2) (h : PAt w B m) (k : m.Ok) : Calls Tryz.prog 57 #[.pointer (some ⟨B, 0, none⟩)] w fun e w' => e = .returned (.int .i64 m.vec) ∧ PAt w' B m.ack ∧ Kp (isB B) w w' := by
 have lB := h.lt
 have h1 : PAt ((w.alloc (.cells #[.pointer (some ⟨B, 0, none⟩)] 78)).alloc (.cells #[.int .i64 0] 3)) B m := (h.alloc _).alloc _
 have c1 := new_first w (.pointer (some ⟨B, 0, none⟩)) 78 (.cells #[.int .i64 0] 3)
 have c2 := new_cell (w.alloc (.cells #[.pointer (some ⟨B, 0, none⟩)] 78)) (.int .i64 0) 3
 have z2 := new_fz (w.alloc (.cells #[.pointer (some ⟨B, 0, none⟩)] 78)) (.int .i64 0) 3
 have s1 : (w.alloc (.cells #[.pointer (some ⟨B, 0, none⟩)] 78)).heap.size = w.heap.size + 1 := by simp
 have s2 : ((w.alloc (.cells #[.pointer (some ⟨B, 0, none⟩)] 78)).alloc (.cells #[.int .i64 0] 3)).heap.size = w.heap.size + 2 := by simp
 rw [s1] at c2 z2
 have k1 : Kp (isB B) w ((w.alloc (.cells #[.pointer (some ⟨B, 0, none⟩)] 78)).alloc (.cells #[.int .i64 0] 3)) := (Kp.alloc _ _ _).trans (Kp.alloc _ _ _)
 have H : Hid (Calls Tryz.prog 102 #[.pointer (some ⟨B, 0, none⟩), .int .i64 0, .int .i64 8, .func (.func 103) #[] #[.pointer (some ⟨w.heap.size + 1, 0, none⟩), .pointer (some ⟨w.heap.size, 0, none⟩)]] ((w.alloc (.cells #[.pointer (some ⟨B, 0, none⟩)] 78)).alloc (.cells #[.int .i64 0] 3)) fun e w' => e = .returned (.int .i64 0) ∧ PAt w' B m.ack ∧ w'.cell? ⟨w.heap.size + 1, 0, none⟩ = some (.int .i64 m.vec) ∧ Kp (isB B) w w') :=
  (withA _ B _ _ m h1 k _ c2 z2 c1 (by omega) (by omega) (by omega) (by omega)).mono fun e w' ⟨a, b, c, d⟩ => ⟨a, b, c, k1.over d (fun j hj e => by rcases e with e | e; exact e; omega)⟩
 have c0 := c1
 clear h1 c1 c2 z2 k1 s1 s2
 go_enter Tryz.func57, Tryz.ntmps57
 go_wp2_with fail
 refine Calls.mono H.out ?_; rintro e w2 ⟨rfl, h2, c2, k2⟩
 go_wp2
 go_ret
 exact ⟨rfl, h2, k2⟩
end Go.Proofs.YtonfjhbfkichkaaGreat.Pc
namespace Go.Proofs.YtonfjhbfkichkaaGreat.Pc
open Go.RowKit
set_option linter.unusedVariables false
theorem tb8_and {a b : Int} (ha : By a) (hb : By b) (i : Nat) : tb (bits .and .u8 a b) i = (tb a i && tb b i) := by
 rw [u8_and a b ha.1 ha.2 hb.1 hb.2]; simp [tb]
theorem tb8_or {a b : Int} (ha : By a) (hb : By b) (i : Nat) : tb (bits .or .u8 a b) i = (tb a i || tb b i) := by
 rw [u8_or a b ha.1 ha.2 hb.1 hb.2]; simp [tb]
theorem tb8_hi {a : Int} (ha : By a) {i : Nat} (h : 8 ≤ i) : tb a i = false := by
 unfold tb
 apply Nat.testBit_lt_two_pow
 have : (2 : Nat) ^ 8 ≤ 2 ^ i := Nat.pow_le_pow_right (by decide) h
 have e : (2 : Nat) ^ 8 = 256 := by decide
 have := ha.1; have := ha.2
 omega
theorem tb8_not {b : Int} (hb : By b) {i : Nat} (hi : i < 8) : tb (255 - b) i = !tb b i := by
 have := hb.1; have := hb.2
 have e : (255 - b).toNat = 2 ^ 8 - (b.toNat + 1) := by
  have : (2 : Nat) ^ 8 = 256 := by decide
  omega
 unfold tb
 rw [e, Nat.testBit_two_pow_sub_succ (by have : (2 : Nat) ^ 8 = 256 := (by decide); omega)]
 simp [hi]
theorem tb8_andNot {a b : Int} (ha : By a) (hb : By b) (i : Nat) : tb (bits .andNot .u8 a b) i = (tb a i && !tb b i) := by
 rw [u8_andNot a b ha.1 ha.2 hb.1 hb.2]
 by_cases hi : i < 8
 ·have h := tb8_not hb hi
  have e : (255 - b).toNat = 255 - b.toNat := by have := hb.1; have := hb.2; omega
  unfold tb at h ⊢
  rw [e] at h
  simp [h]
 ·have h := tb8_hi ha (i := i) (by omega)
  unfold tb at h ⊢
  simp [h]
theorem tb_pw (n i : Nat) : tb (pw (n : Int)) i = decide (i = n) := by
 unfold pw tb
 rw [show ((n : Int)).toNat = n from rfl, show (((2 ^ n : Nat) : Int)).toNat = 2 ^ n from rfl, Nat.testBit_two_pow]
 simp [eq_comm]
theorem by_ext {a b : Int} (ha : By a) (hb : By b) (h : ∀ i, i < 8 → tb a i = tb b i) : a = b := by
 refine tb_ext ha.1 hb.1 fun i => ?_
 by_cases hi : i < 8
 ·exact h i hi
 ·rw [tb8_hi ha (by omega), tb8_hi hb (by omega)]
theorem bt_pw {x : Int} (hx : By x) {n : Nat} (hn : n < 8) : bt x (pw (n : Int)) = tb x n := by
 have hp := by_pw (n := (n : Int)) (by omega) (by omega)
 have h := tb8_and hx hp
 unfold bt
 cases e : tb x n
 ·have z : bits .and .u8 x (pw (n : Int)) = 0 := by
   refine by_ext (by_and hx hp) ⟨by decide, by decide⟩ fun i hi => ?_
   rw [h i, tb_pw]
   by_cases hin : i = n
   ·subst hin; rw [e]; simp [tb]
   ·simp [hin, tb]
  rw [z]; rfl
 ·have z : ¬ bits .and .u8 x (pw (n : Int)) = 0 := fun z => by
   have := h n
   rw [z, e, tb_pw] at this
   simp [tb] at this
  simpa using z
theorem tz_all : ∀ n : Fin 256, ∀ k : Fin 9, (List.range k.val).all (fun j => !n.val.testBit j) = decide (k.val ≤ Lib.trailingZeros8 n.val) := by decide +kernel
theorem tz_ge {x : Int} (h : By x) {k : Nat} (hk : k ≤ 8) : (∀ j, j < k → tb x j = false) ↔ (k : Int) ≤ tz x := by
 have a := tz_all ⟨x.toNat, by have := h.1; have := h.2; omega⟩ ⟨k, by omega⟩
 simp only at a
 have b : ((k : Int) ≤ tz x) ↔ (k ≤ Lib.trailingZeros8 x.toNat) := by unfold tz; omega
 rw [b, ← decide_eq_true_iff (p := k ≤ Lib.trailingZeros8 x.toNat), ← a]
 simp [tb]
theorem tz_le {x : Int} (h : By x) {k : Nat} (hk : k < 8) (e : tb x k = true) : tz x ≤ k := by
 by_cases g : tz x ≤ k
 ·exact g
 ·have := (tz_ge h (k := k + 1) (by omega)).2 (by omega) k (by omega)
  rw [e] at this; cases this
theorem tz_is {x : Int} (h : By x) {k : Nat} (hk : k < 8) (e : tb x k = true) (f : ∀ j, j < k → tb x j = false) : tz x = k := by
 have a := tz_le h hk e
 have b := (tz_ge h (k := k) (by omega)).1 f
 omega
def Ch.eff (c : Ch) (k : Nat) : Bool := tb c.asks k && !tb c.msk k
theorem eff_tb {c : Ch} (h : c.Ok) (k : Nat) : tb (bits .andNot .u8 c.asks c.msk) k = c.eff k := tb8_andNot h.asks h.msk k
theorem next_is {c : Ch} (h : c.Ok) {k : Nat} (hk : k < 8) (e : c.eff k = true) (f : ∀ j, j < k → c.eff j = false) (g : ∀ j, j ≤ k → tb c.srv j = false) : c.next = k := by
 have hy := by_andNot h.asks h.msk
 have a : tz (bits .andNot .u8 c.asks c.msk) = k := tz_is hy hk (by rw [eff_tb h]; exact e) (fun j hj => by rw [eff_tb h]; exact f j hj)
 have b := (tz_ge h.srv (k := k + 1) (by omega)).1 (fun j hj => g j (by omega))
 unfold Ch.next nextZ
 rw [a, if_neg (by omega)]
theorem next_none {c : Ch} (h : c.Ok) {k : Nat} (hk : k ≤ 8) (f : ∀ j, j < k → c.eff j = false) (g : k = 8 ∨ (k < 8 ∧ tb c.srv k = true)) : c.next = -1 := by
 have hy := by_andNot h.asks h.msk
 have a := (tz_ge hy hk).1 (fun j hj => by rw [eff_tb h]; exact f j hj)
 have b : tz c.srv ≤ k := by
  rcases g with g | ⟨g1, g2⟩
  ·subst g; exact (tz_bd h.srv).2
  ·exact tz_le h.srv g1 g2
 unfold Ch.next nextZ
 rw [if_pos (by omega)]
theorem zero_tb (i : Nat) : tb 0 i = false := by simp [tb]
theorem settle_asks {m : M2} (h : m.Ok) (k : Nat) : tb m.settle.a.asks k = if k = 2 then (m.b.next != -1) else tb m.a.asks k := by
 have f : By 4 := by_lit 4 (by decide) (by decide)
 have e4 : ∀ k, tb 4 k = decide (k = 2) := fun k => tb_pw 2 k
 show tb (if m.b.next = -1 then bits .andNot .u8 m.a.asks 4 else bits .or .u8 (bits .andNot .u8 m.a.asks 4) 4) k = _
 by_cases g : m.b.next = -1
 ·rw [if_pos g, tb8_andNot h.a.asks f, e4, g]
  by_cases hk : k = 2
  ·subst hk; simp
  ·simp [hk]
 ·rw [if_neg g, tb8_or (by_andNot h.a.asks f) f, tb8_andNot h.a.asks f, e4]
  by_cases hk : k = 2
  ·subst hk; simp [g]
  ·simp [hk]
theorem dat0 {c : Ch} (v : Int) (h : c.due = 0) : c.dat v = { c with msk := v } := by
 unfold Ch.dat Ch.dat1
 rw [h, if_pos (by decide)]
 have e : bits .and .u8 (0 : Int) ((0 - 1) % 256) = 0 := by decide
 rw [e]
open Go.ChangeShapes Go.WideShapes Go.ChangeAt
set_option maxRecDepth 20000
structure RC where
 asks : Nat → Bool
 srv : Nat → Bool
 msk : Nat → Bool
 up : Nat → Bool
 base : Int
 told : Bool
 ends : Bool
 wp : Option Addr
 wl : Nat
 wc : Nat
def chV (r : RC) : Array Value := #[.bool (r.asks 0), .bool (r.asks 1), .bool (r.asks 2), .bool (r.asks 3), .bool (r.asks 4), .bool (r.asks 5), .bool (r.asks 6), .bool (r.asks 7), .bool (r.srv 0), .bool (r.srv 1), .bool (r.srv 2), .bool (r.srv 3), .bool (r.srv 4), .bool (r.srv 5), .bool (r.srv 6), .bool (r.srv 7), .bool (r.msk 0), .bool (r.msk 1), .bool (r.msk 2), .bool (r.msk 3), .bool (r.msk 4), .bool (r.msk 5), .bool (r.msk 6), .bool (r.msk 7), .bool (r.up 0), .bool (r.up 1), .bool (r.up 2), .bool (r.up 3), .bool (r.up 4), .bool (r.up 5), .bool (r.up 6), .bool (r.up 7), .int .i64 r.base, .bool r.told, .bool r.ends, .slice r.wp r.wl r.wc]
def RC.zero : RC := ⟨fun _ => false, fun _ => false, fun _ => false, fun _ => false, 0, false, false, none, 0, 0⟩
theorem chV_size (r : RC) : (chV r).size = 36 := rfl
theorem one_chV (r : RC) : ∀ v ∈ (chV r).toList, v.oneCell' = true := by
 intro v hv
 simp only [chV, List.mem_cons, List.not_mem_nil, or_false] at hv
 rcases hv with rfl | rfl | rfl | rfl | rfl | rfl | rfl | rfl | rfl | rfl | rfl | rfl | rfl | rfl | rfl | rfl | rfl | rfl | rfl | rfl | rfl | rfl | rfl | rfl | rfl | rfl | rfl | rfl | rfl | rfl | rfl | rfl | rfl | rfl | rfl | rfl <;> rfl
structure VlC (T : TypeId) (n : Nat) (Z : Array Value) (fs : Array Field) (ps : Array (Nat × Nat)) : Prop where
 t : T = 139
 s : n = 36
 z : Z = chV RC.zero
 agg : ∀ w, (isAgg T).run Tryz.prog w = .ok true w
 size : ∀ w, (sizeOf T).run Tryz.prog w = .ok n w
 zero : ∀ w, (zeroValue T).run Tryz.prog w = .ok (.agg Z) w
 under : ∀ w, (underlying T).run Tryz.prog w = .ok (.struct fs) w
 map : ∀ w, (Array.mapM (fun f : Field => Prod.mk f.offset <$> sizeOf f.type) fs).run Tryz.prog w = .ok ps w
 zs : Z.size = n
theorem vlC : ∃ T n Z fs ps, VlC T n Z fs ps :=
 ⟨_, _, _, (match Tryz.prog.underlying 139 with | some (.struct f) => f | _ => #[]), #[(0, 8), (8, 8), (16, 8), (24, 8), (32, 1), (33, 1), (34, 1), (35, 1)], rfl, rfl, rfl, fun w => by kernel_rfl, fun w => by kernel_rfl, fun w => by kernel_rfl, fun w => by kernel_rfl, fun w => by kernel_rfl, rfl⟩
theorem VlC.ops {T : TypeId} {n : Nat} {Z : Array Value} {fs : Array Field} {ps : Array (Nat × Nat)} (h : VlC T n Z fs ps) :
  (∀ x, Op.load 139 x = Op.load T x) ∧ (∀ x y, Op.store 139 x y = Op.store T x y) ∧ Op.alloc 139 = Op.alloc T ∧ ∀ x, Op.box 139 x = Op.box T x := by
 rw [h.t]
 exact ⟨fun _ => rfl, fun _ _ => rfl, rfl, fun _ => rfl⟩
def CAt (w : World) (q : Nat) (r : RC) : Prop := w.heap[q]? = some (.cells (chV r) 139 (0, 0))
structure RAt (w : World) (R : Nat) (a b : RC) : Prop where
 blk : w.heap[R]? = some (.cells (chV a ++ chV b) 142 (0, 0))
theorem CAt.kept {S : Nat → Prop} {w w' : World} {q : Nat} {r : RC} (h : CAt w q r) (k : Kp S w w') (hS : ¬ S q) : CAt w' q r := heap_kept h k hS
theorem RAt.kept {S : Nat → Prop} {w w' : World} {R : Nat} {a b : RC} (h : RAt w R a b) (k : Kp S w w') (hS : ¬ S R) : RAt w' R a b := ⟨heap_kept h.blk k hS⟩
theorem RAt.lt {w : World} {R : Nat} {a b : RC} (h : RAt w R a b) : R < w.heap.size := heap_lt h.blk
theorem Kp.setRow {S : Nat → Prop} (w : World) {g : Nat} (hp : S g) (cs : Array Value) : Kp S w (w.setRow g cs) :=
 ⟨rfl, rfl, rfl, by simp [World.setRow], fun k hk hs => setRow_other w g k cs (fun e => hs (e ▸ hp))⟩
section
variable {T : TypeId} {n : Nat} {Z : Array Value} {fs : Array Field} {ps : Array (Nat × Nat)}
theorem VlC.load (h : VlC T n Z fs ps) {w : World} {q o : Nat} {r : RC} (hr : w.rangeAt q o (chV r).toList) : (loadCellsFrom ⟨q, o, none⟩ 0 n #[]).run Tryz.prog w = .ok (chV r) w := by
 have e := run_loadCells_list (P := Tryz.prog) w ⟨q, o, none⟩ (chV r).toList (fun j v hv => by rw [Addr.add_mid]; exact hr j v hv)
 rw [h.s]
 exact e
theorem VlC.get (h : VlC T n Z fs ps) {w : World} {q : Nat} {r : RC} (hq : CAt w q r) : (loadCellsFrom ⟨q, 0, none⟩ 0 n #[]).run Tryz.prog w = .ok (chV r) w :=
 h.load (fun j v hv => by
  rw [cell_of_row w q (0 + j) _ _ _ hq, Nat.zero_add, ← Array.getElem?_toList]
  exact hv)
theorem VlC.getA (h : VlC T n Z fs ps) {w : World} {R : Nat} {a b : RC} (hq : RAt w R a b) : (loadCellsFrom ⟨R, 0, none⟩ 0 n #[]).run Tryz.prog w = .ok (chV a) w :=
 h.load (fun j v hv => by
  rw [cell_of_row w R (0 + j) _ _ _ hq.blk, Nat.zero_add, ← Array.getElem?_toList, Array.toList_append, List.getElem?_append_left (List.getElem?_eq_some_iff.1 hv).1]
  exact hv)
theorem VlC.getB (h : VlC T n Z fs ps) {w : World} {R : Nat} {a b : RC} (hq : RAt w R a b) : (loadCellsFrom ⟨R, 36, none⟩ 0 n #[]).run Tryz.prog w = .ok (chV b) w :=
 h.load (fun j v hv => by
  rw [cell_of_row w R (36 + j) _ _ _ hq.blk, ← Array.getElem?_toList, Array.toList_append, List.getElem?_append_right (by show 36 ≤ 36 + j; omega), show 36 + j - (chV a).toList.length = j by show 36 + j - 36 = j; omega]
  exact hv)
theorem put_ch {w : World} {q : Nat} {c : Array Value} {T : TypeId} (h : w.heap[q]? = some (.cells c T (0, 0))) (hc : c.size = 36) (r : RC) : (storeCells ⟨q, 0, none⟩ (chV r).toList).run Tryz.prog w = .ok () (w.setRow q (chV r)) := by
 have e := run_storeCells_at Tryz.prog q 0 T (chV r).toList 0 c w h (by simp [hc, chV_size]) (one_chV r)
 rw [e]
 have e2 : (List.take (0 + 0) c.toList ++ (chV r).toList ++ List.drop (0 + 0 + (chV r).toList.length) c.toList).toArray = chV r := by
  have h1 : List.drop (0 + 0 + (chV r).toList.length) c.toList = [] := List.drop_eq_nil_of_le (by simp [hc, chV_size])
  rw [h1]
  simp
 rw [e2]
theorem put_A {w : World} {R : Nat} {a b : RC} (h : RAt w R a b) (r : RC) : (storeCells ⟨R, 0, none⟩ (chV r).toList).run Tryz.prog w = .ok () (w.setRow R (chV r ++ chV b)) := by
 have e := run_storeCells_at Tryz.prog R 0 _ (chV r).toList 0 _ w h.blk (by simp [chV_size]) (one_chV r)
 rw [e]
 have e2 : (List.take (0 + 0) (chV a ++ chV b).toList ++ (chV r).toList ++ List.drop (0 + 0 + (chV r).toList.length) (chV a ++ chV b).toList).toArray = chV r ++ chV b := by
  apply Array.ext'
  rw [Array.toList_append, Array.toList_append, Nat.add_zero, List.take_zero, List.nil_append, Nat.zero_add, show (chV r).toList.length = (chV a).toList.length from rfl, List.drop_left]
 rw [e2]
theorem put_B {w : World} {R : Nat} {a b : RC} (h : RAt w R a b) (r : RC) : (storeCells ⟨R, 36, none⟩ (chV r).toList).run Tryz.prog w = .ok () (w.setRow R (chV a ++ chV r)) := by
 have e := run_storeCells_at Tryz.prog R 36 _ (chV r).toList 0 _ w h.blk (by simp [chV_size]) (one_chV r)
 rw [e]
 have e2 : (List.take (36 + 0) (chV a ++ chV b).toList ++ (chV r).toList ++ List.drop (36 + 0 + (chV r).toList.length) (chV a ++ chV b).toList).toArray = chV a ++ chV r := by
  apply Array.ext'
  rw [Array.toList_append, Array.toList_append, Nat.add_zero, show List.drop (36 + (chV r).toList.length) ((chV a).toList ++ (chV b).toList) = [] from List.drop_eq_nil_of_le (by rw [List.length_append]; exact Nat.le_refl 72), show (36 : Nat) = (chV a).toList.length from rfl, List.take_left, List.append_nil]
 rw [e2]
theorem RAt.putA {w : World} {R : Nat} {a b : RC} (h : RAt w R a b) (r : RC) : RAt (w.setRow R (chV r ++ chV b)) R r b := ⟨setRow_heap w R _ _ _ _ h.blk⟩
theorem RAt.putB {w : World} {R : Nat} {a b : RC} (h : RAt w R a b) (r : RC) : RAt (w.setRow R (chV a ++ chV r)) R a r := ⟨setRow_heap w R _ _ _ _ h.blk⟩
theorem CAt.put {w : World} {q : Nat} {a : RC} (h : CAt w q a) (r : RC) : CAt (w.setRow q (chV r)) q r := setRow_heap w q _ _ _ _ h
theorem setRow_alloc (W : World) (c A : Array Value) (T : TypeId) : (W.alloc (.cells c T)).setRow W.heap.size A = W.alloc (.cells A T) := by
 unfold World.setRow World.alloc
 congr 1
 apply Array.ext_getElem?
 intro i
 rw [Array.getElem?_modify]
 by_cases h : W.heap.size = i
 ·subst h; simp
 ·simp only [h, if_false]
  by_cases h2 : i < W.heap.size
  ·rw [Array.getElem?_push_lt h2, Array.getElem?_push_lt h2]
  ·rw [Array.getElem?_eq_none (by simp; omega), Array.getElem?_eq_none (by simp; omega)]
theorem VlC.new (h : VlC T n Z fs ps) (r : RC) (W : World) : (storeCells ⟨W.heap.size, 0, none⟩ (chV r).toList).run Tryz.prog (W.alloc (.cells Z T)) = .ok () (W.alloc (.cells (chV r) T)) := by
 rw [← setRow_alloc W Z (chV r) T, h.t]
 exact put_ch (heap_new W (.cells Z 139)) (by rw [h.z]; rfl) r
theorem VlC.at (h : VlC T n Z fs ps) (r : RC) (W : World) : CAt (W.alloc (.cells (chV r) T)) W.heap.size r := by
 rw [h.t]; exact heap_new _ _
end
theorem ch_asks (r : RC) {k : Nat} (h : k < 8) : (chV r)[k]? = some (.bool (r.asks k)) := by
 rcases (by omega : k = 0 ∨ k = 1 ∨ k = 2 ∨ k = 3 ∨ k = 4 ∨ k = 5 ∨ k = 6 ∨ k = 7) with rfl | rfl | rfl | rfl | rfl | rfl | rfl | rfl <;> rfl
theorem ch_srv (r : RC) {k : Nat} (h : k < 8) : (chV r)[8 + k]? = some (.bool (r.srv k)) := by
 rcases (by omega : k = 0 ∨ k = 1 ∨ k = 2 ∨ k = 3 ∨ k = 4 ∨ k = 5 ∨ k = 6 ∨ k = 7) with rfl | rfl | rfl | rfl | rfl | rfl | rfl | rfl <;> rfl
theorem ch_msk (r : RC) {k : Nat} (h : k < 8) : (chV r)[16 + k]? = some (.bool (r.msk k)) := by
 rcases (by omega : k = 0 ∨ k = 1 ∨ k = 2 ∨ k = 3 ∨ k = 4 ∨ k = 5 ∨ k = 6 ∨ k = 7) with rfl | rfl | rfl | rfl | rfl | rfl | rfl | rfl <;> rfl
theorem ch_up (r : RC) {k : Nat} (h : k < 8) : (chV r)[24 + k]? = some (.bool (r.up k)) := by
 rcases (by omega : k = 0 ∨ k = 1 ∨ k = 2 ∨ k = 3 ∨ k = 4 ∨ k = 5 ∨ k = 6 ∨ k = 7) with rfl | rfl | rfl | rfl | rfl | rfl | rfl | rfl <;> rfl
def upd (f : Nat → Bool) (k : Nat) (b : Bool) : Nat → Bool := fun j => if j = k then b else f j
theorem set_asks (r : RC) {k : Nat} (h : k < 8) (b : Bool) : (chV r).setIfInBounds k (.bool b) = chV { r with asks := upd r.asks k b } := by
 rcases (by omega : k = 0 ∨ k = 1 ∨ k = 2 ∨ k = 3 ∨ k = 4 ∨ k = 5 ∨ k = 6 ∨ k = 7) with rfl | rfl | rfl | rfl | rfl | rfl | rfl | rfl <;> rfl
theorem set_srv (r : RC) {k : Nat} (h : k < 8) (b : Bool) : (chV r).setIfInBounds (8 + k) (.bool b) = chV { r with srv := upd r.srv k b } := by
 rcases (by omega : k = 0 ∨ k = 1 ∨ k = 2 ∨ k = 3 ∨ k = 4 ∨ k = 5 ∨ k = 6 ∨ k = 7) with rfl | rfl | rfl | rfl | rfl | rfl | rfl | rfl <;> rfl
theorem set_msk (r : RC) {k : Nat} (h : k < 8) (b : Bool) : (chV r).setIfInBounds (16 + k) (.bool b) = chV { r with msk := upd r.msk k b } := by
 rcases (by omega : k = 0 ∨ k = 1 ∨ k = 2 ∨ k = 3 ∨ k = 4 ∨ k = 5 ∨ k = 6 ∨ k = 7) with rfl | rfl | rfl | rfl | rfl | rfl | rfl | rfl <;> rfl
theorem set_up (r : RC) {k : Nat} (h : k < 8) (b : Bool) : (chV r).setIfInBounds (24 + k) (.bool b) = chV { r with up := upd r.up k b } := by
 rcases (by omega : k = 0 ∨ k = 1 ∨ k = 2 ∨ k = 3 ∨ k = 4 ∨ k = 5 ∨ k = 6 ∨ k = 7) with rfl | rfl | rfl | rfl | rfl | rfl | rfl | rfl <;> rfl
theorem CAt.cell {w : World} {q : Nat} {r : RC} (h : CAt w q r) {j : Nat} {v : Value} (e : (chV r)[j]? = some v) : w.cell? ⟨q, j, none⟩ = some v := by
 rw [cell_of_row w q j _ _ _ h]; exact e
theorem CAt.fz {w : World} {q : Nat} {r : RC} (h : CAt w q r) (j : Nat) : w.frozen? ⟨q, j, none⟩ = false := frozen_of_row w q j _ _ h
theorem CAt.set {w : World} {q : Nat} {r r' : RC} (h : CAt w q r) {j : Nat} {v : Value} (e : (chV r).setIfInBounds j v = chV r') : CAt (w.setCell ⟨q, j, none⟩ v) q r' := by
 unfold CAt
 rw [heap_set h, e]
theorem RAt.cellA {w : World} {R : Nat} {a b : RC} (h : RAt w R a b) {j : Nat} {v : Value} (e : (chV a)[j]? = some v) : w.cell? ⟨R, j, none⟩ = some v := by
 rw [cell_of_row w R j _ _ _ h.blk, Array.getElem?_append_left (Array.getElem?_eq_some_iff.1 e).1]; exact e
theorem RAt.cellB {w : World} {R : Nat} {a b : RC} (h : RAt w R a b) {j : Nat} {v : Value} (e : (chV b)[j]? = some v) : w.cell? ⟨R, 36 + j, none⟩ = some v := by
 rw [cell_of_row w R (36 + j) _ _ _ h.blk, Array.getElem?_append_right (by show 36 ≤ 36 + j; omega), show 36 + j - (chV a).size = j by show 36 + j - 36 = j; omega]; exact e
theorem RAt.fz {w : World} {R : Nat} {a b : RC} (h : RAt w R a b) (j : Nat) : w.frozen? ⟨R, j, none⟩ = false := frozen_of_row w R j _ _ h.blk
theorem RAt.setA {w : World} {R : Nat} {a a' b : RC} (h : RAt w R a b) {j : Nat} {v : Value} (hj : j < 36) (e : (chV a).setIfInBounds j v = chV a') : RAt (w.setCell ⟨R, j, none⟩ v) R a' b := by
 refine ⟨?_⟩
 rw [heap_set h.blk, Array.setIfInBounds_append_left (by show j < 36; exact hj), e]
theorem RAt.setB {w : World} {R : Nat} {a b b' : RC} (h : RAt w R a b) {j : Nat} {v : Value} (hj : j < 36) (e : (chV b).setIfInBounds j v = chV b') : RAt (w.setCell ⟨R, 36 + j, none⟩ v) R a b' := by
 refine ⟨?_⟩
 rw [heap_set h.blk, Array.setIfInBounds_append_right (by show 36 ≤ 36 + j; omega), show 36 + j - (chV a).size = j by show 36 + j - 36 = j; omega, e]
def m00 : M2 := ⟨ch0, ch0⟩
theorem by0 : By 0 := ⟨by decide, by decide⟩
theorem ch0_ok : ch0.Ok := ⟨by0, by0, by0, by0, by0, by decide, ⟨by decide, by decide⟩⟩
theorem m00_ok : m00.Ok := ⟨ch0_ok, ch0_ok⟩
theorem Kp.own {S : Nat → Prop} {w w1 w2 : World} {B : Nat} (h : Kp S w w1) (k : Kp (isB B) w1 w2) (hB : w.heap.size ≤ B) : Kp S w w2 := h.over k (fun j hj e => by have : j = B := e; omega)
theorem rb_div {L : Int} (L0 : 0 ≤ L) (i : Nat) : ∃ y, 0 ≤ y ∧ L / 2 ^ i = y ∧ tb L i = decide (y % 2 = 1) := by
 have e : (2 : Int) ^ i = ((2 ^ i : Nat) : Int) := by simp
 refine ⟨L / 2 ^ i, ?_, rfl, ?_⟩
 ·rw [e]; exact Int.ediv_nonneg L0 (Int.natCast_nonneg _)
 ·rw [tb_div L L0 i, e]
theorem rb_one {L : Int} (L0 : 0 ≤ L) (i : Nat) : ((L / 2 ^ i).tmod 2 == 1) = tb L i := by
 obtain ⟨y, y0, e1, e2⟩ := rb_div L0 i
 rw [e1, e2, Int.tmod_eq_emod_of_nonneg y0]
 by_cases h : y % 2 = 1 <;> simp [h]
theorem bit_any (w : World) (v : Int) (hv : By v) (n : Nat) (hn : n < 8) : Calls Tryz.prog 177 #[.int .u8 v, .int .i64 n] w fun e w' => e = .returned (.bool (tb v n)) ∧ w' = w := by
 have e := rb_one hv.1 n
 obtain ⟨v0, v1⟩ := hv
 go_enter Tryz.func177, Tryz.ntmps177
 go_wp2
 go_ret
 exact ⟨rfl, rfl⟩
structure Rel (r : RC) (c : Ch) (s : Bool) : Prop where
 asks : ∀ k, k < 8 → (s = true → k ≠ 2) → r.asks k = tb c.asks k
 srv : ∀ k, k < 8 → r.srv k = tb c.srv k
 msk : ∀ k, k < 8 → r.msk k = tb c.msk k
 up : ∀ k, k < 8 → (s = true → k ≠ 2) → r.up k = tb c.up k
 base : r.base = c.base
 told : r.told = c.sh
 ends : r.ends = c.ends
def row8 (f : Nat → Bool) : Array Value := #[.bool (f 0), .bool (f 1), .bool (f 2), .bool (f 3), .bool (f 4), .bool (f 5), .bool (f 6), .bool (f 7)]
theorem row8_get (f : Nat → Bool) {k : Nat} (h : k < 8) : (row8 f)[k]? = some (.bool (f k)) := by
 rcases (by omega : k = 0 ∨ k = 1 ∨ k = 2 ∨ k = 3 ∨ k = 4 ∨ k = 5 ∨ k = 6 ∨ k = 7) with rfl | rfl | rfl | rfl | rfl | rfl | rfl | rfl <;> rfl
def R8 (w : World) (q : Nat) (f : Nat → Bool) : Prop := w.heap[q]? = some (.cells (row8 f) 137 (0, 0))
theorem row8_kept {w w' : World} {q : Nat} {f : Nat → Bool} (h : R8 w q f) (k : Kp noB w w') : R8 w' q f := heap_kept h k id
theorem row8_old (w : World) (f : Nat → Bool) (o : Obj) : R8 ((w.alloc (.cells (row8 f) 137)).alloc o) w.heap.size f := heap_alloc2_old w _ _
theorem row8_new2 (w : World) (f : Nat → Bool) (o : Obj) : R8 ((w.alloc o).alloc (.cells (row8 f) 137)) (w.heap.size + 1) f := heap_alloc2_new w _ _
theorem R8.cells {w : World} {q : Nat} {f : Nat → Bool} (h : R8 w q f) : w.cell? ⟨q, 0, none⟩ = some (.bool (f 0)) ∧ w.cell? ⟨q, 1, none⟩ = some (.bool (f 1)) ∧ w.cell? ⟨q, 2, none⟩ = some (.bool (f 2)) ∧ w.cell? ⟨q, 3, none⟩ = some (.bool (f 3)) ∧ w.cell? ⟨q, 4, none⟩ = some (.bool (f 4)) ∧ w.cell? ⟨q, 5, none⟩ = some (.bool (f 5)) ∧ w.cell? ⟨q, 6, none⟩ = some (.bool (f 6)) ∧ w.cell? ⟨q, 7, none⟩ = some (.bool (f 7)) := by
 refine ⟨?_, ?_, ?_, ?_, ?_, ?_, ?_, ?_⟩ <;> (rw [cell_of_row w q _ _ _ _ h]; rfl)
theorem R8.fz {w : World} {q : Nat} {f : Nat → Bool} (h : R8 w q f) (j : Nat) : w.frozen? ⟨q, j, none⟩ = false := frozen_of_row w q j _ _ h
theorem Kp.new {S : Nat → Prop} {w W : World} (h : Kp S w W) {b i : Nat} (hb : w.heap.size ≤ b) (v : Value) : Kp S w (W.setCell ⟨b, i, none⟩ v) := h.own (kpB b W i v) hb
theorem mod_step {x : Int} (h : By x) {i : Nat} (hi : i < 8) : x % 2 ^ (i + 1) = x % 2 ^ i + (if tb x i then 2 ^ i else 0) ∧ 0 ≤ x % 2 ^ i ∧ x % 2 ^ i < 2 ^ i := by
 obtain ⟨h0, h1⟩ := h
 have e := tb_div x h0 i
 rcases (by omega : i = 0 ∨ i = 1 ∨ i = 2 ∨ i = 3 ∨ i = 4 ∨ i = 5 ∨ i = 6 ∨ i = 7) with rfl | rfl | rfl | rfl | rfl | rfl | rfl | rfl
 all_goals
  simp only [Nat.reduceAdd, Nat.reducePow, Int.reducePow] at e ⊢
  refine ⟨?_, by omega, by omega⟩
  rw [e]
  split <;> rename_i g <;> simp at g <;> omega
theorem mod_lt256 {x : Int} (h : By x) {k : Nat} (hk : k < 8) : 0 ≤ x % 2 ^ (k + 1) ∧ x % 2 ^ (k + 1) < 256 ∧ (2 : Int) ^ k % 256 = 2 ^ k := by
 obtain ⟨h0, h1⟩ := h
 rcases (by omega : k = 0 ∨ k = 1 ∨ k = 2 ∨ k = 3 ∨ k = 4 ∨ k = 5 ∨ k = 6 ∨ k = 7) with rfl | rfl | rfl | rfl | rfl | rfl | rfl | rfl
 all_goals
  simp only [Nat.reduceAdd, Int.reducePow]
  refine ⟨by omega, by omega, by decide⟩
theorem byteOf_ok (w : World) (f : Nat → Bool) (x : Int) (hx : By x) (hf : ∀ k, k < 8 → f k = tb x k) : Calls Tryz.prog 161 #[.agg (row8 f)] w fun e w' => e = .returned (.int .u8 x) ∧ Kp noB w w' := by
 have hc : ∀ k, k < 8 → (w.alloc (.cells (row8 f) 137)).cell? ⟨w.heap.size, k, none⟩ = some (.bool (tb x k)) := fun k hk => by
  rw [cell_of_row _ _ k _ _ _ (heap_new w _), row8_get f hk, hf k hk]
 have HC : Hid _ := hc
 have HK : Hid (Kp noB w (w.alloc (.cells (row8 f) 137))) := Kp.alloc _ _ _
 have HX : Hid (By x) := hx
 clear hc hf
 unfold row8 at *
 go_enter Tryz.func161, Tryz.ntmps161
 go_wp2
 generalize w.alloc (.cells #[.bool (f 0), .bool (f 1), .bool (f 2), .bool (f 3), .bool (f 4), .bool (f 5), .bool (f 6), .bool (f 7)] 137) = w1 at HC HK ⊢
 go_loop [3, 4] (fun o i => ∃ k : Nat, k ≤ 8 ∧ i = .int .i64 k ∧ o = .int .u8 (x % 2 ^ k)) (fun _ i => 8 - (intOf i).toNat)
 case atStart => exact ⟨0, by omega, rfl, by simp⟩
 case round =>
  obtain ⟨k, hk, rfl, rfl⟩ := hrel
  by_cases hlt : k < 8
  ·have hc := HC.out k hlt
   have hs := mod_step HX.out hlt
   have hp := pw_mod (n := (k : Int)) (by omega) (by omega)
   cases e : tb x k
   ·rw [e] at hc
    go_wp2
    go_round
    case rel => exact ⟨k + 1, by omega, by go_num, by rw [hs.1, e]; simp⟩
    case measure => simp [intOf]; omega
   ·rw [e] at hc
    go_wp2
    go_round
    case rel =>
     refine ⟨k + 1, by omega, by go_num, ?_⟩
     have e1 : x % 2 ^ (k + 1) = x % 2 ^ k + 2 ^ k := by rw [hs.1, e]; rfl
     obtain ⟨q1, q2, e3⟩ := mod_lt256 HX.out hlt
     rw [e3, ← e1]
     exact congrArg _ (by omega)
    case measure => simp [intOf]; omega
  ·obtain rfl : k = 8 := by omega
   have e8 : x % 256 = x := by have := HX.out.1; have := HX.out.2; omega
   go_wp2
   go_ret
   exact ⟨rfl, HK.out⟩
theorem asking_b (w : World) (R : Nat) (a b : RC) (h : RAt w R a b) : Calls Tryz.prog 87 #[.pointer (some ⟨R, 0, none⟩), .int .i64 1] w fun e w' => e = .returned (.agg (row8 b.asks)) ∧ Kp noB w w' := by
 have lR := h.lt
 have c0 := h.cellB (ch_asks b (k := 0) (by decide))
 have c1 := h.cellB (ch_asks b (k := 1) (by decide))
 have c2 := h.cellB (ch_asks b (k := 2) (by decide))
 have c3 := h.cellB (ch_asks b (k := 3) (by decide))
 have c4 := h.cellB (ch_asks b (k := 4) (by decide))
 have c5 := h.cellB (ch_asks b (k := 5) (by decide))
 have c6 := h.cellB (ch_asks b (k := 6) (by decide))
 have c7 := h.cellB (ch_asks b (k := 7) (by decide))
 simp only [Nat.reduceAdd] at c0 c1 c2 c3 c4 c5 c6 c7
 go_enter Tryz.func87, Tryz.ntmps87
 go_wp2
 refine bodyPost_ret (v := .agg (row8 b.asks)) ?_ rfl ⟨rfl, (Kp.alloc _ _ _).trans (Kp.alloc _ _ _)⟩
 simp [results, Tryz.results87, go_sem, row8]
theorem tells_b (w : World) (R : Nat) (a b : RC) (c : Ch) (l : Nat → Bool) (h : RAt w R a b) (hr : Rel b c false) (k : c.Ok) (hl : ∀ j, j < 8 → l j = tb c.asks j) (HA : Hid (Calls Tryz.prog 87 #[.pointer (some ⟨R, 0, none⟩), .int .i64 1] w fun e w' => e = .returned (.agg (row8 l)) ∧ Kp noB w w')) : Calls Tryz.prog 42 #[.pointer (some ⟨R, 0, none⟩), .int .i64 1] w fun e w' => e = .returned (.int .i64 c.next) ∧ Kp noB w w' := by
 have H0 : Hid (∀ (i : Nat), i < 8 → (∀ j, j < i → tb c.srv j = false ∧ c.eff j = false) → tb c.srv i = true → c.next = -1) := fun i hi f g => next_none k (by omega) (fun j hj => (f j hj).2) (.inr ⟨hi, g⟩)
 have H1 : Hid (∀ (i : Nat), i < 8 → (∀ j, j < i → tb c.srv j = false ∧ c.eff j = false) → tb c.srv i = false → c.eff i = true → c.next = i) := fun i hi f g e => next_is k hi e (fun j hj => (f j hj).2) (fun j hj => by
  by_cases q : j < i
  ·exact (f j q).1
  ·obtain rfl : j = i := by omega
   exact g)
 have H2 : Hid ((∀ j, j < 8 → tb c.srv j = false ∧ c.eff j = false) → c.next = -1) := fun f => next_none k (k := 8) (by decide) (fun j hj => (f j hj).2) (.inl rfl)
 have HR : Hid (RAt w R a b) := h
 have HE : Hid (Rel b c false) := hr
 have HL : Hid (∀ j, j < 8 → l j = tb c.asks j) := hl
 clear h hr k hl
 go_enter Tryz.func42, Tryz.ntmps42
 go_wp2_with fail
 refine Calls.mono HA.out ?_; rintro e w1 ⟨rfl, k1⟩
 have hR1 : Hid (RAt (w1.alloc (.cells (row8 l) 137)) R a b) := (HR.out.kept k1 id).kept (Kp.alloc noB _ _) id
 have hC : Hid (∀ j, j < 8 → (w1.alloc (.cells (row8 l) 137)).cell? ⟨w1.heap.size, j, none⟩ = some (.bool (tb c.asks j))) := fun j hj => by
  rw [cell_of_row _ _ j _ _ _ (heap_new w1 _), row8_get l hj, HL.out j hj]
 have hK : Hid (Kp noB w (w1.alloc (.cells (row8 l) 137))) := k1.trans (Kp.alloc _ _ _)
 clear HR HL k1 HA
 unfold row8 at *
 go_wp2_with fail
 generalize w1.alloc (.cells #[.bool (l 0), .bool (l 1), .bool (l 2), .bool (l 3), .bool (l 4), .bool (l 5), .bool (l 6), .bool (l 7)] 137) = w2 at hR1 hC hK ⊢
 go_loop [6] (fun i => ∃ k : Nat, k ≤ 8 ∧ i = .int .i64 k ∧ Hid (∀ j, j < k → tb c.srv j = false ∧ c.eff j = false)) (fun i => 8 - (intOf i).toNat)
 case atStart => exact ⟨0, by omega, rfl, fun j hj => absurd hj (by omega)⟩
 case round =>
  obtain ⟨i, hi, rfl, hI⟩ := hrel
  by_cases hlt : i < 8
  ·have c1 := hR1.out.cellB (ch_srv b hlt)
   have c2 := hR1.out.cellB (ch_msk b hlt)
   have c3 := hC.out i hlt
   rw [HE.out.srv i hlt] at c1
   rw [HE.out.msk i hlt] at c2
   rw [show 36 + (8 + i) = 44 + i by omega] at c1
   rw [show 36 + (16 + i) = 52 + i by omega] at c2
   cases es : tb c.srv i
   ·rw [es] at c1
    cases ea : tb c.asks i
    ·rw [ea] at c3
     have hI' : Hid (∀ j, j < i + 1 → tb c.srv j = false ∧ c.eff j = false) := fun j hj => by
      by_cases q : j < i
      ·exact hI.out j q
      ·obtain rfl : j = i := by omega
       exact ⟨es, by unfold Ch.eff; rw [ea]; rfl⟩
     go_wp2
     go_round
     case rel => exact ⟨i + 1, by omega, by go_num, hI'⟩
     case measure => simp [intOf]; omega
    ·rw [ea] at c3
     cases em : tb c.msk i
     ·rw [em] at c2
      have e := H1.out i hlt hI.out es (by unfold Ch.eff; rw [ea, em]; rfl)
      have E : Hid _ := e
      clear e
      go_wp2
      go_ret
      exact ⟨ret_int E.out.symm, hK.out⟩
     ·rw [em] at c2
      have hI' : Hid (∀ j, j < i + 1 → tb c.srv j = false ∧ c.eff j = false) := fun j hj => by
       by_cases q : j < i
       ·exact hI.out j q
       ·obtain rfl : j = i := by omega
        exact ⟨es, by unfold Ch.eff; rw [ea, em]; rfl⟩
      go_wp2
      go_round
      case rel => exact ⟨i + 1, by omega, by go_num, hI'⟩
      case measure => simp [intOf]; omega
   ·rw [es] at c1
    have e := H0.out i hlt hI.out es
    have E : Hid _ := e
    clear e
    go_wp2
    go_ret
    exact ⟨ret_int E.out.symm, hK.out⟩
  ·obtain rfl : i = 8 := by omega
   have e := H2.out hI.out
   have E : Hid _ := e
   clear e
   go_wp2
   go_ret
   exact ⟨ret_int E.out.symm, hK.out⟩
theorem tellsB (w : World) (R : Nat) (a b : RC) (c : Ch) (h : RAt w R a b) (hr : Rel b c false) (k : c.Ok) : Calls Tryz.prog 42 #[.pointer (some ⟨R, 0, none⟩), .int .i64 1] w fun e w' => e = .returned (.int .i64 c.next) ∧ Kp noB w w' :=
 tells_b w R a b c b.asks h hr k (fun j hj => hr.asks j hj (fun f => by cases f)) (asking_b w R a b h)
theorem tells_a (w : World) (R : Nat) (a b : RC) (c : Ch) (l : Nat → Bool) (h : RAt w R a b) (hr : Rel a c true) (k : c.Ok) (hl : ∀ j, j < 8 → l j = tb c.asks j) (HA : Hid (Calls Tryz.prog 87 #[.pointer (some ⟨R, 0, none⟩), .int .i64 0] w fun e w' => e = .returned (.agg (row8 l)) ∧ Kp noB w w')) : Calls Tryz.prog 42 #[.pointer (some ⟨R, 0, none⟩), .int .i64 0] w fun e w' => e = .returned (.int .i64 c.next) ∧ Kp noB w w' := by
 have H0 : Hid (∀ (i : Nat), i < 8 → (∀ j, j < i → tb c.srv j = false ∧ c.eff j = false) → tb c.srv i = true → c.next = -1) := fun i hi f g => next_none k (by omega) (fun j hj => (f j hj).2) (.inr ⟨hi, g⟩)
 have H1 : Hid (∀ (i : Nat), i < 8 → (∀ j, j < i → tb c.srv j = false ∧ c.eff j = false) → tb c.srv i = false → c.eff i = true → c.next = i) := fun i hi f g e => next_is k hi e (fun j hj => (f j hj).2) (fun j hj => by
  by_cases q : j < i
  ·exact (f j q).1
  ·obtain rfl : j = i := by omega
   exact g)
 have H2 : Hid ((∀ j, j < 8 → tb c.srv j = false ∧ c.eff j = false) → c.next = -1) := fun f => next_none k (k := 8) (by decide) (fun j hj => (f j hj).2) (.inl rfl)
 have HR : Hid (RAt w R a b) := h
 have HE : Hid (Rel a c true) := hr
 have HL : Hid (∀ j, j < 8 → l j = tb c.asks j) := hl
 clear h hr k hl
 go_enter Tryz.func42, Tryz.ntmps42
 go_wp2_with fail
 refine Calls.mono HA.out ?_; rintro e w1 ⟨rfl, k1⟩
 have hR1 : Hid (RAt (w1.alloc (.cells (row8 l) 137)) R a b) := (HR.out.kept k1 id).kept (Kp.alloc noB _ _) id
 have hC : Hid (∀ j, j < 8 → (w1.alloc (.cells (row8 l) 137)).cell? ⟨w1.heap.size, j, none⟩ = some (.bool (tb c.asks j))) := fun j hj => by
  rw [cell_of_row _ _ j _ _ _ (heap_new w1 _), row8_get l hj, HL.out j hj]
 have hK : Hid (Kp noB w (w1.alloc (.cells (row8 l) 137))) := k1.trans (Kp.alloc _ _ _)
 clear HR HL k1 HA
 unfold row8 at *
 go_wp2_with fail
 generalize w1.alloc (.cells #[.bool (l 0), .bool (l 1), .bool (l 2), .bool (l 3), .bool (l 4), .bool (l 5), .bool (l 6), .bool (l 7)] 137) = w2 at hR1 hC hK ⊢
 go_loop [6] (fun i => ∃ k : Nat, k ≤ 8 ∧ i = .int .i64 k ∧ Hid (∀ j, j < k → tb c.srv j = false ∧ c.eff j = false)) (fun i => 8 - (intOf i).toNat)
 case atStart => exact ⟨0, by omega, rfl, fun j hj => absurd hj (by omega)⟩
 case round =>
  obtain ⟨i, hi, rfl, hI⟩ := hrel
  by_cases hlt : i < 8
  ·have c1 := hR1.out.cellA (ch_srv a hlt)
   have c2 := hR1.out.cellA (ch_msk a hlt)
   have c3 := hC.out i hlt
   rw [HE.out.srv i hlt] at c1
   rw [HE.out.msk i hlt] at c2
   rw [show 8 + i = 8 + i by omega] at c1
   rw [show 16 + i = 16 + i by omega] at c2
   cases es : tb c.srv i
   ·rw [es] at c1
    cases ea : tb c.asks i
    ·rw [ea] at c3
     have hI' : Hid (∀ j, j < i + 1 → tb c.srv j = false ∧ c.eff j = false) := fun j hj => by
      by_cases q : j < i
      ·exact hI.out j q
      ·obtain rfl : j = i := by omega
       exact ⟨es, by unfold Ch.eff; rw [ea]; rfl⟩
     go_wp2
     go_round
     case rel => exact ⟨i + 1, by omega, by go_num, hI'⟩
     case measure => simp [intOf]; omega
    ·rw [ea] at c3
     cases em : tb c.msk i
     ·rw [em] at c2
      have e := H1.out i hlt hI.out es (by unfold Ch.eff; rw [ea, em]; rfl)
      have E : Hid _ := e
      clear e
      go_wp2
      go_ret
      exact ⟨ret_int E.out.symm, hK.out⟩
     ·rw [em] at c2
      have hI' : Hid (∀ j, j < i + 1 → tb c.srv j = false ∧ c.eff j = false) := fun j hj => by
       by_cases q : j < i
       ·exact hI.out j q
       ·obtain rfl : j = i := by omega
        exact ⟨es, by unfold Ch.eff; rw [ea, em]; rfl⟩
      go_wp2
      go_round
      case rel => exact ⟨i + 1, by omega, by go_num, hI'⟩
      case measure => simp [intOf]; omega
   ·rw [es] at c1
    have e := H0.out i hlt hI.out es
    have E : Hid _ := e
    clear e
    go_wp2
    go_ret
    exact ⟨ret_int E.out.symm, hK.out⟩
  ·obtain rfl : i = 8 := by omega
   have e := H2.out hI.out
   have E : Hid _ := e
   clear e
   go_wp2
   go_ret
   exact ⟨ret_int E.out.symm, hK.out⟩
theorem asking_a (w : World) (R : Nat) (a b : RC) (m : M2) (h : RAt w R a b) (hb : Rel b m.b false) (k : m.Ok) : Calls Tryz.prog 87 #[.pointer (some ⟨R, 0, none⟩), .int .i64 0] w fun e w' => e = .returned (.agg (row8 (upd a.asks 2 (m.b.next != -1)))) ∧ Kp noB w w' := by
 have lR := h.lt
 have c0 := h.cellA (ch_asks a (k := 0) (by decide))
 have c1 := h.cellA (ch_asks a (k := 1) (by decide))
 have c2 := h.cellA (ch_asks a (k := 2) (by decide))
 have c3 := h.cellA (ch_asks a (k := 3) (by decide))
 have c4 := h.cellA (ch_asks a (k := 4) (by decide))
 have c5 := h.cellA (ch_asks a (k := 5) (by decide))
 have c6 := h.cellA (ch_asks a (k := 6) (by decide))
 have c7 := h.cellA (ch_asks a (k := 7) (by decide))
 have HT : Hid (∀ w, RAt w R a b → _) := fun w h => tellsB w R a b m.b h hb k.b
 have HR : Hid (RAt w R a b) := h
 have ge : decide (m.b.next ≥ 0) = (m.b.next != -1) := by
  have := next_bd k.b
  by_cases g : m.b.next = -1
  ·rw [g]; rfl
  ·have g1 : (m.b.next != -1) = true := by simp [g]
   rw [g1]; exact decide_eq_true (by omega)
 obtain ⟨X, hX⟩ : ∃ X, X = (m.b.next != -1) := ⟨_, rfl⟩
 rw [← hX] at ge ⊢
 have hk : Hid (∀ o1 o2, RAt ((w.alloc o1).alloc o2) R a b) := fun o1 o2 => (h.kept (Kp.alloc noB _ _) id).kept (Kp.alloc noB _ _) id
 clear h hb k hX
 go_enter Tryz.func87, Tryz.ntmps87
 go_wp2_with fail
 refine Calls.mono (HT.out _ (hk.out _ _)) ?_; rintro e w1 ⟨rfl, k1⟩
 have hq0 := row8_kept (row8_old w (fun _ => false) (.cells (row8 a.asks) 137)) k1
 have hq1 := row8_kept (row8_new2 w a.asks (.cells (row8 (fun _ => false)) 137)) k1
 obtain ⟨d0, d1, d2, d3, d4, d5, d6, d7⟩ := hq1.cells
 obtain ⟨e0, e1, e2, e3, e4, e5, e6, e7⟩ := hq0.cells
 have z1 := hq1.fz 2
 have y0 := hq0.fz 0
 have y1 := hq0.fz 1
 have y2 := hq0.fz 2
 have y3 := hq0.fz 3
 have y4 := hq0.fz 4
 have y5 := hq0.fz 5
 have y6 := hq0.fz 6
 have y7 := hq0.fz 7
 have K1 : Hid (Kp noB w w1) := ((Kp.alloc noB _ _).trans (Kp.alloc noB _ _)).trans k1
 clear hq0 hq1 k1 c0 c1 c2 c3 c4 c5 c6 c7 HT HR hk lR
 go_wp2
 refine bodyPost_ret (v := .agg (row8 (upd a.asks 2 X))) ?_ rfl ⟨rfl, ?_⟩
 ·simp [results, Tryz.results87, go_sem, row8, upd, *]
 ·exact ((((((((K1.out.new (by omega) _).new (Nat.le_refl _) _).new (Nat.le_refl _) _).new (Nat.le_refl _) _).new (Nat.le_refl _) _).new (Nat.le_refl _) _).new (Nat.le_refl _) _).new (Nat.le_refl _) _).new (Nat.le_refl _) _
theorem next_free {c : Ch} (h : c.Ok) {n : Nat} (e : c.next = n) : n < 8 ∧ tb c.srv n = false := by
 have b := next_bd h
 have hn : n < 8 := by omega
 refine ⟨hn, ?_⟩
 unfold Ch.next nextZ at e
 split at e
 ·omega
 ·rename_i g
  exact (tz_ge h.srv (k := n + 1) (by omega)).2 (by omega) n (by omega)
def RC.take (r : RC) (n : Nat) : RC := { r with asks := upd r.asks n false, srv := upd r.srv n (!r.ends) }
theorem Rel.take {r : RC} {c : Ch} {s : Bool} (h : Rel r c s) (k : c.Ok) {n : Nat} (e : c.next = n) : Rel (r.take n) (c.told (n : Int)) s := by
 obtain ⟨hn, hs⟩ := next_free k e
 have p := by_pw (n := (n : Int)) (by omega) (by omega)
 unfold Ch.told
 rw [if_neg (by omega)]
 cases ee : c.ends
 ·rw [if_neg (by decide)]
  refine ⟨fun j hj f => ?_, fun j hj => ?_, h.msk, h.up, h.base, h.told, h.ends.trans ee⟩
  ·show upd r.asks n false j = tb (bits .andNot .u8 c.asks (pw (n : Int))) j
   rw [tb8_andNot k.asks p, tb_pw]
   unfold upd
   by_cases q : j = n
   ·simp [q]
   ·simp [q, h.asks j hj f]
  ·show upd r.srv n (!r.ends) j = tb (bits .or .u8 c.srv (pw (n : Int))) j
   rw [tb8_or k.srv p, tb_pw, h.ends, ee]
   unfold upd
   by_cases q : j = n
   ·simp [q]
   ·simp [q, h.srv j hj]
 ·rw [if_pos rfl]
  refine ⟨fun j hj f => ?_, fun j hj => ?_, h.msk, h.up, h.base, h.told, h.ends.trans ee⟩
  ·show upd r.asks n false j = tb (bits .andNot .u8 c.asks (pw (n : Int))) j
   rw [tb8_andNot k.asks p, tb_pw]
   unfold upd
   by_cases q : j = n
   ·simp [q]
   ·simp [q, h.asks j hj f]
  ·show upd r.srv n (!r.ends) j = tb c.srv j
   rw [h.ends, ee]
   unfold upd
   by_cases q : j = n
   ·subst q; simp [hs]
   ·simp [q, h.srv j hj]
theorem Rel.settle {r : RC} {m : M2} (h : Rel r m.a true) (k : m.Ok) : Rel r m.settle.a true :=
 ⟨fun j hj f => by rw [settle_asks k, if_neg (f rfl)]; exact h.asks j hj f, h.srv, h.msk, h.up, h.base, h.told, h.ends⟩
def St2 (m : M2) : Prop := tb m.a.asks 2 = (m.b.next != -1)
theorem tellsA (w : World) (R : Nat) (a b : RC) (m : M2) (h : RAt w R a b) (ha : Rel a m.a true) (hb : Rel b m.b false) (k : m.Ok) (st : St2 m) : Calls Tryz.prog 42 #[.pointer (some ⟨R, 0, none⟩), .int .i64 0] w fun e w' => e = .returned (.int .i64 m.a.next) ∧ Kp noB w w' :=
 tells_a w R a b m.a (upd a.asks 2 (m.b.next != -1)) h ha k.a (fun j hj => by
  unfold upd
  by_cases q : j = 2
  ·subst q; rw [if_pos rfl]; exact st.symm
  ·rw [if_neg q]; exact ha.asks j hj (fun _ => q)) (asking_a w R a b m h hb k)
theorem rpend_ok (w : World) (R : Nat) (a b : RC) (m : M2) (h : RAt w R a b) (ha : Rel a m.a true) (hb : Rel b m.b false) (k : m.Ok) (st : St2 m) : Calls Tryz.prog 12 #[.pointer (some ⟨R, 0, none⟩)] w fun e w' => e = .returned (.bool (m.a.next != -1)) ∧ Kp noB w w' := by
 have H : Hid _ := tellsA w R a b m h ha hb k st
 have ge : decide (m.a.next ≥ 0) = (m.a.next != -1) := by
  have := next_bd k.a
  by_cases g : m.a.next = -1
  ·rw [g]; rfl
  ·have g1 : (m.a.next != -1) = true := by simp [g]
   rw [g1]; exact decide_eq_true (by omega)
 obtain ⟨N, hN⟩ : ∃ N, N = m.a.next := ⟨_, rfl⟩
 rw [← hN] at H ge ⊢
 obtain ⟨X, hX⟩ : ∃ X, X = (N != -1) := ⟨_, rfl⟩
 rw [← hX] at ge ⊢
 clear h ha hb k st hN hX
 go_enter Tryz.func12, Tryz.ntmps12
 go_wp2_with fail
 refine Calls.mono H.out ?_; rintro e w1 ⟨rfl, k1⟩
 go_wp2
 go_ret
 exact ⟨rfl, k1⟩
theorem take_bn (w : World) (R : Nat) (a b : RC) (c : Ch) (h : RAt w R a b) (hb : Rel b c false) (k : c.Ok) (e : c.next = -1) : Calls Tryz.prog 134 #[.pointer (some ⟨R, 0, none⟩), .int .i64 1] w fun e w' => e = .returned (.int .i64 (c.vec (-1))) ∧ RAt w' R a b ∧ Kp (isB R) w w' := by
 have H : Hid _ := tellsB w R a b c h hb k
 rw [e] at H
 have HR : Hid (RAt w R a b) := h
 have hB : b.base = c.base := hb.base
 obtain ⟨b0, b1⟩ := k.base
 have hV : c.vec (-1) = b.base + 7 := by rw [hB]; simp [Ch.vec]
 rw [hV]
 rw [← hB] at b0 b1
 have hw : IntKind.i64.wrap (b.base + 7) = b.base + 7 := IntWalk.i64_in _ ⟨by omega, by omega⟩
 clear h hb k e hB hV
 go_enter Tryz.func134, Tryz.ntmps134
 go_wp2_with fail
 refine Calls.mono H.out ?_; rintro e w1 ⟨rfl, k1⟩
 have h1 := HR.out.kept k1 id
 have c1 : w1.cell? ⟨R, 68, none⟩ = some (.int .i64 b.base) := h1.cellB (j := 32) rfl
 go_wp2
 go_ret
 exact ⟨rfl, h1, k1.any⟩
theorem take_b (w : World) (R : Nat) (a b : RC) (c : Ch) (h : RAt w R a b) (hb : Rel b c false) (k : c.Ok) (N : Nat) (e : c.next = N) : Calls Tryz.prog 134 #[.pointer (some ⟨R, 0, none⟩), .int .i64 1] w fun e w' => e = .returned (.int .i64 (c.vec N)) ∧ RAt w' R a (b.take N) ∧ Kp (isB R) w w' := by
 have H : Hid _ := tellsB w R a b c h hb k
 obtain ⟨hN, _⟩ := next_free k e
 rw [e] at H
 have HR : Hid (RAt w R a b) := h
 have hB : b.base = c.base := hb.base
 obtain ⟨b0, b1⟩ := k.base
 have hV : c.vec N = b.base + N := by rw [hB]; unfold Ch.vec; rw [if_neg (by omega)]
 rw [hV]
 rw [← hB] at b0 b1
 have hw : IntKind.i64.wrap (b.base + N) = b.base + N := IntWalk.i64_in _ ⟨by omega, by omega⟩
 clear h hb k e hB hV
 go_enter Tryz.func134, Tryz.ntmps134
 go_wp2_with fail
 refine Calls.mono H.out ?_; rintro e w1 ⟨rfl, k1⟩
 have h1 := HR.out.kept k1 id
 have c1 : w1.cell? ⟨R, 68, none⟩ = some (.int .i64 b.base) := h1.cellB (j := 32) rfl
 have c2 : w1.cell? ⟨R, 36 + N, none⟩ = some (.bool (b.asks N)) := h1.cellB (ch_asks b hN)
 have z2 := h1.fz (36 + N)
 have h2 : RAt (w1.setCell ⟨R, 36 + N, none⟩ (.bool false)) R a { b with asks := upd b.asks N false } := h1.setB (by omega) (set_asks b hN false)
 have H2 : Hid _ := h2
 have K2 : Hid (Kp (isB R) w (w1.setCell ⟨R, 36 + N, none⟩ (.bool false))) := (k1.any (S := isB R)).trans (kpB R _ _ _)
 clear h1 h2 k1 H HR
 go_wp2
 generalize w1.setCell ⟨R, 36 + N, none⟩ (.bool false) = w2 at H2 K2 ⊢
 have d1 : w2.cell? ⟨R, 70, none⟩ = some (.bool b.ends) := H2.out.cellB (j := 34) rfl
 have d2 : w2.cell? ⟨R, 44 + N, none⟩ = some (.bool (b.srv N)) := by
  have := H2.out.cellB (ch_srv { b with asks := upd b.asks N false } hN)
  rw [show 36 + (8 + N) = 44 + N by omega] at this
  exact this
 have y2 := H2.out.fz (44 + N)
 have h3 : Hid (RAt (w2.setCell ⟨R, 44 + N, none⟩ (.bool !b.ends)) R a (b.take N)) := by
  have := H2.out.setB (j := 8 + N) (by omega) (set_srv { b with asks := upd b.asks N false } hN (!b.ends))
  rw [show 36 + (8 + N) = 44 + N by omega] at this
  exact this
 clear c1 c2 z2
 go_region
 all_goals
  go_wp2
  go_ret
  exact ⟨rfl, h3.out.kept (Kp.refl noB _).drew id, (K2.out.trans (kpB R _ _ _)).drew⟩
theorem takeB (w : World) (R : Nat) (a b : RC) (c : Ch) (h : RAt w R a b) (hb : Rel b c false) (k : c.Ok) : Calls Tryz.prog 134 #[.pointer (some ⟨R, 0, none⟩), .int .i64 1] w fun e w' => e = .returned (.int .i64 (c.vec c.next)) ∧ (∃ b', RAt w' R a b' ∧ Rel b' (c.told c.next) false ∧ (b'.wp = b.wp ∧ b'.wl = b.wl ∧ b'.wc = b.wc)) ∧ Kp (isB R) w w' := by
 by_cases e : c.next = -1
 ·rw [e]
  exact (take_bn w R a b c h hb k e).mono fun _ _ ⟨p, q, r⟩ => ⟨p, ⟨b, q, by unfold Ch.told; rw [if_pos rfl]; exact hb, rfl, rfl, rfl⟩, r⟩
 ·have bd := next_bd k
  obtain ⟨N, hN⟩ := Int.eq_ofNat_of_zero_le (show 0 ≤ c.next by omega)
  have hN' : c.next = (N : Int) := hN
  rw [hN']
  exact (take_b w R a b c h hb k N hN').mono fun _ _ ⟨p, q, r⟩ => ⟨p, ⟨b.take N, q, hb.take k hN', rfl, rfl, rfl⟩, r⟩
theorem take_an (w : World) (R : Nat) (a b : RC) (m : M2) (h : RAt w R a b) (ha : Rel a m.a true) (hb : Rel b m.b false) (k : m.Ok) (st : St2 m) (e : m.a.next = -1) : Calls Tryz.prog 134 #[.pointer (some ⟨R, 0, none⟩), .int .i64 0] w fun e w' => e = .returned (.int .i64 (m.a.vec (-1))) ∧ RAt w' R a b ∧ Kp (isB R) w w' := by
 have H : Hid _ := tellsA w R a b m h ha hb k st
 rw [e] at H
 have HR : Hid (RAt w R a b) := h
 have hB : a.base = m.a.base := ha.base
 obtain ⟨b0, b1⟩ := k.a.base
 have hV : m.a.vec (-1) = a.base + 7 := by rw [hB]; simp [Ch.vec]
 rw [hV]
 rw [← hB] at b0 b1
 have hw : IntKind.i64.wrap (a.base + 7) = a.base + 7 := IntWalk.i64_in _ ⟨by omega, by omega⟩
 clear h ha hb k e hB hV st
 go_enter Tryz.func134, Tryz.ntmps134
 go_wp2_with fail
 refine Calls.mono H.out ?_; rintro e w1 ⟨rfl, k1⟩
 have h1 := HR.out.kept k1 id
 have c1 : w1.cell? ⟨R, 32, none⟩ = some (.int .i64 a.base) := h1.cellA (j := 32) rfl
 go_wp2
 go_ret
 exact ⟨rfl, h1, k1.any⟩
theorem take_a (w : World) (R : Nat) (a b : RC) (m : M2) (h : RAt w R a b) (ha : Rel a m.a true) (hb : Rel b m.b false) (k : m.Ok) (st : St2 m) (N : Nat) (e : m.a.next = N) (e2 : ¬ N = 2) : Calls Tryz.prog 134 #[.pointer (some ⟨R, 0, none⟩), .int .i64 0] w fun e w' => e = .returned (.int .i64 (m.a.vec N)) ∧ RAt w' R (a.take N) b ∧ Kp (isB R) w w' := by
 have H : Hid _ := tellsA w R a b m h ha hb k st
 obtain ⟨hN, _⟩ := next_free k.a e
 rw [e] at H
 have HR : Hid (RAt w R a b) := h
 have hB : a.base = m.a.base := ha.base
 obtain ⟨b0, b1⟩ := k.a.base
 have hV : m.a.vec N = a.base + N := by rw [hB]; unfold Ch.vec; rw [if_neg (by omega)]
 rw [hV]
 rw [← hB] at b0 b1
 have hw : IntKind.i64.wrap (a.base + N) = a.base + N := IntWalk.i64_in _ ⟨by omega, by omega⟩
 have n2 : ((N : Int) == 2) = false := by simp; omega
 clear h ha hb k e hB hV st
 go_enter Tryz.func134, Tryz.ntmps134
 go_wp2_with fail
 refine Calls.mono H.out ?_; rintro e w1 ⟨rfl, k1⟩
 have h1 := HR.out.kept k1 id
 have c1 : w1.cell? ⟨R, 32, none⟩ = some (.int .i64 a.base) := h1.cellA (j := 32) rfl
 have c2 : w1.cell? ⟨R, N, none⟩ = some (.bool (a.asks N)) := h1.cellA (ch_asks a hN)
 have z2 := h1.fz N
 have h2 : RAt (w1.setCell ⟨R, N, none⟩ (.bool false)) R { a with asks := upd a.asks N false } b := h1.setA (by omega) (set_asks a hN false)
 have H2 : Hid _ := h2
 have K2 : Hid (Kp (isB R) w (w1.setCell ⟨R, N, none⟩ (.bool false))) := (k1.any (S := isB R)).trans (kpB R _ _ _)
 clear h1 h2 k1 H HR
 go_wp2
 generalize w1.setCell ⟨R, N, none⟩ (.bool false) = w2 at H2 K2 ⊢
 have d1 : w2.cell? ⟨R, 34, none⟩ = some (.bool a.ends) := H2.out.cellA (j := 34) rfl
 have d2 : w2.cell? ⟨R, 8 + N, none⟩ = some (.bool (a.srv N)) := H2.out.cellA (ch_srv { a with asks := upd a.asks N false } hN)
 have y2 := H2.out.fz (8 + N)
 have h3 : Hid (RAt (w2.setCell ⟨R, 8 + N, none⟩ (.bool !a.ends)) R (a.take N) b) := H2.out.setA (j := 8 + N) (by omega) (set_srv { a with asks := upd a.asks N false } hN (!a.ends))
 clear c1 c2 z2
 go_region
 all_goals
  go_wp2
  go_ret
  exact ⟨rfl, h3.out.kept (Kp.refl noB _).drew id, (K2.out.trans (kpB R _ _ _)).drew⟩
theorem take_a2 (w : World) (R : Nat) (a b : RC) (m : M2) (h : RAt w R a b) (ha : Rel a m.a true) (hb : Rel b m.b false) (k : m.Ok) (st : St2 m) (e : m.a.next = 2) : Calls Tryz.prog 134 #[.pointer (some ⟨R, 0, none⟩), .int .i64 0] w fun e w' => e = .returned (.int .i64 (m.b.vec m.b.next)) ∧ (∃ b', RAt w' R (a.take 2) b' ∧ Rel b' (m.b.told m.b.next) false ∧ (b'.wp = b.wp ∧ b'.wl = b.wl ∧ b'.wc = b.wc)) ∧ Kp (isB R) w w' := by
 have H : Hid _ := tellsA w R a b m h ha hb k st
 rw [e] at H
 have HR : Hid (RAt w R a b) := h
 have hB : a.base = m.a.base := ha.base
 obtain ⟨b0, b1⟩ := k.a.base
 rw [← hB] at b0 b1
 have hw : IntKind.i64.wrap (a.base + 2) = a.base + 2 := IntWalk.i64_in _ ⟨by omega, by omega⟩
 have HB : Hid (∀ w, RAt w R a b → _) := fun w h => takeB w R a b m.b h hb k.b
 clear h ha hb k e hB st
 go_enter Tryz.func134, Tryz.ntmps134
 go_wp2_with fail
 refine Calls.mono H.out ?_; rintro e w1 ⟨rfl, k1⟩
 have h1 := HR.out.kept k1 id
 have c1 : w1.cell? ⟨R, 32, none⟩ = some (.int .i64 a.base) := h1.cellA (j := 32) rfl
 go_wp2_with fail
 refine Calls.mono (HB.out w1 h1) ?_; rintro e w2 ⟨rfl, ⟨b', h2, hb', hw'⟩, k2⟩
 have KK : Hid (Kp (isB R) w w2) := (k1.any (S := isB R)).trans k2
 have c2 : w2.cell? ⟨R, 2, none⟩ = some (.bool (a.asks 2)) := h2.cellA (ch_asks a (k := 2) (by decide))
 have z2 := h2.fz 2
 have h3 : RAt (w2.setCell ⟨R, 2, none⟩ (.bool false)) R { a with asks := upd a.asks 2 false } b' := h2.setA (by decide) (set_asks a (k := 2) (by decide) false)
 have H3 : Hid _ := h3
 have K3 : Hid (Kp (isB R) w (w2.setCell ⟨R, 2, none⟩ (.bool false))) := KK.out.trans (kpB R _ _ _)
 have HB' : Hid _ := hb'
 have HW' : Hid _ := hw'
 clear h1 h2 h3 k1 k2 H HR HB c1 KK hb' hw'
 go_wp2
 generalize w2.setCell ⟨R, 2, none⟩ (.bool false) = w3 at H3 K3 ⊢
 have d1 : w3.cell? ⟨R, 34, none⟩ = some (.bool a.ends) := H3.out.cellA (j := 34) rfl
 have d2 : w3.cell? ⟨R, 10, none⟩ = some (.bool (a.srv 2)) := H3.out.cellA (ch_srv { a with asks := upd a.asks 2 false } (k := 2) (by decide))
 have y2 := H3.out.fz 10
 have h4 : Hid (RAt (w3.setCell ⟨R, 10, none⟩ (.bool !a.ends)) R (a.take 2) b') := H3.out.setA (j := 10) (by decide) (set_srv { a with asks := upd a.asks 2 false } (k := 2) (by decide) (!a.ends))
 clear c2 z2
 go_region
 all_goals
  go_wp2
  go_ret
  exact ⟨rfl, ⟨b', h4.out.kept (Kp.refl noB _).drew id, HB'.out, HW'.out⟩, (K3.out.trans (kpB R _ _ _)).drew⟩
structure RM (w : World) (R : Nat) (m : M2) (a b : RC) : Prop where
 at_ : RAt w R a b
 ra : Rel a m.a true
 rb : Rel b m.b false
 ok : m.Ok
 st : St2 m
def sameW (a a' : RC) : Prop := a'.wp = a.wp ∧ a'.wl = a.wl ∧ a'.wc = a.wc
theorem rack_ok (w : World) (R : Nat) (m : M2) (a b : RC) (h : RM w R m a b) : Calls Tryz.prog 85 #[.pointer (some ⟨R, 0, none⟩)] w fun e w' => e = .returned (.int .i64 m.vec) ∧ (∃ a' b', RM w' R m.ack a' b' ∧ sameW a a' ∧ sameW b b') ∧ Kp (isB R) w w' := by
 have HT : Hid (Calls Tryz.prog 134 #[.pointer (some ⟨R, 0, none⟩), .int .i64 0] w fun e w' => e = .returned (.int .i64 m.vec) ∧ (∃ a' b', RM w' R m.ack a' b' ∧ sameW a a' ∧ sameW b b') ∧ Kp (isB R) w w') := by
  have oa := h.ok.acks
  have ok' := h.ok.ack
  have st' : St2 m.ack := by unfold St2 M2.ack; rw [settle_asks oa, if_pos rfl]; rfl
  by_cases e : m.a.next = -1
  ·have hX : m.acks = m := by
    unfold M2.acks
    rw [e, if_neg (by decide)]
    show (⟨m.a.told (-1), m.b⟩ : M2) = m
    rw [show m.a.told (-1) = m.a by unfold Ch.told; rw [if_pos rfl]]
   have hV : m.vec = m.a.vec (-1) := by unfold M2.vec; rw [e, if_neg (by decide)]
   rw [hV]
   refine (take_an w R a b m h.at_ h.ra h.rb h.ok h.st e).mono fun _ w' ⟨p, q, r⟩ => ⟨p, ⟨a, b, ⟨q, ?_, ?_, ok', st'⟩, ⟨rfl, rfl, rfl⟩, rfl, rfl, rfl⟩, r⟩
   ·show Rel a m.acks.settle.a true
    apply Rel.settle _ oa
    rw [hX]; exact h.ra
   ·show Rel b m.acks.b false
    rw [hX]; exact h.rb
  ·by_cases e2 : m.a.next = 2
   ·have hX : m.acks = ⟨m.a.told 2, m.b.told m.b.next⟩ := by unfold M2.acks; rw [if_pos e2]
    have hV : m.vec = m.b.vec m.b.next := by unfold M2.vec; rw [if_pos e2]
    rw [hV]
    refine (take_a2 w R a b m h.at_ h.ra h.rb h.ok h.st e2).mono fun _ w' ⟨p, ⟨b', q, q2, q3⟩, r⟩ => ⟨p, ⟨a.take 2, b', ⟨q, ?_, ?_, ok', st'⟩, ⟨rfl, rfl, rfl⟩, q3⟩, r⟩
    ·show Rel (a.take 2) m.acks.settle.a true
     apply Rel.settle _ oa
     rw [hX]; exact h.ra.take h.ok.a (n := 2) e2
    ·show Rel b' m.acks.b false
     rw [hX]; exact q2
   ·have bd := next_bd h.ok.a
    obtain ⟨N, hN⟩ := Int.eq_ofNat_of_zero_le (show 0 ≤ m.a.next by omega)
    have hN' : m.a.next = (N : Int) := hN
    have hX : m.acks = ⟨m.a.told (N : Int), m.b⟩ := by unfold M2.acks; rw [if_neg e2, hN']
    have hV : m.vec = m.a.vec (N : Int) := by unfold M2.vec; rw [if_neg e2, hN']
    rw [hV]
    refine (take_a w R a b m h.at_ h.ra h.rb h.ok h.st N hN' (by omega)).mono fun _ w' ⟨p, q, r⟩ => ⟨p, ⟨a.take N, b, ⟨q, ?_, ?_, ok', st'⟩, ⟨rfl, rfl, rfl⟩, rfl, rfl, rfl⟩, r⟩
    ·show Rel (a.take N) m.acks.settle.a true
     apply Rel.settle _ oa
     rw [hX]; exact h.ra.take h.ok.a hN'
    ·show Rel b m.acks.b false
     rw [hX]; exact h.rb
 clear h
 go_enter Tryz.func85, Tryz.ntmps85
 go_wp2_with fail
 refine Calls.mono HT.out ?_; rintro e w1 ⟨rfl, h1, k1⟩
 go_wp2
 go_ret
 exact ⟨rfl, h1, k1⟩
end Go.Proofs.YtonfjhbfkichkaaGreat.Pc
namespace Go.Proofs.YtonfjhbfkichkaaGreat.Pc
open Go.RowKit
set_option linter.unusedVariables false
theorem line_keep (c : Ch) (k : Int) (u : Bool) : (c.line k u).srv = c.srv ∧ (c.line k u).msk = c.msk ∧ (c.line k u).base = c.base ∧ (c.line k u).due = c.due ∧ (c.line k u).sh = c.sh ∧ (c.line k u).ends = c.ends := by
 unfold Ch.line
 cases u
 ·exact ⟨rfl, rfl, rfl, rfl, rfl, rfl⟩
 ·rw [if_pos rfl]
  split <;> exact ⟨rfl, rfl, rfl, rfl, rfl, rfl⟩
theorem line_asks {c : Ch} (h : c.Ok) {k : Nat} (hk : k < 8) (u : Bool) (j : Nat) : tb (c.line (k : Int) u).asks j = if j = k then (u && (tb c.asks k || !tb c.up k)) else tb c.asks j := by
 have p := by_pw (n := (k : Int)) (by omega) (by omega)
 unfold Ch.line
 cases u
 ·show tb (bits .andNot .u8 c.asks (pw (k : Int))) j = _
  rw [tb8_andNot h.asks p, tb_pw]
  by_cases e : j = k <;> simp [e]
 ·rw [if_pos rfl, bt_pw h.up hk]
  cases eu : tb c.up k
  ·show tb (bits .or .u8 c.asks (pw (k : Int))) j = _
   rw [tb8_or h.asks p, tb_pw]
   by_cases e : j = k <;> simp [e]
  ·show tb c.asks j = _
   by_cases e : j = k <;> simp [e]
theorem line_up {c : Ch} (h : c.Ok) {k : Nat} (hk : k < 8) (u : Bool) (j : Nat) : tb (c.line (k : Int) u).up j = if j = k then u else tb c.up j := by
 have p := by_pw (n := (k : Int)) (by omega) (by omega)
 unfold Ch.line
 cases u
 ·show tb (bits .andNot .u8 c.up (pw (k : Int))) j = _
  rw [tb8_andNot h.up p, tb_pw]
  by_cases e : j = k <;> simp [e]
 ·rw [if_pos rfl, bt_pw h.up hk]
  cases eu : tb c.up k
  ·show tb (bits .or .u8 c.up (pw (k : Int))) j = _
   rw [tb8_or h.up p, tb_pw]
   by_cases e : j = k <;> simp [e]
  ·show tb c.up j = _
   by_cases e : j = k <;> simp [e, eu]
end Go.Proofs.YtonfjhbfkichkaaGreat.Pc
