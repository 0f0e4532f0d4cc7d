/- The contracts of the pair's calls: Out, In, Line, Ack. -/
import Derived.Test.YtfpgijdfbgfkcaaPcWith
namespace Go.Proofs.Ytfpgijdfbgfkcaa
open Go.ChangeShapes Go.WideShapes Go.ChangeAt Go.RowKit
set_option linter.unusedVariables false

def M2.out (m : M2) (p v : Int) : M2 := (if p = 0 then m.set false (m.a.cmd v) else if p = 1 then m.set false (m.a.dat v) else if p = 2 then m.set true (m.b.cmd v) else m.set true (m.b.dat v)).settle
def M2.inn (m : M2) (p : Int) : Int := if p = 0 then m.a.shown else if p = 1 then m.a.msk else if p = 2 then m.b.shown else m.b.msk
def M2.line (m : M2) (n : Int) (u : Bool) : M2 := (if n = 2 then m else if n < 8 then m.set false (m.a.line n u) else m.set true (m.b.line (n - 8) u)).settle
def M2.ack (m : M2) : M2 := m.acks.settle

theorem M2.Ok.out {m : M2} (k : m.Ok) {p v : Int} (hv : By v) : (m.out p v).Ok := by
  unfold M2.out
  apply M2.Ok.settle
  split
  · exact k.set false (k.a.cmd hv)
  · split
    · exact k.set false (k.a.dat hv)
    · split
      · exact k.set true (k.b.cmd hv)
      · exact k.set true (k.b.dat hv)

theorem M2.Ok.line {m : M2} (k : m.Ok) {n : Int} (n0 : 0 ≤ n) (n1 : n < 16) (u : Bool) : (m.line n u).Ok := by
  unfold M2.line
  apply M2.Ok.settle
  split
  · exact k
  · split
    · exact k.set false (k.a.line n0 (by omega) u)
    · exact k.set true (k.b.line (by omega) (by omega) u)

theorem M2.Ok.ack {m : M2} (k : m.Ok) : m.ack.Ok := k.acks.settle

theorem heap_new (w : World) (o : Obj) : (w.alloc o).heap[w.heap.size]? = some o := (MapKept.heap_alloc w o).1

theorem new_cell (w : World) (v : Value) (t : TypeId) : (w.alloc (.cells #[v] t)).cell? ⟨w.heap.size, 0, none⟩ = some v := by
  simp [go_sem]

theorem new_fz (w : World) (v : Value) (t : TypeId) : (w.alloc (.cells #[v] t)).frozen? ⟨w.heap.size, 0, none⟩ = false := by
  unfold World.frozen?
  rw [heap_new]
  rfl

theorem out_ok (w : World) (B : Nat) (m : M2) (h : PAt w B m) (k : m.Ok) (p v : Int) (p0 : 0 ≤ p) (p1 : p < 4) (hv : By v) : Calls Try.prog 11 #[.pointer (some ⟨B, 0, none⟩), .int .i64 p, .int .u8 v] w fun e w' => e = .returned (.int .i64 0) ∧ PAt w' B (m.out p v) ∧ Kp (isB B) w w' := by
  have h1 : PAt (w.alloc (.cells #[.int .u8 v] 5)) B m := h.alloc _
  have c1 := new_cell w (.int .u8 v) 5
  have k1 : Kp (isB B) w (w.alloc (.cells #[.int .u8 v] 5)) := Kp.alloc _ _ _
  have H : Hid (Calls Try.prog 22 #[.pointer (some ⟨B, 0, none⟩), .int .i64 p, .int .i64 2, .func (.func 23) #[] #[.pointer (some ⟨w.heap.size, 0, none⟩)]] (w.alloc (.cells #[.int .u8 v] 5)) fun e w' => e = .returned (.int .i64 0) ∧ PAt w' B (m.out p v) ∧ Kp (isB B) w w') := by
    have cases4 : p = 0 ∨ p = 1 ∨ p = 2 ∨ p = 3 := by omega
    rcases cases4 with rfl | rfl | rfl | rfl
    · exact (withO_0 _ B _ m h1 k v hv c1).mono fun e w' ⟨a, b, c⟩ => ⟨a, b, k1.trans c⟩
    · exact (withO_1 _ B _ m h1 k v hv c1).mono fun e w' ⟨a, b, c⟩ => ⟨a, b, k1.trans c⟩
    · exact (withO_2 _ B _ m h1 k v hv c1).mono fun e w' ⟨a, b, c⟩ => ⟨a, b, k1.trans c⟩
    · exact (withO_3 _ B _ m h1 k v hv c1).mono fun e w' ⟨a, b, c⟩ => ⟨a, b, k1.trans c⟩
  clear h1 c1 k1
  go_enter Try.func11, Try.ntmps11
  go_wp2_with fail
  refine Calls.mono H.out ?_; rintro e w2 ⟨rfl, h2, k2⟩
  go_wp2
  go_ret
  exact ⟨rfl, h2, k2⟩

theorem out_no (w : World) (x : Option Addr) (p v : Int) (h : x = none ∨ p < 0 ∨ 4 ≤ p) : Calls Try.prog 11 #[.pointer x, .int .i64 p, .int .u8 v] w fun e w' => e = .returned (.int .i64 1) ∧ Kp noB w w' := by
  have H : Hid (Calls Try.prog 22 #[.pointer x, .int .i64 p, .int .i64 2, .func (.func 23) #[] #[.pointer (some ⟨w.heap.size, 0, none⟩)]] (w.alloc (.cells #[.int .u8 v] 5)) fun e w' => e = .returned (.int .i64 1) ∧ Kp noB w w') := by
    cases x with
    | none => exact (withN_Out _ _ 0 p).mono fun e w' ⟨a, b⟩ => ⟨a, b ▸ Kp.alloc _ _ _⟩
    | some x => exact (withR_Out _ x _ 0 p (by rcases h with h | h; cases h; exact h)).mono fun e w' ⟨a, b⟩ => ⟨a, b ▸ Kp.alloc _ _ _⟩
  go_enter Try.func11, Try.ntmps11
  go_wp2_with fail
  refine Calls.mono H.out ?_; rintro e w2 ⟨rfl, k2⟩
  go_wp2
  go_ret
  exact ⟨rfl, k2⟩

theorem in_ok (w : World) (B : Nat) (m : M2) (h : PAt w B m) (k : m.Ok) (p : Int) (p0 : 0 ≤ p) (p1 : p < 4) : Calls Try.prog 13 #[.pointer (some ⟨B, 0, none⟩), .int .i64 p] w fun e w' => e = .returned (.tuple #[.int .u8 (m.inn p), .int .i64 0]) ∧ PAt w' B m.settle ∧ Kp (isB B) w w' := by
  have h1 : PAt (w.alloc (.cells #[.int .u8 0] 5)) B m := h.alloc _
  have c1 := new_cell w (.int .u8 0) 5
  have z1 := new_fz w (.int .u8 0) 5
  have qB : ¬ w.heap.size = B := by have := h.lt; omega
  have k1 : Kp (isB B) w (w.alloc (.cells #[.int .u8 0] 5)) := Kp.alloc _ _ _
  have hk : ∀ w', Kp (isBq B w.heap.size) (w.alloc (.cells #[.int .u8 0] 5)) w' → Kp (isB B) w w' := fun w' g => k1.over g (fun j hj e => by rcases e with e | e; exact e; omega)
  have H : Hid (Calls Try.prog 22 #[.pointer (some ⟨B, 0, none⟩), .int .i64 p, .int .i64 2, .func (.func 28) #[] #[.pointer (some ⟨w.heap.size, 0, none⟩)]] (w.alloc (.cells #[.int .u8 0] 5)) fun e w' => e = .returned (.int .i64 0) ∧ PAt w' B m.settle ∧ w'.cell? ⟨w.heap.size, 0, none⟩ = some (.int .u8 (m.inn p)) ∧ Kp (isB B) w w') := by
    have cases4 : p = 0 ∨ p = 1 ∨ p = 2 ∨ p = 3 := by omega
    rcases cases4 with rfl | rfl | rfl | rfl
    · exact (withI_0 _ B _ m h1 k _ c1 z1 qB).mono fun e w' ⟨a, b, c, d⟩ => ⟨a, b, c, hk _ d⟩
    · exact (withI_1 _ B _ m h1 k _ c1 z1 qB).mono fun e w' ⟨a, b, c, d⟩ => ⟨a, b, c, hk _ d⟩
    · exact (withI_2 _ B _ m h1 k _ c1 z1 qB).mono fun e w' ⟨a, b, c, d⟩ => ⟨a, b, c, hk _ d⟩
    · exact (withI_3 _ B _ m h1 k _ c1 z1 qB).mono fun e w' ⟨a, b, c, d⟩ => ⟨a, b, c, hk _ d⟩
  clear h1 c1 z1 k1 hk
  go_enter Try.func13, Try.ntmps13
  go_wp2_with fail
  refine Calls.mono H.out ?_; rintro e w2 ⟨rfl, h2, c2, k2⟩
  go_wp2
  go_ret2
  exact ⟨rfl, h2, k2⟩

theorem in_no (w : World) (x : Option Addr) (p : Int) (h : x = none ∨ p < 0 ∨ 4 ≤ p) : Calls Try.prog 13 #[.pointer x, .int .i64 p] w fun e w' => e = .returned (.tuple #[.int .u8 0, .int .i64 1]) ∧ Kp noB w w' := by
  have c1 := new_cell w (.int .u8 0) 5
  have H : Hid (Calls Try.prog 22 #[.pointer x, .int .i64 p, .int .i64 2, .func (.func 28) #[] #[.pointer (some ⟨w.heap.size, 0, none⟩)]] (w.alloc (.cells #[.int .u8 0] 5)) fun e w' => e = .returned (.int .i64 1) ∧ w'.cell? ⟨w.heap.size, 0, none⟩ = some (.int .u8 0) ∧ Kp noB w w') := by
    cases x with
    | none => exact (withN_In _ _ 0 p).mono fun e w' ⟨a, b⟩ => ⟨a, b ▸ c1, b ▸ Kp.alloc _ _ _⟩
    | some x => exact (withR_In _ x _ 0 p (by rcases h with h | h; cases h; exact h)).mono fun e w' ⟨a, b⟩ => ⟨a, b ▸ c1, b ▸ Kp.alloc _ _ _⟩
  clear c1
  go_enter Try.func13, Try.ntmps13
  go_wp2_with fail
  refine Calls.mono H.out ?_; rintro e w2 ⟨rfl, c2, k2⟩
  go_wp2
  go_ret2
  exact ⟨rfl, k2⟩

theorem new_first (w : World) (v : Value) (t : TypeId) (o : Obj) : ((w.alloc (.cells #[v] t)).alloc o).cell? ⟨w.heap.size, 0, none⟩ = some v := by
  rw [World.cell?_alloc_lt _ _ _ (by simp)]; exact new_cell w v t

theorem line_ok (w : World) (B : Nat) (m : M2) (h : PAt w B m) (k : m.Ok) (n : Int) (u : Bool) (n0 : 0 ≤ n) (n1 : n < 16) : Calls Try.prog 15 #[.pointer (some ⟨B, 0, none⟩), .int .i64 n, .bool u] w fun e w' => e = .returned (.int .i64 0) ∧ PAt w' B (m.line n u) ∧ Kp (isB B) w w' := by
  have h1 : PAt ((w.alloc (.cells #[.int .i64 n] 3)).alloc (.cells #[.bool u] 4)) B m := (h.alloc _).alloc _
  have c1 := new_first w (.int .i64 n) 3 (.cells #[.bool u] 4)
  have c2 := new_cell (w.alloc (.cells #[.int .i64 n] 3)) (.bool u) 4
  have s1 : (w.alloc (.cells #[.int .i64 n] 3)).heap.size = w.heap.size + 1 := by simp
  rw [s1] at c2
  have k1 : Kp (isB B) w ((w.alloc (.cells #[.int .i64 n] 3)).alloc (.cells #[.bool u] 4)) := (Kp.alloc _ _ _).trans (Kp.alloc _ _ _)
  have H : Hid (Calls Try.prog 22 #[.pointer (some ⟨B, 0, none⟩), .int .i64 n, .int .i64 8, .func (.func 32) #[] #[.pointer (some ⟨w.heap.size, 0, none⟩), .pointer (some ⟨w.heap.size + 1, 0, none⟩)]] ((w.alloc (.cells #[.int .i64 n] 3)).alloc (.cells #[.bool u] 4)) fun e w' => e = .returned (.int .i64 0) ∧ PAt w' B (m.line n u) ∧ Kp (isB B) w w') := by
    unfold M2.line
    by_cases e2 : n = 2
    · subst e2
      exact (withL_2 _ B _ _ m h1 k c1).mono fun e w' ⟨a, b, c⟩ => ⟨a, by rw [if_pos rfl]; exact b, k1.trans c⟩
    · by_cases e8 : n < 8
      · rw [if_neg e2, if_pos e8]
        exact (withL_a _ B _ _ m h1 k n n u n0 e8 rfl (by simp [e2]) c1 c2).mono fun e w' ⟨a, b, c⟩ => ⟨a, b, k1.trans c⟩
      · rw [if_neg e2, if_neg e8]
        exact (withL_b _ B _ _ m h1 k (n - 8) n u (by omega) (by omega) (by omega) (by simp [e2]) c1 c2).mono fun e w' ⟨a, b, c⟩ => ⟨a, b, k1.trans c⟩
  have c0 := c1
  clear h1 c1 c2 k1 s1
  go_enter Try.func15, Try.ntmps15
  go_wp2_with fail
  refine Calls.mono H.out ?_; rintro e w2 ⟨rfl, h2, k2⟩
  go_wp2
  go_ret
  exact ⟨rfl, h2, k2⟩

theorem line_no (w : World) (x : Option Addr) (n : Int) (u : Bool) (h : x = none ∨ n < 0 ∨ 16 ≤ n) : Calls Try.prog 15 #[.pointer x, .int .i64 n, .bool u] w fun e w' => e = .returned (.int .i64 1) ∧ Kp noB w w' := by
  have c1 := new_first w (.int .i64 n) 3 (.cells #[.bool u] 4)
  have k1 : Kp noB w ((w.alloc (.cells #[.int .i64 n] 3)).alloc (.cells #[.bool u] 4)) := (Kp.alloc _ _ _).trans (Kp.alloc _ _ _)
  have H : Hid (Calls Try.prog 22 #[.pointer x, .int .i64 n, .int .i64 8, .func (.func 32) #[] #[.pointer (some ⟨w.heap.size, 0, none⟩), .pointer (some ⟨w.heap.size + 1, 0, none⟩)]] ((w.alloc (.cells #[.int .i64 n] 3)).alloc (.cells #[.bool u] 4)) fun e w' => e = .returned (.int .i64 1) ∧ Kp noB w w') := by
    cases x with
    | none => exact (withN_Line _ _ _ n).mono fun e w' ⟨a, b⟩ => ⟨a, b ▸ k1⟩
    | some x => exact (withR_Line _ x _ _ n (by rcases h with h | h; cases h; exact h)).mono fun e w' ⟨a, b⟩ => ⟨a, b ▸ k1⟩
  clear k1
  go_enter Try.func15, Try.ntmps15
  go_wp2_with fail
  refine Calls.mono H.out ?_; rintro e w2 ⟨rfl, k2⟩
  go_wp2
  go_ret
  exact ⟨rfl, k2⟩

theorem ack_ok (w : World) (B : Nat) (m : M2) (h : PAt w B m) (k : m.Ok) : Calls Try.prog 17 #[.pointer (some ⟨B, 0, none⟩)] w fun e w' => e = .returned (.int .i64 m.vec) ∧ PAt w' B m.ack ∧ Kp (isB B) w w' := by
  have lB := h.lt
  have h1 : PAt ((w.alloc (.cells #[.pointer (some ⟨B, 0, none⟩)] 24)).alloc (.cells #[.int .i64 0] 3)) B m := (h.alloc _).alloc _
  have c1 := new_first w (.pointer (some ⟨B, 0, none⟩)) 24 (.cells #[.int .i64 0] 3)
  have c2 := new_cell (w.alloc (.cells #[.pointer (some ⟨B, 0, none⟩)] 24)) (.int .i64 0) 3
  have z2 := new_fz (w.alloc (.cells #[.pointer (some ⟨B, 0, none⟩)] 24)) (.int .i64 0) 3
  have s1 : (w.alloc (.cells #[.pointer (some ⟨B, 0, none⟩)] 24)).heap.size = w.heap.size + 1 := by simp
  have s2 : ((w.alloc (.cells #[.pointer (some ⟨B, 0, none⟩)] 24)).alloc (.cells #[.int .i64 0] 3)).heap.size = w.heap.size + 2 := by simp
  rw [s1] at c2 z2
  have k1 : Kp (isB B) w ((w.alloc (.cells #[.pointer (some ⟨B, 0, none⟩)] 24)).alloc (.cells #[.int .i64 0] 3)) := (Kp.alloc _ _ _).trans (Kp.alloc _ _ _)
  have H : Hid (Calls Try.prog 22 #[.pointer (some ⟨B, 0, none⟩), .int .i64 0, .int .i64 8, .func (.func 34) #[] #[.pointer (some ⟨w.heap.size + 1, 0, none⟩), .pointer (some ⟨w.heap.size, 0, none⟩)]] ((w.alloc (.cells #[.pointer (some ⟨B, 0, none⟩)] 24)).alloc (.cells #[.int .i64 0] 3)) fun e w' => e = .returned (.int .i64 0) ∧ PAt w' B m.ack ∧ w'.cell? ⟨w.heap.size + 1, 0, none⟩ = some (.int .i64 m.vec) ∧ Kp (isB B) w w') :=
    (withA _ B _ _ m h1 k _ c2 z2 c1 (by omega) (by omega) (by omega) (by omega)).mono fun e w' ⟨a, b, c, d⟩ => ⟨a, b, c, k1.over d (fun j hj e => by rcases e with e | e; exact e; omega)⟩
  have c0 := c1
  clear h1 c1 c2 z2 k1 s1 s2
  go_enter Try.func17, Try.ntmps17
  go_wp2_with fail
  refine Calls.mono H.out ?_; rintro e w2 ⟨rfl, h2, c2, k2⟩
  go_wp2
  go_ret
  exact ⟨rfl, h2, k2⟩

theorem ack_nil (w : World) : Calls Try.prog 17 #[.pointer none] w fun e w' => e = .returned (.int .i64 0) ∧ Kp noB w w' := by
  have c1 := new_first w (.pointer none) 24 (.cells #[.int .i64 0] 3)
  have c2 := new_cell (w.alloc (.cells #[.pointer none] 24)) (.int .i64 0) 3
  have s1 : (w.alloc (.cells #[.pointer none] 24)).heap.size = w.heap.size + 1 := by simp
  rw [s1] at c2
  have k1 : Kp noB w ((w.alloc (.cells #[.pointer none] 24)).alloc (.cells #[.int .i64 0] 3)) := (Kp.alloc _ _ _).trans (Kp.alloc _ _ _)
  have H : Hid (Calls Try.prog 22 #[.pointer none, .int .i64 0, .int .i64 8, .func (.func 34) #[] #[.pointer (some ⟨w.heap.size + 1, 0, none⟩), .pointer (some ⟨w.heap.size, 0, none⟩)]] ((w.alloc (.cells #[.pointer none] 24)).alloc (.cells #[.int .i64 0] 3)) fun e w' => e = .returned (.int .i64 1) ∧ w'.cell? ⟨w.heap.size + 1, 0, none⟩ = some (.int .i64 0) ∧ Kp noB w w') :=
    (withN_Ack _ _ _ 0).mono fun e w' ⟨a, b⟩ => ⟨a, b ▸ c2, b ▸ k1⟩
  have c0 := c1
  clear c1 c2 k1 s1
  go_enter Try.func17, Try.ntmps17
  go_wp2_with fail
  refine Calls.mono H.out ?_; rintro e w2 ⟨rfl, c2, k2⟩
  go_wp2
  go_ret
  exact ⟨rfl, k2⟩
end Go.Proofs.Ytfpgijdfbgfkcaa
