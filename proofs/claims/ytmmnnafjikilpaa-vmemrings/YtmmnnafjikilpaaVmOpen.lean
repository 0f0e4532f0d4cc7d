/- What comes into the statements on vmem, as it is read: a processor, a call. -/
import Derived.Test.YtmmnnafjikilpaaVmCpu
import Derived.Test.YtmmnnafjikilpaaPgOpen
import Derived.OpenShut
namespace Go.Proofs.Ytmmnnafjikilpaa
open Go.ChangeShapes Go.WideShapes Go.ChangeAt Go.RowKit
set_option linter.unusedVariables false
set_option maxRecDepth 20000

theorem ok_int {P : Program} {w : World} {r : Reach} {b : Nat} {t : TypeId} {k : IntKind} {v : Value} (ht : P.underlying t = some (.int k)) (h : Cell.okWide P w r b t v) : ∃ n, v = .int k n ∧ k.has n := by
  unfold Cell.okWide Cell.ok at h
  rw [ht] at h
  cases v <;> simp at h
  rename_i k' n
  exact ⟨n, by rw [h.1], h.2⟩
theorem ok_bool {P : Program} {w : World} {r : Reach} {b : Nat} {t : TypeId} {v : Value} (ht : P.underlying t = some .bool) (h : Cell.okWide P w r b t v) : ∃ x, v = .bool x := by
  unfold Cell.okWide Cell.ok at h
  rw [ht] at h
  cases v <;> simp at h
  exact ⟨_, rfl⟩

def sgT : List TypeId := [29, 4, 23, 23, 3, 4, 3, 4, 4]
def cpuT : List TypeId := List.replicate 10 23 ++ (sgT ++ sgT ++ sgT ++ sgT ++ sgT ++ sgT) ++ [23, 23, 23, 23, 29, 23, 29] ++ sgT ++ [4, 4, 4]
theorem cpu_types : Try.prog.cellTypes Try.prog.depth 38 = some cpuT := by kernel_rfl
theorem cpuT_len : cpuT.length = 83 := by kernel_rfl
theorem cpu_size : Try.prog.cellsOf 38 = 83 := by kernel_rfl
theorem cpuT_all : ∀ u ∈ cpuT, u = 23 ∨ u = 29 ∨ u = 3 ∨ u = 4 := by decide

def numC (cs : Array Value) (k : Nat) : Int := match cs[k]? with | some (.int _ n) => n | _ => 0
def booC (cs : Array Value) (k : Nat) : Bool := match cs[k]? with | some (.bool b) => b | _ => false
def segC (cs : Array Value) (o : Nat) : SgR := ⟨numC cs o, booC cs (o + 1), numC cs (o + 2), numC cs (o + 3), numC cs (o + 4), booC cs (o + 5), numC cs (o + 6), booC cs (o + 7), booC cs (o + 8)⟩
def cpC (cs : Array Value) : Cp := ⟨fun i => segC cs (10 + i * 9), numC cs 64, numC cs 66⟩

section
variable {W : World} {b : Nat} {cs : Array Value}
theorem at_int (h : Row.okWide Try.prog W .any b 38 cs) (hs : cs.size = 83) {i : Nat} {k : IntKind} {t : TypeId} (hi : i < 83) (ht : cpuT[i]? = some t) (hk : Try.prog.underlying t = some (.int k)) : cs[i]? = some (.int k (numC cs i)) ∧ k.has (numC cs i) := by
  obtain ⟨ts, e, _, hc⟩ := h
  rw [cpu_types] at e
  obtain rfl := Option.some.inj e
  have hv := Array.getElem?_eq_getElem (xs := cs) (i := i) (by omega)
  obtain ⟨u, hu, ho⟩ := hc i _ hv
  rw [cpuT_len, Nat.mod_eq_of_lt hi, ht] at hu
  obtain rfl := Option.some.inj hu
  obtain ⟨n, en, hn⟩ := ok_int hk ho
  rw [en] at hv
  have : numC cs i = n := by unfold numC; rw [hv]
  rw [this]
  exact ⟨hv, hn⟩
theorem at_bool (h : Row.okWide Try.prog W .any b 38 cs) (hs : cs.size = 83) {i : Nat} (hi : i < 83) (ht : cpuT[i]? = some 4) : cs[i]? = some (.bool (booC cs i)) := by
  obtain ⟨ts, e, _, hc⟩ := h
  rw [cpu_types] at e
  obtain rfl := Option.some.inj e
  have hv := Array.getElem?_eq_getElem (xs := cs) (i := i) (by omega)
  obtain ⟨u, hu, ho⟩ := hc i _ hv
  rw [cpuT_len, Nat.mod_eq_of_lt hi, ht] at hu
  obtain rfl := Option.some.inj hu
  obtain ⟨x, ex⟩ := ok_bool Try.underlying4 ho
  rw [ex] at hv
  have : booC cs i = x := by unfold booC; rw [hv]
  rw [this]
  exact hv
theorem has32 {n : Int} (h : IntKind.u32.has n) : 0 ≤ n ∧ n < 4294967296 := by
  simp [IntKind.has, IntKind.min, IntKind.max, IntKind.signed, IntKind.bits] at h; omega
theorem has16 {n : Int} (h : IntKind.u16.has n) : 0 ≤ n ∧ n < 65536 := by
  simp [IntKind.has, IntKind.min, IntKind.max, IntKind.signed, IntKind.bits] at h; omega
theorem has64 {n : Int} (h : IntKind.i64.has n) : -9223372036854775808 ≤ n ∧ n < 9223372036854775808 := by
  simp [IntKind.has, IntKind.min, IntKind.max, IntKind.signed, IntKind.bits] at h; omega

theorem cpu_in (h : Row.okWide Try.prog W .any b 38 cs) (hs : cs.size = 83) : WfC cs ∧ CpC cs (cpC cs) ∧ (cpC cs).Ok := by
  have hd : ∀ j, j < 6 → cpuT[10 + j * 9]? = some 29 ∧ cpuT[10 + j * 9 + 1]? = some 4 ∧ cpuT[10 + j * 9 + 2]? = some 23 ∧ cpuT[10 + j * 9 + 3]? = some 23 ∧ cpuT[10 + j * 9 + 4]? = some 3 ∧ cpuT[10 + j * 9 + 5]? = some 4 ∧ cpuT[10 + j * 9 + 6]? = some 3 ∧ cpuT[10 + j * 9 + 7]? = some 4 ∧ cpuT[10 + j * 9 + 8]? = some 4 := by decide
  refine ⟨⟨hs, fun v hv => ?_⟩, ⟨fun j hj => ?_, ?_, ?_⟩, ⟨fun j hj => ?_, ?_, ?_, ?_, ?_⟩⟩
  · obtain ⟨ts, e, _, hc⟩ := h
    rw [cpu_types] at e
    obtain rfl := Option.some.inj e
    obtain ⟨i, hi, rfl⟩ := List.getElem_of_mem hv
    obtain ⟨u, hu, ho⟩ := hc i cs.toList[i] (by rw [← Array.getElem?_toList]; exact List.getElem?_eq_getElem hi)
    rcases cpuT_all u (List.mem_of_getElem? hu) with rfl | rfl | rfl | rfl
    · obtain ⟨n, en, _⟩ := ok_int Try.underlying23 ho; rw [en]; rfl
    · obtain ⟨n, en, _⟩ := ok_int Try.underlying29 ho; rw [en]; rfl
    · obtain ⟨n, en, _⟩ := ok_int Try.underlying3 ho; rw [en]; rfl
    · obtain ⟨n, en⟩ := ok_bool Try.underlying4 ho; rw [en]; rfl
  · obtain ⟨t0, t1, t2, t3, t4, t5, t6, t7, t8⟩ := hd j hj
    exact ⟨(at_int h hs (by omega) t0 Try.underlying29).1, at_bool h hs (by omega) t1, (at_int h hs (by omega) t2 Try.underlying23).1, (at_int h hs (by omega) t3 Try.underlying23).1, (at_int h hs (by omega) t4 Try.underlying3).1, at_bool h hs (by omega) t5, (at_int h hs (by omega) t6 Try.underlying3).1, at_bool h hs (by omega) t7, at_bool h hs (by omega) t8⟩
  · exact (at_int h hs (i := 64) (by omega) (t := 23) (by decide) Try.underlying23).1
  · exact (at_int h hs (i := 66) (by omega) (t := 23) (by decide) Try.underlying23).1
  · obtain ⟨t0, t1, t2, t3, t4, t5, t6, t7, t8⟩ := hd j hj
    have q0 := has16 (at_int h hs (by omega) t0 Try.underlying29).2
    have q2 := has32 (at_int h hs (by omega) t2 Try.underlying23).2
    have q3 := has32 (at_int h hs (by omega) t3 Try.underlying23).2
    have q4 := has64 (at_int h hs (by omega) t4 Try.underlying3).2
    exact ⟨q0.1, q0.2, q2.1, q2.2, q3.1, q3.2, q4.1, q4.2⟩
  · exact (has32 (at_int h hs (i := 64) (by omega) (t := 23) (by decide) Try.underlying23).2).1
  · exact (has32 (at_int h hs (i := 64) (by omega) (t := 23) (by decide) Try.underlying23).2).2
  · exact (has32 (at_int h hs (i := 66) (by omega) (t := 23) (by decide) Try.underlying23).2).1
  · exact (has32 (at_int h hs (i := 66) (by omega) (t := 23) (by decide) Try.underlying23).2).2
end

/-! ### a call -/
def opT : List TypeId := [3, 3, 23, 3, 23]
theorem op_types : Try.prog.cellTypes Try.prog.depth 40 = some opT := by kernel_rfl
theorem op16_size : Try.prog.cellsOf 40 = 5 := by kernel_rfl
def op5 (kd sg off z v : Int) : Array Value := #[.int .i64 kd, .int .i64 sg, .int .u32 off, .int .i64 z, .int .u32 v]
structure OpOk (kd sg off z v : Int) : Prop where
  k0 : -9223372036854775808 ≤ kd
  k1 : kd < 9223372036854775808
  s0 : -9223372036854775808 ≤ sg
  s1 : sg < 9223372036854775808
  o0 : 0 ≤ off
  o1 : off < 4294967296
  z0 : -9223372036854775808 ≤ z
  z1 : z < 9223372036854775808
  v0 : 0 ≤ v
  v1 : v < 4294967296
theorem op_in {W : World} {b : Nat} {cs : Array Value} (h : Row.okWide Try.prog W .any b 40 cs) (hs : cs.size = 5) : ∃ kd sg off z v, cs = op5 kd sg off z v ∧ OpOk kd sg off z v := by
  obtain ⟨ts, e, _, hc⟩ := h
  rw [op_types] at e
  obtain rfl := Option.some.inj e
  obtain ⟨c0, c1, c2, c3, c4, hl⟩ := list_five cs.toList (by simpa using hs)
  obtain rfl : cs = #[c0, c1, c2, c3, c4] := Array.ext' hl
  obtain ⟨u0, e0, o0⟩ := hc 0 c0 rfl
  obtain ⟨u1, e1, o1⟩ := hc 1 c1 rfl
  obtain ⟨u2, e2, o2⟩ := hc 2 c2 rfl
  obtain ⟨u3, e3, o3⟩ := hc 3 c3 rfl
  obtain ⟨u4, e4, o4⟩ := hc 4 c4 rfl
  obtain rfl := Option.some.inj e0
  obtain rfl := Option.some.inj e1
  obtain rfl := Option.some.inj e2
  obtain rfl := Option.some.inj e3
  obtain rfl := Option.some.inj e4
  obtain ⟨n0, rfl, q0⟩ := ok_int Try.underlying3 o0
  obtain ⟨n1, rfl, q1⟩ := ok_int Try.underlying3 o1
  obtain ⟨n2, rfl, q2⟩ := ok_int Try.underlying23 o2
  obtain ⟨n3, rfl, q3⟩ := ok_int Try.underlying3 o3
  obtain ⟨n4, rfl, q4⟩ := ok_int Try.underlying23 o4
  exact ⟨n0, n1, n2, n3, n4, rfl, ⟨(has64 q0).1, (has64 q0).2, (has64 q1).1, (has64 q1).2, (has32 q2).1, (has32 q2).2, (has64 q3).1, (has64 q3).2, (has32 q4).1, (has32 q4).2⟩⟩

/-- A call as it lies in a block of its own. -/
def RowO (W : World) (X : Nat) (kd sg off z v : Int) : Prop := W.heap[X]? = some (.cells (op5 kd sg off z v) 40 (0, 0))
theorem RowO.lt {W : World} {X : Nat} {kd sg off z v : Int} (h : RowO W X kd sg off z v) : X < W.heap.size := (Array.getElem?_eq_some_iff.1 h).1
theorem RowO.kp {S : Nat → Prop} {W W' : World} {X : Nat} {kd sg off z v : Int} (h : RowO W X kd sg off z v) (k : Kp S W W') (hS : ¬ S X) : RowO W' X kd sg off z v := (k.block X h.lt hS).trans h
abbrev OpS (X : Nat) (kd sg off z v : Int) (W : World) : Prop := W.cell? ⟨X, 0, none⟩ = some (.int .i64 kd) ∧ W.cell? ⟨X, 1, none⟩ = some (.int .i64 sg) ∧ W.cell? ⟨X, 2, none⟩ = some (.int .u32 off) ∧ W.cell? ⟨X, 3, none⟩ = some (.int .i64 z) ∧ W.cell? ⟨X, 4, none⟩ = some (.int .u32 v)
theorem RowO.all {W : World} {X : Nat} {kd sg off z v : Int} (h : RowO W X kd sg off z v) : OpS X kd sg off z v W := by
  refine ⟨?_, ?_, ?_, ?_, ?_⟩ <;> (rw [cell_at h]; rfl)
end Go.Proofs.Ytmmnnafjikilpaa
