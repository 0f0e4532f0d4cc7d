/- The choice of a pivot in the library's sort at uint32: it writes nothing but a counter of its own. -/
import Derived.Test.YtankfdcpnhociaaRamHeap
namespace Go.Proofs.Ytankfdcpnhociaa
open Go.ChangeShapes Go.WideShapes Go.ChangeAt Go.RowKit Go.Maps Go.Shelf
open Go.Sort (swp ltInt PermIn SortedIn)
set_option linter.unusedVariables false

/-- A counter in a block of its own. -/
def Cnt (w : World) (sb : Nat) (v : Nat) : Prop := w.heap[sb]? = some (.cells #[.int .i64 v] 3 (0, 0))

theorem Cnt.cell {w : World} {sb v : Nat} (h : Cnt w sb v) : w.cell? ⟨sb, 0, none⟩ = some (.int .i64 v) := by rw [cell_at h]; rfl
theorem Cnt.frozen {w : World} {sb v : Nat} (h : Cnt w sb v) : w.frozen? ⟨sb, 0, none⟩ = false := frozen_at h
theorem Cnt.set {w : World} {sb v : Nat} (h : Cnt w sb v) (u : Nat) : Cnt (w.setCell ⟨sb, 0, none⟩ (.int .i64 u)) sb u := by
  unfold Cnt; rw [heap_setCell_at h]; simp

theorem Rw.other {w w' : World} {blk sb : Nat} {d : Array Int} (h : Rw w blk d) (k : Kp (oneB sb) w w') (hne : blk ≠ sb) : Rw w' blk d := h.heap (k.block blk h.lt hne)

/-- Two places, each from lo on and below hi. -/
def O2 (w : World) (blk sb lo hi v : Nat) (d : Array Int) (e : Ending) (w' : World) : Prop :=
  ∃ x y u : Nat, e = .returned (.tuple #[.int .i64 x, .int .i64 y]) ∧ lo ≤ x ∧ x < hi ∧ lo ≤ y ∧ y < hi ∧ u ≤ v + 1 ∧ Cnt w' sb u ∧ Rw w' blk d ∧ Kp (oneB sb) w w'
def O1 (w : World) (blk sb lo hi v : Nat) (d : Array Int) (e : Ending) (w' : World) : Prop :=
  ∃ x u : Nat, e = .returned (.int .i64 x) ∧ lo ≤ x ∧ x < hi ∧ u ≤ v + 3 ∧ Cnt w' sb u ∧ Rw w' blk d ∧ Kp (oneB sb) w w'

set_option maxRecDepth 100000 in
theorem order2_any (w : World) (blk cap sb lo hi v x y : Nat) (d : Array Int) (h : Rw w blk d) (hc : Cnt w sb v) (hv : v ≤ 1000) (hne : blk ≠ sb) (x0 : lo ≤ x) (x1 : x < hi) (y0 : lo ≤ y) (y1 : y < hi) (hh : hi ≤ d.size) (hs : d.size ≤ 16384) :
    Calls Try.prog 67 #[.slice (some ⟨blk, 0, none⟩) d.size cap, .int .i64 x, .int .i64 y, .pointer (some ⟨sb, 0, none⟩)] w (O2 w blk sb lo hi v d) := by
  obtain ⟨G, hG⟩ : ∃ G : Nat → Int, ∀ t, G t = d[t]! := ⟨fun t => d[t]!, fun _ => rfl⟩
  have c1 : w.cell? ⟨blk, x, none⟩ = some (.int .u32 (G x)) := by rw [hG]; exact h.cell (by omega)
  have c2 : w.cell? ⟨blk, y, none⟩ = some (.int .u32 (G y)) := by rw [hG]; exact h.cell (by omega)
  have c3 := hc.cell
  have f3 := hc.frozen
  have b1 : (x : Int) < (d.size : Int) := by omega
  have b2 : (y : Int) < (d.size : Int) := by omega
  clear hG
  go_enter Try.func67, Try.ntmps67
  go_wp2
  go_quiet (first | (go_at_call 56; refine Calls.quiet_of_same (less_any _ _ _)))
  go_wp2
  · have hc2 : Cnt ((w.drewN nq).setCell ⟨sb, 0, none⟩ (.int .i64 (v + 1 : Nat))) sb (v + 1) := Cnt.set (w := w.drewN nq) hc _
    have hk2 : Kp (oneB sb) w ((w.drewN nq).setCell ⟨sb, 0, none⟩ (.int .i64 (v + 1 : Nat))) := kp_set ((Kp.refl _ w).drewN _) _
    exact bodyPost_ret (v := .tuple #[.int .i64 y, .int .i64 x]) (by simp [results, Try.results67, go_sem]) rfl ⟨y, x, v + 1, rfl, y0, y1, x0, x1, by omega, hc2, h.other hk2 hne, hk2⟩
  · exact bodyPost_ret (v := .tuple #[.int .i64 x, .int .i64 y]) (by simp [results, Try.results67, go_sem]) rfl ⟨x, y, v, rfl, x0, x1, y0, y1, by omega, hc, h.drewN _, (Kp.refl _ w).drewN _⟩

set_option maxRecDepth 100000 in
theorem median_any (w : World) (blk cap sb lo hi v x y z : Nat) (d : Array Int) (h : Rw w blk d) (hc : Cnt w sb v) (hv : v ≤ 900) (hne : blk ≠ sb) (x0 : lo ≤ x) (x1 : x < hi) (y0 : lo ≤ y) (y1 : y < hi) (z0 : lo ≤ z) (z1 : z < hi) (hh : hi ≤ d.size) (hs : d.size ≤ 16384) :
    Calls Try.prog 65 #[.slice (some ⟨blk, 0, none⟩) d.size cap, .int .i64 x, .int .i64 y, .int .i64 z, .pointer (some ⟨sb, 0, none⟩)] w (O1 w blk sb lo hi v d) := by
  go_enter Try.func65, Try.ntmps65
  go_wp2_with fail
  refine (order2_any w blk cap sb lo hi v x y d h hc (by omega) hne x0 x1 y0 y1 hh hs).mono ?_
  rintro e w1 ⟨p, q, u, rfl, p0, p1, q0, q1, u1, hc1, h1, k1⟩
  go_wp2_with fail
  refine (order2_any w1 blk cap sb lo hi u q z d h1 hc1 (by omega) hne q0 q1 z0 z1 hh hs).mono ?_
  rintro e w2 ⟨r, s, t, rfl, r0, r1, s0, s1, t1, hc2, h2, k2⟩
  go_wp2_with fail
  refine (order2_any w2 blk cap sb lo hi t p r d h2 hc2 (by omega) hne p0 p1 r0 r1 hh hs).mono ?_
  rintro e w3 ⟨m, n, o, rfl, m0, m1, n0, n1, o1, hc3, h3, k3⟩
  go_wp2
  go_ret
  exact ⟨n, o, rfl, n0, n1, by omega, hc3, h3, (k1.trans k2).trans k3⟩

theorem medianAdj_any (w : World) (blk cap sb lo hi v x : Nat) (d : Array Int) (h : Rw w blk d) (hc : Cnt w sb v) (hv : v ≤ 900) (hne : blk ≠ sb) (x0 : lo + 1 ≤ x) (x1 : x + 1 < hi) (hh : hi ≤ d.size) (hs : d.size ≤ 16384) :
    Calls Try.prog 64 #[.slice (some ⟨blk, 0, none⟩) d.size cap, .int .i64 x, .pointer (some ⟨sb, 0, none⟩)] w (O1 w blk sb lo hi v d) := by
  have cM := median_any w blk cap sb lo hi v (x - 1) x (x + 1) d h hc hv hne (by omega) (by omega) (by omega) (by omega) (by omega) (by omega) hh hs
  have e1 : (x : Int) - 1 = ((x - 1 : Nat) : Int) := by omega
  have e2 : (x : Int) + 1 = ((x + 1 : Nat) : Int) := by omega
  go_enter Try.func64, Try.ntmps64
  rw [← e1, ← e2] at cM
  clear e1 e2
  go_wp2_with fail
  refine cM.mono ?_
  rintro e w1 ⟨m, o, rfl, m0, m1, o1, hc1, h1, k1⟩
  go_wp2
  go_ret
  exact ⟨m, o, rfl, m0, m1, o1, hc1, h1, k1⟩
end Go.Proofs.Ytankfdcpnhociaa
