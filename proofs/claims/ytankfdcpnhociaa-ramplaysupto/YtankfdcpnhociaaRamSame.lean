/- Slices of numbers by their places; the document's comparison of two lists that are the same. -/
import Derived.Test.YtankfdcpnhociaaRamWrit2
namespace Go.Proofs.Ytankfdcpnhociaa
open Go.ChangeShapes Go.WideShapes Go.ChangeAt Go.RowKit Go.Maps Go.Shelf
set_option linter.unusedVariables false

/-- The numbers of ts stand from p on, in a block of T. -/
def SlP (T : Nat → Prop) (w : World) (p : Option Addr) (ts : List Int) : Prop :=
  ∀ j, j < ts.length → ∃ b o, p = some ⟨b, o, none⟩ ∧ T b ∧ w.cell? ⟨b, o + j, none⟩ = some (.int .u32 (ts.getD j 0))

theorem cell_lt {w : World} {b o : Nat} {v : Value} (h : w.cell? ⟨b, o, none⟩ = some v) : b < w.heap.size := by
  by_cases e : b < w.heap.size
  · exact e
  · have : w.heap[b]? = none := Array.getElem?_eq_none (by omega)
    simp [World.cell?, this] at h

theorem cell_kept {S : Nat → Prop} {w w' : World} {b o : Nat} {v : Value} (h : w.cell? ⟨b, o, none⟩ = some v) (k : Kp S w w') (hS : ¬ S b) : w'.cell? ⟨b, o, none⟩ = some v := by
  rw [World.cell?_of_block (w := w) (k.block b (cell_lt h) hS)]; exact h

theorem SlP.kp {T S : Nat → Prop} {w w' : World} {p : Option Addr} {ts : List Int} (h : SlP T w p ts) (k : Kp S w w') (hS : ∀ b, T b → ¬ S b) : SlP T w' p ts := fun j hj => by
  obtain ⟨b, o, e, t, c⟩ := h j hj
  exact ⟨b, o, e, t, cell_kept c k (hS b t)⟩

theorem Row.slP {w : World} {base : Nat} {v : Value} {ts : List Int} (h : Row w base v ts) : ∃ p c, v = .slice p ts.length c ∧ SlP (fun b => base ≤ b) w p ts := by
  rcases h with ⟨rfl, rfl⟩ | ⟨h1, blk, cap, h2, h3, h4, h5⟩
  · exact ⟨none, 0, rfl, fun j hj => absurd hj (by simp)⟩
  · refine ⟨_, cap, h2, fun j hj => ⟨blk, 0, rfl, h3, ?_⟩⟩
    have := h5.cell (j := j) (by simpa using hj)
    rw [Nat.zero_add, this]
    simp [hj]

theorem owns_slP {w : World} {base : Nat} {v : Value} {ss : List Int} (h : w.ownsRow base 32 1 v ss.length (ss.map (Value.int .u32))) : ∃ p c, v = .slice p ss.length c ∧ SlP (fun b => base ≤ b) w p ss := by
  rcases h.2 with ⟨h1, h2⟩ | ⟨g, cap, cur, h1, hbase, hg, r1, r2, r3, r4⟩
  · rw [h2]
    exact ⟨none, 0, h1, fun j hj => absurd hj (by omega)⟩
  · refine ⟨_, cap, h1, fun j hj => ⟨g, 0, rfl, hbase, ?_⟩⟩
    rw [Nat.zero_add, cell_at hg, ← Array.getElem?_toList]
    have e : (cur.toList.take (ss.length * 1))[j]? = (ss.map (Value.int .u32))[j]? := by rw [r4]
    rw [List.getElem?_take_of_lt (by omega)] at e
    rw [e, List.getElem?_map, List.getElem?_eq_getElem hj]
    simp [hj]

set_option maxRecDepth 100000 in
theorem same_eq (w : World) (T U : Nat → Prop) (p q : Option Addr) (c c' : Nat) (ts : List Int) (h1 : SlP T w p ts) (h2 : SlP U w q ts) (hl : ts.length ≤ 4611686018427387904) :
    Calls Try.prog 13 #[.slice p ts.length c, .slice q ts.length c'] w fun e w' => e = .returned (.bool true) ∧ Kp noB w w' := by
  obtain ⟨L, hL⟩ : ∃ L, L = ts.length := ⟨_, rfl⟩
  rw [← hL] at hl ⊢
  have HL : Hid (L = ts.length) := hL
  clear hL
  go_enter Try.func13, Try.ntmps13
  go_wp2
  go_loopw [5] (fun vi wr => ∃ i : Nat, vi = .int .i64 i ∧ i ≤ L ∧ Kp noB w wr) (fun vi _ => (L - intOf vi).toNat)
  case atStart => exact ⟨0, rfl, Nat.zero_le _, Kp.refl _ _⟩
  case round =>
    obtain ⟨i, rfl, hi, kk⟩ := hrel
    by_cases hlt : (i : Int) < (L : Int)
    · have hi' : i < ts.length := by have := HL.out; omega
      obtain ⟨b1, o1, rfl, _, e1⟩ := h1.kp kk (fun _ _ f => f) i hi'
      obtain ⟨b2, o2, rfl, _, e2⟩ := h2.kp kk (fun _ _ f => f) i hi'
      obtain ⟨v, hv⟩ : ∃ v, v = ts.getD i 0 := ⟨_, rfl⟩
      rw [← hv] at e1 e2
      clear hv
      go_wp2
      go_region
      all_goals go_wp2
      go_roundw
      case rel => exact ⟨i + 1, by go_num, by omega, kk.drewN 1⟩
      case measure => simp [intOf]; omega
    · go_wp2
      go_ret
      exact ⟨rfl, kk⟩
end Go.Proofs.Ytankfdcpnhociaa
