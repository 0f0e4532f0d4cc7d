/- The calls that come into VmemPlays. -/
import Derived.Test.YtmmnnafjikilpaaGreatVj
namespace Go.Proofs.YtmmnnafjikilpaaGreat
open Go.ChangeShapes Go.WideShapes Go.ChangeAt Go.RowKit
set_option linter.unusedVariables false
set_option maxRecDepth 20000

theorem opv_cells {H : Type} {enc : TypeId × Value → H} {w : World} {base : Nat} {sp : Nat → Bool} {held : Bool} {fuel : Nat} {cs : List Value} {x : DataW H × List MemPlace} (h : DataW.trod enc Tryz.prog w base sp held fuel 49 cs = some x) :
    ∃ (kd sg off z v : Int), cs = [.int .i64 kd, .int .i64 sg, .int .u32 off, .int .i64 z, .int .u32 v] ∧ (Lit.int .i64 kd).wf = true ∧ (Lit.int .i64 sg).wf = true ∧ (Lit.int .u32 off).wf = true ∧ (Lit.int .i64 z).wf = true ∧ (Lit.int .u32 v).wf = true := by
  cases fuel with
  | zero => simp [DataW.trod] at h
  | succ n =>
    rw [DataW.trod_step] at h
    unfold DataW.trodStep at h
    simp only [Tryz.underlying49] at h
    split at h
    · rename_i hl
      rw [op16_size] at hl
      obtain ⟨c0, c1, c2, c3, c4, rfl⟩ := list_five cs hl
      simp only [Option.map_eq_some_iff] at h
      obtain ⟨xs, hx, e1⟩ := h
      simp only [List.mapM_cons, List.mapM_nil, bind, Option.bind_eq_some_iff, pure, Option.some.injEq, one_int, one_u32, List.drop_zero, List.drop_succ_cons, List.take_succ_cons, List.take_zero] at hx
      obtain ⟨y0, h0, _, ⟨y1, h1, _, ⟨y2, h2, _, ⟨y3, h3, _, ⟨y4, h4, _, rfl, rfl⟩, rfl⟩, rfl⟩, rfl⟩, rfl⟩ := hx
      obtain ⟨kd, u0, rfl, w0⟩ := DataW.trod_int Tryz.underlying3 h0
      obtain ⟨sg, u1, rfl, w1⟩ := DataW.trod_int Tryz.underlying3 h1
      obtain ⟨off, u2, rfl, w2⟩ := DataW.trod_int Tryz.underlying24 h2
      obtain ⟨z, u3, rfl, w3⟩ := DataW.trod_int Tryz.underlying3 h3
      obtain ⟨v, u4, rfl, w4⟩ := DataW.trod_int Tryz.underlying24 h4
      simp at u0 u1 u2 u3 u4
      subst u0; subst u1; subst u2; subst u3; subst u4
      exact ⟨kd, sg, off, z, v, rfl, w0, w1, w2, w3, w4⟩
    · cases h

/-- One call of a list of calls. -/
def OpvIn (w : World) (x : Option Addr) (i : Nat) : Prop :=
  ∃ (blk off : Nat) (kd sg of z v : Int), x = some ⟨blk, off, none⟩ ∧ blk < w.heap.size ∧ (w.cell? ⟨blk, off + i * 5, none⟩ = some (.int .i64 kd) ∧ w.cell? ⟨blk, off + i * 5 + 1, none⟩ = some (.int .i64 sg) ∧ w.cell? ⟨blk, off + i * 5 + 2, none⟩ = some (.int .u32 of) ∧ w.cell? ⟨blk, off + i * 5 + 3, none⟩ = some (.int .i64 z) ∧ w.cell? ⟨blk, off + i * 5 + 4, none⟩ = some (.int .u32 v)) ∧ OpOk kd sg of z v

theorem ops_in {H : Type} {enc : TypeId × Value → H} {w : World} {held : Bool} {fuel : Nat} {a : Option Addr} {len cap : Nat} {x : DataW H × List MemPlace} (h : DataW.trod enc Tryz.prog w 0 (fun _ => true) held fuel 36 [.slice a len cap] = some x) :
    len ≤ 9223372036854775807 ∧ ∀ i, i < len → OpvIn w a i := by
  rcases Go.Deep.open_slice Tryz.underlying36 h with ⟨e, _⟩ | ⟨a', len', cap', m, n, D, Pl, e, hb0, hlc, hm, hmm, ex, hel⟩
  · simp at e
    obtain ⟨rfl, rfl, rfl⟩ := e
    exact ⟨by omega, fun i hi => absurd hi (by omega)⟩
  · simp at e
    obtain ⟨rfl, rfl, rfl⟩ := e
    have hm' : m = cap := by simpa using hmm
    refine ⟨by unfold maxLen at hm; omega, ?_⟩
    intro i hi
    obtain ⟨cs', hcs, ht⟩ := hel i (by omega)
    obtain ⟨kd, sg, of, z, v, rfl, w0, w1, w2, w3, w4⟩ := opv_cells ht
    rw [op16_size] at hcs
    obtain ⟨blk, off, sp⟩ := a'
    have hsp : sp = none := by
      obtain ⟨cs0, hc0, _⟩ := hel 0 (by omega)
      exact spot_of2 hc0 (by rw [op16_size]; decide)
    subst hsp
    rw [add_plain] at hcs
    obtain ⟨_, _, hc⟩ := World.cells?_some hcs
    have c0 : w.cell? ⟨blk, off + i * 5, none⟩ = some (.int .i64 kd) := hc 0 (by omega)
    have c1 : w.cell? ⟨blk, off + i * 5 + 1, none⟩ = some (.int .i64 sg) := hc 1 (by omega)
    have c2 : w.cell? ⟨blk, off + i * 5 + 2, none⟩ = some (.int .u32 of) := hc 2 (by omega)
    have c3 : w.cell? ⟨blk, off + i * 5 + 3, none⟩ = some (.int .i64 z) := hc 3 (by omega)
    have c4 : w.cell? ⟨blk, off + i * 5 + 4, none⟩ = some (.int .u32 v) := hc 4 (by omega)
    have b0 := bounds_i64 w0
    have b1 := bounds_i64 w1
    have b2 := bounds_u32 w2
    have b3 := bounds_i64 w3
    have b4 := bounds_u32 w4
    exact ⟨blk, off, kd, sg, of, z, v, rfl, cell_below c0, ⟨c0, c1, c2, c3, c4⟩, ⟨b0.1, by omega, b1.1, by omega, b2.1, by omega, b3.1, by omega, b4.1, by omega⟩⟩
end Go.Proofs.YtmmnnafjikilpaaGreat
