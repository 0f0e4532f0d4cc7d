/- The bus and its devices: BsOpen, BsDuo. -/
import Derived.Test.YtonfjhbfkichkaaGreatRows
import Derived.Test.YtonfjhbfkichkaaGreatBz42
import Derived.Test.YtonfjhbfkichkaaGreatBz21
import Derived.WalkKit
import Derived.ProofKit
import Derived.OpenShut
import Derived.Carry
import Derived.Deep.Slices
import Derived.Below
import Derived.SizedLaws
import Derived.Test.YtonfjhbfkichkaaGreatBz04
import Derived.Test.YtonfjhbfkichkaaGreatBz09
import Derived.Test.YtonfjhbfkichkaaGreatBz39
import Derived.Test.YtonfjhbfkichkaaGreatBz41
namespace Go.Proofs.YtonfjhbfkichkaaGreat.Bs
open Go.ChangeShapes Go.WideShapes Go.ChangeAt Go.RowKit
open Go.Proofs.YtonfjhbfkichkaaGreat.Ut (Kp heap_lt heap_kept heap_set heap_new noB isB kpB)
set_option linter.unusedVariables false
set_option maxRecDepth 20000
theorem op_size : Tryz.prog.cellsOf 44 = 4 := by kernel_rfl
theorem one_int : Tryz.prog.cellsOf 3 = 1 := by kernel_rfl
theorem one_u32 : Tryz.prog.cellsOf 42 = 1 := by kernel_rfl
theorem one_u16 : Tryz.prog.cellsOf 41 = 1 := by kernel_rfl
theorem list_four {α : Type} : ∀ (l : List α), l.length = 4 → ∃ a b c d, l = [a, b, c, d]
 | [a, b, c, d], _ => ⟨a, b, c, d, rfl⟩
theorem op_cells {H : Type} {enc : TypeId × Value → H} {w : World} {base : Nat} {sp : Nat → Bool} {held : Bool} {fuel : Nat} {cs : List Value} {x : DataW H × List MemPlace} (h : DataW.trod enc Tryz.prog w base sp held fuel 44 cs = some x) :
  ∃ (kd pt sz v : Int), cs = [.int .i64 kd, .int .u16 pt, .int .i64 sz, .int .u32 v] ∧ (Lit.int .i64 kd).wf = true ∧ (Lit.int .u16 pt).wf = true ∧ (Lit.int .i64 sz).wf = true ∧ (Lit.int .u32 v).wf = true := by
 cases fuel with
 | zero => simp [DataW.trod] at h
 | succ f =>
  rw [DataW.trod_step] at h
  unfold DataW.trodStep at h
  simp only [Tryz.underlying44] at h
  split at h
  ·rename_i hl
   rw [op_size] at hl
   obtain ⟨c0, c1, c2, c3, rfl⟩ := list_four cs hl
   simp only [Option.map_eq_some_iff] at h
   obtain ⟨xs, hx, e1⟩ := h
   simp only [List.mapM_cons, List.mapM_nil, bind, Option.bind_eq_some_iff, pure, Option.some.injEq, one_int, one_u32, one_u16, List.drop_zero, List.drop_succ_cons, List.take_succ_cons, List.take_zero] at hx
   obtain ⟨y0, h0, _, ⟨y1, h1, _, ⟨y2, h2, _, ⟨y3, h3, _, rfl, rfl⟩, rfl⟩, rfl⟩, rfl⟩ := hx
   obtain ⟨kd, ea, rfl, wk⟩ := DataW.trod_int Tryz.underlying3 h0
   obtain ⟨pt, eb, rfl, wp⟩ := DataW.trod_int Tryz.underlying41 h1
   obtain ⟨sz, ec, rfl, ws⟩ := DataW.trod_int Tryz.underlying3 h2
   obtain ⟨v, ed, rfl, wv⟩ := DataW.trod_int Tryz.underlying42 h3
   simp at ea eb ec ed
   subst ea; subst eb; subst ec; subst ed
   exact ⟨kd, pt, sz, v, rfl, wk, wp, ws, wv⟩
  ·cases h
def OpIn (w : World) (x : Option Addr) (i : Nat) : Prop :=
 ∃ (blk off : Nat) (kd pt sz v : Int), x = some ⟨blk, off, none⟩ ∧ blk < w.heap.size ∧ (w.cell? ⟨blk, off + i * 4, none⟩ = some (.int .i64 kd) ∧ w.cell? ⟨blk, off + i * 4 + 1, none⟩ = some (.int .u16 pt) ∧ w.cell? ⟨blk, off + i * 4 + 2, none⟩ = some (.int .i64 sz) ∧ w.cell? ⟨blk, off + i * 4 + 3, none⟩ = some (.int .u32 v)) ∧
  (-9223372036854775808 ≤ kd ∧ kd ≤ 9223372036854775807) ∧ (0 ≤ pt ∧ pt < 65536) ∧ (-9223372036854775808 ≤ sz ∧ sz ≤ 9223372036854775807) ∧ (0 ≤ v ∧ v < 4294967296)
theorem cell_keep {w w' : World} {b k : Nat} {v : Value} (h : w.cell? ⟨b, k, none⟩ = some v) (q : Kp noB w w') : w'.cell? ⟨b, k, none⟩ = some v := Dk.cell_kept h (dkK q) id
theorem OpIn.kp {w w' : World} {x : Option Addr} {i : Nat} (h : OpIn w x i) (k : Kp noB w w') : OpIn w' x i := by
 obtain ⟨blk, off, kd, pt, sz, v, h1, h2, ⟨c0, c1, c2, c3⟩, h3⟩ := h
 exact ⟨blk, off, kd, pt, sz, v, h1, Nat.lt_of_lt_of_le h2 k.size, ⟨cell_keep c0 k, cell_keep c1 k, cell_keep c2 k, cell_keep c3 k⟩, h3⟩
theorem ops_in {H : Type} {enc : TypeId × Value → H} {w : World} {held : Bool} {fuel : Nat} {a : Option Addr} {len cap : Nat} {x : DataW H × List MemPlace} (h : DataW.trod enc Tryz.prog w 0 (fun _ => true) held fuel 23 [.slice a len cap] = some x)
  (hz : ∀ elems spare, x.1 = .slice elems spare → (elems.length + spare.length) * Tryz.prog.bytesOf 44 ≤ reachBytes) :
  len ≤ 4398046510976 ∧ ∀ i, i < len → OpIn w a i := by
 rcases Go.Deep.open_slice Tryz.underlying23 h with ⟨e, _⟩ | ⟨a', len', cap', m, n, D, Pl, e, hb0, hlc, hm, hmm, ex, hel⟩
 ·simp at e
  obtain ⟨rfl, rfl, rfl⟩ := e
  exact ⟨by omega, fun i hi => absurd hi (by omega)⟩
 ·simp at e
  obtain ⟨rfl, rfl, rfl⟩ := e
  have hm' : m = cap := by simpa using hmm
  have hb : Tryz.prog.bytesOf 44 = 32 := by kernel_rfl
  have hr : reachBytes = 140737488351232 := rfl
  have hs := hz _ _ (by rw [ex])
  rw [hb, hr, List.length_map, List.length_range] at hs
  refine ⟨by omega, ?_⟩
  intro i hi
  obtain ⟨cs', hcs, ht⟩ := hel i (by omega)
  obtain ⟨kd, pt, sz, v, rfl, wk, wp, ws, wv⟩ := op_cells ht
  rw [op_size] at hcs
  obtain ⟨blk, off, sp⟩ := a'
  have hsp : sp = none := by
   obtain ⟨cs0, hc0, _⟩ := hel 0 (by omega)
   exact Dk.spot_of2 hc0 (by rw [op_size]; decide)
  subst hsp
  rw [Dk.add_plain] at hcs
  obtain ⟨_, _, hc⟩ := World.cells?_some hcs
  have c0 : w.cell? ⟨blk, off + i * 4, none⟩ = some (.int .i64 kd) := hc 0 (by omega)
  have c1 : w.cell? ⟨blk, off + i * 4 + 1, none⟩ = some (.int .u16 pt) := hc 1 (by omega)
  have c2 : w.cell? ⟨blk, off + i * 4 + 2, none⟩ = some (.int .i64 sz) := hc 2 (by omega)
  have c3 : w.cell? ⟨blk, off + i * 4 + 3, none⟩ = some (.int .u32 v) := hc 3 (by omega)
  have bk := bounds_i64 wk
  have bp := bounds_u16 wp
  have bs := bounds_i64 ws
  have bv := bounds_u32 wv
  exact ⟨blk, off, kd, pt, sz, v, rfl, Dk.cell_below c0, ⟨c0, c1, c2, c3⟩, ⟨bk.1, bk.2⟩, ⟨bp.1, by omega⟩, ⟨bs.1, bs.2⟩, ⟨bv.1, by omega⟩⟩
theorem kpE {w w' : World} (h : Kp noB w w') : Below w.heap.size w w' := h.below (Nat.le_refl _) (fun k f => f.elim)
theorem upd_id {Rs : Nat → Res} {i : Nat} {r : Res} (h : Rs i = r) : updR Rs i r = Rs := by
 funext j
 unfold updR
 by_cases e : j = i
 ·rw [if_pos e, e, h]
 ·rw [if_neg e]
section
variable {W w : World} {R : Nat → Res} {Lb Lc : Loc} {x y : Bm}
end
def opO (kd pt sz v : Int) : Obj := .cells #[.int .i64 kd, .int .u16 pt, .int .i64 sz, .int .u32 v] 44 (0, 0)
theorem opO_cells {w : World} {X : Nat} {kd pt sz v : Int} (h : w.heap[X]? = some (opO kd pt sz v)) : w.cell? ⟨X, 0, none⟩ = some (.int .i64 kd) ∧ w.cell? ⟨X, 1, none⟩ = some (.int .u16 pt) ∧ w.cell? ⟨X, 2, none⟩ = some (.int .i64 sz) ∧ w.cell? ⟨X, 3, none⟩ = some (.int .u32 v) := ⟨cell_of h rfl, cell_of h rfl, cell_of h rfl, cell_of h rfl⟩
end Go.Proofs.YtonfjhbfkichkaaGreat.Bs
