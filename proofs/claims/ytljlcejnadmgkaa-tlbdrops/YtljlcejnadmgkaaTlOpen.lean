/- What comes into the statements on tlb, as it is read: calls. -/
import Derived.Test.YtljlcejnadmgkaaPgOpen
import Derived.Test.YtljlcejnadmgkaaPgRef
namespace Go.Proofs.Ytljlcejnadmgkaa
open Go.ChangeShapes Go.WideShapes Go.ChangeAt Go.RowKit
set_option linter.unusedVariables false

theorem op_size : Try.prog.cellsOf 43 = 8 := by kernel_rfl

theorem list_eight {α : Type} : ∀ (l : List α), l.length = 8 → ∃ a b c d e f g h, l = [a, b, c, d, e, f, g, h]
  | [a, b, c, d, e, f, g, h], _ => ⟨a, b, c, d, e, f, g, h, rfl⟩

theorem op_cells {H : Type} {enc : TypeId × Value → H} {w : World} {base : Nat} {sp : Nat → Bool} {held : Bool} {fuel : Nat} {cs : List Value} {x : DataW H × List MemPlace} (h : DataW.trod enc Try.prog w base sp held fuel 43 cs = some x) :
    ∃ (kd c l : Int) (wr us wp : Bool) (a v : Int), cs = [.int .i64 kd, .int .u32 c, .int .u32 l, .bool wr, .bool us, .bool wp, .int .u32 a, .int .u32 v] ∧ (Lit.int .i64 kd).wf = true ∧ ((Lit.int .u32 c).wf = true ∧ (Lit.int .u32 l).wf = true) ∧ ((Lit.int .u32 a).wf = true ∧ (Lit.int .u32 v).wf = true) := by
  cases fuel with
  | zero => simp [DataW.trod] at h
  | succ n =>
    rw [DataW.trod_step] at h
    unfold DataW.trodStep at h
    simp only [Try.underlying43] at h
    split at h
    · rename_i hl
      rw [op_size] at hl
      obtain ⟨c0, c1, c2, c3, c4, c5, c6, c7, rfl⟩ := list_eight cs hl
      simp only [Option.map_eq_some_iff] at h
      obtain ⟨xs, hx, e1⟩ := h
      simp only [List.mapM_cons, List.mapM_nil, bind, Option.bind_eq_some_iff, pure, Option.some.injEq, one_int, ask_size, word_size, List.drop_zero, List.drop_succ_cons, List.take_succ_cons, List.take_zero] at hx
      obtain ⟨y0, h0, _, ⟨y1, h1, _, ⟨y2, h2, _, rfl, rfl⟩, rfl⟩, rfl⟩ := hx
      obtain ⟨kd, ea, rfl, wk⟩ := DataW.trod_int Try.underlying3 h0
      obtain ⟨c, l, wr, us, wp, eb, wc, wl⟩ := ask_cells h1
      obtain ⟨a, v, ec, wa, wv⟩ := word_cells h2
      simp at ea eb ec
      obtain ⟨rfl, rfl, rfl, rfl, rfl⟩ := eb
      obtain ⟨rfl, rfl⟩ := ec
      subst ea
      exact ⟨kd, c, l, wr, us, wp, a, v, rfl, wk, ⟨wc, wl⟩, wa, wv⟩
    · cases h

/-- One call of a list of calls. -/
def OpIn (w : World) (x : Option Addr) (i : Nat) : Prop :=
  ∃ (blk off : Nat) (kd c l : Int) (wr us wp : Bool) (a v : Int), x = some ⟨blk, off, none⟩ ∧ blk < w.heap.size ∧ (w.cell? ⟨blk, off + i * 8, none⟩ = some (.int .i64 kd) ∧ w.cell? ⟨blk, off + i * 8 + 1, none⟩ = some (.int .u32 c) ∧ w.cell? ⟨blk, off + i * 8 + 2, none⟩ = some (.int .u32 l) ∧ w.cell? ⟨blk, off + i * 8 + 3, none⟩ = some (.bool wr) ∧ w.cell? ⟨blk, off + i * 8 + 4, none⟩ = some (.bool us) ∧ w.cell? ⟨blk, off + i * 8 + 5, none⟩ = some (.bool wp) ∧ w.cell? ⟨blk, off + i * 8 + 6, none⟩ = some (.int .u32 a) ∧ w.cell? ⟨blk, off + i * 8 + 7, none⟩ = some (.int .u32 v)) ∧
    (-9223372036854775808 ≤ kd ∧ kd ≤ 9223372036854775807) ∧ (0 ≤ c ∧ c < 4294967296 ∧ 0 ≤ l ∧ l < 4294967296) ∧ (0 ≤ a ∧ a < 4294967296 ∧ 0 ≤ v ∧ v < 4294967296)

theorem OpIn.kp {w w' : World} {x : Option Addr} {i : Nat} (h : OpIn w x i) (k : Kp noB w w') : OpIn w' x i := by
  obtain ⟨blk, off, kd, c, l, wr, us, wp, a, v, h1, h2, ⟨c0, c1, c2, c3, c4, c5, c6, c7⟩, h3⟩ := h
  exact ⟨blk, off, kd, c, l, wr, us, wp, a, v, h1, Nat.lt_of_lt_of_le h2 k.size, ⟨cell_kp c0 k (fun f => f), cell_kp c1 k (fun f => f), cell_kp c2 k (fun f => f), cell_kp c3 k (fun f => f), cell_kp c4 k (fun f => f), cell_kp c5 k (fun f => f), cell_kp c6 k (fun f => f), cell_kp c7 k (fun f => f)⟩, h3⟩

theorem ops_in {H : Type} {enc : TypeId × Value → H} {w : World} {held : Bool} {fuel : Nat} {a : Option Addr} {len cap : Nat} {x : DataW H × List MemPlace} (h : DataW.trod enc Try.prog w 0 (fun _ => true) held fuel 25 [.slice a len cap] = some x) :
    len ≤ 9223372036854775807 ∧ ∀ i, i < len → OpIn w a i := by
  rcases Go.Deep.open_slice Try.underlying25 h with ⟨e, _⟩ | ⟨a', len', cap', m, n, D, Pl, e, hb0, hlc, hm, hmm, ex, hel⟩
  · simp at e
    obtain ⟨rfl, rfl, rfl⟩ := e
    exact ⟨by omega, fun i hi => absurd hi (by omega)⟩
  · simp at e
    obtain ⟨rfl, rfl, rfl⟩ := e
    have hm' : m = cap := by simpa using hmm
    refine ⟨by unfold maxLen at hm; omega, ?_⟩
    intro i hi
    obtain ⟨cs', hcs, ht⟩ := hel i (by omega)
    obtain ⟨kd, c, l, wr, us, wp, y, v, rfl, wk, ⟨wc, wl⟩, wy, wv⟩ := op_cells ht
    rw [op_size] at hcs
    obtain ⟨blk, off, sp⟩ := a'
    have hsp : sp = none := by
      obtain ⟨cs0, hc0, _⟩ := hel 0 (by omega)
      exact spot_of2 hc0 (by rw [op_size]; decide)
    subst hsp
    rw [add_plain] at hcs
    obtain ⟨_, _, hc⟩ := World.cells?_some hcs
    have c0 : w.cell? ⟨blk, off + i * 8, none⟩ = some (.int .i64 kd) := hc 0 (by omega)
    have c1 : w.cell? ⟨blk, off + i * 8 + 1, none⟩ = some (.int .u32 c) := hc 1 (by omega)
    have c2 : w.cell? ⟨blk, off + i * 8 + 2, none⟩ = some (.int .u32 l) := hc 2 (by omega)
    have c3 : w.cell? ⟨blk, off + i * 8 + 3, none⟩ = some (.bool wr) := hc 3 (by omega)
    have c4 : w.cell? ⟨blk, off + i * 8 + 4, none⟩ = some (.bool us) := hc 4 (by omega)
    have c5 : w.cell? ⟨blk, off + i * 8 + 5, none⟩ = some (.bool wp) := hc 5 (by omega)
    have c6 : w.cell? ⟨blk, off + i * 8 + 6, none⟩ = some (.int .u32 y) := hc 6 (by omega)
    have c7 : w.cell? ⟨blk, off + i * 8 + 7, none⟩ = some (.int .u32 v) := hc 7 (by omega)
    have bk := bounds_i64 wk
    have bc := bounds_u32 wc
    have bl := bounds_u32 wl
    have by' := bounds_u32 wy
    have bv := bounds_u32 wv
    exact ⟨blk, off, kd, c, l, wr, us, wp, y, v, rfl, cell_below c0, ⟨c0, c1, c2, c3, c4, c5, c6, c7⟩, ⟨bk.1, bk.2⟩, ⟨bc.1, by omega, bl.1, by omega⟩, by'.1, by omega, bv.1, by omega⟩
/-- A call in a block of its own. -/
def RowO (W : World) (X : Nat) (kd c l : Int) (wr us wp : Bool) (a v : Int) : Prop := W.heap[X]? = some (.cells #[.int .i64 kd, .int .u32 c, .int .u32 l, .bool wr, .bool us, .bool wp, .int .u32 a, .int .u32 v] 43 (0, 0))
theorem RowO.lt {W : World} {X : Nat} {kd c l : Int} {wr us wp : Bool} {a v : Int} (h : RowO W X kd c l wr us wp a v) : X < W.heap.size := (Array.getElem?_eq_some_iff.1 h).1
theorem RowO.kp {S : Nat → Prop} {W W' : World} {X : Nat} {kd c l : Int} {wr us wp : Bool} {a v : Int} (h : RowO W X kd c l wr us wp a v) (k : Kp S W W') (hS : ¬ S X) : RowO W' X kd c l wr us wp a v := (k.block X h.lt hS).trans h
theorem RowO.all {W : World} {X : Nat} {kd c l : Int} {wr us wp : Bool} {a v : Int} (h : RowO W X kd c l wr us wp a v) : W.cell? ⟨X, 0, none⟩ = some (.int .i64 kd) ∧ W.cell? ⟨X, 1, none⟩ = some (.int .u32 c) ∧ W.cell? ⟨X, 2, none⟩ = some (.int .u32 l) ∧ W.cell? ⟨X, 3, none⟩ = some (.bool wr) ∧ W.cell? ⟨X, 4, none⟩ = some (.bool us) ∧ W.cell? ⟨X, 5, none⟩ = some (.bool wp) ∧ W.cell? ⟨X, 6, none⟩ = some (.int .u32 a) ∧ W.cell? ⟨X, 7, none⟩ = some (.int .u32 v) := by
  unfold RowO at h
  refine ⟨?_, ?_, ?_, ?_, ?_, ?_, ?_, ?_⟩ <;> (rw [cell_at h]; rfl)

/-- One number of a list of addresses. -/
def DropIn (w : World) (x : Option Addr) (g : Nat → Int) (i : Nat) : Prop :=
  ∃ (blk off : Nat), x = some ⟨blk, off, none⟩ ∧ blk < w.heap.size ∧ w.cell? ⟨blk, off + i, none⟩ = some (.int .u32 (g i)) ∧ (0 ≤ g i ∧ g i < 4294967296)
theorem DropIn.kp {w w' : World} {x : Option Addr} {g : Nat → Int} {i : Nat} (q : DropIn w x g i) (k : Kp noB w w') : DropIn w' x g i := by
  obtain ⟨blk, off, h1, h2, h3, h4⟩ := q
  exact ⟨blk, off, h1, Nat.lt_of_lt_of_le h2 k.size, cell_kp h3 k (fun f => f), h4⟩
theorem drops_in {H : Type} {enc : TypeId × Value → H} {w : World} {held : Bool} {fuel : Nat} {sl : Value} {x : DataW H × List MemPlace} (h : DataW.trod enc Try.prog w 0 (fun _ => true) held fuel 60 [sl] = some x) :
    ∃ (p : Option Addr) (l c : Nat) (g : Nat → Int), sl = .slice p l c ∧ l ≤ 9223372036854775807 ∧ ∀ i, i < l → DropIn w p g i := by
  rcases open_ints Try.underlying60 Try.underlying35 (by kernel_rfl) h with ⟨hcs, _⟩ | ⟨y, l, c, zs, hcs, _, hl, hm, hz, _, hcell, hwz⟩
  · simp at hcs
    exact ⟨none, 0, 0, fun _ => 0, hcs, by omega, fun i hi => absurd hi (by omega)⟩
  · simp at hcs
    have hz' : zs.length = c := by simpa using hz
    refine ⟨some y, l, c, fun i => zs.getD i 0, hcs, by unfold maxLen at hm; omega, fun i hi => ?_⟩
    have h0 : 0 < zs.length := by omega
    obtain ⟨b, off, hy, hc⟩ := ints_at hcell h0
    have hj' : i < zs.length := by omega
    have e : zs.getD i 0 ∈ zs := by rw [List.getD_eq_getElem?_getD, List.getElem?_eq_getElem hj']; exact List.getElem_mem hj'
    have bd := bounds_u32 (hwz _ e)
    have b2 : zs.getD i 0 < 4294967296 := by omega
    exact ⟨b, off, by rw [hy], cell_below (hc i hj'), hc i hj', bd.1, b2⟩

def opV (kd c l : Int) (wr us wp : Bool) (a v : Int) : Value := .agg #[.int .i64 kd, .int .u32 c, .int .u32 l, .bool wr, .bool us, .bool wp, .int .u32 a, .int .u32 v]
end Go.Proofs.Ytljlcejnadmgkaa
