/- What comes into the statements on the disk, as it is read: calls. -/
import Derived.Test.YtddalplpmgmplaaRows
import Derived.Test.YtddalplpmgmplaaIdAwake
import Derived.WalkKit
import Derived.ProofKit
import Derived.OpenShut
import Derived.Carry
import Derived.Deep.Slices
import Derived.Below
import Derived.SizedLaws
namespace Go.Proofs.Ytddalplpmgmplaa
open Go.ChangeShapes Go.WideShapes Go.ChangeAt Go.RowKit
set_option linter.unusedVariables false

theorem op_size : Try.prog.cellsOf 34 = 5 := by kernel_rfl
theorem one_int : Try.prog.cellsOf 3 = 1 := by kernel_rfl
theorem one_u32 : Try.prog.cellsOf 32 = 1 := by kernel_rfl

theorem list_five {α : Type} : ∀ (l : List α), l.length = 5 → ∃ a b c d e, l = [a, b, c, d, e]
  | [a, b, c, d, e], _ => ⟨a, b, c, d, e, rfl⟩

theorem op_cells {H : Type} {enc : TypeId × Value → H} {w : World} {base : Nat} {sp : Nat → Bool} {held : Bool} {fuel : Nat} {cs : List Value} {x : DataW H × List MemPlace} (h : DataW.trod enc Try.prog w base sp held fuel 34 cs = some x) :
    ∃ (kd rg sz v tm : Int), cs = [.int .i64 kd, .int .i64 rg, .int .i64 sz, .int .u32 v, .int .i64 tm] ∧ (Lit.int .i64 kd).wf = true ∧ (Lit.int .i64 rg).wf = true ∧ (Lit.int .i64 sz).wf = true ∧ (Lit.int .u32 v).wf = true ∧ (Lit.int .i64 tm).wf = true := by
  cases fuel with
  | zero => simp [DataW.trod] at h
  | succ f =>
    rw [DataW.trod_step] at h
    unfold DataW.trodStep at h
    simp only [Try.underlying34] at h
    split at h
    · rename_i hl
      rw [op_size] at hl
      obtain ⟨c0, c1, c2, c3, c4, rfl⟩ := list_five cs hl
      simp only [Option.map_eq_some_iff] at h
      obtain ⟨xs, hx, e1⟩ := h
      simp only [List.mapM_cons, List.mapM_nil, bind, Option.bind_eq_some_iff, pure, Option.some.injEq, one_int, one_u32, List.drop_zero, List.drop_succ_cons, List.take_succ_cons, List.take_zero] at hx
      obtain ⟨y0, h0, _, ⟨y1, h1, _, ⟨y2, h2, _, ⟨y3, h3, _, ⟨y4, h4, _, rfl, rfl⟩, rfl⟩, rfl⟩, rfl⟩, rfl⟩ := hx
      obtain ⟨kd, ea, rfl, wk⟩ := DataW.trod_int Try.underlying3 h0
      obtain ⟨rg, eb, rfl, wr⟩ := DataW.trod_int Try.underlying3 h1
      obtain ⟨sz, ec, rfl, ws⟩ := DataW.trod_int Try.underlying3 h2
      obtain ⟨v, ed, rfl, wv⟩ := DataW.trod_int Try.underlying32 h3
      obtain ⟨tm, ee, rfl, wt⟩ := DataW.trod_int Try.underlying3 h4
      simp at ea eb ec ed ee
      subst ea; subst eb; subst ec; subst ed; subst ee
      exact ⟨kd, rg, sz, v, tm, rfl, wk, wr, ws, wv, wt⟩
    · cases h

theorem spotless {w : World} {b o : Nat} {sp : Option Nat} {v : Value} (h : w.cell? ⟨b, o, sp⟩ = some v) : sp = none := by
  cases sp with
  | none => rfl
  | some x =>
    unfold World.cell? at h
    split at h <;> simp at h

theorem spot_of2 {w : World} {base blk off K : Nat} {sp : Option Nat} {cs : List Value} (h : w.cells? base ((⟨blk, off, sp⟩ : Addr).add (0 * K)) K = some cs) (hK : 0 < K) : sp = none := by
  obtain ⟨_, hl, hg⟩ := World.cells?_some h
  have h0 := hg 0 hK
  have hl1 : 0 < cs.length := by rw [hl]; exact hK
  rw [List.getElem?_eq_getElem hl1, Nat.zero_mul] at h0
  exact spotless (w := w) (b := blk) (o := off) h0

theorem add_plain (blk off n : Nat) : (⟨blk, off, none⟩ : Addr).add n = ⟨blk, off + n, none⟩ := by
  unfold Addr.add
  split
  · rename_i hz
    rw [hz]
    rfl
  · rfl

/-- One call of a list of calls. -/
def OpIn (w : World) (x : Option Addr) (i : Nat) : Prop :=
  ∃ (blk off : Nat) (kd rg sz v tm : Int), x = some ⟨blk, off, none⟩ ∧ blk < w.heap.size ∧ (w.cell? ⟨blk, off + i * 5, none⟩ = some (.int .i64 kd) ∧ w.cell? ⟨blk, off + i * 5 + 1, none⟩ = some (.int .i64 rg) ∧ w.cell? ⟨blk, off + i * 5 + 2, none⟩ = some (.int .i64 sz) ∧ w.cell? ⟨blk, off + i * 5 + 3, none⟩ = some (.int .u32 v) ∧ w.cell? ⟨blk, off + i * 5 + 4, none⟩ = some (.int .i64 tm)) ∧
    (-9223372036854775808 ≤ kd ∧ kd ≤ 9223372036854775807) ∧ (-9223372036854775808 ≤ rg ∧ rg ≤ 9223372036854775807) ∧ (-9223372036854775808 ≤ sz ∧ sz ≤ 9223372036854775807) ∧ (0 ≤ v ∧ v < 4294967296) ∧ (-9223372036854775808 ≤ tm ∧ tm ≤ 9223372036854775807)

theorem OpIn.kp {w w' : World} {x : Option Addr} {i : Nat} (h : OpIn w x i) (k : Kp noB w w') : OpIn w' x i := by
  obtain ⟨blk, off, kd, rg, sz, v, tm, h1, h2, ⟨c0, c1, c2, c3, c4⟩, h3⟩ := h
  exact ⟨blk, off, kd, rg, sz, v, tm, h1, Nat.lt_of_lt_of_le h2 k.size, ⟨cell_kept c0 k id, cell_kept c1 k id, cell_kept c2 k id, cell_kept c3 k id, cell_kept c4 k id⟩, h3⟩

theorem ops_in {H : Type} {enc : TypeId × Value → H} {w : World} {held : Bool} {fuel : Nat} {a : Option Addr} {len cap : Nat} {x : DataW H × List MemPlace} (h : DataW.trod enc Try.prog w 0 (fun _ => true) held fuel 23 [.slice a len cap] = some x)
    (hz : ∀ elems spare, x.1 = .slice elems spare → (elems.length + spare.length) * Try.prog.bytesOf 34 ≤ reachBytes) :
    len ≤ 3518437208783 ∧ ∀ i, i < len → OpIn w a i := by
  rcases Go.Deep.open_slice Try.underlying23 h with ⟨e, _⟩ | ⟨a', len', cap', m, n, D, Pl, e, hb0, hlc, hm, hmm, ex, hel⟩
  · simp at e
    obtain ⟨rfl, rfl, rfl⟩ := e
    exact ⟨by omega, fun i hi => absurd hi (by omega)⟩
  · simp at e
    obtain ⟨rfl, rfl, rfl⟩ := e
    have hm' : m = cap := by simpa using hmm
    have hb : Try.prog.bytesOf 34 = 40 := by kernel_rfl
    have hr : reachBytes = 140737488351232 := rfl
    have hs := hz _ _ (by rw [ex])
    rw [hb, hr, List.length_map, List.length_range] at hs
    refine ⟨by omega, ?_⟩
    intro i hi
    obtain ⟨cs', hcs, ht⟩ := hel i (by omega)
    obtain ⟨kd, rg, sz, v, tm, rfl, wk, wr, ws, wv, wt⟩ := op_cells ht
    rw [op_size] at hcs
    obtain ⟨blk, off, sp⟩ := a'
    have hsp : sp = none := by
      obtain ⟨cs0, hc0, _⟩ := hel 0 (by omega)
      exact spot_of2 hc0 (by rw [op_size]; decide)
    subst hsp
    rw [add_plain] at hcs
    obtain ⟨_, _, hc⟩ := World.cells?_some hcs
    have c0 : w.cell? ⟨blk, off + i * 5, none⟩ = some (.int .i64 kd) := hc 0 (by omega)
    have c1 : w.cell? ⟨blk, off + i * 5 + 1, none⟩ = some (.int .i64 rg) := hc 1 (by omega)
    have c2 : w.cell? ⟨blk, off + i * 5 + 2, none⟩ = some (.int .i64 sz) := hc 2 (by omega)
    have c3 : w.cell? ⟨blk, off + i * 5 + 3, none⟩ = some (.int .u32 v) := hc 3 (by omega)
    have c4 : w.cell? ⟨blk, off + i * 5 + 4, none⟩ = some (.int .i64 tm) := hc 4 (by omega)
    have bk := bounds_i64 wk
    have br := bounds_i64 wr
    have bs := bounds_i64 ws
    have bv := bounds_u32 wv
    have bt := bounds_i64 wt
    exact ⟨blk, off, kd, rg, sz, v, tm, rfl, cell_below c0, ⟨c0, c1, c2, c3, c4⟩, ⟨bk.1, bk.2⟩, ⟨br.1, br.2⟩, ⟨bs.1, bs.2⟩, ⟨bv.1, by omega⟩, bt.1, bt.2⟩

structure BytIn (w : World) (a : Option Addr) (L : Nat) (bt : Nat → Int) : Prop where
  at' : BytAt w a L bt
  bd : ∀ j, j < L → 0 ≤ bt j ∧ bt j < 256
  le : L ≤ 140737488351232

theorem bytesIn {H : Type} {enc : TypeId × Value → H} {w : World} {fuel : Nat} {a : Option Addr} {len cap : Nat} {d : DataW H} {p : List MemPlace} (h : DataW.trod enc Try.prog w 0 (fun _ => true) true fuel 22 (Value.slice a len cap).cells.toList = some (d, p))
    (hz : ∀ elems spare, d = .slice elems spare → (elems.length + spare.length) * Try.prog.bytesOf 5 ≤ reachBytes) : ∃ bt, BytIn w a len bt := by
  rcases open_ints Try.underlying22 Try.underlying5 (by kernel_rfl) h with ⟨hcs, _⟩ | ⟨y, l, c, zs, hcs, _, hl, hm, hzl, hx, hcell, hwz⟩
  · simp [Value.cells] at hcs
    obtain ⟨rfl, rfl, rfl⟩ := hcs
    exact ⟨fun _ => 0, fun j hj => absurd hj (by simp), fun j hj => absurd hj (by simp), by simp⟩
  · simp [Value.cells] at hcs
    obtain ⟨rfl, rfl, rfl⟩ := hcs
    have hz' : zs.length = cap := by simpa using hzl
    injection hx with hd hp
    have hs := hz _ _ hd
    have hb : Try.prog.bytesOf 5 = 1 := by kernel_rfl
    have hr : reachBytes = 140737488351232 := rfl
    have hlen : len ≤ 140737488351232 := by
      rw [hb] at hs
      have e : (lits (H := H) .u8 (List.take len zs)).length = len := by unfold lits; rw [List.length_map, List.length_take]; omega
      rw [e] at hs
      omega
    refine ⟨fun j => zs.getD j 0, fun j hj => ?_, fun j hj => ?_, hlen⟩
    · obtain ⟨b, off, rfl, hc⟩ := ints_at hcell (by omega)
      have := hc j (by omega)
      exact ⟨b, off, rfl, cell_below this, this⟩
    · have hj' : j < zs.length := by omega
      have e : zs.getD j 0 ∈ zs := by rw [List.getD_eq_getElem?_getD, List.getElem?_eq_getElem hj']; exact List.getElem_mem hj'
      have := bounds_u8 (hwz _ e)
      omega

end Go.Proofs.Ytddalplpmgmplaa
