/- What comes into the statements on uart, as it is read: calls. -/
import Derived.Test.YtafnlaamfpjolaaRows
import Derived.Test.YtafnlaamfpjolaaUtW
import Derived.WalkKit
import Derived.ProofKit
import Derived.OpenShut
import Derived.Carry
import Derived.Deep.Slices
import Derived.Below
import Derived.SizedLaws
namespace Go.Proofs.Ytafnlaamfpjolaa
open Go.ChangeShapes Go.WideShapes Go.ChangeAt Go.RowKit
set_option linter.unusedVariables false

theorem op_size : Try.prog.cellsOf 29 = 3 := by kernel_rfl
theorem one_int : Try.prog.cellsOf 3 = 1 := by kernel_rfl
theorem one_u8 : Try.prog.cellsOf 5 = 1 := by kernel_rfl

theorem list_three {α : Type} : ∀ (l : List α), l.length = 3 → ∃ a b c, l = [a, b, c]
  | [a, b, c], _ => ⟨a, b, c, rfl⟩

theorem op_cells {H : Type} {enc : TypeId × Value → H} {w : World} {base : Nat} {sp : Nat → Bool} {held : Bool} {fuel : Nat} {cs : List Value} {x : DataW H × List MemPlace} (h : DataW.trod enc Try.prog w base sp held fuel 29 cs = some x) :
    ∃ (kd n v : Int), cs = [.int .i64 kd, .int .i64 n, .int .u8 v] ∧ (Lit.int .i64 kd).wf = true ∧ (Lit.int .i64 n).wf = true ∧ (Lit.int .u8 v).wf = true := by
  cases fuel with
  | zero => simp [DataW.trod] at h
  | succ f =>
    rw [DataW.trod_step] at h
    unfold DataW.trodStep at h
    simp only [Try.underlying29] at h
    split at h
    · rename_i hl
      rw [op_size] at hl
      obtain ⟨c0, c1, c2, rfl⟩ := list_three cs hl
      simp only [Option.map_eq_some_iff] at h
      obtain ⟨xs, hx, e1⟩ := h
      simp only [List.mapM_cons, List.mapM_nil, bind, Option.bind_eq_some_iff, pure, Option.some.injEq, one_int, one_u8, List.drop_zero, List.drop_succ_cons, List.take_succ_cons, List.take_zero] at hx
      obtain ⟨y0, h0, _, ⟨y1, h1, _, ⟨y2, h2, _, rfl, rfl⟩, rfl⟩, rfl⟩ := hx
      obtain ⟨kd, ea, rfl, wk⟩ := DataW.trod_int Try.underlying3 h0
      obtain ⟨n, eb, rfl, wn⟩ := DataW.trod_int Try.underlying3 h1
      obtain ⟨v, ec, rfl, wv⟩ := DataW.trod_int Try.underlying5 h2
      simp at ea eb ec
      subst ea; subst eb; subst ec
      exact ⟨kd, n, v, rfl, wk, wn, wv⟩
    · cases h

theorem spotless {w : World} {b o : Nat} {sp : Option Nat} {v : Value} (h : w.cell? ⟨b, o, sp⟩ = some v) : sp = none := by
  cases sp with
  | none => rfl
  | some x =>
    unfold World.cell? at h
    split at h <;> simp at h

theorem spot_of2 {w : World} {base blk off K : Nat} {sp : Option Nat} {cs : List Value} (h : w.cells? base ((⟨blk, off, sp⟩ : Addr).add (0 * K)) K = some cs) (hK : 0 < K) : sp = none := by
  obtain ⟨_, hl, hg⟩ := World.cells?_some h
  have h0 := hg 0 hK
  have hl1 : 0 < cs.length := by rw [hl]; exact hK
  rw [List.getElem?_eq_getElem hl1, Nat.zero_mul] at h0
  exact spotless (w := w) (b := blk) (o := off) h0

theorem add_plain (blk off n : Nat) : (⟨blk, off, none⟩ : Addr).add n = ⟨blk, off + n, none⟩ := by
  unfold Addr.add
  split
  · rename_i hz
    rw [hz]
    rfl
  · rfl

theorem cell_below {w : World} {b o : Nat} {v : Value} (h : w.cell? ⟨b, o, none⟩ = some v) : b < w.heap.size := by
  by_cases e : b < w.heap.size
  · exact e
  · have : w.heap[b]? = none := Array.getElem?_eq_none (by omega)
    simp [World.cell?, this] at h

theorem cell_kept {S : Nat → Prop} {w w' : World} {b o : Nat} {v : Value} (h : w.cell? ⟨b, o, none⟩ = some v) (k : Kp S w w') (hS : ¬ S b) : w'.cell? ⟨b, o, none⟩ = some v := by
  have := k.block b (cell_below h) hS
  unfold World.cell? at h ⊢
  simpa only [this] using h

/-- One call of a list of calls. -/
def OpIn (w : World) (x : Option Addr) (i : Nat) : Prop :=
  ∃ (blk off : Nat) (kd n v : Int), x = some ⟨blk, off, none⟩ ∧ blk < w.heap.size ∧ (w.cell? ⟨blk, off + i * 3, none⟩ = some (.int .i64 kd) ∧ w.cell? ⟨blk, off + i * 3 + 1, none⟩ = some (.int .i64 n) ∧ w.cell? ⟨blk, off + i * 3 + 2, none⟩ = some (.int .u8 v)) ∧
    (-9223372036854775808 ≤ kd ∧ kd ≤ 9223372036854775807) ∧ (-9223372036854775808 ≤ n ∧ n ≤ 9223372036854775807) ∧ (0 ≤ v ∧ v < 256)

theorem OpIn.kp {w w' : World} {x : Option Addr} {i : Nat} (h : OpIn w x i) (k : Kp noB w w') : OpIn w' x i := by
  obtain ⟨blk, off, kd, n, v, h1, h2, ⟨c0, c1, c2⟩, h3⟩ := h
  exact ⟨blk, off, kd, n, v, h1, Nat.lt_of_lt_of_le h2 k.size, ⟨cell_kept c0 k id, cell_kept c1 k id, cell_kept c2 k id⟩, h3⟩

theorem ops_in {H : Type} {enc : TypeId × Value → H} {w : World} {held : Bool} {fuel : Nat} {a : Option Addr} {len cap : Nat} {x : DataW H × List MemPlace} (h : DataW.trod enc Try.prog w 0 (fun _ => true) held fuel 23 [.slice a len cap] = some x)
    (hz : ∀ elems spare, x.1 = .slice elems spare → (elems.length + spare.length) * Try.prog.bytesOf 29 ≤ reachBytes) :
    len ≤ 140737488351232 ∧ ∀ i, i < len → OpIn w a i := by
  rcases Go.Deep.open_slice Try.underlying23 h with ⟨e, _⟩ | ⟨a', len', cap', m, n, D, Pl, e, hb0, hlc, hm, hmm, ex, hel⟩
  · simp at e
    obtain ⟨rfl, rfl, rfl⟩ := e
    exact ⟨by omega, fun i hi => absurd hi (by omega)⟩
  · simp at e
    obtain ⟨rfl, rfl, rfl⟩ := e
    have hm' : m = cap := by simpa using hmm
    have hb : Try.prog.bytesOf 29 = 24 := by kernel_rfl
    have hr : reachBytes = 140737488351232 := rfl
    have hs := hz _ _ (by rw [ex])
    rw [hb, hr, List.length_map, List.length_range] at hs
    refine ⟨by omega, ?_⟩
    intro i hi
    obtain ⟨cs', hcs, ht⟩ := hel i (by omega)
    obtain ⟨kd, n, v, rfl, wk, wn, wv⟩ := op_cells ht
    rw [op_size] at hcs
    obtain ⟨blk, off, sp⟩ := a'
    have hsp : sp = none := by
      obtain ⟨cs0, hc0, _⟩ := hel 0 (by omega)
      exact spot_of2 hc0 (by rw [op_size]; decide)
    subst hsp
    rw [add_plain] at hcs
    obtain ⟨_, _, hc⟩ := World.cells?_some hcs
    have c0 : w.cell? ⟨blk, off + i * 3, none⟩ = some (.int .i64 kd) := hc 0 (by omega)
    have c1 : w.cell? ⟨blk, off + i * 3 + 1, none⟩ = some (.int .i64 n) := hc 1 (by omega)
    have c2 : w.cell? ⟨blk, off + i * 3 + 2, none⟩ = some (.int .u8 v) := hc 2 (by omega)
    have bk := bounds_i64 wk
    have bn := bounds_i64 wn
    have bv := bounds_u8 wv
    exact ⟨blk, off, kd, n, v, rfl, cell_below c0, ⟨c0, c1, c2⟩, ⟨bk.1, bk.2⟩, ⟨bn.1, bn.2⟩, bv.1, by omega⟩

/-- Bytes from a place on. -/
def BytAt (w : World) (a : Option Addr) (L : Nat) (bt : Nat → Int) : Prop := ∀ j, j < L → ∃ b o, a = some ⟨b, o, none⟩ ∧ b < w.heap.size ∧ w.cell? ⟨b, o + j, none⟩ = some (.int .u8 (bt j))

structure BytIn (w : World) (a : Option Addr) (L : Nat) (bt : Nat → Int) : Prop where
  at' : BytAt w a L bt
  bd : ∀ j, j < L → 0 ≤ bt j ∧ bt j < 256
  le : L ≤ 140737488351232

theorem bytesIn {H : Type} {enc : TypeId × Value → H} {w : World} {fuel : Nat} {a : Option Addr} {len cap : Nat} {d : DataW H} {p : List MemPlace} (h : DataW.trod enc Try.prog w 0 (fun _ => true) true fuel 35 (Value.slice a len cap).cells.toList = some (d, p))
    (hz : ∀ elems spare, d = .slice elems spare → (elems.length + spare.length) * Try.prog.bytesOf 5 ≤ reachBytes) : ∃ bt, BytIn w a len bt := by
  rcases open_ints Try.underlying35 Try.underlying5 (by kernel_rfl) h with ⟨hcs, _⟩ | ⟨y, l, c, zs, hcs, _, hl, hm, hzl, hx, hcell, hwz⟩
  · simp [Value.cells] at hcs
    obtain ⟨rfl, rfl, rfl⟩ := hcs
    exact ⟨fun _ => 0, fun j hj => absurd hj (by simp), fun j hj => absurd hj (by simp), by simp⟩
  · simp [Value.cells] at hcs
    obtain ⟨rfl, rfl, rfl⟩ := hcs
    have hz' : zs.length = cap := by simpa using hzl
    injection hx with hd hp
    have hs := hz _ _ hd
    have hb : Try.prog.bytesOf 5 = 1 := by kernel_rfl
    have hr : reachBytes = 140737488351232 := rfl
    have hlen : len ≤ 140737488351232 := by
      rw [hb] at hs
      have e : (lits (H := H) .u8 (List.take len zs)).length = len := by unfold lits; rw [List.length_map, List.length_take]; omega
      rw [e] at hs
      omega
    refine ⟨fun j => zs.getD j 0, fun j hj => ?_, fun j hj => ?_, hlen⟩
    · obtain ⟨b, off, rfl, hc⟩ := ints_at hcell (by omega)
      have := hc j (by omega)
      exact ⟨b, off, rfl, cell_below this, this⟩
    · have hj' : j < zs.length := by omega
      have e : zs.getD j 0 ∈ zs := by rw [List.getD_eq_getElem?_getD, List.getElem?_eq_getElem hj']; exact List.getElem_mem hj'
      have := bounds_u8 (hwz _ e)
      omega

end Go.Proofs.Ytafnlaamfpjolaa
