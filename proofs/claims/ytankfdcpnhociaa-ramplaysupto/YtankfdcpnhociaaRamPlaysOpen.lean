/- A script that came in: each of its calls, as it is read; how long its bytes are at most. -/
import Derived.Test.YtankfdcpnhociaaRamPlaysLaw
import Derived.Test.YtankfdcpnhociaaOpOpen
import Derived.Deep.Slices
namespace Go.Proofs.Ytankfdcpnhociaa
open Go.ChangeShapes Go.WideShapes Go.ChangeAt Go.RowKit
set_option linter.unusedVariables false

theorem bulk_one {H : Type} (d : DataW H) : 1 ≤ Rows.uptoBulk d := by
  cases d with
  | lit l => cases l <;> simp [Rows.uptoBulk]
  | _ => simp [Rows.uptoBulk]

theorem bulk_mem {H : Type} {d : DataW H} : ∀ {l : List (DataW H)}, d ∈ l → Rows.uptoBulk d ≤ Rows.uptoBulkAll l
  | x :: r, h => by
    rcases List.mem_cons.1 h with rfl | h
    · simp only [Rows.uptoBulkAll]; omega
    · have := bulk_mem h
      simp only [Rows.uptoBulkAll]; omega

theorem bulk_len {H : Type} : ∀ (l : List (DataW H)), l.length ≤ Rows.uptoBulkAll l
  | [] => by simp [Rows.uptoBulkAll]
  | x :: r => by
    have h1 := bulk_one x
    have h2 := bulk_len r
    simp only [Rows.uptoBulkAll, List.length_cons]
    omega

theorem bytes_in {H : Type} {enc : TypeId × Value → H} {w : World} {base : Nat} {held : Bool} {fuel : Nat} {sl : Value} {x : DataW H × List MemPlace} (h : DataW.trod enc Try.prog w base (fun _ => true) held fuel 33 [sl] = some x) (hb : Rows.uptoBulk x.1 ≤ 1048576) :
    ∃ (p : Option Addr) (S o L c : Nat) (vs : List Int), sl = .slice p L c ∧ ByIn w (fun q => q < w.heap.size) p S o L c vs := by
  rcases open_ints Try.underlying33 Try.underlying5 (by kernel_rfl) h with ⟨hcs, _⟩ | ⟨y, l, c, zs, hcs, _, hl, hm, hz, _, hcell, hwz⟩
  · simp at hcs
    exact ⟨none, 0, 0, 0, 0, [], hcs, rfl, by omega, fun q => absurd q (by omega), fun j hj => absurd hj (by omega)⟩
  · simp at hcs
    have hz' : zs.length = c := by simpa using hz
    have hlen : (zs.take l).length = l := by rw [List.length_take]; omega
    have hget : ∀ j, j < l → (zs.take l).getD j 0 = zs.getD j 0 := fun j hj => by
      rw [List.getD_eq_getElem?_getD, List.getD_eq_getElem?_getD, List.getElem?_take_of_lt hj]
    have hL : l ≤ 1048576 := by
      rcases Go.Deep.open_slice Try.underlying33 h with ⟨e, _⟩ | ⟨a', len', cap', m', n', D', Pl', e, _, _, _, _, ex, _⟩
      · simp at e
        rw [hcs] at e
        cases e
      · simp at e
        rw [hcs] at e
        injection e with e1 e2 e3
        have hx : x.1 = .slice ((List.range len').map D') ((List.range (m' - len')).map fun j => D' (len' + j)) := by rw [ex]
        rw [hx] at hb
        have := bulk_len ((List.range len').map D')
        simp only [Rows.uptoBulk, List.length_map, List.length_range] at hb this
        omega
    have hbd : ∀ j, j < l → 0 ≤ (zs.take l).getD j 0 ∧ (zs.take l).getD j 0 < 256 := fun j hj => by
      rw [hget j hj]
      have hj' : j < zs.length := by omega
      have e : zs.getD j 0 ∈ zs := by rw [List.getD_eq_getElem?_getD, List.getElem?_eq_getElem hj']; exact List.getElem_mem hj'
      have := bounds_u8 (hwz _ e)
      omega
    by_cases h0 : 0 < zs.length
    · obtain ⟨b, off, rfl, hc⟩ := ints_at hcell h0
      refine ⟨some ⟨b, off, none⟩, b, off, l, c, zs.take l, hcs, hlen, hL, fun q => ⟨rfl, hl, cell_lt (hc 0 h0), cell_lt (hc 0 h0), fun j hj => ?_⟩, hbd⟩
      rw [hget j hj]
      exact hc j (by omega)
    · exact ⟨some y, 0, 0, l, c, zs.take l, hcs, hlen, hL, fun q => absurd q (by omega), hbd⟩

theorem no_spot {w : World} {b o : Nat} {sp : Option Nat} {v : Value} (h : w.cell? ⟨b, o, sp⟩ = some v) : sp = none := by
  cases sp with
  | none => rfl
  | some x =>
    unfold World.cell? at h
    split at h <;> simp at h

theorem spot_of {w : World} {base blk off K : Nat} {sp : Option Nat} {cs : List Value} (h : w.cells? base ((⟨blk, off, sp⟩ : Addr).add (0 * K)) K = some cs) (hK : K = 6) : sp = none := by
  subst hK
  obtain ⟨_, hl, hg⟩ := World.cells?_some h
  have h0 := hg 0 (by decide)
  have hl1 : 0 < cs.length := by rw [hl]; decide
  rw [List.getElem?_eq_getElem hl1] at h0
  exact no_spot (w := w) (b := blk) (o := off) h0

theorem op_cells_of {w : World} {base blk off : Nat} {c0 c1 c2 c3 c4 c5 : Value} (h : w.cells? base ⟨blk, off, none⟩ 6 = some [c0, c1, c2, c3, c4, c5]) :
    w.cell? ⟨blk, off, none⟩ = some c0 ∧ w.cell? ⟨blk, off + 1, none⟩ = some c1 ∧ w.cell? ⟨blk, off + 2, none⟩ = some c2 ∧ w.cell? ⟨blk, off + 3, none⟩ = some c3 ∧ w.cell? ⟨blk, off + 4, none⟩ = some c4 ∧ w.cell? ⟨blk, off + 5, none⟩ = some c5 := by
  obtain ⟨_, _, hc⟩ := World.cells?_some h
  exact ⟨hc 0 (by omega), hc 1 (by omega), hc 2 (by omega), hc 3 (by omega), hc 4 (by omega), hc 5 (by omega)⟩

theorem script_in {H : Type} {enc : TypeId × Value → H} {w : World} {held : Bool} {fuel : Nat} {a : Option Addr} {len cap : Nat} {x : DataW H × List MemPlace} (h : DataW.trod enc Try.prog w 0 (fun _ => true) held fuel 23 [.slice a len cap] = some x) (hb : Rows.uptoBulk x.1 ≤ 1048576) :
    len ≤ 1048576 ∧ ∀ i, i < len → CallAt w a i := by
  rcases Go.Deep.open_slice Try.underlying23 h with ⟨e, _⟩ | ⟨a', len', cap', m, n, D, Pl, e, hb0, hlc, hm, hmm, ex, hel⟩
  · simp at e
    obtain ⟨rfl, rfl, rfl⟩ := e
    exact ⟨by omega, fun i hi => absurd hi (by omega)⟩
  · simp at e
    obtain ⟨rfl, rfl, rfl⟩ := e
    have hx : x.1 = .slice ((List.range len).map D) ((List.range (m - len)).map fun j => D (len + j)) := by rw [ex]
    rw [hx] at hb
    have h1 := bulk_len ((List.range len).map D)
    simp only [Rows.uptoBulk, List.length_map, List.length_range] at hb h1
    have hm' : m = cap := by simpa using hmm
    refine ⟨by omega, fun i hi => ?_⟩
    obtain ⟨cs', hcs, ht⟩ := hel i (by omega)
    obtain ⟨k, a1, s, v, sl, b, n', y, rfl, wk, wa, ws, wv, hy, hD⟩ := op_cells ht
    have hDi : D i = .agg [.lit (.int .i64 k), .lit (.int .u32 a1), .lit (.int .i64 s), .lit (.int .u32 v), y.1, .lit (.bool b)] := (congrArg Prod.fst hD)
    have h2 : Rows.uptoBulk (D i) ≤ Rows.uptoBulkAll ((List.range len).map D) := bulk_mem (List.mem_map.2 ⟨i, List.mem_range.2 hi, rfl⟩)
    have h3 : Rows.uptoBulk y.1 ≤ Rows.uptoBulk (D i) := by
      rw [hDi]
      simp only [Rows.uptoBulk, Rows.uptoBulkAll]
      omega
    obtain ⟨p, S, o, L, c, vs, rfl, hby⟩ := bytes_in hy (by omega)
    rw [op_size] at hcs
    have ba := bounds_u32 wa
    have bs := bounds_i64 ws
    have bv := bounds_u32 wv
    obtain ⟨blk, off, sp⟩ := a'
    have hsp : sp = none := by
      obtain ⟨cs0, hc0, _⟩ := hel 0 (by omega)
      exact spot_of hc0 op_size
    subst hsp
    have hcs' : w.cells? 0 ⟨blk, off + 6 * i, none⟩ 6 = some [.int .i64 k, .int .u32 a1, .int .i64 s, .int .u32 v, .slice p L c, .bool b] := by
      have e : (⟨blk, off, none⟩ : Addr).add (i * 6) = ⟨blk, off + 6 * i, none⟩ := by
        rw [Nat.mul_comm]
        unfold Addr.add
        split
        · rename_i hz
          rw [hz]
          rfl
        · rfl
      rw [← e]
      exact hcs
    have hc := op_cells_of hcs'
    exact ⟨blk, off, k, a1, s, v, p, S, o, L, c, b, vs, rfl, cell_lt hc.1, hc, ⟨ba.1, by omega, bs.1, by omega, bv.1, by omega⟩, hby⟩
end Go.Proofs.Ytankfdcpnhociaa
