/- What comes into the statements on page, as it is read: words, asks, numbers of pages. -/
import Derived.Test.YtmmnnafjikilpaaRows
import Derived.Test.YtmmnnafjikilpaaPgLaw0
import Derived.WalkKit
import Derived.ProofKit
import Derived.OpenShut
import Derived.Carry
import Derived.Deep.Slices
namespace Go.Proofs.Ytmmnnafjikilpaa
open Go.ChangeShapes Go.WideShapes Go.ChangeAt Go.RowKit
set_option linter.unusedVariables false

theorem word_size : Try.prog.cellsOf 77 = 2 := by kernel_rfl
theorem way_size : Try.prog.cellsOf 117 = 3 := by kernel_rfl
theorem one_int : Try.prog.cellsOf 3 = 1 := by kernel_rfl
theorem one_u32 : Try.prog.cellsOf 23 = 1 := by kernel_rfl
theorem one_bool : Try.prog.cellsOf 4 = 1 := by kernel_rfl

theorem list_two {α : Type} : ∀ (l : List α), l.length = 2 → ∃ a b, l = [a, b]
  | [a, b], _ => ⟨a, b, rfl⟩
theorem list_three {α : Type} : ∀ (l : List α), l.length = 3 → ∃ a b c, l = [a, b, c]
  | [a, b, c], _ => ⟨a, b, c, rfl⟩
theorem list_five {α : Type} : ∀ (l : List α), l.length = 5 → ∃ a b c d e, l = [a, b, c, d, e]
  | [a, b, c, d, e], _ => ⟨a, b, c, d, e, rfl⟩

theorem word_cells {H : Type} {enc : TypeId × Value → H} {w : World} {base : Nat} {sp : Nat → Bool} {held : Bool} {fuel : Nat} {cs : List Value} {x : DataW H × List MemPlace} (h : DataW.trod enc Try.prog w base sp held fuel 77 cs = some x) :
    ∃ (a v : Int), cs = [.int .u32 a, .int .u32 v] ∧ (Lit.int .u32 a).wf = true ∧ (Lit.int .u32 v).wf = true := by
  cases fuel with
  | zero => simp [DataW.trod] at h
  | succ n =>
    rw [DataW.trod_step] at h
    unfold DataW.trodStep at h
    simp only [Try.underlying77] at h
    split at h
    · rename_i hl
      rw [word_size] at hl
      obtain ⟨c0, c1, rfl⟩ := list_two cs hl
      simp only [Option.map_eq_some_iff] at h
      obtain ⟨xs, hx, e1⟩ := h
      simp only [List.mapM_cons, List.mapM_nil, bind, Option.bind_eq_some_iff, pure, Option.some.injEq, one_u32, List.drop_zero, List.drop_succ_cons, List.take_succ_cons, List.take_zero] at hx
      obtain ⟨y0, h0, _, ⟨y1, h1, _, rfl, rfl⟩, rfl⟩ := hx
      obtain ⟨a, ea, rfl, wa⟩ := DataW.trod_int Try.underlying23 h0
      obtain ⟨v, eb, rfl, wv⟩ := DataW.trod_int Try.underlying23 h1
      simp at ea eb
      subst ea; subst eb
      exact ⟨a, v, rfl, wa, wv⟩
    · cases h

theorem way_cells {H : Type} {enc : TypeId × Value → H} {w : World} {base : Nat} {sp : Nat → Bool} {held : Bool} {fuel : Nat} {cs : List Value} {x : DataW H × List MemPlace} (h : DataW.trod enc Try.prog w base sp held fuel 117 cs = some x) :
    ∃ (a b c : Bool), cs = [.bool a, .bool b, .bool c] := by
  cases fuel with
  | zero => simp [DataW.trod] at h
  | succ n =>
    rw [DataW.trod_step] at h
    unfold DataW.trodStep at h
    simp only [Try.underlying117] at h
    split at h
    · rename_i hl
      rw [way_size] at hl
      obtain ⟨c0, c1, c2, rfl⟩ := list_three cs hl
      simp only [Option.map_eq_some_iff] at h
      obtain ⟨xs, hx, e1⟩ := h
      simp only [List.mapM_cons, List.mapM_nil, bind, Option.bind_eq_some_iff, pure, Option.some.injEq, one_bool, List.drop_zero, List.drop_succ_cons, List.take_succ_cons, List.take_zero] at hx
      obtain ⟨y0, h0, _, ⟨y1, h1, _, ⟨y2, h2, _, rfl, rfl⟩, rfl⟩, rfl⟩ := hx
      obtain ⟨a, ea, rfl⟩ := DataW.trod_bool Try.underlying4 h0
      obtain ⟨b, eb, rfl⟩ := DataW.trod_bool Try.underlying4 h1
      obtain ⟨c, ec, rfl⟩ := DataW.trod_bool Try.underlying4 h2
      simp at ea eb ec
      subst ea; subst eb; subst ec
      exact ⟨a, b, c, rfl⟩
    · cases h

theorem spotless {w : World} {b o : Nat} {sp : Option Nat} {v : Value} (h : w.cell? ⟨b, o, sp⟩ = some v) : sp = none := by
  cases sp with
  | none => rfl
  | some x =>
    unfold World.cell? at h
    split at h <;> simp at h

theorem spot_of2 {w : World} {base blk off K : Nat} {sp : Option Nat} {cs : List Value} (h : w.cells? base ((⟨blk, off, sp⟩ : Addr).add (0 * K)) K = some cs) (hK : 0 < K) : sp = none := by
  obtain ⟨_, hl, hg⟩ := World.cells?_some h
  have h0 := hg 0 hK
  have hl1 : 0 < cs.length := by rw [hl]; exact hK
  rw [List.getElem?_eq_getElem hl1, Nat.zero_mul] at h0
  exact spotless (w := w) (b := blk) (o := off) h0

theorem add_plain (blk off n : Nat) : (⟨blk, off, none⟩ : Addr).add n = ⟨blk, off + n, none⟩ := by
  unfold Addr.add
  split
  · rename_i hz
    rw [hz]
    rfl
  · rfl

theorem cell_below {w : World} {b o : Nat} {v : Value} (h : w.cell? ⟨b, o, none⟩ = some v) : b < w.heap.size := by
  rcases Nat.lt_or_ge b w.heap.size with g | g
  · exact g
  · simp [World.cell?, Array.getElem?_eq_none g] at h

/-- One word of a list of words. -/
def OneWord (w : World) (x : Option Addr) (i : Nat) (a v : Int) : Prop :=
  ∃ (blk off : Nat), x = some ⟨blk, off, none⟩ ∧ blk < w.heap.size ∧ w.cell? ⟨blk, off + i * 2, none⟩ = some (.int .u32 a) ∧ w.cell? ⟨blk, off + i * 2 + 1, none⟩ = some (.int .u32 v) ∧ (0 ≤ a ∧ a < 4294967296 ∧ 0 ≤ v ∧ v < 4294967296)

theorem words_in0 {H : Type} {enc : TypeId × Value → H} {w : World} {held : Bool} {fuel : Nat} {a : Option Addr} {len cap : Nat} {x : DataW H × List MemPlace} (h : DataW.trod enc Try.prog w 0 (fun _ => true) held fuel 27 [.slice a len cap] = some x) :
    len ≤ 9223372036854775807 ∧ ∀ i, i < len → ∃ y v, OneWord w a i y v := by
  rcases Go.Deep.open_slice Try.underlying27 h with ⟨e, _⟩ | ⟨a', len', cap', m, n, D, Pl, e, hb0, hlc, hm, hmm, ex, hel⟩
  · simp at e
    obtain ⟨rfl, rfl, rfl⟩ := e
    exact ⟨by omega, fun i hi => absurd hi (by omega)⟩
  · simp at e
    obtain ⟨rfl, rfl, rfl⟩ := e
    have hm' : m = cap := by simpa using hmm
    refine ⟨by unfold maxLen at hm; omega, ?_⟩
    intro i hi
    obtain ⟨cs', hcs, ht⟩ := hel i (by omega)
    obtain ⟨y, v, rfl, wy, wv⟩ := word_cells ht
    rw [word_size] at hcs
    obtain ⟨blk, off, sp⟩ := a'
    have hsp : sp = none := by
      obtain ⟨cs0, hc0, _⟩ := hel 0 (by omega)
      exact spot_of2 hc0 (by rw [word_size]; decide)
    subst hsp
    rw [add_plain] at hcs
    obtain ⟨_, _, hc⟩ := World.cells?_some hcs
    have c0 : w.cell? ⟨blk, off + i * 2, none⟩ = some (.int .u32 y) := hc 0 (by omega)
    have c1 : w.cell? ⟨blk, off + i * 2 + 1, none⟩ = some (.int .u32 v) := hc 1 (by omega)
    have by' := bounds_u32 wy
    have bv := bounds_u32 wv
    exact ⟨y, v, blk, off, rfl, cell_below c0, c0, c1, by'.1, by omega, bv.1, by omega⟩

theorem words_in {H : Type} {enc : TypeId × Value → H} {w : World} {held : Bool} {fuel : Nat} {a : Option Addr} {len cap : Nat} {x : DataW H × List MemPlace} (h : DataW.trod enc Try.prog w 0 (fun _ => true) held fuel 27 [.slice a len cap] = some x) :
    len ≤ 9223372036854775807 ∧ ∃ f g : Nat → Int, ∀ i, i < len → WordIn w a f g i := by
  obtain ⟨hl, h0⟩ := words_in0 h
  have h1 : ∀ i, ∃ q : Int × Int, i < len → OneWord w a i q.1 q.2 := fun i => by
    by_cases hi : i < len
    · obtain ⟨y, v, hh⟩ := h0 i hi
      exact ⟨(y, v), fun _ => hh⟩
    · exact ⟨(0, 0), fun f => absurd f hi⟩
  refine ⟨hl, fun i => (Classical.choose (h1 i)).1, fun i => (Classical.choose (h1 i)).2, fun i hi => ?_⟩
  exact Classical.choose_spec (h1 i) hi

/-- One number of a list of pages. -/
theorem only_in {H : Type} {enc : TypeId × Value → H} {w : World} {held : Bool} {fuel : Nat} {sl : Value} {x : DataW H × List MemPlace} (h : DataW.trod enc Try.prog w 0 (fun _ => true) held fuel 70 [sl] = some x) :
    ∃ (p : Option Addr) (l c : Nat) (g : Nat → Int), sl = .slice p l c ∧ l ≤ 9223372036854775807 ∧ ∀ i, i < l → OnlyIn w p g i := by
  rcases open_ints Try.underlying70 Try.underlying3 (by kernel_rfl) h with ⟨hcs, _⟩ | ⟨y, l, c, zs, hcs, _, hl, hm, hz, _, hcell, hwz⟩
  · simp at hcs
    exact ⟨none, 0, 0, fun _ => 0, hcs, by omega, fun i hi => absurd hi (by omega)⟩
  · simp at hcs
    have hz' : zs.length = c := by simpa using hz
    refine ⟨some y, l, c, fun i => zs.getD i 0, hcs, by unfold maxLen at hm; omega, fun i hi => ?_⟩
    have h0 : 0 < zs.length := by omega
    obtain ⟨b, off, hy, hc⟩ := ints_at hcell h0
    have hj' : i < zs.length := by omega
    have e : zs.getD i 0 ∈ zs := by rw [List.getD_eq_getElem?_getD, List.getElem?_eq_getElem hj']; exact List.getElem_mem hj'
    have bd := bounds_i64 (hwz _ e)
    exact ⟨b, off, by rw [hy], cell_below (hc i hj'), hc i hj', bd.1, bd.2⟩

/-- One ask of a list of asks. -/
def AskIn (w : World) (x : Option Addr) (i : Nat) : Prop :=
  ∃ (blk off : Nat) (c l : Int) (wr us wp : Bool), x = some ⟨blk, off, none⟩ ∧ blk < w.heap.size ∧ (w.cell? ⟨blk, off + i * 5, none⟩ = some (.int .u32 c) ∧ w.cell? ⟨blk, off + i * 5 + 1, none⟩ = some (.int .u32 l) ∧ w.cell? ⟨blk, off + i * 5 + 2, none⟩ = some (.bool wr) ∧ w.cell? ⟨blk, off + i * 5 + 3, none⟩ = some (.bool us) ∧ w.cell? ⟨blk, off + i * 5 + 4, none⟩ = some (.bool wp)) ∧ (0 ≤ c ∧ c < 4294967296 ∧ 0 ≤ l ∧ l < 4294967296)

theorem AskIn.kp {w w' : World} {x : Option Addr} {i : Nat} (h : AskIn w x i) (k : Kp noB w w') : AskIn w' x i := by
  obtain ⟨blk, off, c, l, wr, us, wp, h1, h2, ⟨c0, c1, c2, c3, c4⟩, h3⟩ := h
  exact ⟨blk, off, c, l, wr, us, wp, h1, Nat.lt_of_lt_of_le h2 k.size, ⟨cell_kp c0 k (fun f => f), cell_kp c1 k (fun f => f), cell_kp c2 k (fun f => f), cell_kp c3 k (fun f => f), cell_kp c4 k (fun f => f)⟩, h3⟩

end Go.Proofs.Ytmmnnafjikilpaa
