/- Pages that are kept: the map of them, and what it means that a world holds a keeper. -/
import Derived.Test.YtmmnnafjikilpaaTlMath
import Derived.Test.YtmmnnafjikilpaaPgLeaf
import Derived.DeepKeys4
import Derived.Maps.RangeWalk
namespace Go.Proofs.Ytmmnnafjikilpaa
open Go.ChangeShapes Go.WideShapes Go.ChangeAt Go.RowKit Go.Maps
set_option linter.unusedVariables false

theorem tlLaid : laidOutB Try.prog = true := by kernel_rfl
theorem tlKeyed : Keyed Try.prog 127 := Keyed.of_law (deep_law_laid (m := 5) tlLaid (by decide) (of_decide_eq_true (by kernel_rfl)) (by kernel_rfl) (by kernel_rfl))
theorem keptT : Try.prog.underlying 108 = some (.map 127 148) := by kernel_rfl

def keyV (a b : Int) : Value := .agg #[.int .u32 a, .int .u32 b]
def kl (a b : Int) : Lit := .string (keyBytes [.int .u32 a, .int .u32 b])

theorem key_size : Try.prog.cellsOf 127 = 2 := by kernel_rfl
theorem key_one : Try.prog.cellsOf 23 = 1 := by kernel_rfl
theorem key_type : Try.prog.keyType 127 = true := by kernel_rfl
theorem key_depth : ∃ d, Try.prog.types.size + 1 = d + 1 + 1 := ⟨Try.prog.types.size - 1, by have : 0 < Try.prog.types.size := of_decide_eq_true (by kernel_rfl); omega⟩

theorem wf32 {x : Int} (h0 : 0 ≤ x) (h1 : x < 4294967296) : (Lit.int .u32 x).wf = true := WalkArith.wf_u32 ⟨h0, by omega⟩

theorem keyK {a b : Int} (a0 : 0 ≤ a) (a1 : a < 4294967296) (b0 : 0 ≤ b) (b1 : b < 4294967296) : keyOf Try.prog 127 (keyV a b) = some (kl a b) := by
  obtain ⟨d, hd⟩ := key_depth
  have h1 := wf32 a0 a1
  have h2 := wf32 b0 b1
  unfold keyOf keyV kl
  rw [Try.underlying127, hd]
  simp [Value.formed, Try.underlying127, Try.underlying23, key_size, key_one, key_type, Value.cells, Program.keyLits, h1, h2]

theorem keyEq (v : Value) : ∃ d, keyOf Try.prog 127 v = if v.formed Try.prog 127 = true then (Try.prog.keyLits (d + 1 + 1) 127 v.cells.toList).map (fun ls => Lit.string (keyBytes ls)) else none := by
  obtain ⟨d, hd⟩ := key_depth
  refine ⟨d, ?_⟩
  unfold keyOf
  rw [Try.underlying127, hd]
  simp only [key_type, Bool.true_and]

theorem list_2 {α : Type} : ∀ (l : List α), l.length = 2 → ∃ a b, l = [a, b]
  | [a, b], _ => ⟨a, b, rfl⟩
theorem arr_2 {α : Type} (cs : Array α) (h : cs.size = 2) : ∃ a b, cs = #[a, b] := by
  obtain ⟨a, b, e⟩ := list_2 cs.toList (by simpa using h)
  exact ⟨a, b, by cases cs; simp at e; rw [e]⟩

theorem keyInv {v : Value} {l : Lit} (h : keyOf Try.prog 127 v = some l) : ∃ a b : Int, v = keyV a b ∧ (0 ≤ a ∧ a < 4294967296 ∧ 0 ≤ b ∧ b < 4294967296) ∧ l = kl a b := by
  obtain ⟨d, hd⟩ := keyEq v
  rw [hd] at h
  clear hd
  split at h
  · rename_i hf
    cases v <;> simp [Value.formed, Try.underlying127, key_size] at hf
    rename_i cs
    obtain ⟨c0, c1, hcs⟩ := arr_2 cs hf
    subst hcs
    simp [Program.keyLits, Try.underlying127, Try.underlying23, key_size, key_one, Value.cells] at h
    cases c0 <;> simp at h
    rename_i q1 x1
    by_cases e1 : q1 = .u32 ∧ (Lit.int .u32 x1).wf = true
    · obtain ⟨rfl, w1⟩ := e1
      simp [w1] at h
      cases c1 <;> simp at h
      rename_i q2 x2
      by_cases e2 : q2 = .u32 ∧ (Lit.int .u32 x2).wf = true
      · obtain ⟨rfl, w2⟩ := e2
        have c1 := bounds_u32 w1
        have c2 := bounds_u32 w2
        simp [w2] at h
        exact ⟨x1, x2, rfl, ⟨c1.1, by omega, c2.1, by omega⟩, h.symm⟩
      · simp [e2] at h
    · simp [e1] at h
  · cases h

theorem kl_inj {a b c d : Int} (ha : 0 ≤ a ∧ a < 4294967296 ∧ 0 ≤ b ∧ b < 4294967296) (hc : 0 ≤ c ∧ c < 4294967296 ∧ 0 ≤ d ∧ d < 4294967296) (h : kl a b = kl c d) : a = c ∧ b = d := by
  have e := tlKeyed.inj (keyK ha.1 ha.2.1 ha.2.2.1 ha.2.2.2) (by rw [h]; exact keyK hc.1 hc.2.1 hc.2.2.1 hc.2.2.2)
  unfold keyV at e
  simp at e
  exact e

theorem kl_key (a b : Int) : WideAt.IsKeyLit (kl a b) := trivial

/-! ### what is kept at a key -/
def Ent.val (e : Ent) : Value := .agg #[.int .u32 e.fr, .int .u32 e.p, .int .u32 e.q, .bool e.bw, .bool e.bu, .int .u32 e.o, .int .u32 e.t, .int .u64 e.tn]
def Ent.dat (e : Ent) : DataW Unit := .agg [.lit (.int .u32 e.fr), .lit (.int .u32 e.p), .lit (.int .u32 e.q), .lit (.bool e.bw), .lit (.bool e.bu), .lit (.int .u32 e.o), .lit (.int .u32 e.t), .lit (.int .u64 e.tn)]

def entElem : Value → Option (DataW Unit × List MemPlace)
  | .agg ⟨[.int .u32 fr, .int .u32 p, .int .u32 q, .bool bw, .bool bu, .int .u32 o, .int .u32 t, .int .u64 tn]⟩ => some (Ent.dat ⟨fr, p, q, bw, bu, o, t, tn⟩, [])
  | _ => none

theorem entElem_mk (e : Ent) : entElem e.val = some (e.dat, []) := rfl
theorem entElem_inv {v : Value} {z : DataW Unit × List MemPlace} (h : entElem v = some z) : ∃ e : Ent, v = e.val ∧ z = (e.dat, []) := by
  unfold entElem at h
  split at h
  · cases h; exact ⟨⟨_, _, _, _, _, _, _, _⟩, rfl, rfl⟩
  · cases h
theorem dat_inj {e f : Ent} (h : e.dat = f.dat) : e = f := by
  cases e; cases f
  unfold Ent.dat at h
  simp at h
  obtain ⟨rfl, rfl, rfl, rfl, rfl, rfl, rfl, rfl⟩ := h
  rfl

/-- All that is kept is good, has had its turn, and is not more than there are places. -/
structure Tidied (D : DataW Unit) (pl tn : Nat) : Prop where
  size : Maps.size D ≤ pl
  good : ∀ a b : Int, Maps.has D (kl a b) = true → (0 ≤ a ∧ a < 4294967296 ∧ 0 ≤ b ∧ b < 4294967296) → ∃ e : Ent, (∀ z, D.atKey (kl a b) z = e.dat) ∧ Good a b e ∧ 0 ≤ e.tn ∧ e.tn ≤ tn

theorem Tidied.empty (pl tn : Nat) : Tidied (.map []) pl tn := ⟨Nat.zero_le _, fun a b h => by cases h⟩
theorem Tidied.later {D : DataW Unit} {pl tn tn' : Nat} (h : Tidied D pl tn) (k : tn ≤ tn') : Tidied D pl tn' :=
  ⟨h.size, fun a b hh hb => by obtain ⟨e, h1, h2, h3, h4⟩ := h.good a b hh hb; exact ⟨e, h1, h2, h3, by omega⟩⟩

theorem Tidied.del {D : DataW Unit} {pl tn : Nat} (h : Tidied D pl tn) (hT : Tidy D) (k : Lit) : Tidied (D.del k) pl tn := by
  have hs := size_del (k := k) hT
  have hs' := h.size
  refine ⟨by omega, fun a b hh hb => ?_⟩
  have hne : kl a b ≠ k := fun e => by
    rw [e, has_del_same] at hh
    cases hh
  rw [has_del_other hne] at hh
  obtain ⟨e, h1, h2⟩ := h.good a b hh hb
  exact ⟨e, fun z => by rw [atKey_del_other hne]; exact h1 z, h2⟩

theorem Tidied.put {D : DataW Unit} {pl tn : Nat} (h : Tidied D pl tn) (hT : Tidy D) {a b : Int} (ha : 0 ≤ a ∧ a < 4294967296 ∧ 0 ≤ b ∧ b < 4294967296) {e : Ent} (g : Good a b e) (t0 : 0 ≤ e.tn) (t1 : e.tn ≤ tn) (hs : Maps.has D (kl a b) = true ∨ Maps.size D < pl) : Tidied (D.put (kl a b) e.dat) pl tn := by
  have hz := size_put (k := kl a b) hT e.dat
  have hs' := h.size
  refine ⟨?_, fun c d hh hb => ?_⟩
  · rw [hz]
    rcases hs with f | f
    · rw [if_pos f]; exact hs'
    · split <;> omega
  · by_cases hne : kl c d = kl a b
    · obtain ⟨rfl, rfl⟩ := kl_inj hb ha hne
      exact ⟨e, fun z => atKey_put_same hT.isMap (kl_key _ _) _ _, g, t0, t1⟩
    · rw [has_put_other hne] at hh
      obtain ⟨e', h1, h2⟩ := h.good c d hh hb
      exact ⟨e', fun z => by rw [atKey_put_other hne]; exact h1 z, h2⟩

/-! ### the keeper -/
structure TlbD (w : World) (K B pl tn : Nat) (D : DataW Unit) : Prop where
  c : w.heap[K + 1]? = some (.cells #[.pointer (some ⟨B + 3, 0, none⟩), .int .i64 pl, .map (some K), .int .u64 tn] 110 (0, 0))
  m : w.ownsMap Try.prog 127 entElem K 65 D
  g : Tidied D pl tn
  lim : pl ≤ 64

def inTlb (K k : Nat) : Prop := k = K ∨ k = K + 1

theorem TlbD.kept {w w' : World} {K B pl tn : Nat} {D : DataW Unit} (h : TlbD w K B pl tn D) (e : ∀ k, inTlb K k → w'.heap[k]? = w.heap[k]?) : TlbD w' K B pl tn D :=
  ⟨(e _ (.inr rfl)).trans h.c, owns_at h.m (e _ (.inl rfl)), h.g, h.lim⟩
theorem TlbD.lt {w : World} {K B pl tn : Nat} {D : DataW Unit} (h : TlbD w K B pl tn D) : K + 1 < w.heap.size := (Array.getElem?_eq_some_iff.1 h.c).1
theorem TlbD.kp {S : Nat → Prop} {w w' : World} {K B pl tn : Nat} {D : DataW Unit} (h : TlbD w K B pl tn D) (k : Kp S w w') (hS : ∀ k, inTlb K k → ¬ S k) : TlbD w' K B pl tn D :=
  h.kept fun i hi => k.block i (by have := h.lt; rcases hi with e | e <;> omega) (hS i hi)
theorem TlbD.alloc {w : World} {K B pl tn : Nat} {D : DataW Unit} (h : TlbD w K B pl tn D) (o : Obj) : TlbD (w.alloc o) K B pl tn D := h.kp (Kp.alloc noB w o) (fun _ _ f => f)
theorem TlbD.tidy {w : World} {K B pl tn : Nat} {D : DataW Unit} (h : TlbD w K B pl tn D) : Tidy D := h.m.tidy tlKeyed
theorem TlbD.c0 {w : World} {K B pl tn : Nat} {D : DataW Unit} (h : TlbD w K B pl tn D) : w.cell? ⟨K + 1, 0, none⟩ = some (.pointer (some ⟨B + 3, 0, none⟩)) := by rw [cell_at h.c]; rfl
theorem TlbD.c1 {w : World} {K B pl tn : Nat} {D : DataW Unit} (h : TlbD w K B pl tn D) : w.cell? ⟨K + 1, 1, none⟩ = some (.int .i64 pl) := by rw [cell_at h.c]; rfl
theorem TlbD.c2 {w : World} {K B pl tn : Nat} {D : DataW Unit} (h : TlbD w K B pl tn D) : w.cell? ⟨K + 1, 2, none⟩ = some (.map (some K)) := by rw [cell_at h.c]; rfl
theorem TlbD.c3 {w : World} {K B pl tn : Nat} {D : DataW Unit} (h : TlbD w K B pl tn D) : w.cell? ⟨K + 1, 3, none⟩ = some (.int .u64 tn) := by rw [cell_at h.c]; rfl
theorem TlbD.fz {w : World} {K B pl tn : Nat} {D : DataW Unit} (h : TlbD w K B pl tn D) (j : Nat) : w.frozen? ⟨K + 1, j, none⟩ = false := frozen_at h.c

theorem TlbD.turned {w w' : World} {K B pl tn : Nat} {D D' : DataW Unit} (h : TlbD w K B pl tn D) (ht : w.mapTurned w' K) (ho : w'.ownsMap Try.prog 127 entElem K 65 D') (g : Tidied D' pl tn) : TlbD w' K B pl tn D' :=
  ⟨((Kp.turned (S := fun j => j = K) ht rfl).block (K + 1) h.lt (by omega)).trans h.c, ho, g, h.lim⟩

/-- One more turn. -/
theorem TlbD.turn {w : World} {K B pl tn : Nat} {D : DataW Unit} (h : TlbD w K B pl tn D) : TlbD (w.setCell ⟨K + 1, 3, none⟩ (.int .u64 ((tn + 1 : Nat) : Int))) K B pl (tn + 1) D :=
  ⟨heap_setCell_at h.c _, owns_at h.m (Below.heap_setCell _ _ _ _ (by simp)), h.g.later (by omega), h.lim⟩

/-- A page is looked up. -/
theorem zeroFound (w : World) : (zeroValue 148).run Try.prog w = .ok (Ent.val ⟨0, 0, 0, false, false, 0, 0, 0⟩) w := by kernel_rfl

theorem TlbD.look {w : World} {K B pl tn : Nat} {D : DataW Unit} (h : TlbD w K B pl tn D) {a b : Int} (ha : 0 ≤ a ∧ a < 4294967296 ∧ 0 ≤ b ∧ b < 4294967296) :
    ∃ e : Ent, (∀ (W : World) (tn' : Nat), TlbD W K B pl tn' D → (Instr.lookup 108 (.map (some K)) (keyV a b) true).run Try.prog W = .ok (.tuple #[e.val, .bool (Maps.has D (kl a b))]) W) ∧ (Maps.has D (kl a b) = true → Good a b e ∧ 0 ≤ e.tn ∧ e.tn ≤ tn) := by
  have key : ∀ (W : World) (tn' : Nat), TlbD W K B pl tn' D → ∃ e : Ent, (Instr.lookup 108 (.map (some K)) (keyV a b) true).run Try.prog W = .ok (.tuple #[e.val, .bool (Maps.has D (kl a b))]) W ∧ e.dat = D.atKey (kl a b) (Ent.dat ⟨0, 0, 0, false, false, 0, 0, 0⟩) := fun W tn' hW => by
    obtain ⟨v, ps, hrun, hR⟩ := hW.m.look_ok tlKeyed keptT (zeroFound W) (entElem_mk _) (keyK ha.1 ha.2.1 ha.2.2.1 ha.2.2.2)
    obtain ⟨e, rfl, hz⟩ := entElem_inv hR
    exact ⟨e, hrun, (Prod.mk.inj hz).1.symm⟩
  obtain ⟨e, _, he⟩ := key w tn h
  refine ⟨e, fun W tn' hW => ?_, fun hh => ?_⟩
  · obtain ⟨e', hrun, he'⟩ := key W tn' hW
    rw [← he] at he'
    rw [dat_inj he'] at hrun
    exact hrun
  · obtain ⟨e', h1, h2⟩ := h.g.good a b hh ha
    rw [h1] at he
    rw [dat_inj he]
    exact h2

/-- A page is dropped. -/
theorem TlbD.drop {w : World} {K B pl tn : Nat} {D : DataW Unit} (h : TlbD w K B pl tn D) {a b : Int} (ha : 0 ≤ a ∧ a < 4294967296 ∧ 0 ≤ b ∧ b < 4294967296) (ty : TypeId) :
    ∃ w', (Builtin.delete_ #[108, 127] ty #[.map (some K), keyV a b]).run Try.prog w = .ok (.tuple #[]) w' ∧ TlbD w' K B pl tn (D.del (kl a b)) ∧ Kp (fun j => j = K) w w' := by
  obtain ⟨w', hrun, hown, ht⟩ := h.m.drop tlKeyed keptT (keyK ha.1 ha.2.1 ha.2.2.1 ha.2.2.2) ty
  exact ⟨w', hrun, h.turned ht hown (h.g.del h.tidy _), Kp.turned ht rfl⟩

/-- A page is kept. -/
theorem TlbD.store {w : World} {K B pl tn : Nat} {D : DataW Unit} (h : TlbD w K B pl tn D) {a b : Int} (ha : 0 ≤ a ∧ a < 4294967296 ∧ 0 ≤ b ∧ b < 4294967296) {e : Ent} (g : Good a b e) (t0 : 0 ≤ e.tn) (t1 : e.tn ≤ tn) (hs : Maps.has D (kl a b) = true ∨ Maps.size D < pl) :
    ∃ w', (Instr.mapUpdate 108 (.map (some K)) (keyV a b) e.val).run Try.prog w = .ok () w' ∧ TlbD w' K B pl tn (D.put (kl a b) e.dat) ∧ Kp (fun j => j = K) w w' := by
  obtain ⟨w', hrun, hown, ht⟩ := h.m.store tlKeyed keptT (by unfold maxLen; omega) (keyK ha.1 ha.2.1 ha.2.2.1 ha.2.2.2) (entElem_mk e)
  have g' := h.g.put h.tidy ha g t0 t1 hs
  have := h.lim
  exact ⟨w', hrun, h.turned ht (owns_tight hown (by have := g'.size; omega)) g', Kp.turned ht rfl⟩
end Go.Proofs.Ytmmnnafjikilpaa
