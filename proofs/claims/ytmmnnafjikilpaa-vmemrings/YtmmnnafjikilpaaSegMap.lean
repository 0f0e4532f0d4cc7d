/- The map of rights: what it holds, whatever the order of its stores, and what it is looked up as. -/
import Derived.Test.YtmmnnafjikilpaaSegGrow
import Derived.MapKept
import Derived.Carry
import Derived.OrdersHeld
import Derived.Laws.StructEq
namespace Go.Proofs.Ytmmnnafjikilpaa.Sg
open Go.ChangeShapes Go.WideShapes Go.ChangeAt Go.RowKit
set_option linter.unusedVariables false

/-- A key of the map. -/
def kv (s : Bool) (k : Int) : Value := .agg #[.bool s, .int .i64 k]

/-- What the kind of number n lets (its marks: 2 n); of another: nothing. -/
def rv : Nat → Value
  | 0 => .agg #[.bool false, .bool false, .bool true, .bool false, .bool false]
  | 1 => .agg #[.bool false, .bool false, .bool true, .bool true, .bool false]
  | 2 => .agg #[.bool false, .bool false, .bool true, .bool false, .bool true]
  | 3 => .agg #[.bool false, .bool false, .bool true, .bool true, .bool true]
  | 4 => .agg #[.bool true, .bool false, .bool false, .bool false, .bool false]
  | 5 => .agg #[.bool true, .bool false, .bool true, .bool false, .bool false]
  | 6 => .agg #[.bool true, .bool true, .bool false, .bool false, .bool false]
  | 7 => .agg #[.bool true, .bool true, .bool true, .bool false, .bool false]
  | _ => .agg #[.bool false, .bool false, .bool false, .bool false, .bool false]

theorem mapT : Try.prog.underlying 140 = some (.map 139 132) := by kernel_rfl
theorem zeroT (w : World) : (zeroValue 132).run Try.prog w = .ok (rv 8) w := by kernel_rfl
theorem chk (w : World) (e s : Bool) (k : Int) : (Instr.checkKey e 10000 139 (kv s k)).run Try.prog w = .ok () w := by kernel_rfl

theorem eqK (w : World) (s s' : Bool) (k k' : Int) : (Op.equal 139 (kv s k) (kv s' k')).run Try.prog w = .ok (decide (s = s' ∧ k = k')) w := by
  unfold Op.equal Op.maxDepth
  have u3 := Try.underlying3
  have a3 := Try.isAgg3
  have z3 := Try.sizeOf3
  have u4 := Try.underlying4
  have a4 := Try.isAgg4
  have z4 := Try.sizeOf4
  unfold kv
  rw [run_equalIn_struct w 9999 139 _ _ (by kernel_rfl) (by kernel_rfl)]
  simp only [Program.fieldsOf, Try.underlying139]
  go_simp
  by_cases h1 : s = s'
  · by_cases h2 : k = k'
    · simp [h1, h2]
    · simp [h1, h2]
  · simp [h1]

theorem alloc_set (w : World) (o o' : Obj) : ({ w.alloc o with heap := (w.alloc o).heap.setIfInBounds w.heap.size o' } : World) = w.alloc o' := by
  have e : (w.alloc o).heap.setIfInBounds w.heap.size o' = (w.alloc o').heap := by
    show (w.heap.push o).setIfInBounds w.heap.size o' = w.heap.push o'
    apply Array.ext
    · simp
    · intro i h1 h2
      have h3 : i < w.heap.size + 1 := by simpa using h2
      by_cases h : w.heap.size = i
      · subst h; simp
      · have h4 : i < w.heap.size := by omega
        rw [Array.getElem_setIfInBounds_ne (h := h), Array.getElem_push_lt h4, Array.getElem_push_lt h4]
        simp; omega
  rw [e]
  rfl



/-- Entries, by marks and number. -/
def ents : Nat → List (Int × Nat) → List MapEntry
  | _, [] => []
  | i, e :: r => ⟨kv false e.1, rv e.2, i⟩ :: ents (i + 1) r

theorem ents_app : ∀ (L : List (Int × Nat)) (e : Int × Nat) (i : Nat), ents i (L ++ [e]) = ents i L ++ [⟨kv false e.1, rv e.2, i + L.length⟩]
  | [], e, i => rfl
  | x :: r, e, i => by
    simp only [List.cons_append, ents, ents_app r e (i + 1), List.length_cons]
    rw [show i + 1 + r.length = i + (r.length + 1) by omega]

def look (L : List (Int × Nat)) (i : Int) : Option Nat := match L with | [] => none | e :: r => if i = e.1 then some e.2 else look r i

/-- What is found: a number, of nothing 8. -/
def num : Option Nat → Nat
  | some n => n
  | none => 8

def rvP : Option (Nat × Value) → Value
  | some (_, v) => v
  | none => rv 8

theorem ask (w : World) (s : Bool) (k : Int) : ∀ (L : List (Int × Nat)) (j c : Nat), ∃ r, (Instr.findAsking 139 (kv s k) (ents j L) c).run Try.prog w = .ok r w ∧ rvP r = rv (num (if s then none else look L k)) ∧ ((∀ e ∈ L, e.1 ≠ k) → r = none)
  | [], j, c => ⟨none, by simp [ents, Instr.findAsking], by cases s <;> simp [look, rvP, num], fun _ => rfl⟩
  | e :: l, j, c => by
    obtain ⟨r, h1, h2, h3⟩ := ask w s k l (j + 1) (c + 1)
    by_cases he : s = false ∧ k = e.1
    · obtain ⟨rfl, rfl⟩ := he
      refine ⟨some (c, rv e.2), ?_, by simp [look, rvP, num], fun h => absurd rfl (h e (by simp))⟩
      simp [ents, Instr.findAsking, eqK, Result.andThen]
    · refine ⟨r, ?_, ?_, fun h => h3 fun x hx => h x (by simp [hx])⟩
      · simp [ents, Instr.findAsking, eqK, he, Result.andThen, h1]
      · rw [h2]
        cases s
        · have : ¬ k = e.1 := fun x => he ⟨rfl, x⟩
          simp [look, this]
        · rfl

theorem fnd (w : World) (s : Bool) (k : Int) (L : List (Int × Nat)) (j : Nat) : ∃ r, (Instr.findKey 139 (kv s k) (ents j L)).run Try.prog w = .ok r w ∧ rvP r = rv (num (if s then none else look L k)) ∧ ((∀ e ∈ L, e.1 ≠ k) → r = none) := by
  obtain ⟨r, h1, h2, h3⟩ := ask w s k L j 0
  refine ⟨r, ?_, h2, h3⟩
  cases L with
  | nil =>
    have : r = none := h3 (by simp)
    subst this
    simp [Instr.findKey, Try.underlying139, ents, Instr.findNow, Result.andThen, run_underlying]
  | cons e l =>
    have hn : ∀ fs, Instr.findNow (.struct fs) (kv s k) (ents j (e :: l)) 0 = none := fun fs => by simp [ents, Instr.findNow, Instr.sameNow]
    simp [Instr.findKey, run_underlying Try.underlying139, hn, h1, Result.andThen]

def mp (w : World) (L : List (Int × Nat)) : World := w.alloc (.map (ents 0 L).toArray L.length)

/-- The same behind a draw. -/
def md (w : World) (L : List (Int × Nat)) : World := (mp w L).drew

theorem put_mp (w : World) (L : List (Int × Nat)) (k : Int) (n : Nat) (h : ∀ e ∈ L, e.1 ≠ k) :
    (Instr.mapUpdate 140 (.map (some w.heap.size)) (kv false k) (rv n)).run Try.prog (mp w L) = .ok () (mp w (L ++ [(k, n)])) := by
  have hb : (mp w L).heap[w.heap.size]? = some (.map (ents 0 L).toArray L.length) := (MapKept.heap_alloc w _).1
  obtain ⟨r, h1, _, h3⟩ := fnd (mp w L) false k L 0
  have hr := h3 h
  subst hr
  have hs := MapKept.run_setObj_map (P := Try.prog) (.map ((ents 0 L).toArray.push ⟨kv false k, rv n, L.length⟩) (L.length + 1)) hb
  have e : mp w (L ++ [(k, n)]) = w.alloc (.map ((ents 0 L).toArray.push ⟨kv false k, rv n, L.length⟩) (L.length + 1)) := by
    unfold mp
    rw [ents_app]
    simp
  rw [e]
  have hs' : (setObj w.heap.size (.map ((ents 0 L).toArray.push ⟨kv false k, rv n, L.length⟩) (L.length + 1))).run Try.prog (mp w L) = .ok () (w.alloc (.map ((ents 0 L).toArray.push ⟨kv false k, rv n, L.length⟩) (L.length + 1))) := by
    rw [hs]
    unfold mp
    rw [alloc_set]
  simp [Instr.mapUpdate, run_underlying mapT, MapKept.run_getObj_map hb, chk, h1, Result.andThen]
  simpa using hs'

theorem look_md (w : World) (L : List (Int × Nat)) (s : Bool) (k : Int) :
    (Instr.lookup 140 (.map (some w.heap.size)) (kv s k) false).run Try.prog (md w L) = .ok (rv (num (if s then none else look L k))) (md w L) := by
  have hb : (md w L).heap[w.heap.size]? = some (.map (ents 0 L).toArray L.length) := (MapKept.heap_alloc w _).1
  obtain ⟨r, h1, h2, _⟩ := fnd (md w L) s k L 0
  have hz := zeroT (md w L)
  cases r with
  | none => simp [Instr.lookup, run_underlying mapT, MapKept.run_getObj_map hb, chk, h1, hz, Result.andThen, ← h2, rvP]
  | some p => simp [Instr.lookup, run_underlying mapT, MapKept.run_getObj_map hb, chk, h1, Result.andThen, ← h2, rvP]

/-- Lists with the same entries, no key twice, are looked up alike. -/
theorem look_mem : ∀ (L : List (Int × Nat)) (i : Int) (n : Nat), (L.map Prod.fst).Nodup → (look L i = some n ↔ (i, n) ∈ L)
  | [], i, n, _ => by simp [look]
  | x :: r, i, n, h => by
    have hr : (r.map Prod.fst).Nodup := (List.nodup_cons.1 (by simpa using h)).2
    have hx : x.1 ∉ r.map Prod.fst := (List.nodup_cons.1 (by simpa using h)).1
    by_cases hi : i = x.1
    · simp only [look, if_pos hi]
      constructor
      · intro e
        injection e with e
        rw [hi, ← e]
        simp
      · intro e
        rcases List.mem_cons.1 e with e | e
        · rw [← e]
        · exact absurd (List.mem_map.2 ⟨(i, n), e, hi⟩) hx
    · simp only [look, if_neg hi]
      rw [look_mem r i n hr]
      simp
      intro e
      exact absurd (by rw [← e]) hi

theorem look_same {L L' : List (Int × Nat)} (h : ∀ e, e ∈ L ↔ e ∈ L') (n1 : (L.map Prod.fst).Nodup) (n2 : (L'.map Prod.fst).Nodup) (i : Int) : look L i = look L' i := by
  cases h1 : look L i with
  | some n => exact ((look_mem L' i n n2).2 ((h _).1 ((look_mem L i n n1).1 h1))).symm
  | none =>
    cases h2 : look L' i with
    | none => rfl
    | some n => rw [(look_mem L i n n1).2 ((h _).2 ((look_mem L' i n n2).1 h2))] at h1; cases h1


end Go.Proofs.Ytmmnnafjikilpaa.Sg
