/- The maps of rules: what each of the functions makes, and what 'find' answers. -/
import Derived.Test.YtolnaodlghahlaaGreatDoorDecRule0
import Derived.MapKept
import Derived.Carry
import Derived.BigRegion
namespace Go.Proofs.YtolnaodlghahlaaGreatDoor
open Go.ChangeShapes Go.WideShapes Go.ChangeAt Go.RowKit
set_option linter.unusedVariables false

theorem keyT : Tryz.prog.underlying 3 = some (.int .i64) := by kernel_rfl
theorem mapT : Tryz.prog.underlying 64 = some (.map 3 57) := by kernel_rfl
theorem zeroT (w : World) : (zeroValue 57).run Tryz.prog w = .ok .nilFunc w := by kernel_rfl

theorem alloc_set (w : World) (o o' : Obj) : ({ w.alloc o with heap := (w.alloc o).heap.setIfInBounds w.heap.size o' } : World) = w.alloc o' := by
  have e : (w.alloc o).heap.setIfInBounds w.heap.size o' = (w.alloc o').heap := by
    show (w.heap.push o).setIfInBounds w.heap.size o' = w.heap.push o'
    apply Array.ext
    · simp
    · intro i h1 h2
      have h3 : i < w.heap.size + 1 := by simpa using h2
      by_cases h : w.heap.size = i
      · subst h; simp
      · have h4 : i < w.heap.size := by omega
        rw [Array.getElem_setIfInBounds_ne (h := h), Array.getElem_push_lt h4, Array.getElem_push_lt h4]
        simp; omega
  rw [e]
  rfl

theorem put_new (w : World) (es : Array MapEntry) (n : Nat) (i : Int) (v : Value) (hf : Instr.findNow (.int .i64) (.int .i64 i) es.toList 0 = some none) :
    (Instr.mapUpdate 64 (.map (some w.heap.size)) (.int .i64 i) v).run Tryz.prog (w.alloc (.map es n)) = .ok () (w.alloc (.map (es.push ⟨.int .i64 i, v, n⟩) (n + 1))) := by
  have hb : (w.alloc (.map es n)).heap[w.heap.size]? = some (.map es n) := (MapKept.heap_alloc w (.map es n)).1
  have hc := MapKept.run_checkKey (P := Tryz.prog) (w := w.alloc (.map es n)) keyT (k := .int .i64 i) (by simp [MapKept.IsKey]) false 9999
  have hd := MapKept.run_findKey (P := Tryz.prog) (w := w.alloc (.map es n)) keyT hf
  have hs := MapKept.run_setObj_map (P := Tryz.prog) (.map (es.push ⟨.int .i64 i, v, n⟩) (n + 1)) hb
  rw [alloc_set] at hs
  simp [Instr.mapUpdate, run_underlying mapT, MapKept.run_getObj_map hb, hc, hd, hs, Result.andThen]

theorem put_old (w : World) (es : Array MapEntry) (n : Nat) (i : Int) (v v0 : Value) (j : Nat) (e : MapEntry) (he : es[j]? = some e) (hk : e.key = .int .i64 i) (hf : Instr.findNow (.int .i64) (.int .i64 i) es.toList 0 = some (some (j, v0))) :
    (Instr.mapUpdate 64 (.map (some w.heap.size)) (.int .i64 i) v).run Tryz.prog (w.alloc (.map es n)) = .ok () (w.alloc (.map (es.modify j fun x => { x with key := .int .i64 i, val := v }) n)) := by
  have hb : (w.alloc (.map es n)).heap[w.heap.size]? = some (.map es n) := (MapKept.heap_alloc w (.map es n)).1
  have hc := MapKept.run_checkKey (P := Tryz.prog) (w := w.alloc (.map es n)) keyT (k := .int .i64 i) (by simp [MapKept.IsKey]) false 9999
  have hd := MapKept.run_findKey (P := Tryz.prog) (w := w.alloc (.map es n)) keyT hf
  have hs := MapKept.run_setObj_map (P := Tryz.prog) (.map (es.modify j fun x => { x with key := .int .i64 i, val := v }) n) hb
  rw [alloc_set] at hs
  have hj : j < es.size := (Array.getElem?_eq_some_iff.1 he).1
  have he' : es[j] = e := (Array.getElem?_eq_some_iff.1 he).2
  have hsb : Instr.sameBits 10000 (.int .i64 i) (.int .i64 i) = true := by simp [Instr.sameBits]
  have hks : (Instr.keyThatStays (.int .i64 i) (.int .i64 i)).run Tryz.prog (w.alloc (.map es n)) = .ok (.int .i64 i) (w.alloc (.map es n)) := by simp [Instr.keyThatStays, hsb]
  simp [Instr.mapUpdate, run_underlying mapT, MapKept.run_getObj_map hb, hc, hd, Result.andThen, hj, he', hk, hks, hs]

def rvP : Option (Nat × Value) → Value
  | some (_, v) => v
  | none => .nilFunc
def rvN : Option Nat → Value
  | some n => .func (.func n) #[] #[]
  | none => .nilFunc

theorem look_any (b : Nat) (w : World) (es : Array MapEntry) (n : Nat) (hb : w.heap[b]? = some (.map es n)) (i : Int) (r : Option (Nat × Value)) (hf : Instr.findNow (.int .i64) (.int .i64 i) es.toList 0 = some r) :
    (Instr.lookup 64 (.map (some b)) (.int .i64 i) false).run Tryz.prog w = .ok (rvP r) w := by
  have hc := MapKept.run_checkKey (P := Tryz.prog) (w := w) keyT (k := .int .i64 i) (by simp [MapKept.IsKey]) es.isEmpty 9999
  have hd := MapKept.run_findKey (P := Tryz.prog) (w := w) keyT hf
  have hz := zeroT w
  cases r with
  | none => simp [Instr.lookup, run_underlying mapT, MapKept.run_getObj_map hb, hc, hd, hz, Result.andThen, rvP]
  | some p => simp [Instr.lookup, run_underlying mapT, MapKept.run_getObj_map hb, hc, hd, Result.andThen, rvP]

/-- Entries, by key and function. -/
def ents : Nat → List (Int × Nat) → List MapEntry
  | _, [] => []
  | i, e :: r => ⟨.int .i64 e.1, .func (.func e.2) #[] #[], i⟩ :: ents (i + 1) r

theorem ents_len : ∀ (L : List (Int × Nat)) (i : Nat), (ents i L).length = L.length
  | [], _ => rfl
  | e :: r, i => by simp [ents, ents_len r (i + 1)]

theorem ents_app : ∀ (L : List (Int × Nat)) (e : Int × Nat) (i : Nat), ents i (L ++ [e]) = ents i L ++ [⟨.int .i64 e.1, .func (.func e.2) #[] #[], i + L.length⟩]
  | [], e, i => rfl
  | x :: r, e, i => by
    simp only [List.cons_append, ents, ents_app r e (i + 1), List.length_cons]
    rw [show i + 1 + r.length = i + (r.length + 1) by omega]

def look (L : List (Int × Nat)) (i : Int) : Option Nat := match L with | [] => none | e :: r => if i = e.1 then some e.2 else look r i

theorem find_none : ∀ (L : List (Int × Nat)) (i : Int) (j c : Nat), (∀ e ∈ L, e.1 ≠ i) → Instr.findNow (.int .i64) (.int .i64 i) (ents j L) c = some none
  | [], _, _, _, _ => rfl
  | e :: r, i, j, c, h => by
    have he : (i == e.1) = false := by simpa using fun x => h e (by simp) x.symm
    simp [ents, Instr.findNow, Instr.sameNow, he, find_none r i (j + 1) (c + 1) (fun x hx => h x (by simp [hx]))]

theorem find_look : ∀ (L : List (Int × Nat)) (i : Int) (j c : Nat), ∃ r, Instr.findNow (.int .i64) (.int .i64 i) (ents j L) c = some r ∧ rvP r = rvN (look L i)
  | [], _, _, _ => ⟨none, rfl, rfl⟩
  | e :: r, i, j, c => by
    by_cases he : i = e.1
    · refine ⟨some (c, .func (.func e.2) #[] #[]), by simp [ents, Instr.findNow, Instr.sameNow, he], by simp [look, he, rvP, rvN]⟩
    · have hb : (i == e.1) = false := by simpa using he
      obtain ⟨x, h1, h2⟩ := find_look r i (j + 1) (c + 1)
      exact ⟨x, by simp [ents, Instr.findNow, Instr.sameNow, hb, h1], by rw [h2]; simp [look, he]⟩

/-- The key's function turned. -/
def upd (L : List (Int × Nat)) (k : Int) (n : Nat) : List (Int × Nat) := match L with | [] => [] | e :: r => if k = e.1 then (k, n) :: r else e :: upd r k n

theorem upd_len : ∀ (L : List (Int × Nat)) (k : Int) (n : Nat), (upd L k n).length = L.length
  | [], _, _ => rfl
  | e :: r, k, n => by
    unfold upd
    split
    · rfl
    · simp [upd_len r k n]

theorem find_upd : ∀ (L : List (Int × Nat)) (k : Int) (n : Nat) (j c : Nat), (∃ e ∈ L, e.1 = k) → ∃ (i : Nat) (v : Value) (e : MapEntry), Instr.findNow (.int .i64) (.int .i64 k) (ents j L) c = some (some (c + i, v)) ∧ (ents j L)[i]? = some e ∧ e.key = .int .i64 k ∧ (ents j L).modify i (fun x => { x with key := .int .i64 k, val := .func (.func n) #[] #[] }) = ents j (upd L k n)
  | [], k, n, j, c, h => by obtain ⟨e, he, _⟩ := h; cases he
  | x :: r, k, n, j, c, h => by
    by_cases hx : k = x.1
    · refine ⟨0, .func (.func x.2) #[] #[], _, by simp [ents, Instr.findNow, Instr.sameNow, hx], rfl, by simp [hx], ?_⟩
      unfold upd
      rw [if_pos hx]
      simp [ents, hx]
    · have hb : (k == x.1) = false := by simpa using hx
      obtain ⟨i, v, e, h1, h2, h3, h4⟩ := find_upd r k n (j + 1) (c + 1) (by
        obtain ⟨e, he, hk⟩ := h
        rcases List.mem_cons.1 he with rfl | he
        · exact absurd hk.symm hx
        · exact ⟨e, he, hk⟩)
      refine ⟨i + 1, v, e, ?_, by simpa [ents] using h2, h3, ?_⟩
      · simp [ents, Instr.findNow, Instr.sameNow, hb, h1]
        omega
      · unfold upd
        rw [if_neg hx]
        simp [ents, h4]

theorem look_upd : ∀ (L : List (Int × Nat)) (k : Int) (n : Nat) (i : Int), (∃ e ∈ L, e.1 = k) → look (upd L k n) i = if i = k then some n else look L i
  | [], k, n, i, h => by obtain ⟨e, he, _⟩ := h; cases he
  | x :: r, k, n, i, h => by
    by_cases hx : k = x.1
    · unfold upd
      rw [if_pos hx]
      by_cases hi : i = k
      · simp [look, hi]
      · have : ¬ i = x.1 := by rw [← hx]; exact hi
        simp [look, hi, this]
    · unfold upd
      rw [if_neg hx]
      have h' : ∃ e ∈ r, e.1 = k := by
        obtain ⟨e, he, hk⟩ := h
        rcases List.mem_cons.1 he with rfl | he
        · exact absurd hk.symm hx
        · exact ⟨e, he, hk⟩
      by_cases hi : i = x.1
      · have : ¬ i = k := fun e => hx (by rw [← e]; exact hi)
        simp [look, hi]
        intro e
        exact absurd e.symm hx
      · simp [look, hi, look_upd r k n i h']

def mp (w : World) (L : List (Int × Nat)) : World := w.alloc (.map (ents 0 L).toArray L.length)

/-- The same behind a draw. -/
def md (w : World) (L : List (Int × Nat)) : World := (mp w L).drew

theorem put_mp (w : World) (L : List (Int × Nat)) (k : Int) (n : Nat) (h : ∀ e ∈ L, e.1 ≠ k) :
    (Instr.mapUpdate 64 (.map (some w.heap.size)) (.int .i64 k) (.func (.func n) #[] #[])).run Tryz.prog (mp w L) = .ok () (mp w (L ++ [(k, n)])) := by
  have e := put_new w (ents 0 L).toArray L.length k (.func (.func n) #[] #[]) (by simpa using find_none L k 0 0 h)
  unfold mp
  rw [e, ents_app]
  simp

theorem upd_mp (w : World) (L : List (Int × Nat)) (k : Int) (n : Nat) (h : ∃ e ∈ L, e.1 = k) :
    (Instr.mapUpdate 64 (.map (some w.heap.size)) (.int .i64 k) (.func (.func n) #[] #[])).run Tryz.prog (mp w L) = .ok () (mp w (upd L k n)) := by
  obtain ⟨i, v, e, h1, h2, h3, h4⟩ := find_upd L k n 0 0 h
  have r := put_old w (ents 0 L).toArray L.length k (.func (.func n) #[] #[]) v i e (by simpa using h2) h3 (by simpa using h1)
  unfold mp
  rw [r, upd_len, ← h4]
  simp

/-- Lists with the same entries, no key twice, are looked up alike. -/
theorem look_mem : ∀ (L : List (Int × Nat)) (i : Int) (n : Nat), (L.map Prod.fst).Nodup → (look L i = some n ↔ (i, n) ∈ L)
  | [], i, n, _ => by simp [look]
  | x :: r, i, n, h => by
    have hr : (r.map Prod.fst).Nodup := (List.nodup_cons.1 (by simpa using h)).2
    have hx : x.1 ∉ r.map Prod.fst := (List.nodup_cons.1 (by simpa using h)).1
    by_cases hi : i = x.1
    · simp only [look, if_pos hi]
      constructor
      · intro e
        injection e with e
        rw [hi, ← e]
        simp
      · intro e
        rcases List.mem_cons.1 e with e | e
        · rw [← e]
        · exact absurd (List.mem_map.2 ⟨(i, n), e, hi⟩) hx
    · simp only [look, if_neg hi]
      rw [look_mem r i n hr]
      simp
      intro e
      exact absurd (by rw [← e]) hi

theorem look_same {L L' : List (Int × Nat)} (h : ∀ e, e ∈ L ↔ e ∈ L') (n1 : (L.map Prod.fst).Nodup) (n2 : (L'.map Prod.fst).Nodup) (i : Int) : look L i = look L' i := by
  cases h1 : look L i with
  | some n => exact ((look_mem L' i n n2).2 ((h _).1 ((look_mem L i n n1).1 h1))).symm
  | none =>
    cases h2 : look L' i with
    | none => rfl
    | some n => rw [(look_mem L i n n1).2 ((h _).2 ((look_mem L' i n n2).1 h2))] at h1; cases h1

theorem nodup_take {L : List (Int × Nat)} (h : (L.map Prod.fst).Nodup) (j : Nat) (hj : j < L.length) : ∀ e ∈ L.take j, e.1 ≠ (L[j]).1 := by
  intro e he
  obtain ⟨i, hi, rfl⟩ := List.getElem_of_mem he
  rw [List.getElem_take]
  have hi' : i < j := by simp at hi; omega
  have := List.pairwise_iff_getElem.1 h i j (by simp; omega) (by simpa using hj) hi'
  simpa using this

theorem put_take (w : World) (L : List (Int × Nat)) (h : (L.map Prod.fst).Nodup) (j : Nat) (hj : j < L.length) :
    (Instr.mapUpdate 64 (.map (some w.heap.size)) (.int .i64 (L[j]).1) (.func (.func (L[j]).2) #[] #[])).run Tryz.prog (mp w (L.take j)) = .ok () (mp w (L.take (j + 1))) := by
  have e := put_mp w (L.take j) (L[j]).1 (L[j]).2 (nodup_take h j hj)
  rw [show L.take (j + 1) = L.take j ++ [L[j]] by rw [List.take_append_getElem]]
  exact e

theorem put_md (w : World) (L : List (Int × Nat)) (h : (L.map Prod.fst).Nodup) (j : Nat) (hj : j < L.length) :
    (Instr.mapUpdate 64 (.map (some w.heap.size)) (.int .i64 (L[j]).1) (.func (.func (L[j]).2) #[] #[])).run Tryz.prog (md w (L.take j)) = .ok () (md w (L.take (j + 1))) := put_take w.drew L h j hj

theorem look_mp (w : World) (L : List (Int × Nat)) (i : Int) :
    (Instr.lookup 64 (.map (some w.heap.size)) (.int .i64 i) false).run Tryz.prog (mp w L) = .ok (rvN (look L i)) (mp w L) := by
  obtain ⟨r, h1, h2⟩ := find_look L i 0 0
  have e := look_any w.heap.size (mp w L) (ents 0 L).toArray L.length (MapKept.heap_alloc w _).1 i r (by simpa using h1)
  rw [e, h2]

theorem look_md (w : World) (L : List (Int × Nat)) (i : Int) :
    (Instr.lookup 64 (.map (some w.heap.size)) (.int .i64 i) false).run Tryz.prog (md w L) = .ok (rvN (look L i)) (md w L) := look_mp w.drew L i

end Go.Proofs.YtolnaodlghahlaaGreatDoor
