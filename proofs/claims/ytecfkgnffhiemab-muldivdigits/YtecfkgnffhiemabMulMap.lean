/- Contracts of the map of adjustments: it is made with its six entries, and looking it up gives the entry's function, or none. -/
import Derived.Test.YtecfkgnffhiemabMulDig
import Derived.MapKept
import Derived.Carry
namespace Go.Proofs.Ytecfkgnffhiemab
open Go.ChangeShapes Go.WideShapes Go.ChangeAt Go.RowKit
set_option linter.unusedVariables false

theorem keyT : Try.prog.underlying 3 = some (.int .i64) := by kernel_rfl
theorem mapT : Try.prog.underlying 38 = some (.map 3 36) := by kernel_rfl
theorem zeroT (w : World) : (zeroValue 36).run Try.prog w = .ok .nilFunc w := by kernel_rfl

theorem alloc_set (w : World) (o o' : Obj) : ({ w.alloc o with heap := (w.alloc o).heap.setIfInBounds w.heap.size o' } : World) = w.alloc o' := by
  have e : (w.alloc o).heap.setIfInBounds w.heap.size o' = (w.alloc o').heap := by
    show (w.heap.push o).setIfInBounds w.heap.size o' = w.heap.push o'
    apply Array.ext
    · simp
    · intro i h1 h2
      have h3 : i < w.heap.size + 1 := by simpa using h2
      by_cases h : w.heap.size = i
      · subst h; simp
      · have h4 : i < w.heap.size := by omega
        rw [Array.getElem_setIfInBounds_ne (h := h), Array.getElem_push_lt h4, Array.getElem_push_lt h4]
        simp; omega
  rw [e]
  rfl

theorem put_new (w : World) (es : Array MapEntry) (n : Nat) (i : Int) (v : Value) (hf : Instr.findNow (.int .i64) (.int .i64 i) es.toList 0 = some none) :
    (Instr.mapUpdate 38 (.map (some w.heap.size)) (.int .i64 i) v).run Try.prog (w.alloc (.map es n)) = .ok () (w.alloc (.map (es.push ⟨.int .i64 i, v, n⟩) (n + 1))) := by
  have hb : (w.alloc (.map es n)).heap[w.heap.size]? = some (.map es n) := (MapKept.heap_alloc w (.map es n)).1
  have hc := MapKept.run_checkKey (P := Try.prog) (w := w.alloc (.map es n)) keyT (k := .int .i64 i) (by simp [MapKept.IsKey]) false 9999
  have hd := MapKept.run_findKey (P := Try.prog) (w := w.alloc (.map es n)) keyT hf
  have hs := MapKept.run_setObj_map (P := Try.prog) (.map (es.push ⟨.int .i64 i, v, n⟩) (n + 1)) hb
  rw [alloc_set] at hs
  simp [Instr.mapUpdate, run_underlying mapT, MapKept.run_getObj_map hb, hc, hd, hs, Result.andThen]

theorem look_any (b : Nat) (w : World) (es : Array MapEntry) (n : Nat) (hb : w.heap[b]? = some (.map es n)) (i : Int) (r : Option (Nat × Value)) (hf : Instr.findNow (.int .i64) (.int .i64 i) es.toList 0 = some r) :
    (Instr.lookup 38 (.map (some b)) (.int .i64 i) true).run Try.prog w = .ok (match r with | some (_, v) => .tuple #[v, .bool true] | none => .tuple #[.nilFunc, .bool false]) w := by
  have hc := MapKept.run_checkKey (P := Try.prog) (w := w) keyT (k := .int .i64 i) (by simp [MapKept.IsKey]) es.isEmpty 9999
  have hd := MapKept.run_findKey (P := Try.prog) (w := w) keyT hf
  cases r with
  | none => simp [Instr.lookup, run_underlying mapT, MapKept.run_getObj_map hb, hc, hd, Result.andThen]
  | some p => simp [Instr.lookup, run_underlying mapT, MapKept.run_getObj_map hb, hc, hd, Result.andThen]

def adjEs : Array MapEntry := #[⟨.int .i64 0, .func (.func 21) #[] #[], 0⟩, ⟨.int .i64 1, .func (.func 23) #[] #[], 1⟩, ⟨.int .i64 2, .func (.func 25) #[] #[], 2⟩, ⟨.int .i64 3, .func (.func 27) #[] #[], 3⟩, ⟨.int .i64 4, .func (.func 28) #[] #[], 4⟩, ⟨.int .i64 5, .func (.func 29) #[] #[], 5⟩]

theorem adjustments_any (w : World) :
    Calls Try.prog 9 #[] w fun e w' => e = .returned (.map (some w.heap.size)) ∧ w' = w.alloc (.map adjEs 6) := by
  have hmm := @run_makeMap Try.prog
  have p0 : (Instr.mapUpdate 38 (.map (some w.heap.size)) (.int .i64 0) (.func (.func 21) #[] #[])).run Try.prog (w.alloc (.map #[] 0)) = .ok () (w.alloc (.map #[⟨.int .i64 0, .func (.func 21) #[] #[], 0⟩] 1)) := put_new w _ _ _ _ (by rfl)
  have p1 : (Instr.mapUpdate 38 (.map (some w.heap.size)) (.int .i64 1) (.func (.func 23) #[] #[])).run Try.prog (w.alloc (.map #[⟨.int .i64 0, .func (.func 21) #[] #[], 0⟩] 1)) = .ok () (w.alloc (.map #[⟨.int .i64 0, .func (.func 21) #[] #[], 0⟩, ⟨.int .i64 1, .func (.func 23) #[] #[], 1⟩] 2)) := put_new w _ _ _ _ (by rfl)
  have p2 : (Instr.mapUpdate 38 (.map (some w.heap.size)) (.int .i64 2) (.func (.func 25) #[] #[])).run Try.prog (w.alloc (.map #[⟨.int .i64 0, .func (.func 21) #[] #[], 0⟩, ⟨.int .i64 1, .func (.func 23) #[] #[], 1⟩] 2)) = .ok () (w.alloc (.map #[⟨.int .i64 0, .func (.func 21) #[] #[], 0⟩, ⟨.int .i64 1, .func (.func 23) #[] #[], 1⟩, ⟨.int .i64 2, .func (.func 25) #[] #[], 2⟩] 3)) := put_new w _ _ _ _ (by rfl)
  have p3 : (Instr.mapUpdate 38 (.map (some w.heap.size)) (.int .i64 3) (.func (.func 27) #[] #[])).run Try.prog (w.alloc (.map #[⟨.int .i64 0, .func (.func 21) #[] #[], 0⟩, ⟨.int .i64 1, .func (.func 23) #[] #[], 1⟩, ⟨.int .i64 2, .func (.func 25) #[] #[], 2⟩] 3)) = .ok () (w.alloc (.map #[⟨.int .i64 0, .func (.func 21) #[] #[], 0⟩, ⟨.int .i64 1, .func (.func 23) #[] #[], 1⟩, ⟨.int .i64 2, .func (.func 25) #[] #[], 2⟩, ⟨.int .i64 3, .func (.func 27) #[] #[], 3⟩] 4)) := put_new w _ _ _ _ (by rfl)
  have p4 : (Instr.mapUpdate 38 (.map (some w.heap.size)) (.int .i64 4) (.func (.func 28) #[] #[])).run Try.prog (w.alloc (.map #[⟨.int .i64 0, .func (.func 21) #[] #[], 0⟩, ⟨.int .i64 1, .func (.func 23) #[] #[], 1⟩, ⟨.int .i64 2, .func (.func 25) #[] #[], 2⟩, ⟨.int .i64 3, .func (.func 27) #[] #[], 3⟩] 4)) = .ok () (w.alloc (.map #[⟨.int .i64 0, .func (.func 21) #[] #[], 0⟩, ⟨.int .i64 1, .func (.func 23) #[] #[], 1⟩, ⟨.int .i64 2, .func (.func 25) #[] #[], 2⟩, ⟨.int .i64 3, .func (.func 27) #[] #[], 3⟩, ⟨.int .i64 4, .func (.func 28) #[] #[], 4⟩] 5)) := put_new w _ _ _ _ (by rfl)
  have p5 : (Instr.mapUpdate 38 (.map (some w.heap.size)) (.int .i64 5) (.func (.func 29) #[] #[])).run Try.prog (w.alloc (.map #[⟨.int .i64 0, .func (.func 21) #[] #[], 0⟩, ⟨.int .i64 1, .func (.func 23) #[] #[], 1⟩, ⟨.int .i64 2, .func (.func 25) #[] #[], 2⟩, ⟨.int .i64 3, .func (.func 27) #[] #[], 3⟩, ⟨.int .i64 4, .func (.func 28) #[] #[], 4⟩] 5)) = .ok () (w.alloc (.map #[⟨.int .i64 0, .func (.func 21) #[] #[], 0⟩, ⟨.int .i64 1, .func (.func 23) #[] #[], 1⟩, ⟨.int .i64 2, .func (.func 25) #[] #[], 2⟩, ⟨.int .i64 3, .func (.func 27) #[] #[], 3⟩, ⟨.int .i64 4, .func (.func 28) #[] #[], 4⟩, ⟨.int .i64 5, .func (.func 29) #[] #[], 5⟩] 6)) := put_new w _ _ _ _ (by rfl)
  go_enter Try.func9, Try.ntmps9
  go_wp2
  go_ret
  exact ⟨rfl, rfl⟩

theorem look_none (b : Nat) (w : World) (hb : w.heap[b]? = some (.map adjEs 6)) (i : Int) (h : i < 0 ∨ 5 < i) :
    (Instr.lookup 38 (.map (some b)) (.int .i64 i) true).run Try.prog w = .ok (.tuple #[.nilFunc, .bool false]) w := by
  refine look_any b w adjEs 6 hb i none ?_
  have ne : ∀ k : Int, 0 ≤ k → k ≤ 5 → (i == k) = false := fun k h0 h1 => by simp; omega
  simp [adjEs, Instr.findNow, Instr.sameNow, ne 0 (by decide) (by decide), ne 1 (by decide) (by decide), ne 2 (by decide) (by decide), ne 3 (by decide) (by decide), ne 4 (by decide) (by decide), ne 5 (by decide) (by decide)]

theorem look_0 (b : Nat) (w : World) (hb : w.heap[b]? = some (.map adjEs 6)) :
    (Instr.lookup 38 (.map (some b)) (.int .i64 0) true).run Try.prog w = .ok (.tuple #[.func (.func 21) #[] #[], .bool true]) w :=
  look_any b w adjEs 6 hb 0 (some (0, .func (.func 21) #[] #[])) (by rfl)

theorem look_1 (b : Nat) (w : World) (hb : w.heap[b]? = some (.map adjEs 6)) :
    (Instr.lookup 38 (.map (some b)) (.int .i64 1) true).run Try.prog w = .ok (.tuple #[.func (.func 23) #[] #[], .bool true]) w :=
  look_any b w adjEs 6 hb 1 (some (1, .func (.func 23) #[] #[])) (by rfl)

theorem look_2 (b : Nat) (w : World) (hb : w.heap[b]? = some (.map adjEs 6)) :
    (Instr.lookup 38 (.map (some b)) (.int .i64 2) true).run Try.prog w = .ok (.tuple #[.func (.func 25) #[] #[], .bool true]) w :=
  look_any b w adjEs 6 hb 2 (some (2, .func (.func 25) #[] #[])) (by rfl)

theorem look_3 (b : Nat) (w : World) (hb : w.heap[b]? = some (.map adjEs 6)) :
    (Instr.lookup 38 (.map (some b)) (.int .i64 3) true).run Try.prog w = .ok (.tuple #[.func (.func 27) #[] #[], .bool true]) w :=
  look_any b w adjEs 6 hb 3 (some (3, .func (.func 27) #[] #[])) (by rfl)

theorem look_4 (b : Nat) (w : World) (hb : w.heap[b]? = some (.map adjEs 6)) :
    (Instr.lookup 38 (.map (some b)) (.int .i64 4) true).run Try.prog w = .ok (.tuple #[.func (.func 28) #[] #[], .bool true]) w :=
  look_any b w adjEs 6 hb 4 (some (4, .func (.func 28) #[] #[])) (by rfl)

theorem look_5 (b : Nat) (w : World) (hb : w.heap[b]? = some (.map adjEs 6)) :
    (Instr.lookup 38 (.map (some b)) (.int .i64 5) true).run Try.prog w = .ok (.tuple #[.func (.func 29) #[] #[], .bool true]) w :=
  look_any b w adjEs 6 hb 5 (some (5, .func (.func 29) #[] #[])) (by rfl)
end Go.Proofs.Ytecfkgnffhiemab
