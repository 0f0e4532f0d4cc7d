/- The map of modes: it is made with its three entries; looking it up gives an entry, or none. What the entries' functions answer. -/
import Derived.Test.YteodnlloilmoaaaPtBase
import Derived.Carry
namespace Go.Proofs.Yteodnlloilmoaaa
open Go.ChangeShapes Go.WideShapes Go.ChangeAt Go.RowKit
set_option linter.unusedVariables false

theorem keyT : Try.prog.underlying 5 = some (.int .u8) := by kernel_rfl
theorem mapT : Try.prog.underlying 69 = some (.map 5 67) := by kernel_rfl
theorem zeroT (w : World) : (zeroValue 67).run Try.prog w = .ok (.agg #[.nilFunc, .nilFunc]) w := by kernel_rfl

theorem alloc_set (w : World) (o o' : Obj) : ({ w.alloc o with heap := (w.alloc o).heap.setIfInBounds w.heap.size o' } : World) = w.alloc o' := by
  have e : (w.alloc o).heap.setIfInBounds w.heap.size o' = (w.alloc o').heap := by
    show (w.heap.push o).setIfInBounds w.heap.size o' = w.heap.push o'
    apply Array.ext
    · simp
    · intro i h1 h2
      have h3 : i < w.heap.size + 1 := by simpa using h2
      by_cases h : w.heap.size = i
      · subst h; simp
      · have h4 : i < w.heap.size := by omega
        rw [Array.getElem_setIfInBounds_ne (h := h), Array.getElem_push_lt h4, Array.getElem_push_lt h4]
        simp; omega
  rw [e]
  rfl

theorem put_new (w : World) (es : Array MapEntry) (n : Nat) (i : Int) (v : Value) (hf : Instr.findNow (.int .u8) (.int .u8 i) es.toList 0 = some none) :
    (Instr.mapUpdate 69 (.map (some w.heap.size)) (.int .u8 i) v).run Try.prog (w.alloc (.map es n)) = .ok () (w.alloc (.map (es.push ⟨.int .u8 i, v, n⟩) (n + 1))) := by
  have hb : (w.alloc (.map es n)).heap[w.heap.size]? = some (.map es n) := (MapKept.heap_alloc w (.map es n)).1
  have hc := MapKept.run_checkKey (P := Try.prog) (w := w.alloc (.map es n)) keyT (k := .int .u8 i) (by simp [MapKept.IsKey]) false 9999
  have hd := MapKept.run_findKey (P := Try.prog) (w := w.alloc (.map es n)) keyT hf
  have hs := MapKept.run_setObj_map (P := Try.prog) (.map (es.push ⟨.int .u8 i, v, n⟩) (n + 1)) hb
  rw [alloc_set] at hs
  simp [Instr.mapUpdate, run_underlying mapT, MapKept.run_getObj_map hb, hc, hd, hs, Result.andThen]

theorem look_any (b : Nat) (w : World) (es : Array MapEntry) (n : Nat) (hb : w.heap[b]? = some (.map es n)) (i : Int) (r : Option (Nat × Value)) (hf : Instr.findNow (.int .u8) (.int .u8 i) es.toList 0 = some r) :
    (Instr.lookup 69 (.map (some b)) (.int .u8 i) true).run Try.prog w = .ok (match r with | some (_, v) => .tuple #[v, .bool true] | none => .tuple #[.agg #[.nilFunc, .nilFunc], .bool false]) w := by
  have hc := MapKept.run_checkKey (P := Try.prog) (w := w) keyT (k := .int .u8 i) (by simp [MapKept.IsKey]) es.isEmpty 9999
  have hd := MapKept.run_findKey (P := Try.prog) (w := w) keyT hf
  cases r with
  | none => simp [Instr.lookup, run_underlying mapT, MapKept.run_getObj_map hb, hc, hd, Result.andThen]
  | some p => simp [Instr.lookup, run_underlying mapT, MapKept.run_getObj_map hb, hc, hd, Result.andThen]

def fL : Value := .func (.func 31) #[] #[]
def fV0 : Value := .func (.func 32) #[] #[]
def fL0 : Value := .func (.func 33) #[] #[]
def fL2 (b : Nat) : Value := .func (.func 34) #[] #[.pointer (some ⟨b, 0, none⟩)]
def fL3 : Value := .func (.func 35) #[] #[]

/-- The entries; b: where the function 'left' lies. -/
def mdEs (b : Nat) : Array MapEntry := #[⟨.int .u8 0, .agg #[fV0, fL0], 0⟩, ⟨.int .u8 2, .agg #[fL, fL2 b], 1⟩, ⟨.int .u8 3, .agg #[fL, fL3], 2⟩]

def mdL : Obj := .cells #[fL] 64

theorem modes_any (w : World) :
    Calls Try.prog 29 #[] w fun e w' => e = .returned (.map (some (w.heap.size + 1))) ∧ w' = (w.alloc mdL).alloc (.map (mdEs w.heap.size) 3) := by
  unfold mdL mdEs fL fV0 fL0 fL2 fL3
  have hmm := @run_makeMap Try.prog
  have s1 : (w.alloc (.cells #[.func (.func 31) #[] #[]] 64)).heap.size = w.heap.size + 1 := by simp
  have p0 := put_new (w.alloc (.cells #[.func (.func 31) #[] #[]] 64)) #[] 0 0 (.agg #[.func (.func 32) #[] #[], .func (.func 33) #[] #[]]) (by rfl)
  have p1 := put_new (w.alloc (.cells #[.func (.func 31) #[] #[]] 64)) #[⟨.int .u8 0, .agg #[.func (.func 32) #[] #[], .func (.func 33) #[] #[]], 0⟩] 1 2 (.agg #[.func (.func 31) #[] #[], .func (.func 34) #[] #[.pointer (some ⟨w.heap.size, 0, none⟩)]]) (by rfl)
  have p2 := put_new (w.alloc (.cells #[.func (.func 31) #[] #[]] 64)) #[⟨.int .u8 0, .agg #[.func (.func 32) #[] #[], .func (.func 33) #[] #[]], 0⟩, ⟨.int .u8 2, .agg #[.func (.func 31) #[] #[], .func (.func 34) #[] #[.pointer (some ⟨w.heap.size, 0, none⟩)]], 1⟩] 2 3 (.agg #[.func (.func 31) #[] #[], .func (.func 35) #[] #[]]) (by rfl)
  rw [s1] at p0 p1 p2
  simp only [List.push_toArray, List.cons_append, List.nil_append, Nat.zero_add, Nat.reduceAdd] at p0 p1 p2
  go_enter Try.func29, Try.ntmps29
  go_wp2
  go_ret
  exact ⟨rfl, rfl⟩
end Go.Proofs.Yteodnlloilmoaaa
