/- What the statements' walks take: whole instructions under letters; Decode of bytes that were made; the head of all statements. -/
import Derived.Test.YtolnaodlghahlaaGreatDoorDecEq
import Derived.Test.YtolnaodlghahlaaGreatDoorDecTabD
namespace Go.Proofs.YtolnaodlghahlaaGreatDoor
open Go.ChangeShapes Go.WideShapes Go.ChangeAt Go.RowKit
set_option linter.unusedVariables false
set_option maxRecDepth 20000

structure VlF (T : TypeId) (n : Nat) (Z : Array Value) (fs : Array Field) (ps : Array (Nat × Nat)) : Prop where
  v : Veil T n
  z : Z = insV Ins.zero
  agg : ∀ w, (isAgg T).run Tryz.prog w = .ok true w
  size : ∀ w, (sizeOf T).run Tryz.prog w = .ok n w
  zero : ∀ w, (zeroValue T).run Tryz.prog w = .ok (.agg Z) w
  under : ∀ w, (underlying T).run Tryz.prog w = .ok (.struct fs) w
  map : ∀ w, (Array.mapM (fun f : Field => Prod.mk f.offset <$> sizeOf f.type) fs).run Tryz.prog w = .ok ps w
  guard : ∀ w a b A B, (eqGuard .eql T a b (.agg A) (.agg B)).run Tryz.prog w = .ok () w
  zs : Z.size = n
  zn : Z.toList.length = n

theorem vlF : ∃ T n Z fs ps, VlF T n Z fs ps := by
  obtain ⟨T, n, h⟩ := veil
  obtain ⟨fs, ps, hu, hm⟩ := h.under
  exact ⟨T, n, insV Ins.zero, fs, ps, h, rfl, h.agg, h.size, h.zero, hu, hm, fun w a b A B => by rw [h.t]; exact guardI w a b A B, h.cells _, by rw [h.s]; rfl⟩

theorem VlF.ops {T : TypeId} {n : Nat} {Z : Array Value} {fs : Array Field} {ps : Array (Nat × Nat)} (h : VlF T n Z fs ps) :
    (∀ x, Op.load 28 x = Op.load T x) ∧ (∀ x y, Op.store 28 x y = Op.store T x y) ∧ Op.build 28 #[] = Op.build T #[] ∧ Op.alloc 28 = Op.alloc T ∧ ∀ x y, Op.binOp .eql 28 x y 28 = Op.binOp .eql T x y T := by
  rw [h.v.t]
  exact ⟨fun _ => rfl, fun _ _ => rfl, rfl, rfl, fun _ _ => rfl⟩

theorem VlF.eql {T : TypeId} {n : Nat} {Z : Array Value} {fs : Array Field} {ps : Array (Nat × Nat)} (h : VlF T n Z fs ps) (w : World) (x y : Ins) : (binOp .eql T (.agg (insV x)) (.agg (insV y))).run Tryz.prog w = .ok (.bool (decide (x = y))) w := by
  rw [h.v.t]
  exact eqlI w x y

theorem setRow_alloc (W : World) (c A : Array Value) (T : TypeId) : (W.alloc (.cells c T)).setRow W.heap.size A = W.alloc (.cells A T) := by
  unfold World.setRow World.alloc
  congr 1
  apply Array.ext_getElem?
  intro i
  rw [Array.getElem?_modify]
  by_cases h : W.heap.size = i
  · subst h; simp
  · simp only [h, if_false]
    by_cases h2 : i < W.heap.size
    · rw [Array.getElem?_push_lt h2, Array.getElem?_push_lt h2]
    · rw [Array.getElem?_eq_none (by simp; omega), Array.getElem?_eq_none (by simp; omega)]

/-- A new instruction is laid. -/
theorem VlF.new {T : TypeId} {n : Nat} {Z : Array Value} {fs : Array Field} {ps : Array (Nat × Nat)} (h : VlF T n Z fs ps) (x : Ins) (W : World) : (storeCells ⟨W.heap.size, 0, none⟩ (insV x).toList).run Tryz.prog (W.alloc (.cells Z T)) = .ok () (W.alloc (.cells (insV x) T)) := by
  rw [← setRow_alloc W Z (insV x) T, h.v.t]
  exact put_ins (MapKept.heap_alloc W (.cells Z 28)).1 (by rw [h.z]; rfl) x

/-- It is read where it lies. -/
theorem VlF.get {T : TypeId} {n : Nat} {Z : Array Value} {fs : Array Field} {ps : Array (Nat × Nat)} (h : VlF T n Z fs ps) {x : Ins} {W : World} {q : Nat} (hq : W.heap[q]? = some (.cells (insV x) T (0, 0))) : (loadCellsFrom ⟨q, 0, none⟩ 0 n #[]).run Tryz.prog W = .ok (insV x) W :=
  h.v.load (fun j v hv => by
    rw [cell_of_row W q (0 + j) _ _ _ hq, Nat.zero_add, ← Array.getElem?_toList]
    exact hv)

def bts (l : List Int) (j : Nat) : Int := l.getD j 0

theorem dec_two (hT : TabOk ruleOf) (w : World) (a b : Int) (ha : 0 ≤ a ∧ a < 256) (hb : 0 ≤ b ∧ b < 256) (x : Ins) (e : Int) (hx : decM ruleOf 2 (bts [a, b]) = (x, e)) :
    Calls Tryz.prog 11 #[.slice (some ⟨w.heap.size, 0, none⟩) 2 2] (w.alloc (.cells #[.int .u8 a, .int .u8 b] 5)) fun r w' => r = .returned (.tuple #[.agg (insV x), .int .i64 e]) ∧ Kp noB w w' := by
  have hh := (MapKept.heap_alloc w (.cells #[.int .u8 a, .int .u8 b] 5)).1
  refine (decode_ok ruleOf hT _ (some ⟨w.heap.size, 0, none⟩) 2 2 (bts [a, b]) (by decide) ?_ ?_).mono ?_
  · intro j hj
    refine ⟨w.heap.size, 0, rfl, by simp, ?_⟩
    rw [cell_of_row _ _ _ _ _ _ hh]
    rcases (by omega : j = 0 ∨ j = 1) with rfl | rfl <;> rfl
  · intro j hj
    rcases (by omega : j = 0 ∨ j = 1) with rfl | rfl
    · exact ha
    · exact hb
  · rintro r w' ⟨rfl, k⟩
    rw [hx]
    exact ⟨rfl, (Kp.alloc _ _ _).trans k⟩

theorem dec_one (hT : TabOk ruleOf) (w : World) (a : Int) (ha : 0 ≤ a ∧ a < 256) (x : Ins) (e : Int) (hx : decM ruleOf 1 (bts [a]) = (x, e)) :
    Calls Tryz.prog 11 #[.slice (some ⟨w.heap.size, 0, none⟩) 1 1] (w.alloc (.cells #[.int .u8 a] 5)) fun r w' => r = .returned (.tuple #[.agg (insV x), .int .i64 e]) ∧ Kp noB w w' := by
  have hh := (MapKept.heap_alloc w (.cells #[.int .u8 a] 5)).1
  refine (decode_ok ruleOf hT _ (some ⟨w.heap.size, 0, none⟩) 1 1 (bts [a]) (by decide) ?_ ?_).mono ?_
  · intro j hj
    refine ⟨w.heap.size, 0, rfl, by simp, ?_⟩
    rw [cell_of_row _ _ _ _ _ _ hh]
    obtain rfl : j = 0 := by omega
    rfl
  · intro j hj
    obtain rfl : j = 0 := by omega
    exact ha
  · rintro r w' ⟨rfl, k⟩
    rw [hx]
    exact ⟨rfl, (Kp.alloc _ _ _).trans k⟩

def addI : Ins := ⟨1, 0, 4, ⟨1, 0, 4, 0, 0, 0, 0, 0, 0⟩, ⟨1, 3, 4, 0, 0, 0, 0, 0, 0⟩, Opd.zero, 0, 2⟩

theorem dec_a1 : decM ruleOf 2 (bts [1, 216]) = (addI, 0) := by decide +kernel
theorem dec_a2 : decM ruleOf 2 (bts [141, 192]) = (Ins.zero, 60) := by decide +kernel
theorem dec_a3 : decM ruleOf 1 (bts [15]) = (Ins.zero, 61) := by decide +kernel

theorem VlF.add {T : TypeId} {n : Nat} {Z : Array Value} {fs : Array Field} {ps : Array (Nat × Nat)} (h : VlF T n Z fs ps) (w : World) : (binOp .eql T (.agg (insV addI)) (.agg #[.int .i64 1, .int .i64 0, .int .i64 4, .int .i64 1, .int .i64 0, .int .i64 4, .int .i64 0, .int .i64 0, .int .i64 0, .int .i64 0, .int .u32 0, .int .u32 0, .int .i64 1, .int .i64 3, .int .i64 4, .int .i64 0, .int .i64 0, .int .i64 0, .int .i64 0, .int .u32 0, .int .u32 0, .int .i64 0, .int .i64 0, .int .i64 0, .int .i64 0, .int .i64 0, .int .i64 0, .int .i64 0, .int .u32 0, .int .u32 0, .int .i64 0, .int .i64 2])).run Tryz.prog w = .ok (.bool true) w := h.eql w addI addI

end Go.Proofs.YtolnaodlghahlaaGreatDoor
