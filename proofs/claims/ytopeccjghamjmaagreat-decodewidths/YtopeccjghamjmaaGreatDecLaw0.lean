/- What the statements' walks take: whole instructions under letters; Decode of bytes that were made; the head of all statements. -/
import Derived.Test.YtopeccjghamjmaaGreatDecEq
import Derived.Test.YtopeccjghamjmaaGreatDecTabD
namespace Go.Proofs.YtopeccjghamjmaaGreat
open Go.ChangeShapes Go.WideShapes Go.ChangeAt Go.RowKit
set_option linter.unusedVariables false
set_option maxRecDepth 20000

structure VlF (T : TypeId) (n : Nat) (Z : Array Value) (fs : Array Field) (ps : Array (Nat × Nat)) : Prop where
  v : Veil T n
  z : Z = insV Ins.zero
  agg : ∀ w, (isAgg T).run Tryz.prog w = .ok true w
  size : ∀ w, (sizeOf T).run Tryz.prog w = .ok n w
  zero : ∀ w, (zeroValue T).run Tryz.prog w = .ok (.agg Z) w
  under : ∀ w, (underlying T).run Tryz.prog w = .ok (.struct fs) w
  map : ∀ w, (Array.mapM (fun f : Field => Prod.mk f.offset <$> sizeOf f.type) fs).run Tryz.prog w = .ok ps w
  guard : ∀ w a b A B, (eqGuard .eql T a b (.agg A) (.agg B)).run Tryz.prog w = .ok () w
  zs : Z.size = n
  zn : Z.toList.length = n

theorem vlF : ∃ T n Z fs ps, VlF T n Z fs ps := by
  obtain ⟨T, n, h⟩ := veil
  obtain ⟨fs, ps, hu, hm⟩ := h.under
  exact ⟨T, n, insV Ins.zero, fs, ps, h, rfl, h.agg, h.size, h.zero, hu, hm, fun w a b A B => by rw [h.t]; exact guardI w a b A B, h.cells _, by rw [h.s]; rfl⟩

theorem VlF.ops {T : TypeId} {n : Nat} {Z : Array Value} {fs : Array Field} {ps : Array (Nat × Nat)} (h : VlF T n Z fs ps) :
    (∀ x, Op.load 28 x = Op.load T x) ∧ (∀ x y, Op.store 28 x y = Op.store T x y) ∧ Op.build 28 #[] = Op.build T #[] ∧ Op.alloc 28 = Op.alloc T ∧ ∀ x y, Op.binOp .eql 28 x y 28 = Op.binOp .eql T x y T := by
  rw [h.v.t]
  exact ⟨fun _ => rfl, fun _ _ => rfl, rfl, rfl, fun _ _ => rfl⟩

theorem VlF.eql {T : TypeId} {n : Nat} {Z : Array Value} {fs : Array Field} {ps : Array (Nat × Nat)} (h : VlF T n Z fs ps) (w : World) (x y : Ins) : (binOp .eql T (.agg (insV x)) (.agg (insV y))).run Tryz.prog w = .ok (.bool (decide (x = y))) w := by
  rw [h.v.t]
  exact eqlI w x y

theorem setRow_alloc (W : World) (c A : Array Value) (T : TypeId) : (W.alloc (.cells c T)).setRow W.heap.size A = W.alloc (.cells A T) := by
  unfold World.setRow World.alloc
  congr 1
  apply Array.ext_getElem?
  intro i
  rw [Array.getElem?_modify]
  by_cases h : W.heap.size = i
  · subst h; simp
  · simp only [h, if_false]
    by_cases h2 : i < W.heap.size
    · rw [Array.getElem?_push_lt h2, Array.getElem?_push_lt h2]
    · rw [Array.getElem?_eq_none (by simp; omega), Array.getElem?_eq_none (by simp; omega)]

/-- A new instruction is laid. -/
theorem VlF.new {T : TypeId} {n : Nat} {Z : Array Value} {fs : Array Field} {ps : Array (Nat × Nat)} (h : VlF T n Z fs ps) (x : Ins) (W : World) : (storeCells ⟨W.heap.size, 0, none⟩ (insV x).toList).run Tryz.prog (W.alloc (.cells Z T)) = .ok () (W.alloc (.cells (insV x) T)) := by
  rw [← setRow_alloc W Z (insV x) T, h.v.t]
  exact put_ins (MapKept.heap_alloc W (.cells Z 28)).1 (by rw [h.z]; rfl) x

/-- It is read where it lies. -/
theorem VlF.get {T : TypeId} {n : Nat} {Z : Array Value} {fs : Array Field} {ps : Array (Nat × Nat)} (h : VlF T n Z fs ps) {x : Ins} {W : World} {q : Nat} (hq : W.heap[q]? = some (.cells (insV x) T (0, 0))) : (loadCellsFrom ⟨q, 0, none⟩ 0 n #[]).run Tryz.prog W = .ok (insV x) W :=
  h.v.load (fun j v hv => by
    rw [cell_of_row W q (0 + j) _ _ _ hq, Nat.zero_add, ← Array.getElem?_toList]
    exact hv)

def bts (l : List Int) (j : Nat) : Int := l.getD j 0

theorem dec_two (hT : TabOk ruleOf) (w : World) (a b : Int) (ha : 0 ≤ a ∧ a < 256) (hb : 0 ≤ b ∧ b < 256) (x : Ins) (e : Int) (hx : decM ruleOf 2 (bts [a, b]) = (x, e)) :
    Calls Tryz.prog 10 #[.slice (some ⟨w.heap.size, 0, none⟩) 2 2] (w.alloc (.cells #[.int .u8 a, .int .u8 b] 5)) fun r w' => r = .returned (.tuple #[.agg (insV x), .int .i64 e]) ∧ Kp noB w w' := by
  have hh := (MapKept.heap_alloc w (.cells #[.int .u8 a, .int .u8 b] 5)).1
  refine (decode_ok ruleOf hT _ (some ⟨w.heap.size, 0, none⟩) 2 2 (bts [a, b]) (by decide) ?_ ?_).mono ?_
  · intro j hj
    refine ⟨w.heap.size, 0, rfl, by simp, ?_⟩
    rw [cell_of_row _ _ _ _ _ _ hh]
    rcases (by omega : j = 0 ∨ j = 1) with rfl | rfl <;> rfl
  · intro j hj
    rcases (by omega : j = 0 ∨ j = 1) with rfl | rfl
    · exact ha
    · exact hb
  · rintro r w' ⟨rfl, k⟩
    rw [hx]
    exact ⟨rfl, (Kp.alloc _ _ _).trans k⟩

theorem dec_one (hT : TabOk ruleOf) (w : World) (a : Int) (ha : 0 ≤ a ∧ a < 256) (x : Ins) (e : Int) (hx : decM ruleOf 1 (bts [a]) = (x, e)) :
    Calls Tryz.prog 10 #[.slice (some ⟨w.heap.size, 0, none⟩) 1 1] (w.alloc (.cells #[.int .u8 a] 5)) fun r w' => r = .returned (.tuple #[.agg (insV x), .int .i64 e]) ∧ Kp noB w w' := by
  have hh := (MapKept.heap_alloc w (.cells #[.int .u8 a] 5)).1
  refine (decode_ok ruleOf hT _ (some ⟨w.heap.size, 0, none⟩) 1 1 (bts [a]) (by decide) ?_ ?_).mono ?_
  · intro j hj
    refine ⟨w.heap.size, 0, rfl, by simp, ?_⟩
    rw [cell_of_row _ _ _ _ _ _ hh]
    obtain rfl : j = 0 := by omega
    rfl
  · intro j hj
    obtain rfl : j = 0 := by omega
    exact ha
  · rintro r w' ⟨rfl, k⟩
    rw [hx]
    exact ⟨rfl, (Kp.alloc _ _ _).trans k⟩

def addI : Ins := ⟨1, 0, 4, ⟨1, 0, 4, 0, 0, 0, 0, 0, 0⟩, ⟨1, 3, 4, 0, 0, 0, 0, 0, 0⟩, Opd.zero, 0, 2⟩

theorem dec_a1 : decM ruleOf 2 (bts [1, 216]) = (addI, 0) := by decide +kernel
theorem dec_a2 : decM ruleOf 2 (bts [141, 192]) = (Ins.zero, 60) := by decide +kernel
theorem dec_a3 : decM ruleOf 1 (bts [15]) = (Ins.zero, 61) := by decide +kernel

theorem VlF.add {T : TypeId} {n : Nat} {Z : Array Value} {fs : Array Field} {ps : Array (Nat × Nat)} (h : VlF T n Z fs ps) (w : World) : (binOp .eql T (.agg (insV addI)) (.agg #[.int .i64 1, .int .i64 0, .int .i64 4, .int .i64 1, .int .i64 0, .int .i64 4, .int .i64 0, .int .i64 0, .int .i64 0, .int .i64 0, .int .u32 0, .int .u32 0, .int .i64 1, .int .i64 3, .int .i64 4, .int .i64 0, .int .i64 0, .int .i64 0, .int .i64 0, .int .u32 0, .int .u32 0, .int .i64 0, .int .i64 0, .int .i64 0, .int .i64 0, .int .i64 0, .int .i64 0, .int .i64 0, .int .u32 0, .int .u32 0, .int .i64 0, .int .i64 2])).run Tryz.prog w = .ok (.bool true) w := h.eql w addI addI

set_option maxHeartbeats 2000000 in
theorem awake_ok (hT : TabOk ruleOf) (w : World) : Calls Tryz.prog 9 #[] w fun e w' => e = .returned (.bool true) ∧ Kp noB w w' := by
  obtain ⟨T, nI, Z, fsI, psI, h⟩ := vlF
  have H : Hid _ := h
  have HT : Hid _ := hT
  obtain ⟨vl, vs, vb, va, ve⟩ := h.ops
  have v1 := h.agg
  have v2 := h.size
  have v3 := h.zero
  have v4 := h.under
  have v5 := h.map
  have v6 := h.guard
  have v7 := h.zs
  have v8 := h.zn
  have v9 := h.add
  have n1 := h.new addI
  have n2 := h.new Ins.zero
  have s1 := h.v.cells addI
  have s2 := h.v.cells Ins.zero
  have c1 := dec_two hT w 1 216 (by decide) (by decide) _ _ dec_a1
  clear h hT
  go_enter Tryz.func9, Tryz.ntmps9
  simp only [vl, vs, va, ve]
  clear vl vs vb va ve
  go_wp2_with fail
  refine c1.mono ?_; rintro e w1 ⟨rfl, k1⟩
  have K1 : Hid _ := k1.trans (Kp.alloc noB w1 (.cells (insV addI) T))
  have hx := (MapKept.heap_alloc w1 (.cells (insV addI) T)).1
  have c2 := dec_two HT.out (w1.alloc (.cells (insV addI) T)) 141 192 (by decide) (by decide) _ _ dec_a2
  rw [show (w1.alloc (.cells (insV addI) T)).heap.size = w1.heap.size + 1 by simp] at c2
  clear c1 k1
  go_wp2_with fail
  refine c2.mono ?_; rintro e w2 ⟨rfl, k2⟩
  have K2 : Hid _ := (K1.out.trans k2).trans (Kp.alloc noB w2 (.cells (insV Ins.zero) T))
  have hx2 := heap_kept hx (k2.trans (Kp.alloc noB w2 (.cells (insV Ins.zero) T))) id
  have c3 := dec_one HT.out (w2.alloc (.cells (insV Ins.zero) T)) 15 (by decide) _ _ dec_a3
  rw [show (w2.alloc (.cells (insV Ins.zero) T)).heap.size = w2.heap.size + 1 by simp] at c3
  clear c2 k2 K1 hx
  go_wp2_with fail
  refine c3.mono ?_; rintro e w3 ⟨rfl, k3⟩
  have K3 : Hid _ := (K2.out.trans k3).trans (Kp.alloc noB w3 (.cells (insV Ins.zero) T))
  have hx3 := heap_kept hx2 (k3.trans (Kp.alloc noB w3 (.cells (insV Ins.zero) T))) id
  clear c3 k3 K2 hx2
  have hl : ∀ o1 o2, (loadCellsFrom ⟨w1.heap.size, 0, none⟩ 0 nI #[]).run Tryz.prog (((w3.alloc (.cells (insV Ins.zero) T)).alloc o1).alloc o2) = .ok (insV addI) (((w3.alloc (.cells (insV Ins.zero) T)).alloc o1).alloc o2) := fun o1 o2 => H.out.get (heap_kept hx3 ((Kp.alloc noB _ o1).trans (Kp.alloc noB _ o2)) id)
  have HK : Hid (∀ o1 o2, Kp noB w (((w3.alloc (.cells (insV Ins.zero) T)).alloc o1).alloc o2)) := fun o1 o2 => (K3.out.trans (Kp.alloc noB _ o1)).trans (Kp.alloc noB _ o2)
  clear hx3 K3
  go_wp2
  go_ret
  exact ⟨rfl, HK.out _ _⟩

end Go.Proofs.YtopeccjghamjmaaGreat
