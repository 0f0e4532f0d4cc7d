/- The document's timer: what it means that a world holds it; a counter is loaded and stored as a whole. -/
import Derived.Test.YteodnlloilmoaaaPtAwake
import Derived.Laws.CopyRow
import Derived.Deep.MidRow
namespace Go.Proofs.Yteodnlloilmoaaa
open Go.ChangeShapes Go.WideShapes Go.ChangeAt Go.RowKit
set_option linter.unusedVariables false
set_option maxRecDepth 20000

structure RC where
  mode : Int
  how : Int
  len : Int
  began : Int
  st : Bool
  wants : Bool
  fst : Int
  upper : Bool
  held : Bool
  value : Int

def chV (r : RC) : Array Value := #[.int .i64 r.mode, .int .i64 r.how, .int .u64 r.len, .int .u64 r.began, .bool r.st, .bool r.wants, .int .u8 r.fst, .bool r.upper, .bool r.held, .int .u64 r.value]

def RC.zero : RC := ⟨0, 0, 0, 0, false, false, 0, false, false, 0⟩

theorem chV_size (r : RC) : (chV r).size = 10 := rfl

theorem one_chV (r : RC) : ∀ v ∈ (chV r).toList, v.oneCell' = true := by
  intro v hv
  simp only [chV, List.mem_cons, List.not_mem_nil, or_false] at hv
  rcases hv with rfl | rfl | rfl | rfl | rfl | rfl | rfl | rfl | rfl | rfl <;> rfl

/-- Whole counters: the type's number and its size are letters. -/
structure VlC (T : TypeId) (n : Nat) (Z : Array Value) (fs : Array Field) (ps : Array (Nat × Nat)) : Prop where
  t : T = 50
  s : n = 10
  z : Z = chV RC.zero
  agg : ∀ w, (isAgg T).run Try.prog w = .ok true w
  size : ∀ w, (sizeOf T).run Try.prog w = .ok n w
  zero : ∀ w, (zeroValue T).run Try.prog w = .ok (.agg Z) w
  under : ∀ w, (underlying T).run Try.prog w = .ok (.struct fs) w
  map : ∀ w, (Array.mapM (fun f : Field => Prod.mk f.offset <$> sizeOf f.type) fs).run Try.prog w = .ok ps w
  zs : Z.size = n

theorem vlC : ∃ T n Z fs ps, VlC T n Z fs ps :=
  ⟨_, _, _, (match Try.prog.underlying 50 with | some (.struct f) => f | _ => #[]), #[(0, 1), (1, 1), (2, 1), (3, 1), (4, 1), (5, 1), (6, 1), (7, 1), (8, 1), (9, 1)], rfl, rfl, rfl, fun w => by kernel_rfl, fun w => by kernel_rfl, fun w => by kernel_rfl, fun w => by kernel_rfl, fun w => by kernel_rfl, rfl⟩

theorem VlC.ops {T : TypeId} {n : Nat} {Z : Array Value} {fs : Array Field} {ps : Array (Nat × Nat)} (h : VlC T n Z fs ps) :
    (∀ x, Op.load 50 x = Op.load T x) ∧ (∀ x y, Op.store 50 x y = Op.store T x y) ∧ Op.alloc 50 = Op.alloc T ∧ ∀ x, Op.box 50 x = Op.box T x := by
  rw [h.t]
  exact ⟨fun _ => rfl, fun _ _ => rfl, rfl, fun _ => rfl⟩

/-- A counter in a block of its own. -/
def KAt (w : World) (q : Nat) (r : RC) : Prop := w.heap[q]? = some (.cells (chV r) 50 (0, 0))

def chL (r : RC) : List Value := [.int .i64 r.mode, .int .i64 r.how, .int .u64 r.len, .int .u64 r.began, .bool r.st, .bool r.wants, .int .u8 r.fst, .bool r.upper, .bool r.held, .int .u64 r.value]
theorem chL_is (r : RC) : (chV r).toList = chL r := rfl
theorem chL_len (r : RC) : (chL r).length = 10 := rfl
def rowR (g : Nat → RC) : Array Value := (chL (g 0) ++ (chL (g 1) ++ chL (g 2))).toArray

/-- The three. -/
structure RAt (w : World) (R : Nat) (g : Nat → RC) : Prop where
  blk : w.heap[R]? = some (.cells (rowR g) 53 (0, 0))

def updR (g : Nat → RC) (i : Nat) (r : RC) : Nat → RC := fun j => if j = i then r else g j
theorem updR_at (g : Nat → RC) (i : Nat) (r : RC) : updR g i r i = r := by unfold updR; rw [if_pos rfl]
theorem updR_ne (g : Nat → RC) {i j : Nat} (r : RC) (h : j ≠ i) : updR g i r j = g j := by unfold updR; rw [if_neg h]

theorem KAt.kept {S : Nat → Prop} {w w' : World} {q : Nat} {r : RC} (h : KAt w q r) (k : Kp S w w') (hS : ¬ S q) : KAt w' q r := heap_kept h k hS
theorem RAt.kept {S : Nat → Prop} {w w' : World} {R : Nat} {g : Nat → RC} (h : RAt w R g) (k : Kp S w w') (hS : ¬ S R) : RAt w' R g := ⟨heap_kept h.blk k hS⟩
theorem KAt.lt {w : World} {q : Nat} {r : RC} (h : KAt w q r) : q < w.heap.size := heap_lt h
theorem RAt.lt {w : World} {R : Nat} {g : Nat → RC} (h : RAt w R g) : R < w.heap.size := heap_lt h.blk
theorem RAt.drew {w : World} {R : Nat} {g : Nat → RC} (h : RAt w R g) : RAt w.drew R g := h.kept (Kp.refl noB w).drew id

theorem Kp.setRow {S : Nat → Prop} (w : World) {g : Nat} (hp : S g) (cs : Array Value) : Kp S w (w.setRow g cs) :=
  ⟨rfl, rfl, rfl, by simp [World.setRow], fun k hk hs => setRow_other w g k cs (fun e => hs (e ▸ hp))⟩

section
variable {T : TypeId} {n : Nat} {Z : Array Value} {fs : Array Field} {ps : Array (Nat × Nat)}

theorem VlC.load (h : VlC T n Z fs ps) {w : World} {q o : Nat} {r : RC} (hr : w.rangeAt q o (chV r).toList) : (loadCellsFrom ⟨q, o, none⟩ 0 n #[]).run Try.prog w = .ok (chV r) w := by
  have e := run_loadCells_list (P := Try.prog) w ⟨q, o, none⟩ (chV r).toList (fun j v hv => by rw [Addr.add_mid]; exact hr j v hv)
  rw [h.s]
  exact e

theorem VlC.get (h : VlC T n Z fs ps) {w : World} {q : Nat} {r : RC} (hq : KAt w q r) : (loadCellsFrom ⟨q, 0, none⟩ 0 n #[]).run Try.prog w = .ok (chV r) w :=
  h.load (fun j v hv => by
    rw [cell_of_row w q (0 + j) _ _ _ hq, Nat.zero_add, ← Array.getElem?_toList]
    exact hv)

theorem row_get (g : Nat → RC) {i : Nat} (hi : i < 3) {j : Nat} {v : Value} (hv : (chV (g i)).toList[j]? = some v) : (rowR g)[10 * i + j]? = some v := by
  have hj : j < 10 := (List.getElem?_eq_some_iff.1 hv).1
  rw [chL_is] at hv
  unfold rowR
  rw [List.getElem?_toArray]
  rcases (by omega : i = 0 ∨ i = 1 ∨ i = 2) with rfl | rfl | rfl
  · rw [List.getElem?_append_left (by rw [chL_len]; omega), show 10 * 0 + j = j by omega]
    exact hv
  · rw [List.getElem?_append_right (by rw [chL_len]; omega), chL_len, show 10 * 1 + j - 10 = j by omega, List.getElem?_append_left (by rw [chL_len]; omega)]
    exact hv
  · rw [List.getElem?_append_right (by rw [chL_len]; omega), chL_len, show 10 * 2 + j - 10 = 10 + j by omega, List.getElem?_append_right (by rw [chL_len]; omega), chL_len, show 10 + j - 10 = j by omega]
    exact hv

theorem VlC.getR (h : VlC T n Z fs ps) {w : World} {R : Nat} {g : Nat → RC} (hq : RAt w R g) (i o : Nat) (hi : i < 3) (ho : o = 10 * i) : (loadCellsFrom ⟨R, o, none⟩ 0 n #[]).run Try.prog w = .ok (chV (g i)) w :=
  h.load (fun j v hv => by
    rw [cell_of_row w R (o + j) _ _ _ hq.blk, ho]
    exact row_get g hi hv)

/-- A whole counter into a block of its own. -/
theorem put_ch {w : World} {q : Nat} {c : Array Value} {T : TypeId} (h : w.heap[q]? = some (.cells c T (0, 0))) (hc : c.size = 10) (r : RC) : (storeCells ⟨q, 0, none⟩ (chV r).toList).run Try.prog w = .ok () (w.setRow q (chV r)) := by
  have e := run_storeCells_at Try.prog q 0 T (chV r).toList 0 c w h (by simp [hc, chV_size]) (one_chV r)
  rw [e]
  have e2 : (List.take (0 + 0) c.toList ++ (chV r).toList ++ List.drop (0 + 0 + (chV r).toList.length) c.toList).toArray = chV r := by
    have h1 : List.drop (0 + 0 + (chV r).toList.length) c.toList = [] := List.drop_eq_nil_of_le (by simp [hc, chV_size])
    rw [h1]
    simp
  rw [e2]

theorem put_R {w : World} {R : Nat} {g : Nat → RC} (h : RAt w R g) (i o : Nat) (hi : i < 3) (ho : o = 10 * i) (r : RC) : (storeCells ⟨R, o, none⟩ (chV r).toList).run Try.prog w = .ok () (w.setRow R (rowR (updR g i r))) := by
  subst ho
  have e := run_storeCells_at Try.prog R (10 * i) _ (chV r).toList 0 _ w h.blk (by rw [chL_is, chL_len]; show 10 * i + 0 + 10 ≤ (rowR g).size; rw [show (rowR g).size = 30 by simp [rowR, chL_len]]; omega) (one_chV r)
  rw [e]
  have e2 : (List.take (10 * i + 0) (rowR g).toList ++ (chV r).toList ++ List.drop (10 * i + 0 + (chV r).toList.length) (rowR g).toList).toArray = rowR (updR g i r) := by
    rw [chL_is, chL_len]
    unfold rowR
    congr 1
    have t10 : ∀ (x : RC) (l : List Value), List.take 10 (chL x ++ l) = chL x := fun x l => List.take_left' (chL_len x)
    have d10 : ∀ (x : RC) (l : List Value), List.drop 10 (chL x ++ l) = l := fun x l => List.drop_left' (chL_len x)
    rcases (by omega : i = 0 ∨ i = 1 ∨ i = 2) with rfl | rfl | rfl
    · rw [updR_at, updR_ne _ _ (by decide : (1 : Nat) ≠ 0), updR_ne _ _ (by decide : (2 : Nat) ≠ 0)]
      show List.take 0 _ ++ chL r ++ List.drop 10 _ = _
      rw [d10, List.take_zero, List.nil_append]
    · rw [updR_at, updR_ne _ _ (by decide : (0 : Nat) ≠ 1), updR_ne _ _ (by decide : (2 : Nat) ≠ 1)]
      show List.take 10 _ ++ chL r ++ List.drop (10 + 10) _ = _
      rw [t10, ← List.drop_drop, d10, d10, List.append_assoc]
    · rw [updR_at, updR_ne _ _ (by decide : (0 : Nat) ≠ 2), updR_ne _ _ (by decide : (1 : Nat) ≠ 2)]
      show List.take 20 _ ++ chL r ++ List.drop (10 + 20) _ = _
      have e20 : List.take 20 (chL (g 0) ++ (chL (g 1) ++ chL (g 2))) = chL (g 0) ++ chL (g 1) := by
        rw [← List.append_assoc]
        exact List.take_left' (by rw [List.length_append, chL_len, chL_len])
      have e30 : List.drop (10 + 20) (chL (g 0) ++ (chL (g 1) ++ chL (g 2))) = [] := List.drop_eq_nil_of_le (by simp [chL_len])
      rw [e20, e30, List.append_nil, List.append_assoc]
  rw [e2]

theorem RAt.put {w : World} {R : Nat} {g : Nat → RC} (h : RAt w R g) (i : Nat) (r : RC) : RAt (w.setRow R (rowR (updR g i r))) R (updR g i r) := ⟨setRow_heap w R _ _ _ _ h.blk⟩

/-- A new counter is laid. -/
theorem setRow_alloc (W : World) (c A : Array Value) (T : TypeId) : (W.alloc (.cells c T)).setRow W.heap.size A = W.alloc (.cells A T) := by
  unfold World.setRow World.alloc
  congr 1
  apply Array.ext_getElem?
  intro i
  rw [Array.getElem?_modify]
  by_cases h : W.heap.size = i
  · subst h; simp
  · simp only [h, if_false]
    by_cases h2 : i < W.heap.size
    · rw [Array.getElem?_push_lt h2, Array.getElem?_push_lt h2]
    · rw [Array.getElem?_eq_none (by simp; omega), Array.getElem?_eq_none (by simp; omega)]

theorem VlC.new (h : VlC T n Z fs ps) (r : RC) (W : World) : (storeCells ⟨W.heap.size, 0, none⟩ (chV r).toList).run Try.prog (W.alloc (.cells Z T)) = .ok () (W.alloc (.cells (chV r) T)) := by
  rw [← setRow_alloc W Z (chV r) T, h.t]
  exact put_ch (heap_new W (.cells Z 50)) (by rw [h.z]; rfl) r

theorem VlC.at (h : VlC T n Z fs ps) (r : RC) (W : World) : KAt (W.alloc (.cells (chV r) T)) W.heap.size r := by
  rw [h.t]; exact heap_new _ _
theorem VlC.getNew (h : VlC T n Z fs ps) (r : RC) (W : World) : (loadCellsFrom ⟨W.heap.size, 0, none⟩ 0 n #[]).run Try.prog (W.alloc (.cells (chV r) T)) = .ok (chV r) (W.alloc (.cells (chV r) T)) := h.get (h.at r W)
end

theorem KAt.cell {w : World} {q : Nat} {r : RC} (h : KAt w q r) {j : Nat} {v : Value} (e : (chV r)[j]? = some v) : w.cell? ⟨q, j, none⟩ = some v := by
  rw [cell_of_row w q j _ _ _ h]; exact e
theorem KAt.fz {w : World} {q : Nat} {r : RC} (h : KAt w q r) (j : Nat) : w.frozen? ⟨q, j, none⟩ = false := frozen_of_row w q j _ _ h
theorem KAt.set {w : World} {q : Nat} {r : RC} (h : KAt w q r) (j : Nat) (v : Value) (r' : RC) (e : (chV r).setIfInBounds j v = chV r') : KAt (w.setCell ⟨q, j, none⟩ v) q r' := by
  unfold KAt
  rw [heap_set h, e]
theorem KAt.c0 {w : World} {q : Nat} {r : RC} (h : KAt w q r) : w.cell? ⟨q, 0, none⟩ = some (.int .i64 r.mode) := h.cell rfl
theorem KAt.c1 {w : World} {q : Nat} {r : RC} (h : KAt w q r) : w.cell? ⟨q, 1, none⟩ = some (.int .i64 r.how) := h.cell rfl
theorem KAt.c2 {w : World} {q : Nat} {r : RC} (h : KAt w q r) : w.cell? ⟨q, 2, none⟩ = some (.int .u64 r.len) := h.cell rfl
theorem KAt.c3 {w : World} {q : Nat} {r : RC} (h : KAt w q r) : w.cell? ⟨q, 3, none⟩ = some (.int .u64 r.began) := h.cell rfl
theorem KAt.c4 {w : World} {q : Nat} {r : RC} (h : KAt w q r) : w.cell? ⟨q, 4, none⟩ = some (.bool r.st) := h.cell rfl
theorem KAt.c5 {w : World} {q : Nat} {r : RC} (h : KAt w q r) : w.cell? ⟨q, 5, none⟩ = some (.bool r.wants) := h.cell rfl
theorem KAt.c6 {w : World} {q : Nat} {r : RC} (h : KAt w q r) : w.cell? ⟨q, 6, none⟩ = some (.int .u8 r.fst) := h.cell rfl
theorem KAt.c7 {w : World} {q : Nat} {r : RC} (h : KAt w q r) : w.cell? ⟨q, 7, none⟩ = some (.bool r.upper) := h.cell rfl
theorem KAt.c8 {w : World} {q : Nat} {r : RC} (h : KAt w q r) : w.cell? ⟨q, 8, none⟩ = some (.bool r.held) := h.cell rfl
theorem KAt.c9 {w : World} {q : Nat} {r : RC} (h : KAt w q r) : w.cell? ⟨q, 9, none⟩ = some (.int .u64 r.value) := h.cell rfl
theorem RAt.fz {w : World} {R : Nat} {g : Nat → RC} (h : RAt w R g) (j : Nat) : w.frozen? ⟨R, j, none⟩ = false := frozen_of_row w R j _ _ h.blk
theorem Kp.newRow {S : Nat → Prop} {w W : World} (h : Kp S w W) {b : Nat} (hb : w.heap.size ≤ b) (cs : Array Value) : Kp S w (W.setRow b cs) := h.own (Kp.setRow (S := isB b) W rfl cs) hb
theorem Kp.new {S : Nat → Prop} {w W : World} (h : Kp S w W) {b : Nat} (hb : w.heap.size ≤ b) (k : Nat) (v : Value) : Kp S w (W.setCell ⟨b, k, none⟩ v) := h.own (kpB b W k v) hb

/-! what the document's counter does -/
def RC.steps (r : RC) (now : Int) : Int := (now - r.began) % 18446744073709551616
def RC.val (r : RC) (now : Int) : Int :=
  if r.st then r.len % 65536
  else if r.mode = 0 then (r.len + 65536 - r.steps now % 65536) % 65536
  else if r.mode = 2 then (r.len - r.steps now % r.len) % 65536
  else if r.mode = 3 then (r.len - r.steps now % r.len) % 65536
  else r.len % 65536
def RC.line (r : RC) (now : Int) : Bool :=
  if r.st then r.mode != 0
  else if r.mode = 0 then decide (r.len ≤ r.steps now)
  else if r.mode = 2 then r.steps now % r.len != r.len - 1
  else if r.mode = 3 then decide (r.steps now % r.len < (r.len + 1) / 2)
  else true
end Go.Proofs.Yteodnlloilmoaaa
