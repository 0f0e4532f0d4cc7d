/- The bus and its devices: PtWrt, PtNew, PtAwake, RtBase, RtVal, RtNew, RtRel, RtAll, RtAll2. -/
import Derived.Test.YtiagfmkinefidaaGreatEx25
import Derived.Test.YtiagfmkinefidaaGreatEx27
import Derived.Laws.CopyRow
import Derived.Deep.MidRow
namespace Go.Proofs.YtiagfmkinefidaaGreat.Pt
open Go.ChangeShapes Go.WideShapes Go.ChangeAt Go.RowKit
set_option linter.unusedVariables false
set_option maxRecDepth 20000
section
variable {w : World} {B o : Nat} {f : Nat → Cn} {i : Nat} {c : Cn}
theorem row10 (h : CAt w B o f i c) (c' : Cn) (W : World) (hW : W = ((((((((((w.setCell ⟨B, o, none⟩ (.int .u8 c'.mode)).setCell ⟨B, o + 1, none⟩ (.int .u8 c'.how)).setCell ⟨B, o + 2, none⟩ (.int .u16 c'.len)).setCell ⟨B, o + 3, none⟩ (.int .u64 c'.began)).setCell ⟨B, o + 4, none⟩ (.bool c'.st)).setCell ⟨B, o + 5, none⟩ (.int .u8 c'.fst)).setCell ⟨B, o + 6, none⟩ (.bool c'.wants)).setCell ⟨B, o + 7, none⟩ (.bool c'.upper)).setCell ⟨B, o + 8, none⟩ (.int .u16 c'.held)).setCell ⟨B, o + 9, none⟩ (.bool c'.holds))) : CAt W B o f i c' ∧ Kp (isB B) w W := by
  subst hW
  refine ⟨(((((((((h.set0 _ ⟨c'.mode, c.how, c.len, c.began, c.st, c.fst, c.wants, c.upper, c.held, c.holds⟩ rfl).set (k := 1) (by decide) _ ⟨c'.mode, c'.how, c.len, c.began, c.st, c.fst, c.wants, c.upper, c.held, c.holds⟩ rfl).set (k := 2) (by decide) _ ⟨c'.mode, c'.how, c'.len, c.began, c.st, c.fst, c.wants, c.upper, c.held, c.holds⟩ rfl).set (k := 3) (by decide) _ ⟨c'.mode, c'.how, c'.len, c'.began, c.st, c.fst, c.wants, c.upper, c.held, c.holds⟩ rfl).set (k := 4) (by decide) _ ⟨c'.mode, c'.how, c'.len, c'.began, c'.st, c.fst, c.wants, c.upper, c.held, c.holds⟩ rfl).set (k := 5) (by decide) _ ⟨c'.mode, c'.how, c'.len, c'.began, c'.st, c'.fst, c.wants, c.upper, c.held, c.holds⟩ rfl).set (k := 6) (by decide) _ ⟨c'.mode, c'.how, c'.len, c'.began, c'.st, c'.fst, c'.wants, c.upper, c.held, c.holds⟩ rfl).set (k := 7) (by decide) _ ⟨c'.mode, c'.how, c'.len, c'.began, c'.st, c'.fst, c'.wants, c'.upper, c.held, c.holds⟩ rfl).set (k := 8) (by decide) _ ⟨c'.mode, c'.how, c'.len, c'.began, c'.st, c'.fst, c'.wants, c'.upper, c'.held, c.holds⟩ rfl).set (k := 9) (by decide) _ c' rfl, ?_⟩
  exact (((((((((kpB B w _ _).trans (kpB B _ _ _)).trans (kpB B _ _ _)).trans (kpB B _ _ _)).trans (kpB B _ _ _)).trans (kpB B _ _ _)).trans (kpB B _ _ _)).trans (kpB B _ _ _)).trans (kpB B _ _ _)).trans (kpB B _ _ _)
end
end Go.Proofs.YtiagfmkinefidaaGreat.Pt
namespace Go.Proofs.YtiagfmkinefidaaGreat.Pt
open Go.ChangeShapes Go.WideShapes Go.ChangeAt Go.RowKit
set_option linter.unusedVariables false
set_option maxRecDepth 20000
theorem line_any {w : World} {B : Nat} {f : Nat → Cn} (h : PAt w B f) (k : Oks f) (now : Int) : Calls Tryz.prog 61 #[.pointer (some ⟨B, 0, none⟩), .int .u64 now] w fun e w' => e = .returned (.bool ((f 0).line now)) ∧ Kp noB w w' := by
  have H : Hid (Calls _ _ #[.pointer (some ⟨B, 0, none⟩), .int .u64 now] w _) := line_ok (f := f) (i := 0) (c := f 0) ⟨by rw [upd_self]; exact h, by decide, rfl⟩ (k 0) now
  go_enter Tryz.func61, Tryz.ntmps61
  go_wp2_with fail
  refine Calls.mono H.out ?_; rintro e w1 ⟨rfl, k1⟩
  go_wp2
  go_ret
  exact ⟨rfl, k1⟩
def z0 : Cn := ⟨0, 0, 0, 0, false, 0, false, false, 0, false⟩
/-- So many are laid. -/
def laid (k : Nat) (j : Nat) : Cn := if j < k then cn0 else z0
theorem laid_upd (k : Nat) : upd (laid k) k cn0 = laid (k + 1) := by
  funext j
  unfold upd laid
  by_cases e : j = k
  · subst e; simp
  · rw [if_neg e]
    by_cases g : j < k
    · rw [if_pos g, if_pos (by omega)]
    · rw [if_neg g, if_neg (by omega)]
theorem laid_self (k : Nat) : laid k k = z0 := by unfold laid; rw [if_neg (by omega)]
def zrow : Array Value := cnC z0 ++ cnC z0 ++ cnC z0
theorem PAt.new (w : World) : PAt (w.alloc (.cells zrow 153)) w.heap.size (laid 0) := by
  refine ⟨zrow, heap_new _ _, rfl, ?_⟩
  intro i k hi hk
  have e : laid 0 i = z0 := by unfold laid; rw [if_neg (by omega)]
  rw [e]
  rcases (by omega : i = 0 ∨ i = 1 ∨ i = 2) with rfl | rfl | rfl <;>
    rcases (by omega : k = 0 ∨ k = 1 ∨ k = 2 ∨ k = 3 ∨ k = 4 ∨ k = 5 ∨ k = 6 ∨ k = 7 ∨ k = 8 ∨ k = 9) with rfl | rfl | rfl | rfl | rfl | rfl | rfl | rfl | rfl | rfl <;> rfl
theorem PAt.all {w : World} {B : Nat} (h : PAt w B (laid 3)) : PAt w B (fun _ => cn0) := by
  obtain ⟨cs, a, b, d⟩ := h.blk
  refine ⟨cs, a, b, fun i k hi hk => ?_⟩
  rw [d i k hi hk]
  unfold laid
  rw [if_pos hi]
set_option maxRecDepth 20000 in
set_option maxHeartbeats 1000000 in
theorem new_ok (w : World) : Calls Tryz.prog 26 #[] w fun e w' => ∃ B, e = .returned (.pointer (some ⟨B, 0, none⟩)) ∧ w.heap.size ≤ B ∧ PAt w' B (fun _ => cn0) ∧ Kp noB w w' := by
  have h0 : Hid (PAt (w.alloc (.cells zrow 153)) w.heap.size (laid 0)) := PAt.new w
  have k0 : Hid (Kp noB w (w.alloc (.cells zrow 153))) := Kp.alloc _ _ _
  unfold zrow cnC z0 at h0 k0
  simp only [List.append_toArray, List.cons_append, List.nil_append] at h0 k0
  go_enter Tryz.func26, Tryz.ntmps26
  go_wp2
  obtain ⟨B, hB⟩ : ∃ B, B = w.heap.size := ⟨_, rfl⟩
  rw [← hB] at h0 ⊢
  generalize w.alloc _ = w0 at h0 k0 ⊢
  have lB : w.heap.size ≤ B := by omega
  clear hB
  go_loopw [5] (fun s5 wr => ∃ k : Nat, s5 = .int .i64 k ∧ k ≤ 3 ∧ PAt wr B (laid k) ∧ Kp noB w wr) (fun s5 _ => (3 - intOf s5).toNat)
  case atStart => exact ⟨0, rfl, by omega, h0.out, k0.out⟩
  case round =>
    clear h0 k0
    obtain ⟨k, rfl, hk, hP, kr⟩ := hrel
    rcases (by omega : k = 0 ∨ k = 1 ∨ k = 2 ∨ k = 3) with rfl | rfl | rfl | rfl
    · have h := (⟨by rw [← laid_self 0, upd_self]; exact hP, by decide, rfl⟩ : CAt wr B 0 (laid 0) 0 z0)
      have HR : Hid _ := row10 h cn0
      have c0 := h.c0
      have y0 := h.fz 0
      have c1 := h.c1
      have y1 := h.fz 1
      have c2 := h.c2
      have y2 := h.fz 2
      have c3 := h.c3
      have y3 := h.fz 3
      have c4 := h.c4
      have y4 := h.fz 4
      have c5 := h.c5
      have y5 := h.fz 5
      have c6 := h.c6
      have y6 := h.fz 6
      have c7 := h.c7
      have y7 := h.fz 7
      have c8 := h.c8
      have y8 := h.fz 8
      have c9 := h.c9
      have y9 := h.fz 9
      simp only [Nat.reduceAdd] at c1 c2 c3 c4 c5 c6 c7 c8 c9
      clear h hP
      go_wp2
      go_roundw
      case rel =>
        have r := HR.out _ rfl
        have hL : upd (laid 0) 0 cn0 = laid (0 + 1) := laid_upd 0
        refine ⟨1, rfl, by omega, hL ▸ r.1.pit, kr.over r.2 (fun j hj e => by unfold isB at e; omega)⟩
      case measure => simp [intOf]
    · have h := (⟨by rw [← laid_self 1, upd_self]; exact hP, by decide, rfl⟩ : CAt wr B 10 (laid 1) 1 z0)
      have HR : Hid _ := row10 h cn0
      have c0 := h.c0
      have y0 := h.fz 10
      have c1 := h.c1
      have y1 := h.fz 11
      have c2 := h.c2
      have y2 := h.fz 12
      have c3 := h.c3
      have y3 := h.fz 13
      have c4 := h.c4
      have y4 := h.fz 14
      have c5 := h.c5
      have y5 := h.fz 15
      have c6 := h.c6
      have y6 := h.fz 16
      have c7 := h.c7
      have y7 := h.fz 17
      have c8 := h.c8
      have y8 := h.fz 18
      have c9 := h.c9
      have y9 := h.fz 19
      simp only [Nat.reduceAdd] at c1 c2 c3 c4 c5 c6 c7 c8 c9
      clear h hP
      go_wp2
      go_roundw
      case rel =>
        have r := HR.out _ rfl
        have hL : upd (laid 1) 1 cn0 = laid (1 + 1) := laid_upd 1
        refine ⟨2, rfl, by omega, hL ▸ r.1.pit, kr.over r.2 (fun j hj e => by unfold isB at e; omega)⟩
      case measure => simp [intOf]
    · have h := (⟨by rw [← laid_self 2, upd_self]; exact hP, by decide, rfl⟩ : CAt wr B 20 (laid 2) 2 z0)
      have HR : Hid _ := row10 h cn0
      have c0 := h.c0
      have y0 := h.fz 20
      have c1 := h.c1
      have y1 := h.fz 21
      have c2 := h.c2
      have y2 := h.fz 22
      have c3 := h.c3
      have y3 := h.fz 23
      have c4 := h.c4
      have y4 := h.fz 24
      have c5 := h.c5
      have y5 := h.fz 25
      have c6 := h.c6
      have y6 := h.fz 26
      have c7 := h.c7
      have y7 := h.fz 27
      have c8 := h.c8
      have y8 := h.fz 28
      have c9 := h.c9
      have y9 := h.fz 29
      simp only [Nat.reduceAdd] at c1 c2 c3 c4 c5 c6 c7 c8 c9
      clear h hP
      go_wp2
      go_roundw
      case rel =>
        have r := HR.out _ rfl
        have hL : upd (laid 2) 2 cn0 = laid (2 + 1) := laid_upd 2
        refine ⟨3, rfl, by omega, hL ▸ r.1.pit, kr.over r.2 (fun j hj e => by unfold isB at e; omega)⟩
      case measure => simp [intOf]
    · go_wp2
      go_ret
      exact ⟨B, rfl, lB, hP.all, kr⟩
end Go.Proofs.YtiagfmkinefidaaGreat.Pt
namespace Go.Proofs.YtiagfmkinefidaaGreat.Pt
open Go.ChangeShapes Go.WideShapes Go.ChangeAt Go.RowKit
set_option linter.unusedVariables false
set_option maxRecDepth 20000
theorem Kp.own {S : Nat → Prop} {w w1 w2 : World} {B : Nat} (h : Kp S w w1) (k : Kp (isB B) w1 w2) (hB : w.heap.size ≤ B) : Kp S w w2 := h.over k (fun j hj e => by have : j = B := e; omega)
def f00 : Nat → Cn := fun _ => cn0
theorem f00_ok : Oks f00 := fun _ => cn0_ok
end Go.Proofs.YtiagfmkinefidaaGreat.Pt
namespace Go.Proofs.YtiagfmkinefidaaGreat.Pt
open Go.ChangeShapes Go.WideShapes Go.ChangeAt Go.RowKit
set_option linter.unusedVariables false
set_option maxRecDepth 20000
structure RC where
  mode : Int
  how : Int
  len : Int
  began : Int
  st : Bool
  wants : Bool
  fst : Int
  upper : Bool
  held : Bool
  value : Int
def chV (r : RC) : Array Value := #[.int .i64 r.mode, .int .i64 r.how, .int .u64 r.len, .int .u64 r.began, .bool r.st, .bool r.wants, .int .u8 r.fst, .bool r.upper, .bool r.held, .int .u64 r.value]
def RC.zero : RC := ⟨0, 0, 0, 0, false, false, 0, false, false, 0⟩
theorem chV_size (r : RC) : (chV r).size = 10 := rfl
theorem one_chV (r : RC) : ∀ v ∈ (chV r).toList, v.oneCell' = true := by
  intro v hv
  simp only [chV, List.mem_cons, List.not_mem_nil, or_false] at hv
  rcases hv with rfl | rfl | rfl | rfl | rfl | rfl | rfl | rfl | rfl | rfl <;> rfl
/-- Whole counters: the type's number and its size are letters. -/
structure VlC (T : TypeId) (n : Nat) (Z : Array Value) (fs : Array Field) (ps : Array (Nat × Nat)) : Prop where
  t : T = 243
  s : n = 10
  z : Z = chV RC.zero
  agg : ∀ w, (isAgg T).run Tryz.prog w = .ok true w
  size : ∀ w, (sizeOf T).run Tryz.prog w = .ok n w
  zero : ∀ w, (zeroValue T).run Tryz.prog w = .ok (.agg Z) w
  under : ∀ w, (underlying T).run Tryz.prog w = .ok (.struct fs) w
  map : ∀ w, (Array.mapM (fun f : Field => Prod.mk f.offset <$> sizeOf f.type) fs).run Tryz.prog w = .ok ps w
  zs : Z.size = n
theorem vlC : ∃ T n Z fs ps, VlC T n Z fs ps :=
  ⟨_, _, _, (match Tryz.prog.underlying 243 with | some (.struct f) => f | _ => #[]), #[(0, 1), (1, 1), (2, 1), (3, 1), (4, 1), (5, 1), (6, 1), (7, 1), (8, 1), (9, 1)], rfl, rfl, rfl, fun w => by kernel_rfl, fun w => by kernel_rfl, fun w => by kernel_rfl, fun w => by kernel_rfl, fun w => by kernel_rfl, rfl⟩
theorem VlC.ops {T : TypeId} {n : Nat} {Z : Array Value} {fs : Array Field} {ps : Array (Nat × Nat)} (h : VlC T n Z fs ps) :
    (∀ x, Op.load 243 x = Op.load T x) ∧ (∀ x y, Op.store 243 x y = Op.store T x y) ∧ Op.alloc 243 = Op.alloc T ∧ ∀ x, Op.box 243 x = Op.box T x := by
  rw [h.t]
  exact ⟨fun _ => rfl, fun _ _ => rfl, rfl, fun _ => rfl⟩
/-- A counter in a block of its own. -/
def KAt (w : World) (q : Nat) (r : RC) : Prop := w.heap[q]? = some (.cells (chV r) 243 (0, 0))
def chL (r : RC) : List Value := [.int .i64 r.mode, .int .i64 r.how, .int .u64 r.len, .int .u64 r.began, .bool r.st, .bool r.wants, .int .u8 r.fst, .bool r.upper, .bool r.held, .int .u64 r.value]
theorem chL_is (r : RC) : (chV r).toList = chL r := rfl
theorem chL_len (r : RC) : (chL r).length = 10 := rfl
def rowR (g : Nat → RC) : Array Value := (chL (g 0) ++ (chL (g 1) ++ chL (g 2))).toArray
/-- The three. -/
structure RAt (w : World) (R : Nat) (g : Nat → RC) : Prop where
  blk : w.heap[R]? = some (.cells (rowR g) 246 (0, 0))
def updR (g : Nat → RC) (i : Nat) (r : RC) : Nat → RC := fun j => if j = i then r else g j
theorem updR_at (g : Nat → RC) (i : Nat) (r : RC) : updR g i r i = r := by unfold updR; rw [if_pos rfl]
theorem updR_ne (g : Nat → RC) {i j : Nat} (r : RC) (h : j ≠ i) : updR g i r j = g j := by unfold updR; rw [if_neg h]
theorem RAt.kept {S : Nat → Prop} {w w' : World} {R : Nat} {g : Nat → RC} (h : RAt w R g) (k : Kp S w w') (hS : ¬ S R) : RAt w' R g := ⟨heap_kept h.blk k hS⟩
theorem RAt.lt {w : World} {R : Nat} {g : Nat → RC} (h : RAt w R g) : R < w.heap.size := heap_lt h.blk
section
variable {T : TypeId} {n : Nat} {Z : Array Value} {fs : Array Field} {ps : Array (Nat × Nat)}
theorem VlC.load (h : VlC T n Z fs ps) {w : World} {q o : Nat} {r : RC} (hr : w.rangeAt q o (chV r).toList) : (loadCellsFrom ⟨q, o, none⟩ 0 n #[]).run Tryz.prog w = .ok (chV r) w := by
  have e := run_loadCells_list (P := Tryz.prog) w ⟨q, o, none⟩ (chV r).toList (fun j v hv => by rw [Addr.add_mid]; exact hr j v hv)
  rw [h.s]
  exact e
theorem VlC.get (h : VlC T n Z fs ps) {w : World} {q : Nat} {r : RC} (hq : KAt w q r) : (loadCellsFrom ⟨q, 0, none⟩ 0 n #[]).run Tryz.prog w = .ok (chV r) w :=
  h.load (fun j v hv => by
    rw [cell_of_row w q (0 + j) _ _ _ hq, Nat.zero_add, ← Array.getElem?_toList]
    exact hv)
theorem row_get (g : Nat → RC) {i : Nat} (hi : i < 3) {j : Nat} {v : Value} (hv : (chV (g i)).toList[j]? = some v) : (rowR g)[10 * i + j]? = some v := by
  have hj : j < 10 := (List.getElem?_eq_some_iff.1 hv).1
  rw [chL_is] at hv
  unfold rowR
  rw [List.getElem?_toArray]
  rcases (by omega : i = 0 ∨ i = 1 ∨ i = 2) with rfl | rfl | rfl
  · rw [List.getElem?_append_left (by rw [chL_len]; omega), show 10 * 0 + j = j by omega]
    exact hv
  · rw [List.getElem?_append_right (by rw [chL_len]; omega), chL_len, show 10 * 1 + j - 10 = j by omega, List.getElem?_append_left (by rw [chL_len]; omega)]
    exact hv
  · rw [List.getElem?_append_right (by rw [chL_len]; omega), chL_len, show 10 * 2 + j - 10 = 10 + j by omega, List.getElem?_append_right (by rw [chL_len]; omega), chL_len, show 10 + j - 10 = j by omega]
    exact hv
theorem VlC.getR (h : VlC T n Z fs ps) {w : World} {R : Nat} {g : Nat → RC} (hq : RAt w R g) (i o : Nat) (hi : i < 3) (ho : o = 10 * i) : (loadCellsFrom ⟨R, o, none⟩ 0 n #[]).run Tryz.prog w = .ok (chV (g i)) w :=
  h.load (fun j v hv => by
    rw [cell_of_row w R (o + j) _ _ _ hq.blk, ho]
    exact row_get g hi hv)
/-- A whole counter into a block of its own. -/
theorem put_ch {w : World} {q : Nat} {c : Array Value} {T : TypeId} (h : w.heap[q]? = some (.cells c T (0, 0))) (hc : c.size = 10) (r : RC) : (storeCells ⟨q, 0, none⟩ (chV r).toList).run Tryz.prog w = .ok () (w.setRow q (chV r)) := by
  have e := run_storeCells_at Tryz.prog q 0 T (chV r).toList 0 c w h (by simp [hc, chV_size]) (one_chV r)
  rw [e]
  have e2 : (List.take (0 + 0) c.toList ++ (chV r).toList ++ List.drop (0 + 0 + (chV r).toList.length) c.toList).toArray = chV r := by
    have h1 : List.drop (0 + 0 + (chV r).toList.length) c.toList = [] := List.drop_eq_nil_of_le (by simp [hc, chV_size])
    rw [h1]
    simp
  rw [e2]
/-- A new counter is laid. -/
theorem setRow_alloc (W : World) (c A : Array Value) (T : TypeId) : (W.alloc (.cells c T)).setRow W.heap.size A = W.alloc (.cells A T) := by
  unfold World.setRow World.alloc
  congr 1
  apply Array.ext_getElem?
  intro i
  rw [Array.getElem?_modify]
  by_cases h : W.heap.size = i
  · subst h; simp
  · simp only [h, if_false]
    by_cases h2 : i < W.heap.size
    · rw [Array.getElem?_push_lt h2, Array.getElem?_push_lt h2]
    · rw [Array.getElem?_eq_none (by simp; omega), Array.getElem?_eq_none (by simp; omega)]
theorem VlC.new (h : VlC T n Z fs ps) (r : RC) (W : World) : (storeCells ⟨W.heap.size, 0, none⟩ (chV r).toList).run Tryz.prog (W.alloc (.cells Z T)) = .ok () (W.alloc (.cells (chV r) T)) := by
  rw [← setRow_alloc W Z (chV r) T, h.t]
  exact put_ch (heap_new W (.cells Z 243)) (by rw [h.z]; rfl) r
theorem VlC.at (h : VlC T n Z fs ps) (r : RC) (W : World) : KAt (W.alloc (.cells (chV r) T)) W.heap.size r := by
  rw [h.t]; exact heap_new _ _
theorem VlC.getNew (h : VlC T n Z fs ps) (r : RC) (W : World) : (loadCellsFrom ⟨W.heap.size, 0, none⟩ 0 n #[]).run Tryz.prog (W.alloc (.cells (chV r) T)) = .ok (chV r) (W.alloc (.cells (chV r) T)) := h.get (h.at r W)
end
theorem RAt.fz {w : World} {R : Nat} {g : Nat → RC} (h : RAt w R g) (j : Nat) : w.frozen? ⟨R, j, none⟩ = false := frozen_of_row w R j _ _ h.blk
def RC.steps (r : RC) (now : Int) : Int := (now - r.began) % 18446744073709551616
def RC.line (r : RC) (now : Int) : Bool :=
  if r.st then r.mode != 0
  else if r.mode = 0 then decide (r.len ≤ r.steps now)
  else if r.mode = 2 then r.steps now % r.len != r.len - 1
  else if r.mode = 3 then decide (r.steps now % r.len < (r.len + 1) / 2)
  else true
end Go.Proofs.YtiagfmkinefidaaGreat.Pt
namespace Go.Proofs.YtiagfmkinefidaaGreat.Pt
open Go.ChangeShapes Go.WideShapes Go.ChangeAt Go.RowKit
set_option linter.unusedVariables false
set_option maxRecDepth 20000
theorem w64 (n : Int) : IntKind.u64.wrap n = n % 18446744073709551616 := by simp [IntKind.wrap, IntKind.bits, IntKind.signed]
theorem w64_in {n : Int} (h0 : 0 ≤ n) (h1 : n < 18446744073709551616) : IntKind.u64.wrap n = n := by rw [w64]; omega
theorem RC.steps_bd (r : RC) (now : Int) : 0 ≤ r.steps now ∧ r.steps now < 18446744073709551616 := by
  unfold RC.steps
  omega
set_option maxRecDepth 20000 in
set_option maxHeartbeats 1000000 in
theorem rlin_st (w : World) (R : Nat) (g : Nat → RC) (r : RC) (h : RAt w R g) (hr : g 0 = r) (now : Int) (l0 : 1 ≤ r.len) (l1 : r.len ≤ 65536) (hs : r.st = true) : Calls Tryz.prog 130 #[.pointer (some ⟨R, 0, none⟩), .int .u64 now] w fun e w' => e = .returned (.bool (r.mode != 0)) ∧ Kp noB w w' := by
  obtain ⟨T, nI, Z, fs, ps, V⟩ := vlC
  obtain ⟨vl, vs, va, vb⟩ := V.ops
  have v1 := V.agg
  have v2 := V.size
  have v3 := V.zero
  have v4 := V.under
  have v5 := V.map
  have v6 := V.zs
  have q0 : (chV r)[0]? = some (.int .i64 r.mode) := rfl
  have q2 : (chV r)[2]? = some (.int .u64 r.len) := rfl
  have q3 : (chV r)[3]? = some (.int .u64 r.began) := rfl
  have q4 : (chV r)[4]? = some (.bool r.st) := rfl
  have hN : IntKind.u64.wrap (now - r.began) = r.steps now := w64 _
  have bN := r.steps_bd now
  have hz : (r.len == 0) = false := by simp; omega
  have rb := rem_bd (n := r.steps now) l0
  have cs : ∀ r : RC, (chV r).size = nI := fun r => by rw [V.s]; rfl
  have L := V.getR h 0 0 (by decide) (by decide)
  rw [hr] at L
  have vG := V.getNew
  have vN := V.new
  rw [hs] at q4
  obtain ⟨N, eN⟩ : ∃ N, N = r.steps now := ⟨_, rfl⟩
  rw [← eN] at hN bN rb
  try rw [← eN]
  obtain ⟨M, eM0⟩ : ∃ M, N % r.len = M := ⟨_, rfl⟩
  rw [eM0] at rb
  have eM : N.tmod r.len = M := by rw [Int.tmod_eq_emod_of_nonneg bN.1]; exact eM0
  have tL : r.len.tmod 65536 = r.len % 65536 := Int.tmod_eq_emod_of_nonneg (by omega)
  clear h
  clear eN V
  go_enter Tryz.func130, Tryz.ntmps130
  simp only [vl, vs, va]
  clear vl vs va vb
  go_wp2
  go_ret
  exact ⟨rfl, Kp.alloc _ _ _⟩
set_option maxRecDepth 20000 in
set_option maxHeartbeats 1000000 in
theorem rlin_0 (w : World) (R : Nat) (g : Nat → RC) (r : RC) (h : RAt w R g) (hr : g 0 = r) (now : Int) (l0 : 1 ≤ r.len) (l1 : r.len ≤ 65536) (hs : r.st = false) (hm : r.mode = 0) : Calls Tryz.prog 130 #[.pointer (some ⟨R, 0, none⟩), .int .u64 now] w fun e w' => e = .returned (.bool (decide (r.len ≤ r.steps now))) ∧ Kp noB w w' := by
  obtain ⟨T, nI, Z, fs, ps, V⟩ := vlC
  obtain ⟨vl, vs, va, vb⟩ := V.ops
  have v1 := V.agg
  have v2 := V.size
  have v3 := V.zero
  have v4 := V.under
  have v5 := V.map
  have v6 := V.zs
  have q0 : (chV r)[0]? = some (.int .i64 r.mode) := rfl
  have q2 : (chV r)[2]? = some (.int .u64 r.len) := rfl
  have q3 : (chV r)[3]? = some (.int .u64 r.began) := rfl
  have q4 : (chV r)[4]? = some (.bool r.st) := rfl
  have hN : IntKind.u64.wrap (now - r.began) = r.steps now := w64 _
  have bN := r.steps_bd now
  have hz : (r.len == 0) = false := by simp; omega
  have rb := rem_bd (n := r.steps now) l0
  have cs : ∀ r : RC, (chV r).size = nI := fun r => by rw [V.s]; rfl
  have L := V.getR h 0 0 (by decide) (by decide)
  rw [hr] at L
  have vG := V.getNew
  have vN := V.new
  rw [hs] at q4
  rw [hm] at q0
  obtain ⟨N, eN⟩ : ∃ N, N = r.steps now := ⟨_, rfl⟩
  rw [← eN] at hN bN rb
  try rw [← eN]
  obtain ⟨M, eM0⟩ : ∃ M, N % r.len = M := ⟨_, rfl⟩
  rw [eM0] at rb
  have eM : N.tmod r.len = M := by rw [Int.tmod_eq_emod_of_nonneg bN.1]; exact eM0
  have tL : r.len.tmod 65536 = r.len % 65536 := Int.tmod_eq_emod_of_nonneg (by omega)
  clear h
  clear eN V
  go_enter Tryz.func130, Tryz.ntmps130
  simp only [vl, vs, va]
  clear vl vs va vb
  go_wp2
  go_ret
  exact ⟨(ret_bool (by first | rfl | simp only [hN])), Kp.alloc _ _ _⟩
set_option maxRecDepth 20000 in
set_option maxHeartbeats 1000000 in
theorem rlin_2 (w : World) (R : Nat) (g : Nat → RC) (r : RC) (h : RAt w R g) (hr : g 0 = r) (now : Int) (l0 : 1 ≤ r.len) (l1 : r.len ≤ 65536) (hs : r.st = false) (hm : r.mode = 2) : Calls Tryz.prog 130 #[.pointer (some ⟨R, 0, none⟩), .int .u64 now] w fun e w' => e = .returned (.bool (r.steps now % r.len != r.len - 1)) ∧ Kp noB w w' := by
  obtain ⟨T, nI, Z, fs, ps, V⟩ := vlC
  obtain ⟨vl, vs, va, vb⟩ := V.ops
  have v1 := V.agg
  have v2 := V.size
  have v3 := V.zero
  have v4 := V.under
  have v5 := V.map
  have v6 := V.zs
  have q0 : (chV r)[0]? = some (.int .i64 r.mode) := rfl
  have q2 : (chV r)[2]? = some (.int .u64 r.len) := rfl
  have q3 : (chV r)[3]? = some (.int .u64 r.began) := rfl
  have q4 : (chV r)[4]? = some (.bool r.st) := rfl
  have hN : IntKind.u64.wrap (now - r.began) = r.steps now := w64 _
  have bN := r.steps_bd now
  have hz : (r.len == 0) = false := by simp; omega
  have rb := rem_bd (n := r.steps now) l0
  have cs : ∀ r : RC, (chV r).size = nI := fun r => by rw [V.s]; rfl
  have L := V.getR h 0 0 (by decide) (by decide)
  rw [hr] at L
  have vG := V.getNew
  have vN := V.new
  rw [hs] at q4
  rw [hm] at q0
  obtain ⟨N, eN⟩ : ∃ N, N = r.steps now := ⟨_, rfl⟩
  rw [← eN] at hN bN rb
  try rw [← eN]
  obtain ⟨M, eM0⟩ : ∃ M, N % r.len = M := ⟨_, rfl⟩
  rw [eM0] at rb
  have eM : N.tmod r.len = M := by rw [Int.tmod_eq_emod_of_nonneg bN.1]; exact eM0
  have tL : r.len.tmod 65536 = r.len % 65536 := Int.tmod_eq_emod_of_nonneg (by omega)
  rw [eM0]
  have a2 : IntKind.u64.wrap (r.len - 1) = r.len - 1 := w64_in (by omega) (by omega)
  clear eM0
  clear h
  clear eN V
  go_enter Tryz.func130, Tryz.ntmps130
  simp only [vl, vs, va]
  clear vl vs va vb
  go_wp2
  go_region
  all_goals
    go_wp2
    go_ret
    exact ⟨(ret_bool (by first | rfl | simp only [hN, eM, a2] | simp only [hN, eM, a2, t2])), (Kp.alloc noB w _).drew⟩
set_option maxRecDepth 20000 in
set_option maxHeartbeats 1000000 in
theorem rlin_3 (w : World) (R : Nat) (g : Nat → RC) (r : RC) (h : RAt w R g) (hr : g 0 = r) (now : Int) (l0 : 1 ≤ r.len) (l1 : r.len ≤ 65536) (hs : r.st = false) (hm : r.mode = 3) : Calls Tryz.prog 130 #[.pointer (some ⟨R, 0, none⟩), .int .u64 now] w fun e w' => e = .returned (.bool (decide (r.steps now % r.len < (r.len + 1) / 2))) ∧ Kp noB w w' := by
  obtain ⟨T, nI, Z, fs, ps, V⟩ := vlC
  obtain ⟨vl, vs, va, vb⟩ := V.ops
  have v1 := V.agg
  have v2 := V.size
  have v3 := V.zero
  have v4 := V.under
  have v5 := V.map
  have v6 := V.zs
  have q0 : (chV r)[0]? = some (.int .i64 r.mode) := rfl
  have q2 : (chV r)[2]? = some (.int .u64 r.len) := rfl
  have q3 : (chV r)[3]? = some (.int .u64 r.began) := rfl
  have q4 : (chV r)[4]? = some (.bool r.st) := rfl
  have hN : IntKind.u64.wrap (now - r.began) = r.steps now := w64 _
  have bN := r.steps_bd now
  have hz : (r.len == 0) = false := by simp; omega
  have rb := rem_bd (n := r.steps now) l0
  have cs : ∀ r : RC, (chV r).size = nI := fun r => by rw [V.s]; rfl
  have L := V.getR h 0 0 (by decide) (by decide)
  rw [hr] at L
  have vG := V.getNew
  have vN := V.new
  rw [hs] at q4
  rw [hm] at q0
  obtain ⟨N, eN⟩ : ∃ N, N = r.steps now := ⟨_, rfl⟩
  rw [← eN] at hN bN rb
  try rw [← eN]
  obtain ⟨M, eM0⟩ : ∃ M, N % r.len = M := ⟨_, rfl⟩
  rw [eM0] at rb
  have eM : N.tmod r.len = M := by rw [Int.tmod_eq_emod_of_nonneg bN.1]; exact eM0
  have tL : r.len.tmod 65536 = r.len % 65536 := Int.tmod_eq_emod_of_nonneg (by omega)
  rw [eM0]
  have a2 : IntKind.u64.wrap (r.len + 1) = r.len + 1 := w64_in (by omega) (by omega)
  have t2 : (r.len + 1).tdiv 2 = (r.len + 1) / 2 := Int.tdiv_eq_ediv_of_nonneg (by omega)
  clear eM0
  clear h
  clear eN V
  go_enter Tryz.func130, Tryz.ntmps130
  simp only [vl, vs, va]
  clear vl vs va vb
  go_wp2
  go_region
  all_goals
    go_wp2
    go_ret
    exact ⟨(ret_bool (by first | rfl | simp only [hN, eM, a2] | simp only [hN, eM, a2, t2])), (Kp.alloc noB w _).drew⟩
set_option maxRecDepth 20000 in
set_option maxHeartbeats 1000000 in
theorem rlin_no (w : World) (R : Nat) (g : Nat → RC) (r : RC) (h : RAt w R g) (hr : g 0 = r) (now : Int) (l0 : 1 ≤ r.len) (l1 : r.len ≤ 65536) (hs : r.st = false) (hm : ¬ r.mode = 0 ∧ ¬ r.mode = 2 ∧ ¬ r.mode = 3) : Calls Tryz.prog 130 #[.pointer (some ⟨R, 0, none⟩), .int .u64 now] w fun e w' => e = .returned (.bool true) ∧ Kp noB w w' := by
  obtain ⟨T, nI, Z, fs, ps, V⟩ := vlC
  obtain ⟨vl, vs, va, vb⟩ := V.ops
  have v1 := V.agg
  have v2 := V.size
  have v3 := V.zero
  have v4 := V.under
  have v5 := V.map
  have v6 := V.zs
  have q0 : (chV r)[0]? = some (.int .i64 r.mode) := rfl
  have q2 : (chV r)[2]? = some (.int .u64 r.len) := rfl
  have q3 : (chV r)[3]? = some (.int .u64 r.began) := rfl
  have q4 : (chV r)[4]? = some (.bool r.st) := rfl
  have hN : IntKind.u64.wrap (now - r.began) = r.steps now := w64 _
  have bN := r.steps_bd now
  have hz : (r.len == 0) = false := by simp; omega
  have rb := rem_bd (n := r.steps now) l0
  have cs : ∀ r : RC, (chV r).size = nI := fun r => by rw [V.s]; rfl
  have L := V.getR h 0 0 (by decide) (by decide)
  rw [hr] at L
  have vG := V.getNew
  have vN := V.new
  rw [hs] at q4
  have m0 : (r.mode == 0) = false := by simp [hm.1]
  have m2 : (r.mode == 2) = false := by simp [hm.2.1]
  have m3 : (r.mode == 3) = false := by simp [hm.2.2]
  clear hm
  obtain ⟨N, eN⟩ : ∃ N, N = r.steps now := ⟨_, rfl⟩
  rw [← eN] at hN bN rb
  try rw [← eN]
  obtain ⟨M, eM0⟩ : ∃ M, N % r.len = M := ⟨_, rfl⟩
  rw [eM0] at rb
  have eM : N.tmod r.len = M := by rw [Int.tmod_eq_emod_of_nonneg bN.1]; exact eM0
  have tL : r.len.tmod 65536 = r.len % 65536 := Int.tmod_eq_emod_of_nonneg (by omega)
  clear h
  clear eN V
  go_enter Tryz.func130, Tryz.ntmps130
  simp only [vl, vs, va]
  clear vl vs va vb
  go_wp2
  go_ret
  exact ⟨rfl, Kp.alloc _ _ _⟩
theorem rlin_ok (w : World) (R : Nat) (g : Nat → RC) (h : RAt w R g) (now : Int) (l0 : 1 ≤ (g 0).len) (l1 : (g 0).len ≤ 65536) : Calls Tryz.prog 130 #[.pointer (some ⟨R, 0, none⟩), .int .u64 now] w fun e w' => e = .returned (.bool ((g 0).line now)) ∧ Kp noB w w' := by
  unfold RC.line
  cases hs : (g 0).st
  · simp only [Bool.false_eq_true, if_false]
    by_cases h0 : (g 0).mode = 0
    · rw [if_pos h0]; exact rlin_0 w R g _ h rfl now l0 l1 hs h0
    · rw [if_neg h0]
      by_cases h2 : (g 0).mode = 2
      · rw [if_pos h2]; exact rlin_2 w R g _ h rfl now l0 l1 hs h2
      · rw [if_neg h2]
        by_cases h3 : (g 0).mode = 3
        · rw [if_pos h3]; exact rlin_3 w R g _ h rfl now l0 l1 hs h3
        · rw [if_neg h3]; exact rlin_no w R g _ h rfl now l0 l1 hs ⟨h0, h2, h3⟩
  · simp only [if_true]
    exact rlin_st w R g _ h rfl now l0 l1 hs
end Go.Proofs.YtiagfmkinefidaaGreat.Pt
namespace Go.Proofs.YtiagfmkinefidaaGreat.Pt
open Go.ChangeShapes Go.WideShapes Go.ChangeAt Go.RowKit
set_option linter.unusedVariables false
set_option maxRecDepth 20000
def r00 : RC := ⟨3, 3, 65536, 0, false, false, 0, false, false, 0⟩
def laidR (k : Nat) (j : Nat) : RC := if j < k then r00 else RC.zero
theorem laidR_upd (k : Nat) : updR (laidR k) k r00 = laidR (k + 1) := by
  funext j
  unfold updR laidR
  by_cases e : j = k
  · subst e; simp
  · rw [if_neg e]
    by_cases g : j < k
    · rw [if_pos g, if_pos (by omega)]
    · rw [if_neg g, if_neg (by omega)]
theorem row_at (g : Nat → RC) {i j : Nat} (hi : i < 3) (hj : j < 10) : (rowR g)[10 * i + j]? = (chV (g i))[j]? := by
  have hl : j < (chV (g i)).toList.length := hj
  have e : (chV (g i))[j]? = some ((chV (g i)).toList[j]) := by
    rw [← Array.getElem?_toList, List.getElem?_eq_getElem hl]
  rw [e]
  exact row_get g hi (List.getElem?_eq_getElem hl)
theorem row_size (g : Nat → RC) : (rowR g).size = 30 := by simp [rowR, chL_len]
theorem RAt.set {w : World} {R : Nat} {g : Nat → RC} {i : Nat} {r : RC} (h : RAt w R (updR g i r)) (hi : i < 3) (k o : Nat) (hk : k < 10) (ho : o = 10 * i + k) (v : Value) (r' : RC) (e : (chV r).setIfInBounds k v = chV r') : RAt (w.setCell ⟨R, o, none⟩ v) R (updR g i r') := by
  refine ⟨?_⟩
  rw [heap_set h.blk]
  congr 2
  apply Array.ext_getElem?
  intro j
  by_cases hj : j < 30
  · obtain ⟨a, b, ha, hb, rfl⟩ : ∃ a b, a < 3 ∧ b < 10 ∧ j = 10 * a + b := ⟨j / 10, j % 10, by omega, by omega, by omega⟩
    rw [row_at _ ha hb]
    by_cases ea : a = i
    · subst ea
      rw [updR_at, ← e]
      by_cases eb : b = k
      · subst eb
        rw [ho, Array.getElem?_setIfInBounds_self, Array.getElem?_setIfInBounds_self, if_pos (by rw [row_size]; omega), if_pos (by rw [chV_size]; omega)]
      · rw [Array.getElem?_setIfInBounds_ne (by omega), Array.getElem?_setIfInBounds_ne (by omega), row_at _ ha hb, updR_at]
    · rw [updR_ne _ _ ea, Array.getElem?_setIfInBounds_ne (by omega), row_at _ ha hb, updR_ne _ _ ea]
  · rw [Array.getElem?_eq_none (by rw [Array.size_setIfInBounds, row_size]; omega), Array.getElem?_eq_none (by rw [row_size]; omega)]
theorem RAt.cell {w : World} {R : Nat} {g : Nat → RC} (h : RAt w R g) {i k o : Nat} (hi : i < 3) (hk : k < 10) (ho : o = 10 * i + k) {v : Value} (e : (chV (g i))[k]? = some v) : w.cell? ⟨R, o, none⟩ = some v := by
  rw [cell_of_row w R o _ _ _ h.blk, ho, row_at _ hi hk]
  exact e
theorem laidR_self (k : Nat) : laidR k k = RC.zero := by unfold laidR; rw [if_neg (by omega)]
theorem rowR_all : rowR (laidR 3) = rowR (fun _ => r00) := rfl
def zrowR : Array Value := #[.int .i64 0, .int .i64 0, .int .u64 0, .int .u64 0, .bool false, .bool false, .int .u8 0, .bool false, .bool false, .int .u64 0, .int .i64 0, .int .i64 0, .int .u64 0, .int .u64 0, .bool false, .bool false, .int .u8 0, .bool false, .bool false, .int .u64 0, .int .i64 0, .int .i64 0, .int .u64 0, .int .u64 0, .bool false, .bool false, .int .u8 0, .bool false, .bool false, .int .u64 0]
theorem zrowR_is : zrowR = rowR (laidR 0) := rfl
set_option maxRecDepth 20000 in
set_option maxHeartbeats 1000000 in
theorem rnew_ok (w : World) : Calls Tryz.prog 83 #[] w fun e w' => ∃ R, e = .returned (.pointer (some ⟨R, 0, none⟩)) ∧ w.heap.size ≤ R ∧ RAt w' R (fun _ => r00) ∧ Kp noB w w' := by
  have h0 : Hid (RAt (w.alloc (.cells zrowR 246)) w.heap.size (laidR 0)) := ⟨by rw [zrowR_is]; exact heap_new _ _⟩
  have k0 : Hid (Kp noB w (w.alloc (.cells zrowR 246))) := Kp.alloc _ _ _
  unfold zrowR at h0 k0
  go_enter Tryz.func83, Tryz.ntmps83
  go_wp2
  obtain ⟨R, hR⟩ : ∃ B, B = w.heap.size := ⟨_, rfl⟩
  rw [← hR] at h0 ⊢
  generalize w.alloc _ = w0 at h0 k0 ⊢
  have lR : w.heap.size ≤ R := by omega
  clear hR
  go_loopw [2] (fun s2 wr => ∃ k : Nat, s2 = .int .i64 k ∧ k ≤ 3 ∧ RAt wr R (laidR k) ∧ Kp noB w wr) (fun s2 _ => (3 - intOf s2).toNat)
  case atStart => exact ⟨0, rfl, by omega, h0.out, k0.out⟩
  case round =>
    clear h0 k0
    obtain ⟨k, rfl, hk, hP, kr⟩ := hrel
    rcases (by omega : k = 0 ∨ k = 1 ∨ k = 2 ∨ k = 3) with rfl | rfl | rfl | rfl
    · have h : RAt wr R (updR (laidR 0) 0 RC.zero) := by
        have : updR (laidR 0) 0 RC.zero = laidR 0 := by rw [← laidR_self 0]; funext j; unfold updR; split; (rename_i e; rw [e]); rfl
        rw [this]; exact hP
      have c0 : wr.cell? ⟨R, 0, none⟩ = some (.int .i64 0) := h.cell (i := 0) (k := 0) (by decide) (by decide) rfl (by rw [updR_at]; rfl)
      have y0 := hP.fz 0
      have c1 : wr.cell? ⟨R, 1, none⟩ = some (.int .i64 0) := h.cell (i := 0) (k := 1) (by decide) (by decide) rfl (by rw [updR_at]; rfl)
      have y1 := hP.fz 1
      have c2 : wr.cell? ⟨R, 2, none⟩ = some (.int .u64 0) := h.cell (i := 0) (k := 2) (by decide) (by decide) rfl (by rw [updR_at]; rfl)
      have y2 := hP.fz 2
      have c3 : wr.cell? ⟨R, 3, none⟩ = some (.int .u64 0) := h.cell (i := 0) (k := 3) (by decide) (by decide) rfl (by rw [updR_at]; rfl)
      have y3 := hP.fz 3
      have c4 : wr.cell? ⟨R, 4, none⟩ = some (.bool false) := h.cell (i := 0) (k := 4) (by decide) (by decide) rfl (by rw [updR_at]; rfl)
      have y4 := hP.fz 4
      have c5 : wr.cell? ⟨R, 5, none⟩ = some (.bool false) := h.cell (i := 0) (k := 5) (by decide) (by decide) rfl (by rw [updR_at]; rfl)
      have y5 := hP.fz 5
      have c6 : wr.cell? ⟨R, 6, none⟩ = some (.int .u8 0) := h.cell (i := 0) (k := 6) (by decide) (by decide) rfl (by rw [updR_at]; rfl)
      have y6 := hP.fz 6
      have c7 : wr.cell? ⟨R, 7, none⟩ = some (.bool false) := h.cell (i := 0) (k := 7) (by decide) (by decide) rfl (by rw [updR_at]; rfl)
      have y7 := hP.fz 7
      have c8 : wr.cell? ⟨R, 8, none⟩ = some (.bool false) := h.cell (i := 0) (k := 8) (by decide) (by decide) rfl (by rw [updR_at]; rfl)
      have y8 := hP.fz 8
      have c9 : wr.cell? ⟨R, 9, none⟩ = some (.int .u64 0) := h.cell (i := 0) (k := 9) (by decide) (by decide) rfl (by rw [updR_at]; rfl)
      have y9 := hP.fz 9
      have E1 : Hid (RAt ((((((((((wr.setCell ⟨R, 0, none⟩ (.int .i64 3)).setCell ⟨R, 1, none⟩ (.int .i64 3)).setCell ⟨R, 2, none⟩ (.int .u64 65536)).setCell ⟨R, 3, none⟩ (.int .u64 0)).setCell ⟨R, 4, none⟩ (.bool false)).setCell ⟨R, 5, none⟩ (.bool false)).setCell ⟨R, 6, none⟩ (.int .u8 0)).setCell ⟨R, 7, none⟩ (.bool false)).setCell ⟨R, 8, none⟩ (.bool false)).setCell ⟨R, 9, none⟩ (.int .u64 0)) R (updR (laidR 0) 0 r00)) := ((((((((((h.set (by decide) 0 0 (by decide) rfl _ ⟨3, 0, 0, 0, false, false, 0, false, false, 0⟩ rfl).set (by decide) 1 1 (by decide) rfl _ ⟨3, 3, 0, 0, false, false, 0, false, false, 0⟩ rfl).set (by decide) 2 2 (by decide) rfl _ ⟨3, 3, 65536, 0, false, false, 0, false, false, 0⟩ rfl).set (by decide) 3 3 (by decide) rfl _ ⟨3, 3, 65536, 0, false, false, 0, false, false, 0⟩ rfl).set (by decide) 4 4 (by decide) rfl _ ⟨3, 3, 65536, 0, false, false, 0, false, false, 0⟩ rfl).set (by decide) 5 5 (by decide) rfl _ ⟨3, 3, 65536, 0, false, false, 0, false, false, 0⟩ rfl).set (by decide) 6 6 (by decide) rfl _ ⟨3, 3, 65536, 0, false, false, 0, false, false, 0⟩ rfl).set (by decide) 7 7 (by decide) rfl _ ⟨3, 3, 65536, 0, false, false, 0, false, false, 0⟩ rfl).set (by decide) 8 8 (by decide) rfl _ ⟨3, 3, 65536, 0, false, false, 0, false, false, 0⟩ rfl).set (by decide) 9 9 (by decide) rfl _ ⟨3, 3, 65536, 0, false, false, 0, false, false, 0⟩ rfl)
      have K1 : Hid (Kp noB w ((((((((((wr.setCell ⟨R, 0, none⟩ (.int .i64 3)).setCell ⟨R, 1, none⟩ (.int .i64 3)).setCell ⟨R, 2, none⟩ (.int .u64 65536)).setCell ⟨R, 3, none⟩ (.int .u64 0)).setCell ⟨R, 4, none⟩ (.bool false)).setCell ⟨R, 5, none⟩ (.bool false)).setCell ⟨R, 6, none⟩ (.int .u8 0)).setCell ⟨R, 7, none⟩ (.bool false)).setCell ⟨R, 8, none⟩ (.bool false)).setCell ⟨R, 9, none⟩ (.int .u64 0))) := kr.own ((((((((((kpB R wr _ _).trans (kpB R _ _ _)).trans (kpB R _ _ _)).trans (kpB R _ _ _)).trans (kpB R _ _ _)).trans (kpB R _ _ _)).trans (kpB R _ _ _)).trans (kpB R _ _ _)).trans (kpB R _ _ _)).trans (kpB R _ _ _)) lR
      rw [laidR_upd] at E1
      clear h hP kr
      go_wp2
      go_roundw
      case rel => exact ⟨1, rfl, by omega, E1.out, K1.out⟩
      case measure => simp [intOf]
    · have h : RAt wr R (updR (laidR 1) 1 RC.zero) := by
        have : updR (laidR 1) 1 RC.zero = laidR 1 := by rw [← laidR_self 1]; funext j; unfold updR; split; (rename_i e; rw [e]); rfl
        rw [this]; exact hP
      have c0 : wr.cell? ⟨R, 10, none⟩ = some (.int .i64 0) := h.cell (i := 1) (k := 0) (by decide) (by decide) rfl (by rw [updR_at]; rfl)
      have y0 := hP.fz 10
      have c1 : wr.cell? ⟨R, 11, none⟩ = some (.int .i64 0) := h.cell (i := 1) (k := 1) (by decide) (by decide) rfl (by rw [updR_at]; rfl)
      have y1 := hP.fz 11
      have c2 : wr.cell? ⟨R, 12, none⟩ = some (.int .u64 0) := h.cell (i := 1) (k := 2) (by decide) (by decide) rfl (by rw [updR_at]; rfl)
      have y2 := hP.fz 12
      have c3 : wr.cell? ⟨R, 13, none⟩ = some (.int .u64 0) := h.cell (i := 1) (k := 3) (by decide) (by decide) rfl (by rw [updR_at]; rfl)
      have y3 := hP.fz 13
      have c4 : wr.cell? ⟨R, 14, none⟩ = some (.bool false) := h.cell (i := 1) (k := 4) (by decide) (by decide) rfl (by rw [updR_at]; rfl)
      have y4 := hP.fz 14
      have c5 : wr.cell? ⟨R, 15, none⟩ = some (.bool false) := h.cell (i := 1) (k := 5) (by decide) (by decide) rfl (by rw [updR_at]; rfl)
      have y5 := hP.fz 15
      have c6 : wr.cell? ⟨R, 16, none⟩ = some (.int .u8 0) := h.cell (i := 1) (k := 6) (by decide) (by decide) rfl (by rw [updR_at]; rfl)
      have y6 := hP.fz 16
      have c7 : wr.cell? ⟨R, 17, none⟩ = some (.bool false) := h.cell (i := 1) (k := 7) (by decide) (by decide) rfl (by rw [updR_at]; rfl)
      have y7 := hP.fz 17
      have c8 : wr.cell? ⟨R, 18, none⟩ = some (.bool false) := h.cell (i := 1) (k := 8) (by decide) (by decide) rfl (by rw [updR_at]; rfl)
      have y8 := hP.fz 18
      have c9 : wr.cell? ⟨R, 19, none⟩ = some (.int .u64 0) := h.cell (i := 1) (k := 9) (by decide) (by decide) rfl (by rw [updR_at]; rfl)
      have y9 := hP.fz 19
      have E1 : Hid (RAt ((((((((((wr.setCell ⟨R, 10, none⟩ (.int .i64 3)).setCell ⟨R, 11, none⟩ (.int .i64 3)).setCell ⟨R, 12, none⟩ (.int .u64 65536)).setCell ⟨R, 13, none⟩ (.int .u64 0)).setCell ⟨R, 14, none⟩ (.bool false)).setCell ⟨R, 15, none⟩ (.bool false)).setCell ⟨R, 16, none⟩ (.int .u8 0)).setCell ⟨R, 17, none⟩ (.bool false)).setCell ⟨R, 18, none⟩ (.bool false)).setCell ⟨R, 19, none⟩ (.int .u64 0)) R (updR (laidR 1) 1 r00)) := ((((((((((h.set (by decide) 0 10 (by decide) rfl _ ⟨3, 0, 0, 0, false, false, 0, false, false, 0⟩ rfl).set (by decide) 1 11 (by decide) rfl _ ⟨3, 3, 0, 0, false, false, 0, false, false, 0⟩ rfl).set (by decide) 2 12 (by decide) rfl _ ⟨3, 3, 65536, 0, false, false, 0, false, false, 0⟩ rfl).set (by decide) 3 13 (by decide) rfl _ ⟨3, 3, 65536, 0, false, false, 0, false, false, 0⟩ rfl).set (by decide) 4 14 (by decide) rfl _ ⟨3, 3, 65536, 0, false, false, 0, false, false, 0⟩ rfl).set (by decide) 5 15 (by decide) rfl _ ⟨3, 3, 65536, 0, false, false, 0, false, false, 0⟩ rfl).set (by decide) 6 16 (by decide) rfl _ ⟨3, 3, 65536, 0, false, false, 0, false, false, 0⟩ rfl).set (by decide) 7 17 (by decide) rfl _ ⟨3, 3, 65536, 0, false, false, 0, false, false, 0⟩ rfl).set (by decide) 8 18 (by decide) rfl _ ⟨3, 3, 65536, 0, false, false, 0, false, false, 0⟩ rfl).set (by decide) 9 19 (by decide) rfl _ ⟨3, 3, 65536, 0, false, false, 0, false, false, 0⟩ rfl)
      have K1 : Hid (Kp noB w ((((((((((wr.setCell ⟨R, 10, none⟩ (.int .i64 3)).setCell ⟨R, 11, none⟩ (.int .i64 3)).setCell ⟨R, 12, none⟩ (.int .u64 65536)).setCell ⟨R, 13, none⟩ (.int .u64 0)).setCell ⟨R, 14, none⟩ (.bool false)).setCell ⟨R, 15, none⟩ (.bool false)).setCell ⟨R, 16, none⟩ (.int .u8 0)).setCell ⟨R, 17, none⟩ (.bool false)).setCell ⟨R, 18, none⟩ (.bool false)).setCell ⟨R, 19, none⟩ (.int .u64 0))) := kr.own ((((((((((kpB R wr _ _).trans (kpB R _ _ _)).trans (kpB R _ _ _)).trans (kpB R _ _ _)).trans (kpB R _ _ _)).trans (kpB R _ _ _)).trans (kpB R _ _ _)).trans (kpB R _ _ _)).trans (kpB R _ _ _)).trans (kpB R _ _ _)) lR
      rw [laidR_upd] at E1
      clear h hP kr
      go_wp2
      go_roundw
      case rel => exact ⟨2, rfl, by omega, E1.out, K1.out⟩
      case measure => simp [intOf]
    · have h : RAt wr R (updR (laidR 2) 2 RC.zero) := by
        have : updR (laidR 2) 2 RC.zero = laidR 2 := by rw [← laidR_self 2]; funext j; unfold updR; split; (rename_i e; rw [e]); rfl
        rw [this]; exact hP
      have c0 : wr.cell? ⟨R, 20, none⟩ = some (.int .i64 0) := h.cell (i := 2) (k := 0) (by decide) (by decide) rfl (by rw [updR_at]; rfl)
      have y0 := hP.fz 20
      have c1 : wr.cell? ⟨R, 21, none⟩ = some (.int .i64 0) := h.cell (i := 2) (k := 1) (by decide) (by decide) rfl (by rw [updR_at]; rfl)
      have y1 := hP.fz 21
      have c2 : wr.cell? ⟨R, 22, none⟩ = some (.int .u64 0) := h.cell (i := 2) (k := 2) (by decide) (by decide) rfl (by rw [updR_at]; rfl)
      have y2 := hP.fz 22
      have c3 : wr.cell? ⟨R, 23, none⟩ = some (.int .u64 0) := h.cell (i := 2) (k := 3) (by decide) (by decide) rfl (by rw [updR_at]; rfl)
      have y3 := hP.fz 23
      have c4 : wr.cell? ⟨R, 24, none⟩ = some (.bool false) := h.cell (i := 2) (k := 4) (by decide) (by decide) rfl (by rw [updR_at]; rfl)
      have y4 := hP.fz 24
      have c5 : wr.cell? ⟨R, 25, none⟩ = some (.bool false) := h.cell (i := 2) (k := 5) (by decide) (by decide) rfl (by rw [updR_at]; rfl)
      have y5 := hP.fz 25
      have c6 : wr.cell? ⟨R, 26, none⟩ = some (.int .u8 0) := h.cell (i := 2) (k := 6) (by decide) (by decide) rfl (by rw [updR_at]; rfl)
      have y6 := hP.fz 26
      have c7 : wr.cell? ⟨R, 27, none⟩ = some (.bool false) := h.cell (i := 2) (k := 7) (by decide) (by decide) rfl (by rw [updR_at]; rfl)
      have y7 := hP.fz 27
      have c8 : wr.cell? ⟨R, 28, none⟩ = some (.bool false) := h.cell (i := 2) (k := 8) (by decide) (by decide) rfl (by rw [updR_at]; rfl)
      have y8 := hP.fz 28
      have c9 : wr.cell? ⟨R, 29, none⟩ = some (.int .u64 0) := h.cell (i := 2) (k := 9) (by decide) (by decide) rfl (by rw [updR_at]; rfl)
      have y9 := hP.fz 29
      have E1 : Hid (RAt ((((((((((wr.setCell ⟨R, 20, none⟩ (.int .i64 3)).setCell ⟨R, 21, none⟩ (.int .i64 3)).setCell ⟨R, 22, none⟩ (.int .u64 65536)).setCell ⟨R, 23, none⟩ (.int .u64 0)).setCell ⟨R, 24, none⟩ (.bool false)).setCell ⟨R, 25, none⟩ (.bool false)).setCell ⟨R, 26, none⟩ (.int .u8 0)).setCell ⟨R, 27, none⟩ (.bool false)).setCell ⟨R, 28, none⟩ (.bool false)).setCell ⟨R, 29, none⟩ (.int .u64 0)) R (updR (laidR 2) 2 r00)) := ((((((((((h.set (by decide) 0 20 (by decide) rfl _ ⟨3, 0, 0, 0, false, false, 0, false, false, 0⟩ rfl).set (by decide) 1 21 (by decide) rfl _ ⟨3, 3, 0, 0, false, false, 0, false, false, 0⟩ rfl).set (by decide) 2 22 (by decide) rfl _ ⟨3, 3, 65536, 0, false, false, 0, false, false, 0⟩ rfl).set (by decide) 3 23 (by decide) rfl _ ⟨3, 3, 65536, 0, false, false, 0, false, false, 0⟩ rfl).set (by decide) 4 24 (by decide) rfl _ ⟨3, 3, 65536, 0, false, false, 0, false, false, 0⟩ rfl).set (by decide) 5 25 (by decide) rfl _ ⟨3, 3, 65536, 0, false, false, 0, false, false, 0⟩ rfl).set (by decide) 6 26 (by decide) rfl _ ⟨3, 3, 65536, 0, false, false, 0, false, false, 0⟩ rfl).set (by decide) 7 27 (by decide) rfl _ ⟨3, 3, 65536, 0, false, false, 0, false, false, 0⟩ rfl).set (by decide) 8 28 (by decide) rfl _ ⟨3, 3, 65536, 0, false, false, 0, false, false, 0⟩ rfl).set (by decide) 9 29 (by decide) rfl _ ⟨3, 3, 65536, 0, false, false, 0, false, false, 0⟩ rfl)
      have K1 : Hid (Kp noB w ((((((((((wr.setCell ⟨R, 20, none⟩ (.int .i64 3)).setCell ⟨R, 21, none⟩ (.int .i64 3)).setCell ⟨R, 22, none⟩ (.int .u64 65536)).setCell ⟨R, 23, none⟩ (.int .u64 0)).setCell ⟨R, 24, none⟩ (.bool false)).setCell ⟨R, 25, none⟩ (.bool false)).setCell ⟨R, 26, none⟩ (.int .u8 0)).setCell ⟨R, 27, none⟩ (.bool false)).setCell ⟨R, 28, none⟩ (.bool false)).setCell ⟨R, 29, none⟩ (.int .u64 0))) := kr.own ((((((((((kpB R wr _ _).trans (kpB R _ _ _)).trans (kpB R _ _ _)).trans (kpB R _ _ _)).trans (kpB R _ _ _)).trans (kpB R _ _ _)).trans (kpB R _ _ _)).trans (kpB R _ _ _)).trans (kpB R _ _ _)).trans (kpB R _ _ _)) lR
      rw [laidR_upd] at E1
      clear h hP kr
      go_wp2
      go_roundw
      case rel => exact ⟨3, rfl, by omega, E1.out, K1.out⟩
      case measure => simp [intOf]
    · go_wp2
      go_ret
      exact ⟨R, rfl, lR, ⟨rowR_all ▸ hP.blk⟩, kr⟩
end Go.Proofs.YtiagfmkinefidaaGreat.Pt
namespace Go.Proofs.YtiagfmkinefidaaGreat.Pt
open Go.RowKit
set_option linter.unusedVariables false
set_option maxRecDepth 20000
structure Rel (r : RC) (c : Cn) : Prop where
  mode : r.mode = c.mode
  how : r.how = c.how
  len : r.len = c.whole
  began : c.st = false → r.began = c.began
  st : r.st = c.st
  wants : r.wants = c.wants
  fst : c.wants = true → r.fst = c.fst
  upper : r.upper = c.upper
  held : r.held = c.holds
  value : c.holds = true → r.value = c.held
  only : c.how ≠ 3 → c.wants = false
theorem Rel.line {r : RC} {c : Cn} (h : Rel r c) (now : Int) : r.line now = c.line now := by
  have e : c.st = false → r.steps now = c.steps now := fun s => by unfold RC.steps Cn.steps; rw [h.began s]
  unfold RC.line Cn.line
  rw [h.st, h.mode, h.len]
  cases s : c.st
  · rw [e s]
  · rfl
theorem Rel.new : Rel ⟨3, 3, 65536, 0, false, false, 0, false, false, 0⟩ cn0 :=
  ⟨rfl, rfl, rfl, fun _ => rfl, rfl, rfl, fun _ => rfl, rfl, rfl, fun _ => rfl, fun _ => rfl⟩
end Go.Proofs.YtiagfmkinefidaaGreat.Pt
namespace Go.Proofs.YtiagfmkinefidaaGreat.Pt
open Go.ChangeShapes Go.WideShapes Go.ChangeAt Go.RowKit
set_option linter.unusedVariables false
set_option maxRecDepth 20000
structure RW (w : World) (R : Nat) (f : Nat → Cn) : Prop where
  ex : ∃ g, RAt w R g ∧ ∀ j, j < 3 → Rel (g j) (f j)
  ok : Oks f
theorem RW.kept {S : Nat → Prop} {w w' : World} {R : Nat} {f : Nat → Cn} (h : RW w R f) (k : Kp S w w') (hS : ¬ S R) : RW w' R f := by
  obtain ⟨g, a, b⟩ := h.ex
  exact ⟨⟨g, a.kept k hS, b⟩, h.ok⟩
theorem RW.lt {w : World} {R : Nat} {f : Nat → Cn} (h : RW w R f) : R < w.heap.size := by
  obtain ⟨g, a, b⟩ := h.ex
  exact a.lt
theorem rel_len {r : RC} {c : Cn} (h : Rel r c) (k : c.Ok) : 1 ≤ r.len ∧ r.len ≤ 65536 := by rw [h.len]; exact k.whole
end Go.Proofs.YtiagfmkinefidaaGreat.Pt
namespace Go.Proofs.YtiagfmkinefidaaGreat.Pt
open Go.ChangeShapes Go.WideShapes Go.ChangeAt Go.RowKit
set_option linter.unusedVariables false
set_option maxRecDepth 20000
theorem xLine (w : World) (R : Nat) (f : Nat → Cn) (h : RW w R f) (now : Int) : Calls Tryz.prog 130 #[.pointer (some ⟨R, 0, none⟩), .int .u64 now] w fun e w' => e = .returned (.bool ((f 0).line now)) ∧ Kp noB w w' := by
  obtain ⟨g, hA, hr⟩ := h.ex
  have rl := hr 0 (by decide)
  have ll := rel_len rl (h.ok 0)
  rw [← rl.line now]
  exact rlin_ok w R g hA now ll.1 ll.2
theorem xNew (w : World) : Calls Tryz.prog 83 #[] w fun e w' => ∃ R, e = .returned (.pointer (some ⟨R, 0, none⟩)) ∧ w.heap.size ≤ R ∧ RW w' R f00 ∧ Kp noB w w' :=
  (rnew_ok w).mono fun e w' ⟨R, a, b, c, d⟩ => ⟨R, a, b, ⟨⟨_, c, fun j hj => Rel.new⟩, f00_ok⟩, d⟩
end Go.Proofs.YtiagfmkinefidaaGreat.Pt
