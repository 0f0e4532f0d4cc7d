/- The document's reader, and the code's (RfIns, RfIns2, RfEg, RfArm, RfArm2). -/
import Derived.Test.YtbfccfhjgopnbaaGreatDr06
import Derived.Test.YtbfccfhjgopnbaaGreatDr08
import Derived.Deep.RegionWith
set_option linter.unusedSimpArgs false
namespace Go.Proofs.YtbfccfhjgopnbaaGreat
open Go.ChangeShapes Go.WideShapes Go.ChangeAt Go.RowKit
set_option linter.unusedVariables false
set_option maxRecDepth 20000
/-- One cell of an instruction. -/
def Ins.up (x : Ins) (k : Nat) (v : Int) : Ins :=
  match k with
  | 0 => { x with op := v }
  | 1 => { x with sub := v }
  | 2 => { x with size := v }
  | 3 => { x with a := { x.a with kind := v } }
  | 4 => { x with a := { x.a with reg := v } }
  | 5 => { x with a := { x.a with size := v } }
  | 6 => { x with a := { x.a with seg := v } }
  | 7 => { x with a := { x.a with base := v } }
  | 8 => { x with a := { x.a with index := v } }
  | 9 => { x with a := { x.a with scale := v } }
  | 10 => { x with a := { x.a with disp := v } }
  | 11 => { x with a := { x.a with imm := v } }
  | 12 => { x with b := { x.b with kind := v } }
  | 13 => { x with b := { x.b with reg := v } }
  | 14 => { x with b := { x.b with size := v } }
  | 15 => { x with b := { x.b with seg := v } }
  | 16 => { x with b := { x.b with base := v } }
  | 17 => { x with b := { x.b with index := v } }
  | 18 => { x with b := { x.b with scale := v } }
  | 19 => { x with b := { x.b with disp := v } }
  | 20 => { x with b := { x.b with imm := v } }
  | 21 => { x with c := { x.c with kind := v } }
  | 22 => { x with c := { x.c with reg := v } }
  | 23 => { x with c := { x.c with size := v } }
  | 24 => { x with c := { x.c with seg := v } }
  | 25 => { x with c := { x.c with base := v } }
  | 26 => { x with c := { x.c with index := v } }
  | 27 => { x with c := { x.c with scale := v } }
  | 28 => { x with c := { x.c with disp := v } }
  | 29 => { x with c := { x.c with imm := v } }
  | 30 => { x with rep := v }
  | 31 => { x with len := v }
  | _ => x
theorem insUp0 (x : Ins) (v : Int) : (insV x).setIfInBounds 0 (.int .i64 v) = insV (x.up 0 v) := rfl
theorem insUp1 (x : Ins) (v : Int) : (insV x).setIfInBounds 1 (.int .i64 v) = insV (x.up 1 v) := rfl
theorem insUp2 (x : Ins) (v : Int) : (insV x).setIfInBounds 2 (.int .i64 v) = insV (x.up 2 v) := rfl
theorem insUp3 (x : Ins) (v : Int) : (insV x).setIfInBounds 3 (.int .i64 v) = insV (x.up 3 v) := rfl
theorem insUp4 (x : Ins) (v : Int) : (insV x).setIfInBounds 4 (.int .i64 v) = insV (x.up 4 v) := rfl
theorem insUp5 (x : Ins) (v : Int) : (insV x).setIfInBounds 5 (.int .i64 v) = insV (x.up 5 v) := rfl
theorem insUp6 (x : Ins) (v : Int) : (insV x).setIfInBounds 6 (.int .i64 v) = insV (x.up 6 v) := rfl
theorem insUp7 (x : Ins) (v : Int) : (insV x).setIfInBounds 7 (.int .i64 v) = insV (x.up 7 v) := rfl
theorem insUp8 (x : Ins) (v : Int) : (insV x).setIfInBounds 8 (.int .i64 v) = insV (x.up 8 v) := rfl
theorem insUp9 (x : Ins) (v : Int) : (insV x).setIfInBounds 9 (.int .i64 v) = insV (x.up 9 v) := rfl
theorem insUp10 (x : Ins) (v : Int) : (insV x).setIfInBounds 10 (.int .u32 v) = insV (x.up 10 v) := rfl
theorem insUp11 (x : Ins) (v : Int) : (insV x).setIfInBounds 11 (.int .u32 v) = insV (x.up 11 v) := rfl
theorem insUp12 (x : Ins) (v : Int) : (insV x).setIfInBounds 12 (.int .i64 v) = insV (x.up 12 v) := rfl
theorem insUp13 (x : Ins) (v : Int) : (insV x).setIfInBounds 13 (.int .i64 v) = insV (x.up 13 v) := rfl
theorem insUp14 (x : Ins) (v : Int) : (insV x).setIfInBounds 14 (.int .i64 v) = insV (x.up 14 v) := rfl
theorem insUp15 (x : Ins) (v : Int) : (insV x).setIfInBounds 15 (.int .i64 v) = insV (x.up 15 v) := rfl
theorem insUp16 (x : Ins) (v : Int) : (insV x).setIfInBounds 16 (.int .i64 v) = insV (x.up 16 v) := rfl
theorem insUp17 (x : Ins) (v : Int) : (insV x).setIfInBounds 17 (.int .i64 v) = insV (x.up 17 v) := rfl
theorem insUp18 (x : Ins) (v : Int) : (insV x).setIfInBounds 18 (.int .i64 v) = insV (x.up 18 v) := rfl
theorem insUp19 (x : Ins) (v : Int) : (insV x).setIfInBounds 19 (.int .u32 v) = insV (x.up 19 v) := rfl
theorem insUp20 (x : Ins) (v : Int) : (insV x).setIfInBounds 20 (.int .u32 v) = insV (x.up 20 v) := rfl
theorem insUp30 (x : Ins) (v : Int) : (insV x).setIfInBounds 30 (.int .i64 v) = insV (x.up 30 v) := rfl
theorem res1 {P : Program} {fn : Func} {p : Tmp} {ty : TypeId} (h : fn.results = #[.cell p ty]) (tmps : Array Value) (w : World) (q : Nat) (v : Value) (hp : tmps.getD p undef = .pointer (some ⟨q, 0, none⟩)) (hl : (loadVar ty ⟨q, 0, none⟩).run P w = .ok v w) :
    (results fn tmps).run P w = .ok v w := by
  have hp' : tmps[p]?.getD undef = .pointer (some ⟨q, 0, none⟩) := by simpa using hp
  simp [results, h, hp', asAddr, hl]
/-- All that a walk wants of the letters. -/
structure VlG (T : TypeId) (n : Nat) (fs : Array Field) (ps : Array (Nat × Nat)) : Prop where
  v : Veil T n
  agg : ∀ w, (isAgg T).run Tryz.prog w = .ok true w
  size : ∀ w, (sizeOf T).run Tryz.prog w = .ok n w
  zero : ∀ w, (zeroValue T).run Tryz.prog w = .ok (.agg (insV Ins.zero)) w
  under : ∀ w, (underlying T).run Tryz.prog w = .ok (.struct fs) w
  map : ∀ w, (Array.mapM (fun f : Field => Prod.mk f.offset <$> sizeOf f.type) fs).run Tryz.prog w = .ok ps w
  lit : (32 = n) = True
  p0 : ps[0]? = some (0, 1)
  p1 : ps[1]? = some (1, 1)
  p2 : ps[2]? = some (2, 1)
  p3 : ps[3]? = some (3, 9)
  p4 : ps[4]? = some (12, 9)
  p5 : ps[5]? = some (21, 9)
  p6 : ps[6]? = some (30, 1)
  p7 : ps[7]? = some (31, 1)
theorem vlG : ∃ T n fs ps, VlG T n fs ps := by
  refine ⟨28, 32, (match Tryz.prog.underlying 28 with | some (.struct f) => f | _ => #[]), #[(0, 1), (1, 1), (2, 1), (3, 9), (12, 9), (21, 9), (30, 1), (31, 1)], ⟨rfl, rfl⟩, ?_, ?_, ?_, ?_, ?_, ?_, rfl, rfl, rfl, rfl, rfl, rfl, rfl, rfl⟩
  · exact Veil.agg ⟨rfl, rfl⟩
  · exact Veil.size ⟨rfl, rfl⟩
  · exact Veil.zero ⟨rfl, rfl⟩
  · intro w; kernel_rfl
  · intro w; kernel_rfl
  · exact Veil.lit ⟨rfl, rfl⟩
theorem VlG.ops {T : TypeId} {n : Nat} {fs : Array Field} {ps : Array (Nat × Nat)} (h : VlG T n fs ps) :
    (∀ x, Op.load 28 x = Op.load T x) ∧ (∀ x y, Op.store 28 x y = Op.store T x y) ∧ (∀ p, Op.build 28 p = Op.build T p) ∧ Op.alloc 28 = Op.alloc T ∧ ∀ x, Op.box 28 x = Op.box T x := by
  rw [h.v.t]
  exact ⟨fun _ => rfl, fun _ _ => rfl, fun _ => rfl, rfl, fun _ => rfl⟩
/-- A store into a block that was just made, behind others. -/
theorem VlG.new {T : TypeId} {n : Nat} {fs : Array Field} {ps : Array (Nat × Nat)} (h : VlG T n fs ps) (W : World) (q : Nat) (hq : q = W.heap.size) (x y : Ins) : (storeCells ⟨q, 0, none⟩ (insV x).toList).run Tryz.prog (W.alloc (.cells (insV y) T)) = .ok () (W.alloc (.cells (insV x) T)) := by
  subst hq
  rw [← setRow_alloc W (insV y) (insV x) T, h.v.t]
  exact put_ins (MapKept.heap_alloc W (.cells (insV y) 28)).1 rfl x
theorem VlG.get {T : TypeId} {n : Nat} {fs : Array Field} {ps : Array (Nat × Nat)} (h : VlG T n fs ps) {W : World} {q : Nat} {x : Ins} (hq : W.heap[q]? = some (.cells (insV x) T (0, 0))) : (loadCellsFrom ⟨q, 0, none⟩ 0 n #[]).run Tryz.prog W = .ok (insV x) W := by
  rw [h.v.s]
  exact run_loadCells_list (P := Tryz.prog) W ⟨q, 0, none⟩ (insV x).toList (fun j v hv => by
    simp only [World.cell?, Addr.add_mid, hq]
    simpa using hv)
/-- Behind the result's block: the reader holds its state, nothing older is changed. -/
structure RsI (T : TypeId) (X : Cx) (w : World) (σ : Sg) (f : Int × Int × Int) (c : Int) (wr : World) : Prop where
  st : RSt X wr σ f c
  rs : wr.heap[w.heap.size]? = some (.cells (insV Ins.zero) T (0, 0))
  kp : Kp (rOwn X) w wr
  lt : X.S < w.heap.size
/-- And an instruction of the function's own. -/
structure InI (T : TypeId) (X : Cx) (w : World) (q : Nat) (x : Ins) (σ : Sg) (f : Int × Int × Int) (c : Int) (wr : World) : Prop where
  r : RsI T X w σ f c wr
  op : wr.heap[q]? = some (.cells (insV x) T (0, 0))
  lq : w.heap.size < q
section
variable {T : TypeId} {n : Nat} {fs : Array Field} {ps : Array (Nat × Nat)} {X : Cx} {w wr : World} {q : Nat} {x : Ins} {σ : Sg} {f : Int × Int × Int} {c : Int}
theorem RsI.start (h : RSt X w σ f c) : RsI T X w σ f c (w.alloc (.cells (insV Ins.zero) T)) :=
  ⟨h.alloc _, (MapKept.heap_alloc w _).1, Kp.alloc _ _ _, h.ltS⟩
theorem RsI.own (h : RsI T X w σ f c wr) (x : Ins) : InI T X w wr.heap.size x σ f c (wr.alloc (.cells (insV x) T)) :=
  ⟨⟨h.st.alloc _, heap_kept h.rs (Kp.alloc noB wr _) id, h.kp.trans (Kp.alloc _ _ _), h.lt⟩, (MapKept.heap_alloc wr _).1, heap_lt h.rs⟩
theorem RsI.drew (h : RsI T X w σ f c wr) (n : Nat) : RsI T X w σ f c (wr.drewN n) := ⟨h.st.drewN n, heap_kept h.rs ((Kp.refl noB wr).drewN n) id, h.kp.drewN n, h.lt⟩
theorem RsI.no {w' : World} (h : RsI T X w σ f c wr) (k : Kp noB wr w') : RsI T X w σ f c w' := ⟨h.st.kp k, heap_kept h.rs k id, h.kp.trans k.any, h.lt⟩
theorem RsI.call {w' : World} {σ' : Sg} {f' : Int × Int × Int} {c' : Int} (h : RsI T X w σ f c wr) (d : RDn X wr σ' f' c' w') : RsI T X w σ' f' c' w' :=
  ⟨d.1, heap_kept h.rs d.2 (by show ¬ w.heap.size = X.S; have := h.lt; omega), h.kp.trans d.2, h.lt⟩
theorem InI.drew (h : InI T X w q x σ f c wr) (n : Nat) : InI T X w q x σ f c (wr.drewN n) := ⟨h.r.drew n, heap_kept h.op ((Kp.refl noB wr).drewN n) id, h.lq⟩
theorem InI.no {w' : World} (h : InI T X w q x σ f c wr) (k : Kp noB wr w') : InI T X w q x σ f c w' := ⟨h.r.no k, heap_kept h.op k id, h.lq⟩
theorem InI.call {w' : World} {σ' : Sg} {f' : Int × Int × Int} {c' : Int} (h : InI T X w q x σ f c wr) (d : RDn X wr σ' f' c' w') : InI T X w q x σ' f' c' w' :=
  ⟨h.r.call d, heap_kept h.op d.2 (by show ¬ q = X.S; have := h.r.lt; have := h.lq; omega), h.lq⟩
/-- A cell of the own instruction is stored. -/
theorem InI.set (h : InI T X w q x σ f c wr) (k : Nat) (v : Value) (y : Ins) (e : (insV x).setIfInBounds k v = insV y) : InI T X w q y σ f c (wr.setCell ⟨q, k, none⟩ v) := by
  have kk : Kp (fun b => b = q) wr (wr.setCell ⟨q, k, none⟩ v) := Kp.setCell (S := fun b => b = q) wr (p := ⟨q, k, none⟩) rfl v
  have hl := h.lq
  have hr := h.r.lt
  refine ⟨⟨h.r.st.other kk (by omega), heap_kept h.r.rs kk (by show ¬ w.heap.size = q; omega), ?_, h.r.lt⟩, by rw [heap_set h.op, e], h.lq⟩
  exact ⟨kk.os.trans h.r.kp.os, kk.tape.trans h.r.kp.tape, kk.output.trans h.r.kp.output, Nat.le_trans h.r.kp.size kk.size, fun i hi hs => (kk.block i (Nat.lt_of_lt_of_le hi h.r.kp.size) (by show ¬ i = q; omega)).trans (h.r.kp.block i hi hs)⟩
theorem RsI.put (hv : VlG T n fs ps) (h : RsI T X w σ f c wr) (y : Ins) : (storeCells ⟨w.heap.size, 0, none⟩ (insV y).toList).run Tryz.prog wr = .ok () (wr.setRow w.heap.size (insV y)) := by
  have e := h.rs
  rw [hv.v.t] at e
  exact put_ins e rfl y
theorem RsI.got (hv : VlG T n fs ps) (h : RsI T X w σ f c wr) (y : Ins) : (loadVar 28 ⟨w.heap.size, 0, none⟩).run Tryz.prog (wr.setRow w.heap.size (insV y)) = .ok (.agg (insV y)) (wr.setRow w.heap.size (insV y)) := by
  have e := h.rs
  rw [hv.v.t] at e
  exact load_ins (got_ins e y) rfl
theorem RsI.fin (h : RsI T X w σ f c wr) (y : Ins) : RDn X w σ f c (wr.setRow w.heap.size (insV y)) := by
  have kk : Kp (fun b => b = w.heap.size) wr (wr.setRow w.heap.size (insV y)) := Kp.setRow (S := fun b => b = w.heap.size) wr rfl _
  refine ⟨h.st.other kk h.lt, ?_⟩
  exact ⟨kk.os.trans h.kp.os, kk.tape.trans h.kp.tape, kk.output.trans h.kp.output, Nat.le_trans h.kp.size kk.size, fun i hi hs => (kk.block i (Nat.lt_of_lt_of_le hi h.kp.size) (by show ¬ i = w.heap.size; omega)).trans (h.kp.block i hi hs)⟩
theorem VlG.newD (h : VlG T n fs ps) (W : World) (q : Nat) (hq : q = W.heap.size) (x y : Ins) : (storeCells ⟨q, 0, none⟩ (insV x).toList).run Tryz.prog (W.alloc (.cells (insV y) T)).drew = .ok () (W.alloc (.cells (insV x) T)).drew := by
  subst hq
  have e : (W.alloc (.cells (insV x) T)).drew = (W.alloc (.cells (insV y) T)).drew.setRow W.heap.size (insV x) := by
    rw [← setRow_alloc W (insV y) (insV x) T]; rfl
  rw [e, h.v.t]
  exact put_ins (w := (W.alloc (.cells (insV y) 28)).drew) (heap_kept (MapKept.heap_alloc W (.cells (insV y) 28)).1 ((Kp.refl noB _).drewN 1) id) rfl x
end
theorem insNe (x : Ins) : ¬ insV x = #[] := fun e => by have := congrArg Array.size e; simp [insV_size] at this
theorem VlG.newQ {T : TypeId} {n : Nat} {fs : Array Field} {ps : Array (Nat × Nat)} (h : VlG T n fs ps) : ∀ (W : World) (x y : Ins), (storeCells ⟨W.heap.size, 0, none⟩ (insV x).toList).run Tryz.prog (W.alloc (.cells (insV y) T)) = .ok () (W.alloc (.cells (insV x) T)) := fun W x y => h.new W _ rfl x y
/-- What every walk lays ahead of itself. -/
theorem vlP : ∃ (T : TypeId) (n : Nat) (fs : Array Field) (ps : Array (Nat × Nat)), VlG T n fs ps ∧ Hid (VlG T n fs ps) ∧ ((∀ x, Op.load 28 x = Op.load T x) ∧ (∀ x y, Op.store 28 x y = Op.store T x y) ∧ (∀ p, Op.build 28 p = Op.build T p) ∧ Op.alloc 28 = Op.alloc T ∧ ∀ x, Op.box 28 x = Op.box T x) ∧
    (∀ w, (isAgg T).run Tryz.prog w = .ok true w) ∧ (∀ w, (sizeOf T).run Tryz.prog w = .ok n w) ∧ (∀ w, (zeroValue T).run Tryz.prog w = .ok (.agg (insV Ins.zero)) w) ∧ (∀ w, (underlying T).run Tryz.prog w = .ok (.struct fs) w) ∧ (∀ w, (Array.mapM (fun f : Field => Prod.mk f.offset <$> sizeOf f.type) fs).run Tryz.prog w = .ok ps w) ∧ ((32 = n) = True) ∧
    ps[0]? = some (0, 1) ∧ ps[1]? = some (1, 1) ∧ ps[2]? = some (2, 1) ∧ ps[3]? = some (3, 9) ∧ ps[4]? = some (12, 9) ∧ ps[5]? = some (21, 9) ∧ ps[6]? = some (30, 1) ∧ ps[7]? = some (31, 1) ∧ (∀ x, (insV x).size = 32) ∧ (∀ x : Ins, ¬ insV x = #[]) := by
  obtain ⟨T, n, fs, ps, hv⟩ := vlG
  exact ⟨T, n, fs, ps, hv, hv, hv.ops, hv.agg, hv.size, hv.zero, hv.under, hv.map, hv.lit, hv.p0, hv.p1, hv.p2, hv.p3, hv.p4, hv.p5, hv.p6, hv.p7, insV_size, insNe⟩
theorem ups12 : (∀ (x : Ins) (v : Int), (insV x).setIfInBounds 0 (.int .i64 v) = insV (x.up 0 v)) ∧ (∀ (x : Ins) (v : Int), (insV x).setIfInBounds 1 (.int .i64 v) = insV (x.up 1 v)) ∧ (∀ (x : Ins) (v : Int), (insV x).setIfInBounds 2 (.int .i64 v) = insV (x.up 2 v)) ∧ (∀ (x : Ins) (v : Int), (insV x).setIfInBounds 3 (.int .i64 v) = insV (x.up 3 v)) ∧ (∀ (x : Ins) (v : Int), (insV x).setIfInBounds 4 (.int .i64 v) = insV (x.up 4 v)) ∧ (∀ (x : Ins) (v : Int), (insV x).setIfInBounds 5 (.int .i64 v) = insV (x.up 5 v)) ∧ (∀ (x : Ins) (v : Int), (insV x).setIfInBounds 6 (.int .i64 v) = insV (x.up 6 v)) ∧ (∀ (x : Ins) (v : Int), (insV x).setIfInBounds 7 (.int .i64 v) = insV (x.up 7 v)) ∧ (∀ (x : Ins) (v : Int), (insV x).setIfInBounds 8 (.int .i64 v) = insV (x.up 8 v)) ∧ (∀ (x : Ins) (v : Int), (insV x).setIfInBounds 9 (.int .i64 v) = insV (x.up 9 v)) ∧ (∀ (x : Ins) (v : Int), (insV x).setIfInBounds 10 (.int .u32 v) = insV (x.up 10 v)) ∧ (∀ (x : Ins) (v : Int), (insV x).setIfInBounds 11 (.int .u32 v) = insV (x.up 11 v)) := ⟨insUp0, insUp1, insUp2, insUp3, insUp4, insUp5, insUp6, insUp7, insUp8, insUp9, insUp10, insUp11⟩
theorem ups21 : (∀ (x : Ins) (v : Int), (insV x).setIfInBounds 0 (.int .i64 v) = insV (x.up 0 v)) ∧ (∀ (x : Ins) (v : Int), (insV x).setIfInBounds 1 (.int .i64 v) = insV (x.up 1 v)) ∧ (∀ (x : Ins) (v : Int), (insV x).setIfInBounds 2 (.int .i64 v) = insV (x.up 2 v)) ∧ (∀ (x : Ins) (v : Int), (insV x).setIfInBounds 3 (.int .i64 v) = insV (x.up 3 v)) ∧ (∀ (x : Ins) (v : Int), (insV x).setIfInBounds 4 (.int .i64 v) = insV (x.up 4 v)) ∧ (∀ (x : Ins) (v : Int), (insV x).setIfInBounds 5 (.int .i64 v) = insV (x.up 5 v)) ∧ (∀ (x : Ins) (v : Int), (insV x).setIfInBounds 6 (.int .i64 v) = insV (x.up 6 v)) ∧ (∀ (x : Ins) (v : Int), (insV x).setIfInBounds 7 (.int .i64 v) = insV (x.up 7 v)) ∧ (∀ (x : Ins) (v : Int), (insV x).setIfInBounds 8 (.int .i64 v) = insV (x.up 8 v)) ∧ (∀ (x : Ins) (v : Int), (insV x).setIfInBounds 9 (.int .i64 v) = insV (x.up 9 v)) ∧ (∀ (x : Ins) (v : Int), (insV x).setIfInBounds 10 (.int .u32 v) = insV (x.up 10 v)) ∧ (∀ (x : Ins) (v : Int), (insV x).setIfInBounds 11 (.int .u32 v) = insV (x.up 11 v)) ∧ (∀ (x : Ins) (v : Int), (insV x).setIfInBounds 12 (.int .i64 v) = insV (x.up 12 v)) ∧ (∀ (x : Ins) (v : Int), (insV x).setIfInBounds 13 (.int .i64 v) = insV (x.up 13 v)) ∧ (∀ (x : Ins) (v : Int), (insV x).setIfInBounds 14 (.int .i64 v) = insV (x.up 14 v)) ∧ (∀ (x : Ins) (v : Int), (insV x).setIfInBounds 15 (.int .i64 v) = insV (x.up 15 v)) ∧ (∀ (x : Ins) (v : Int), (insV x).setIfInBounds 16 (.int .i64 v) = insV (x.up 16 v)) ∧ (∀ (x : Ins) (v : Int), (insV x).setIfInBounds 17 (.int .i64 v) = insV (x.up 17 v)) ∧ (∀ (x : Ins) (v : Int), (insV x).setIfInBounds 18 (.int .i64 v) = insV (x.up 18 v)) ∧ (∀ (x : Ins) (v : Int), (insV x).setIfInBounds 19 (.int .u32 v) = insV (x.up 19 v)) ∧ (∀ (x : Ins) (v : Int), (insV x).setIfInBounds 20 (.int .u32 v) = insV (x.up 20 v)) := ⟨insUp0, insUp1, insUp2, insUp3, insUp4, insUp5, insUp6, insUp7, insUp8, insUp9, insUp10, insUp11, insUp12, insUp13, insUp14, insUp15, insUp16, insUp17, insUp18, insUp19, insUp20⟩
end Go.Proofs.YtbfccfhjgopnbaaGreat
namespace Go.Proofs.YtbfccfhjgopnbaaGreat
open Go.ChangeShapes Go.WideShapes Go.ChangeAt Go.RowKit
set_option linter.unusedVariables false
set_option maxRecDepth 20000
theorem e_okR (w : World) (X : Cx) (σ : Sg) (f : Int × Int × Int) (c : Int) (h : RSt X w σ f c) (hfl : σ.fl = some f) (hb : 0 ≤ f.1 ∧ f.1 < 4) (s : Int) :
    Calls Tryz.prog 206 #[.pointer (some ⟨X.S, 0, none⟩), .int .i64 s] w fun e w' => e = .returned (.agg (pE X s σ).1.vals) ∧ RDn X w (pE X s σ).2 f c w' := by
  obtain ⟨m, n, r⟩ := f
  have e1 : modrm X σ = ((m, n, r), σ) := by unfold modrm; rw [hfl]
  simp only at hb
  by_cases h3 : m = 3
  · subst h3
    have e2 : pE X s σ = (regO r s, σ) := by unfold pE; rw [e1]; exact if_pos rfl
    rw [e2]
    exact e_regR w X σ n r c h s
  · have e2 : pE X s σ = finE X s σ.seg m (sibP X r σ).1.1 (sibP X r σ).1.2.1 (sibP X r σ).1.2.2 (sibP X r σ).2 := by unfold pE; rw [e1]; exact if_neg h3
    rcases (by omega : m = 0 ∨ m = 1 ∨ m = 2) with rfl | rfl | rfl
    · exact e_memR0 w X σ n r c σ.seg h s _ e2 rfl
    · exact e_memR1 w X σ n r c σ.seg h s _ e2 rfl
    · exact e_memR2 w X σ n r c σ.seg h s _ e2 rfl
/-- An operand, its type's number a letter. -/
structure VlO (U : TypeId) (m : Nat) : Prop where
  t : U = 26
  s : m = 9
theorem vlO : ∃ U m, VlO U m := ⟨_, _, rfl, rfl⟩
section
variable {U : TypeId} {m : Nat}
theorem VlO.agg (h : VlO U m) (w : World) : (isAgg U).run Tryz.prog w = .ok true w := by rw [h.t]; kernel_rfl
theorem VlO.size (h : VlO U m) (w : World) : (sizeOf U).run Tryz.prog w = .ok m w := by rw [h.t, h.s]; kernel_rfl
theorem VlO.zero (h : VlO U m) (w : World) : (zeroValue U).run Tryz.prog w = .ok (.agg Opd.zero.vals) w := by rw [h.t]; kernel_rfl
theorem VlO.lit (h : VlO U m) : (9 = m) = True := by rw [h.s]; simp
theorem VlO.ops (h : VlO U m) : (∀ x, Op.load 26 x = Op.load U x) ∧ (∀ x y, Op.store 26 x y = Op.store U x y) ∧ Op.alloc 26 = Op.alloc U := by
  rw [h.t]
  exact ⟨fun _ => rfl, fun _ _ => rfl, rfl⟩
theorem VlO.new (h : VlO U m) (W : World) (q : Nat) (hq : q = W.heap.size) (o : Opd) : (storeCells ⟨q, 0, none⟩ o.vals.toList).run Tryz.prog (W.alloc (.cells Opd.zero.vals U)) = .ok () (W.alloc (.cells o.vals U)) := by
  subst hq
  rw [← setRow_alloc W Opd.zero.vals o.vals U, h.t]
  exact put_res (MapKept.heap_alloc W (.cells Opd.zero.vals 26)).1 o
theorem VlO.get (h : VlO U m) {W : World} {q : Nat} {o : Opd} (hq : W.heap[q]? = some (.cells o.vals U (0, 0))) : (loadCellsFrom ⟨q, 0, none⟩ 0 m #[]).run Tryz.prog W = .ok o.vals W := by
  rw [h.s]
  exact run_loadCells_list (P := Tryz.prog) W ⟨q, 0, none⟩ o.vals.toList (fun j v hv => by
    simp only [World.cell?, Addr.add_mid, hq]
    simpa using hv)
end
structure RsQ (T : TypeId) (X : Cx) (w : World) (ρ : Nat) (σ : Sg) (f : Int × Int × Int) (c : Int) (wr : World) : Prop where
  st : RSt X wr σ f c
  rs : wr.heap[ρ]? = some (.cells (insV Ins.zero) T (0, 0))
  kp : Kp (rOwn X) w wr
  lt : X.S < w.heap.size ∧ w.heap.size ≤ ρ
structure InQ (T : TypeId) (X : Cx) (w : World) (ρ q : Nat) (x : Ins) (σ : Sg) (f : Int × Int × Int) (c : Int) (wr : World) : Prop where
  r : RsQ T X w ρ σ f c wr
  op : wr.heap[q]? = some (.cells (insV x) T (0, 0))
  lq : w.heap.size ≤ q ∧ q ≠ ρ
section
variable {T : TypeId} {n : Nat} {fs : Array Field} {ps : Array (Nat × Nat)} {X : Cx} {w wr w' : World} {ρ q : Nat} {x : Ins} {σ σ' : Sg} {f f' : Int × Int × Int} {c c' : Int}
theorem RsQ.start (h : RSt X w σ f c) : RsQ T X w w.heap.size σ f c (w.alloc (.cells (insV Ins.zero) T)) :=
  ⟨h.alloc _, (MapKept.heap_alloc w _).1, Kp.alloc _ _ _, h.ltS, Nat.le_refl _⟩
theorem RsQ.own (h : RsQ T X w ρ σ f c wr) (x : Ins) : InQ T X w ρ wr.heap.size x σ f c (wr.alloc (.cells (insV x) T)) :=
  ⟨⟨h.st.alloc _, heap_kept h.rs (Kp.alloc noB wr _) id, h.kp.trans (Kp.alloc _ _ _), h.lt⟩, (MapKept.heap_alloc wr _).1, h.kp.size, by have := heap_lt h.rs; omega⟩
theorem RsQ.no (h : RsQ T X w ρ σ f c wr) (k : Kp noB wr w') : RsQ T X w ρ σ f c w' := ⟨h.st.kp k, heap_kept h.rs k id, h.kp.trans k.any, h.lt⟩
theorem RsQ.drew (h : RsQ T X w ρ σ f c wr) : RsQ T X w ρ σ f c wr.drew := h.no ((Kp.refl noB wr).drewN 1)
theorem RsQ.call (h : RsQ T X w ρ σ f c wr) (d : RDn X wr σ' f' c' w') : RsQ T X w ρ σ' f' c' w' :=
  ⟨d.1, heap_kept h.rs d.2 (by show ¬ ρ = X.S; have := h.lt; omega), h.kp.trans d.2, h.lt⟩
theorem InQ.no (h : InQ T X w ρ q x σ f c wr) (k : Kp noB wr w') : InQ T X w ρ q x σ f c w' := ⟨h.r.no k, heap_kept h.op k id, h.lq⟩
theorem InQ.drew (h : InQ T X w ρ q x σ f c wr) : InQ T X w ρ q x σ f c wr.drew := h.no ((Kp.refl noB wr).drewN 1)
theorem InQ.call (h : InQ T X w ρ q x σ f c wr) (d : RDn X wr σ' f' c' w') : InQ T X w ρ q x σ' f' c' w' :=
  ⟨h.r.call d, heap_kept h.op d.2 (by show ¬ q = X.S; have := h.r.lt; have := h.lq; omega), h.lq⟩
/-- The own instruction comes first, then the result's block. -/
theorem InQ.box (h : RSt X w σ f c) (x : Ins) : InQ T X w (w.heap.size + 1) w.heap.size x σ f c ((w.alloc (.cells (insV x) T)).alloc (.cells (insV Ins.zero) T)) := by
  have e1 := (MapKept.heap_alloc w (.cells (insV x) T)).1
  have e2 := (MapKept.heap_alloc (w.alloc (.cells (insV x) T)) (.cells (insV Ins.zero) T)).1
  rw [show (w.alloc (.cells (insV x) T)).heap.size = w.heap.size + 1 by simp] at e2
  refine ⟨⟨(h.alloc _).alloc _, e2, ?_, h.ltS, by omega⟩, heap_kept e1 (Kp.alloc noB _ _) id, Nat.le_refl _, by omega⟩
  have k1 : Kp (rOwn X) w (w.alloc (.cells (insV x) T)) := Kp.alloc _ _ _
  exact k1.trans (Kp.alloc _ _ _)
theorem InQ.change (h : InQ T X w ρ q x σ f c wr) {wn : World} {y : Ins} (kk : Kp (fun b => b = q) wr wn) (e : wn.heap[q]? = some (.cells (insV y) T (0, 0))) : InQ T X w ρ q y σ f c wn := by
  have hl := h.lq
  have hr := h.r.lt
  refine ⟨⟨h.r.st.other kk (by omega), heap_kept h.r.rs kk (by show ¬ ρ = q; omega), ?_, h.r.lt⟩, e, h.lq⟩
  exact ⟨kk.os.trans h.r.kp.os, kk.tape.trans h.r.kp.tape, kk.output.trans h.r.kp.output, Nat.le_trans h.r.kp.size kk.size, fun i hi hs => (kk.block i (Nat.lt_of_lt_of_le hi h.r.kp.size) (by show ¬ i = q; omega)).trans (h.r.kp.block i hi hs)⟩
theorem InQ.set (h : InQ T X w ρ q x σ f c wr) (k : Nat) (v : Value) (y : Ins) (e : (insV x).setIfInBounds k v = insV y) : InQ T X w ρ q y σ f c (wr.setCell ⟨q, k, none⟩ v) :=
  h.change (Kp.setCell (S := fun b => b = q) wr (p := ⟨q, k, none⟩) rfl v) (by rw [heap_set h.op, e])
theorem InQ.row (h : InQ T X w ρ q x σ f c wr) (y : Ins) : InQ T X w ρ q y σ f c (wr.setRow q (insV y)) :=
  h.change (Kp.setRow (S := fun b => b = q) wr rfl _) (setRow_heap wr q _ _ _ _ h.op)
theorem one_vals (o : Opd) : ∀ v ∈ o.vals.toList, v.oneCell' = true := by simp [Opd.vals, Value.oneCell']
theorem InQ.putA (h : InQ T X w ρ q x σ f c wr) (o : Opd) : (storeCells ⟨q, 3, none⟩ o.vals.toList).run Tryz.prog wr = .ok () (wr.setRow q (insV { x with a := o })) :=
  run_storeCells_at Tryz.prog q 3 T o.vals.toList 0 (insV x) wr h.op (by show 3 + 0 + 9 ≤ 32; omega) (one_vals o)
theorem InQ.putB (h : InQ T X w ρ q x σ f c wr) (o : Opd) : (storeCells ⟨q, 12, none⟩ o.vals.toList).run Tryz.prog wr = .ok () (wr.setRow q (insV { x with b := o })) :=
  run_storeCells_at Tryz.prog q 12 T o.vals.toList 0 (insV x) wr h.op (by show 12 + 0 + 9 ≤ 32; omega) (one_vals o)
theorem InQ.putC (h : InQ T X w ρ q x σ f c wr) (o : Opd) : (storeCells ⟨q, 21, none⟩ o.vals.toList).run Tryz.prog wr = .ok () (wr.setRow q (insV { x with c := o })) :=
  run_storeCells_at Tryz.prog q 21 T o.vals.toList 0 (insV x) wr h.op (by show 21 + 0 + 9 ≤ 32; omega) (one_vals o)
theorem RsQ.put (hv : VlG T n fs ps) (h : RsQ T X w ρ σ f c wr) (y : Ins) : (storeCells ⟨ρ, 0, none⟩ (insV y).toList).run Tryz.prog wr = .ok () (wr.setRow ρ (insV y)) := by
  have e := h.rs
  rw [hv.v.t] at e
  exact put_ins e rfl y
theorem RsQ.got (hv : VlG T n fs ps) (h : RsQ T X w ρ σ f c wr) (y : Ins) : (loadVar 28 ⟨ρ, 0, none⟩).run Tryz.prog (wr.setRow ρ (insV y)) = .ok (.agg (insV y)) (wr.setRow ρ (insV y)) := by
  have e := h.rs
  rw [hv.v.t] at e
  exact load_ins (got_ins e y) rfl
theorem RsQ.fin (h : RsQ T X w ρ σ f c wr) (y : Ins) : RDn X w σ f c (wr.setRow ρ (insV y)) := by
  have kk : Kp (fun b => b = ρ) wr (wr.setRow ρ (insV y)) := Kp.setRow (S := fun b => b = ρ) wr rfl _
  have hl := h.lt
  refine ⟨h.st.other kk (by omega), ?_⟩
  exact ⟨kk.os.trans h.kp.os, kk.tape.trans h.kp.tape, kk.output.trans h.kp.output, Nat.le_trans h.kp.size kk.size, fun i hi hs => (kk.block i (Nat.lt_of_lt_of_le hi h.kp.size) (by show ¬ i = ρ; omega)).trans (h.kp.block i hi hs)⟩
theorem InQ.cell (h : InQ T X w ρ q x σ f c wr) (k : Nat) (v : Value) (e : (insV x)[k]? = some v) : wr.cell? ⟨q, k, none⟩ = some v := by simp [World.cell?, h.op, e]
theorem InQ.fz (h : InQ T X w ρ q x σ f c wr) (k : Nat) : wr.frozen? ⟨q, k, none⟩ = false := by simp [World.frozen?, h.op]
end
theorem vlOP : ∃ (U : TypeId) (m : Nat), VlO U m ∧ Hid (VlO U m) ∧ ((∀ x, Op.load 26 x = Op.load U x) ∧ (∀ x y, Op.store 26 x y = Op.store U x y) ∧ Op.alloc 26 = Op.alloc U) ∧ (∀ w, (isAgg U).run Tryz.prog w = .ok true w) ∧ (∀ w, (sizeOf U).run Tryz.prog w = .ok m w) ∧ (∀ w, (zeroValue U).run Tryz.prog w = .ok (.agg Opd.zero.vals) w) ∧ ((9 = m) = True) ∧ (∀ o : Opd, o.vals.size = 9) := by
  obtain ⟨U, m, ho⟩ := vlO
  exact ⟨U, m, ho, ho, ho.ops, ho.agg, ho.size, ho.zero, ho.lit, vals_size⟩
end Go.Proofs.YtbfccfhjgopnbaaGreat
namespace Go.Proofs.YtbfccfhjgopnbaaGreat
open Go.ChangeShapes Go.WideShapes Go.ChangeAt Go.RowKit
set_option linter.unusedVariables false
set_option linter.unusedSimpArgs false
set_option maxHeartbeats 4000000
set_option maxRecDepth 20000
theorem rmodrm_fl {w : World} {X : Cx} {σ : Sg} {f : Int × Int × Int} {c : Int} (h : RSt X w σ f c) (hf : σ.fl = none) : (modrm X σ).2.fl = some (modrm X σ).1 ∧ (0 ≤ (modrm X σ).1.1 ∧ (modrm X σ).1.1 < 4) ∧ (0 ≤ (modrm X σ).1.2.1 ∧ (modrm X σ).1.2.1 < 8) ∧ 0 ≤ (modrm X σ).1.2.2 ∧ (modrm X σ).1.2.2 < 8 := by
  have := rtake_bd h
  unfold modrm
  rw [hf]
  refine ⟨rfl, ⟨?_, ?_⟩, ⟨?_, ?_⟩, ?_, ?_⟩ <;> simp only <;> omega
/-- What E and G leave. -/
def egM (X : Cx) (s : Int) (t : Bool) (x : Ins) (σ : Sg) : Ins × Sg × (Int × Int × Int) :=
  let g := regO (modrm X σ).1.2.1 s
  let e := pE X s (modrm X σ).2
  (if t then { x with size := s, a := g, b := e.1 } else { x with size := s, a := e.1, b := g }, e.2, (modrm X σ).1)
theorem eg_t (w : World) (X : Cx) (σ : Sg) (f : Int × Int × Int) (c : Int) (h : RSt X w σ f c) (hf : σ.fl = none) (x : Ins) (s : Int) :
    Calls Tryz.prog 203 #[.pointer (some ⟨X.S, 0, none⟩), .agg (insV x), .int .i64 s, .bool true] w fun e w' => e = .returned (.agg (insV (egM X s true x σ).1)) ∧ RDn X w (egM X s true x σ).2.1 (egM X s true x σ).2.2 c w' := by
  obtain ⟨T, nI, fsI, psI, hv⟩ := vlG
  obtain ⟨U, mU, ho⟩ := vlO
  obtain ⟨vl, vs, vb, va, vx⟩ := hv.ops
  obtain ⟨ol, os, oa⟩ := ho.ops
  have v1 := hv.agg
  have v2 := hv.size
  have v3 := hv.zero
  have v6 := hv.lit
  have o1 := ho.agg
  have o2 := ho.size
  have o3 := ho.zero
  have o6 := ho.lit
  have Hv : Hid _ := hv
  have Ho : Hid _ := ho
  have sz := insV_size
  have so := vals_size
  have hI0 := InQ.box (T := T) h x
  have cM := rmodrm_ok _ X σ f c hI0.r.st hf
  have hfl := rmodrm_fl h hf
  have eM : egM X s true x σ = ({ x with size := s, a := regO (modrm X σ).1.2.1 s, b := (pE X s (modrm X σ).2).1 }, (pE X s (modrm X σ).2).2, (modrm X σ).1) := rfl
  rw [eM]
  clear eM
  generalize modrm X σ = Y at *
  obtain ⟨⟨m, k, r⟩, σ1⟩ := Y
  simp only at cM hfl ⊢
  obtain ⟨o, σ2, hY⟩ : ∃ o σ2, pE X s σ1 = (o, σ2) := ⟨_, _, rfl⟩
  obtain ⟨gO, hg⟩ : ∃ gO, regO k s = gO := ⟨_, rfl⟩
  rw [hY, hg]
  have HY : Hid _ := hY
  have HG : Hid _ := hg
  simp only
  have Hfl : Hid _ := hfl
  have HI0 : Hid _ := hI0
  clear h hv ho hfl hI0 hf hY hg
  go_enter Tryz.func203, Tryz.ntmps203
  simp only [vl, vs, va, vx, ol, os, oa]
  clear vl vs va vb vx ol os oa
  go_wp2_with fail
  refine cM.mono ?_; rintro e w1 ⟨rfl, hd1⟩
  have hI1 := HI0.out.call hd1
  have a2 := hI1.cell 2 (.int .i64 x.size) rfl
  have z2 := hI1.fz 2
  have hI2 := hI1.set 2 (.int .i64 s) { x with size := s } rfl
  have c7 := hI2.r.st.c7
  simp only at c7
  have HI2 : Hid _ := hI2
  clear hI2 hI1 hd1 cM HI0
  go_wp2_with fail
  have cR := rReg_ok (w1.setCell ⟨w.heap.size, 2, none⟩ (.int .i64 s)) k s
  rw [HG.out] at cR
  refine cR.mono ?_; rintro e w3 ⟨rfl, k3⟩
  have hI3 := HI2.out.no (k3.trans (Kp.alloc noB w3 (.cells gO.vals U)))
  have n3 := Ho.out.new w3 w3.heap.size rfl gO
  have g3 := Ho.out.get (MapKept.heap_alloc w3 (.cells gO.vals U)).1
  have t3 := hI3.putA gO
  have hI4 := hI3.row { x with size := s, a := gO }
  have cE := e_okR _ X σ1 _ c hI4.r.st Hfl.out.1 Hfl.out.2.1 s
  rw [HY.out] at cE
  simp only at cE
  have HI4 : Hid _ := hI4
  clear hI4 hI3 k3 HI2 cR
  go_wp2_with fail
  refine cE.mono ?_; rintro e w5 ⟨rfl, hd5⟩
  have hI5 := HI4.out.call hd5
  have t5 := hI5.putB o
  have hI6 := hI5.row { x with size := s, a := gO, b := o }
  have g6 := Hv.out.get hI6.op
  have p6 := hI6.r.put Hv.out
  have HI6 : Hid _ := hI6
  clear hI6 hI5 hd5 cE HI4
  go_wp2
  exact bodyPost_ret (v := _) (res1 rfl _ _ (w.heap.size + 1) _ rfl (HI6.out.r.got Hv.out _)) rfl ⟨rfl, HI6.out.r.fin _⟩
theorem eg_f (w : World) (X : Cx) (σ : Sg) (f : Int × Int × Int) (c : Int) (h : RSt X w σ f c) (hf : σ.fl = none) (x : Ins) (s : Int) :
    Calls Tryz.prog 203 #[.pointer (some ⟨X.S, 0, none⟩), .agg (insV x), .int .i64 s, .bool false] w fun e w' => e = .returned (.agg (insV (egM X s false x σ).1)) ∧ RDn X w (egM X s false x σ).2.1 (egM X s false x σ).2.2 c w' := by
  obtain ⟨T, nI, fsI, psI, hv⟩ := vlG
  obtain ⟨U, mU, ho⟩ := vlO
  obtain ⟨vl, vs, vb, va, vx⟩ := hv.ops
  obtain ⟨ol, os, oa⟩ := ho.ops
  have v1 := hv.agg
  have v2 := hv.size
  have v3 := hv.zero
  have v6 := hv.lit
  have o1 := ho.agg
  have o2 := ho.size
  have o3 := ho.zero
  have o6 := ho.lit
  have Hv : Hid _ := hv
  have Ho : Hid _ := ho
  have sz := insV_size
  have so := vals_size
  have hI0 := InQ.box (T := T) h x
  have cM := rmodrm_ok _ X σ f c hI0.r.st hf
  have hfl := rmodrm_fl h hf
  have eM : egM X s false x σ = ({ x with size := s, a := (pE X s (modrm X σ).2).1, b := regO (modrm X σ).1.2.1 s }, (pE X s (modrm X σ).2).2, (modrm X σ).1) := rfl
  rw [eM]
  clear eM
  generalize modrm X σ = Y at *
  obtain ⟨⟨m, k, r⟩, σ1⟩ := Y
  simp only at cM hfl ⊢
  obtain ⟨o, σ2, hY⟩ : ∃ o σ2, pE X s σ1 = (o, σ2) := ⟨_, _, rfl⟩
  obtain ⟨gO, hg⟩ : ∃ gO, regO k s = gO := ⟨_, rfl⟩
  rw [hY, hg]
  have HY : Hid _ := hY
  have HG : Hid _ := hg
  simp only
  have Hfl : Hid _ := hfl
  have HI0 : Hid _ := hI0
  clear h hv ho hfl hI0 hf hY hg
  go_enter Tryz.func203, Tryz.ntmps203
  simp only [vl, vs, va, vx, ol, os, oa]
  clear vl vs va vb vx ol os oa
  go_wp2_with fail
  refine cM.mono ?_; rintro e w1 ⟨rfl, hd1⟩
  have hI1 := HI0.out.call hd1
  have a2 := hI1.cell 2 (.int .i64 x.size) rfl
  have z2 := hI1.fz 2
  have hI2 := hI1.set 2 (.int .i64 s) { x with size := s } rfl
  have c7 := hI2.r.st.c7
  simp only at c7
  have HI2 : Hid _ := hI2
  clear hI2 hI1 hd1 cM HI0
  go_wp2_with fail
  have cR := rReg_ok (w1.setCell ⟨w.heap.size, 2, none⟩ (.int .i64 s)) k s
  rw [HG.out] at cR
  refine cR.mono ?_; rintro e w3 ⟨rfl, k3⟩
  have hI3 := HI2.out.no (k3.trans (Kp.alloc noB w3 (.cells gO.vals U)))
  have n3 := Ho.out.new w3 w3.heap.size rfl gO
  have g3 := Ho.out.get (MapKept.heap_alloc w3 (.cells gO.vals U)).1
  have cE := e_okR _ X σ1 _ c hI3.r.st Hfl.out.1 Hfl.out.2.1 s
  rw [HY.out] at cE
  simp only at cE
  have HI3 : Hid _ := hI3
  have hl3 : w.heap.size < w3.heap.size := by have := heap_lt HI2.out.op; have := k3.size; omega
  have b3 := (MapKept.heap_alloc w3 (.cells gO.vals U)).1
  have l3 : X.S < w3.heap.size := by have := k3.size; have := HI2.out.r.st.ltS; omega
  clear hI3 k3 HI2 cR
  go_wp2_with fail
  refine cE.mono ?_; rintro e w5 ⟨rfl, hd5⟩
  have hI5 := HI3.out.call hd5
  have q5 := heap_kept b3 hd5.2 (by show ¬ w3.heap.size = X.S; omega)
  have t5 := hI5.putA o
  have hI6 := hI5.row { x with size := s, a := o }
  have kR : Kp (fun b => b = w.heap.size) w5 (w5.setRow w.heap.size (insV { x with size := s, a := o })) := Kp.setRow (S := fun b => b = w.heap.size) w5 rfl _
  have q6 := heap_kept q5 kR (by show ¬ w3.heap.size = w.heap.size; have := hl3; omega)
  have g5 := Ho.out.get q6
  have t6 := hI6.putB gO
  have hI7 := hI6.row { x with size := s, a := o, b := gO }
  have g6 := Hv.out.get hI7.op
  have p6 := hI7.r.put Hv.out
  have HI6 : Hid _ := hI7
  clear hI7 hI6 hI5 hd5 cE HI3 q5 q6 b3 kR
  go_wp2
  exact bodyPost_ret (v := _) (res1 rfl _ _ (w.heap.size + 1) _ rfl (HI6.out.r.got Hv.out _)) rfl ⟨rfl, HI6.out.r.fin _⟩
end Go.Proofs.YtbfccfhjgopnbaaGreat
namespace Go.Proofs.YtbfccfhjgopnbaaGreat
open Go.ChangeShapes Go.WideShapes Go.ChangeAt Go.RowKit
set_option linter.unusedVariables false
set_option maxRecDepth 20000
theorem take_v (X : Cx) (σ : Sg) : (take X σ).2.v = σ.v := by
  unfold take
  split
  · rfl
  · split
    · rfl
    · split <;> rfl
theorem numM_v (X : Cx) : ∀ (k i : Nat) (n : Int) (σ : Sg), (numM X k i n σ).2.v = σ.v
  | 0, _, _, _ => rfl
  | k + 1, i, n, σ => (numM_v X k (i + 1) _ _).trans (take_v X σ)
theorem bytesM_v (X : Cx) (s : Int) (σ : Sg) : (bytesM X s σ).2.v = σ.v := numM_v X _ _ _ _
theorem imm_lit (W : World) (n : Int) : Calls Tryz.prog 210 #[.int .u32 n] W fun e w' => e = .returned (.agg #[.int .i64 3, .int .i64 0, .int .i64 0, .int .i64 0, .int .i64 0, .int .i64 0, .int .i64 0, .int .u32 0, .int .u32 n]) ∧ Kp noB W w' := rImm_ok W n
theorem reg_lit (W : World) (r s : Int) : Calls Tryz.prog 207 #[.int .i64 r, .int .i64 s] W fun e w' => e = .returned (.agg #[.int .i64 1, .int .i64 r, .int .i64 s, .int .i64 0, .int .i64 0, .int .i64 0, .int .i64 0, .int .u32 0, .int .u32 0]) ∧ Kp noB W w' := rReg_ok W r s
end Go.Proofs.YtbfccfhjgopnbaaGreat
namespace Go.Proofs.YtbfccfhjgopnbaaGreat
open Go.ChangeShapes Go.WideShapes Go.ChangeAt Go.RowKit
set_option linter.unusedVariables false
set_option maxRecDepth 20000
theorem sgn_bd {w : World} {X : Cx} {σ : Sg} {f : Int × Int × Int} {c : Int} (h : RSt X w σ f c) : 0 ≤ sgnM 1 (bytesM X 1 σ).1 ∧ sgnM 1 (bytesM X 1 σ).1 < 4294967296 := by
  have b := rbytesM_bd h 1 (by decide)
  have b1 : (bytesM X 1 σ).1 < 256 := by simpa using b.2
  have b0 := b.1
  unfold sgnM
  split
  · omega
  · split
    · omega
    · omega
theorem szM_or {c : Int} {σ : Sg} (h : σ.v = 2 ∨ σ.v = 4) : szM c σ = 1 ∨ szM c σ = 2 ∨ szM c σ = 4 := by
  unfold szM
  split
  · exact Or.inl rfl
  · exact Or.inr h
theorem o_lit (w : World) (X : Cx) (σ : Sg) (f : Int × Int × Int) (c : Int) (h : RSt X w σ f c) (s : Int) :
    Calls Tryz.prog 213 #[.pointer (some ⟨X.S, 0, none⟩), .int .i64 s] w fun e w' => e = .returned (.agg #[.int .i64 (pO X s σ).1.kind, .int .i64 (pO X s σ).1.reg, .int .i64 (pO X s σ).1.size, .int .i64 (pO X s σ).1.seg, .int .i64 (pO X s σ).1.base, .int .i64 (pO X s σ).1.index, .int .i64 (pO X s σ).1.scale, .int .u32 (pO X s σ).1.disp, .int .u32 (pO X s σ).1.imm]) ∧ RDn X w (pO X s σ).2 f c w' := o_okR w X σ f c h s
theorem e_lit (w : World) (X : Cx) (σ : Sg) (f : Int × Int × Int) (c : Int) (h : RSt X w σ f c) (hfl : σ.fl = some f) (hb : 0 ≤ f.1 ∧ f.1 < 4) (s : Int) :
    Calls Tryz.prog 206 #[.pointer (some ⟨X.S, 0, none⟩), .int .i64 s] w fun e w' => e = .returned (.agg #[.int .i64 (pE X s σ).1.kind, .int .i64 (pE X s σ).1.reg, .int .i64 (pE X s σ).1.size, .int .i64 (pE X s σ).1.seg, .int .i64 (pE X s σ).1.base, .int .i64 (pE X s σ).1.index, .int .i64 (pE X s σ).1.scale, .int .u32 (pE X s σ).1.disp, .int .u32 (pE X s σ).1.imm]) ∧ RDn X w (pE X s σ).2 f c w' := e_okR w X σ f c h hfl hb s
theorem rcut_v (w : World) (X : Cx) (σ : Sg) (f : Int × Int × Int) (c : Int) (h : RSt X w (bytesM X 1 σ).2 f c) (hn : 0 ≤ sgnM 1 (bytesM X 1 σ).1 ∧ sgnM 1 (bytesM X 1 σ).1 < 4294967296) :
    Calls Tryz.prog 212 #[.pointer (some ⟨X.S, 0, none⟩), .int .u32 (sgnM 1 (bytesM X 1 σ).1)] w fun e w' => e = .returned (.int .u32 (cutM σ.v (sgnM 1 (bytesM X 1 σ).1))) ∧ w' = w := by
  have e := rcut_ok w X _ f c h _ hn.1 hn.2
  rw [bytesM_v] at e
  exact e
end Go.Proofs.YtbfccfhjgopnbaaGreat
