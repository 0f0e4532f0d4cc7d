/- The document's reader, and the code's (DecDec, DecWalk, DecEq, DecTabD, DecLaw0). -/
import Derived.Test.YtbfccfhjgopnbaaGreatDr05
import Derived.Test.YtbfccfhjgopnbaaGreatDr07
import Derived.Laws.Rows
import Derived.Deep.MidRow
import Derived.Laws.StructEq
set_option linter.unusedSimpArgs false
namespace Go.Proofs.YtbfccfhjgopnbaaGreat
open Go.ChangeShapes Go.WideShapes Go.ChangeAt Go.RowKit
set_option linter.unusedVariables false
set_option maxRecDepth 20000
def insV (x : Ins) : Array Value := #[.int .i64 x.op, .int .i64 x.sub, .int .i64 x.size,
  .int .i64 x.a.kind, .int .i64 x.a.reg, .int .i64 x.a.size, .int .i64 x.a.seg, .int .i64 x.a.base, .int .i64 x.a.index, .int .i64 x.a.scale, .int .u32 x.a.disp, .int .u32 x.a.imm,
  .int .i64 x.b.kind, .int .i64 x.b.reg, .int .i64 x.b.size, .int .i64 x.b.seg, .int .i64 x.b.base, .int .i64 x.b.index, .int .i64 x.b.scale, .int .u32 x.b.disp, .int .u32 x.b.imm,
  .int .i64 x.c.kind, .int .i64 x.c.reg, .int .i64 x.c.size, .int .i64 x.c.seg, .int .i64 x.c.base, .int .i64 x.c.index, .int .i64 x.c.scale, .int .u32 x.c.disp, .int .u32 x.c.imm,
  .int .i64 x.rep, .int .i64 x.len]
theorem insV_size (x : Ins) : (insV x).size = 32 := rfl
/-- Bytes in memory. -/
def BytAt (w : World) (p : Option Addr) (L : Nat) (bt : Nat → Int) : Prop :=
  ∀ j, j < L → ∃ b o, p = some ⟨b, o, none⟩ ∧ b < w.heap.size ∧ w.cell? ⟨b, o + j, none⟩ = some (.int .u8 (bt j))
def TabOk (rl : Int → Option Rule) : Prop := ∀ op : Int, 0 ≤ op → op < 4096 → (rowOf op = none ∧ rl op = none) ∨ ∃ n r, rowOf op = some n ∧ rl op = some r ∧ RowOk n r
theorem take_bd' {X : Cx} (hb : ∀ j, j < X.L → 0 ≤ X.bt j ∧ X.bt j < 256) (σ : Sg) (h : σ.at' ≤ X.L) : (0 ≤ (take X σ).1 ∧ (take X σ).1 < 256) ∧ (take X σ).2.at' ≤ X.L := by
  unfold take
  split
  · exact ⟨⟨Int.le_refl _, by show (0 : Int) < 256; decide⟩, h⟩
  · split
    · exact ⟨⟨Int.le_refl _, by show (0 : Int) < 256; decide⟩, h⟩
    · split
      · exact ⟨⟨Int.le_refl _, by show (0 : Int) < 256; decide⟩, h⟩
      · exact ⟨hb _ (by omega), by show σ.at' + 1 ≤ X.L; omega⟩
theorem preL_bd {X : Cx} (hb : ∀ j, j < X.L → 0 ≤ X.bt j ∧ X.bt j < 256) : ∀ (n : Nat) (b : Int) (σ : Sg), σ.at' ≤ X.L → 0 ≤ b → b < 256 → (0 ≤ (preL X n b σ).1 ∧ (preL X n b σ).1 < 256) ∧ (preL X n b σ).2.at' ≤ X.L
  | 0, b, σ, h, b0, b1 => ⟨⟨b0, b1⟩, h⟩
  | n + 1, b, σ, h, b0, b1 => by
    unfold preL
    split
    · have t := take_bd' hb (preS b σ) (by rw [(preS_at b σ).1]; exact h)
      exact preL_bd hb n _ _ t.2 t.1.1 t.1.2
    · exact ⟨⟨b0, b1⟩, h⟩
theorem opcodeM_bd {X : Cx} (hb : ∀ j, j < X.L → 0 ≤ X.bt j ∧ X.bt j < 256) (σ : Sg) (h : σ.at' ≤ X.L) : 0 ≤ (opcodeM X σ).1 ∧ (opcodeM X σ).1 < 4096 := by
  have t := take_bd' hb σ h
  have p := preL_bd hb 16 _ _ t.2 t.1.1 t.1.2
  have q := take_bd' hb _ p.2
  unfold opcodeM
  simp only
  split
  · exact ⟨by show 0 ≤ 3840 + _; omega, by show 3840 + _ < 4096; omega⟩
  · exact ⟨p.1.1, by omega⟩
theorem inst_u : Tryz.prog.underlying 28 = some (.struct (match Tryz.prog.underlying 28 with | some (.struct f) => f | _ => default)) := by kernel_rfl
theorem inst_s : (Tryz.prog.info? 28).map (·.size) = some 32 := by kernel_rfl
theorem range_frm {X : Cx} {w : World} {σ : Sg} (h : St X w σ) : w.rangeAt X.F 7 (insV σ.ins).toList := by
  intro j v hv
  obtain ⟨fp, g, _⟩ := h.frm
  have hj : j < 32 := by
    have := (List.getElem?_eq_some_iff.1 hv).1
    simpa [insV] using this
  have e : (frmC X σ fp)[7 + j]? = (insV σ.ins)[j]? := by
    have key : ∀ k : Fin 32, (frmC X σ fp)[7 + k.val]? = (insV σ.ins)[k.val]? := by
      intro k
      match k with
      | ⟨0, _⟩ => rfl | ⟨1, _⟩ => rfl | ⟨2, _⟩ => rfl | ⟨3, _⟩ => rfl | ⟨4, _⟩ => rfl | ⟨5, _⟩ => rfl | ⟨6, _⟩ => rfl | ⟨7, _⟩ => rfl
      | ⟨8, _⟩ => rfl | ⟨9, _⟩ => rfl | ⟨10, _⟩ => rfl | ⟨11, _⟩ => rfl | ⟨12, _⟩ => rfl | ⟨13, _⟩ => rfl | ⟨14, _⟩ => rfl | ⟨15, _⟩ => rfl
      | ⟨16, _⟩ => rfl | ⟨17, _⟩ => rfl | ⟨18, _⟩ => rfl | ⟨19, _⟩ => rfl | ⟨20, _⟩ => rfl | ⟨21, _⟩ => rfl | ⟨22, _⟩ => rfl | ⟨23, _⟩ => rfl
      | ⟨24, _⟩ => rfl | ⟨25, _⟩ => rfl | ⟨26, _⟩ => rfl | ⟨27, _⟩ => rfl | ⟨28, _⟩ => rfl | ⟨29, _⟩ => rfl | ⟨30, _⟩ => rfl | ⟨31, _⟩ => rfl
      | ⟨n + 32, h⟩ => omega
    exact key ⟨j, hj⟩
  show w.cell? ⟨X.F, 7 + j, none⟩ = some v
  rw [cell_of_row w X.F (7 + j) _ _ _ g, e, ← Array.getElem?_toList]
  exact hv
theorem one_insV (x : Ins) : ∀ v ∈ (insV x).toList, v.oneCell' = true := by
  intro v hv
  simp only [insV, List.mem_cons, List.not_mem_nil, or_false] at hv
  rcases hv with rfl | rfl | rfl | rfl | rfl | rfl | rfl | rfl | rfl | rfl | rfl | rfl | rfl | rfl | rfl | rfl | rfl | rfl | rfl | rfl | rfl | rfl | rfl | rfl | rfl | rfl | rfl | rfl | rfl | rfl | rfl | rfl <;> rfl
/-- A whole instruction into a block of its own. -/
theorem put_ins {w : World} {q : Nat} {c : Array Value} (h : w.heap[q]? = some (.cells c 28 (0, 0))) (hc : c.size = 32) (x : Ins) : (storeCells ⟨q, 0, none⟩ (insV x).toList).run Tryz.prog w = .ok () (w.setRow q (insV x)) := by
  have r := run_storeCells_at Tryz.prog q 0 28 (insV x).toList 0 c w h (by simp [hc, insV_size]) (one_insV x)
  rw [r]
  have e : (List.take (0 + 0) c.toList ++ (insV x).toList ++ List.drop (0 + 0 + (insV x).toList.length) c.toList).toArray = insV x := by
    have h1 : List.drop (0 + 0 + (insV x).toList.length) c.toList = [] := List.drop_eq_nil_of_le (by simp [hc, insV_size])
    rw [h1]
    simp
  rw [e]
theorem got_ins {w : World} {q : Nat} {c : Array Value} (h : w.heap[q]? = some (.cells c 28 (0, 0))) (x : Ins) : (w.setRow q (insV x)).heap[q]? = some (.cells (insV x) 28 (0, 0)) := setRow_heap w q _ _ _ _ h
theorem load_ins {w : World} {q : Nat} {c : Array Value} (h : w.heap[q]? = some (.cells c 28 (0, 0))) (hc : c.size = 32) : (loadVar 28 ⟨q, 0, none⟩).run Tryz.prog w = .ok (.agg c) w :=
  run_loadVar_row w q _ _ _ _ _ h inst_u rfl (by rw [hc]; exact inst_s)
theorem setLen_frm {X : Cx} {w : World} {σ : Sg} (h : St X w σ) (n : Int) : St X (w.setCell ⟨X.F, 38, none⟩ (.int .i64 n)) { σ with ins := { σ.ins with len := n } } :=
  h.setF 38 _ (fun _ => rfl) rfl rfl rfl ⟨h.gd.op0, h.gd.op1, h.gd.vv, h.gd.fb⟩
theorem St.f38 {X : Cx} {w : World} {σ : Sg} (h : St X w σ) : w.cell? ⟨X.F, 38, none⟩ = some (.int .i64 σ.ins.len) := by
  obtain ⟨fp, h1, _⟩ := h.frm
  simp [World.cell?, h1, frmC]
theorem St.start (w : World) (p : Option Addr) (cap L : Nat) (bt : Nat → Int) (hL : L ≤ 4611686018427387904) (hb : BytAt w p L bt) (hbd : ∀ j, j < L → 0 ≤ bt j ∧ bt j < 256) :
    St ⟨w.heap.size + 1, w.heap.size + 1 + 1, p, cap, L, bt, w.heap.size⟩
      (((w.alloc (.cells (insV Ins.zero) 28)).alloc (.cells #[.slice p L cap, .int .i64 0, .int .i64 0] 35)).alloc (.cells (frmC ⟨w.heap.size + 1, w.heap.size + 1 + 1, p, cap, L, bt, w.heap.size⟩ sg0 (.pointer none)) 40)) sg0 := by
  obtain ⟨w1, hw1⟩ : ∃ w1, w1 = w.alloc (.cells (insV Ins.zero) 28) := ⟨_, rfl⟩
  have hs : w1.heap.size = w.heap.size + 1 := by rw [hw1]; simp
  rw [← hw1]
  have k1 : Kp noB w w1 := by rw [hw1]; exact Kp.alloc _ _ _
  have kk : Kp noB w ((w1.alloc (.cells #[.slice p L cap, .int .i64 0, .int .i64 0] 35)).alloc (.cells (frmC ⟨w.heap.size + 1, w.heap.size + 1 + 1, p, cap, L, bt, w.heap.size⟩ sg0 (.pointer none)) 40)) := (k1.trans (Kp.alloc _ _ _)).trans (Kp.alloc _ _ _)
  refine ⟨by show w.heap.size + 1 ≠ w.heap.size + 1 + 1; omega, ?_, ⟨.pointer none, ?_, rfl⟩, ?_, hbd, hL, by show 0 ≤ 15; omega, by show 0 ≤ L; omega, by show w.heap.size ≤ w.heap.size + 1; omega, by show w.heap.size ≤ w.heap.size + 1 + 1; omega, ⟨by decide, by decide, Or.inr rfl, fun _ _ _ h => by cases h⟩⟩
  · show _[w.heap.size + 1]? = _
    rw [← hs]
    exact heap_kept (S := noB) (MapKept.heap_alloc w1 _).1 (Kp.alloc _ _ _) id
  · show _[w.heap.size + 1 + 1]? = _
    rw [← hs]
    exact heap2 w1 _ _
  · intro j hj
    obtain ⟨b, o, e, hb1, hc⟩ := hb j hj
    exact ⟨b, o, e, hb1, cell_kept hc kk id⟩
end Go.Proofs.YtbfccfhjgopnbaaGreat
namespace Go.Proofs.YtbfccfhjgopnbaaGreat
open Go.ChangeShapes Go.WideShapes Go.ChangeAt Go.RowKit
set_option linter.unusedVariables false
set_option maxRecDepth 20000
theorem Kp.setRowNo {w w1 : World} (k : Kp noB w w1) {q : Nat} (hq : w.heap.size ≤ q) (cs : Array Value) : Kp noB w (w1.setRow q cs) := by
  have h := Kp.setRow (S := fun b => b = q) w1 rfl cs
  exact ⟨h.os.trans k.os, h.tape.trans k.tape, h.output.trans k.output, Nat.le_trans k.size h.size, fun i hi hs => (h.block i (Nat.lt_of_lt_of_le hi k.size) (by show ¬ i = q; omega)).trans (k.block i hi hs)⟩
/-- What stands behind Decode's calls: the result's block is there, the reader and the form hold the state, nothing older is changed. -/
structure InD (X : Cx) (w : World) (σ : Sg) (wr : World) : Prop where
  st : St X wr σ
  rs : wr.heap[w.heap.size]? = some (.cells (insV Ins.zero) 28 (0, 0))
  lo : w.heap.size < X.S ∧ w.heap.size < X.F
  kp : Kp noB w wr
theorem InD.own {X : Cx} {w wr w' : World} {σ : Sg} (h : InD X w σ wr) (k : Kp X.own wr w') : Kp noB w w' :=
  ⟨k.os.trans h.kp.os, k.tape.trans h.kp.tape, k.output.trans h.kp.output, Nat.le_trans h.kp.size k.size, fun i hi hs => (k.block i (Nat.lt_of_lt_of_le hi h.kp.size) (by have := h.lo; rintro (e | e) <;> omega)).trans (h.kp.block i hi hs)⟩
theorem InD.call {X : Cx} {w wr w' : World} {σ σ' : Sg} (h : InD X w σ wr) (d : Done X wr σ' w') : InD X w σ' w' :=
  ⟨d.1, heap_kept h.rs d.2 (by have := h.lo; rintro (e | e) <;> omega), h.lo, h.own d.2⟩
theorem InD.no {X : Cx} {w wr w' : World} {σ : Sg} (h : InD X w σ wr) (k : Kp noB wr w') : InD X w σ w' :=
  ⟨h.st.no k, heap_kept h.rs k id, h.lo, h.kp.trans k⟩
theorem res2 {P : Program} {fn : Func} {p t : Tmp} {ty : TypeId} (h : fn.results = #[.cell p ty, .tmp t]) (tmps : Array Value) (w : World) (q : Nat) (v e : Value) (hp : tmps.getD p undef = .pointer (some ⟨q, 0, none⟩)) (ht : tmps.getD t undef = e) (hl : (loadVar ty ⟨q, 0, none⟩).run P w = .ok v w) :
    (results fn tmps).run P w = .ok (.tuple #[v, e]) w := by
  have hp' : tmps[p]?.getD undef = .pointer (some ⟨q, 0, none⟩) := by simpa using hp
  have ht' : tmps[t]?.getD undef = e := by simpa using ht
  simp [results, h, hp', ht', asAddr, hl]
/-- Whole instructions, loaded and stored: the type's number and its size are letters, so that no walk opens them cell by cell. -/
structure Veil (T : TypeId) (n : Nat) : Prop where
  t : T = 28
  s : n = 32
theorem Veil.agg {T : TypeId} {n : Nat} (h : Veil T n) (w : World) : (isAgg T).run Tryz.prog w = .ok true w := by rw [h.t]; kernel_rfl
theorem Veil.size {T : TypeId} {n : Nat} (h : Veil T n) (w : World) : (sizeOf T).run Tryz.prog w = .ok n w := by rw [h.t, h.s]; kernel_rfl
theorem Veil.lit {T : TypeId} {n : Nat} (h : Veil T n) : (32 = n) = True := by rw [h.s]; simp
theorem Veil.ops {T : TypeId} {n : Nat} (h : Veil T n) : (∀ x, Op.load 28 x = Op.load T x) ∧ ∀ x y, Op.store 28 x y = Op.store T x y := by
  rw [h.t]
  exact ⟨fun _ => rfl, fun _ _ => rfl⟩
theorem Veil.zero {T : TypeId} {n : Nat} (h : Veil T n) (w : World) : (zeroValue T).run Tryz.prog w = .ok (.agg (insV Ins.zero)) w := by rw [h.t]; kernel_rfl
theorem Veil.build {T : TypeId} {n : Nat} (h : Veil T n) : Op.build 28 #[] = Op.build T #[] := by rw [h.t]
theorem Veil.under {T : TypeId} {n : Nat} (h : Veil T n) : ∃ (fs : Array Field) (ps : Array (Nat × Nat)), (∀ w, (underlying T).run Tryz.prog w = .ok (.struct fs) w) ∧ ∀ w, (Array.mapM (fun f : Field => Prod.mk f.offset <$> sizeOf f.type) fs).run Tryz.prog w = .ok ps w := by
  rw [h.t]
  exact ⟨(match Tryz.prog.underlying 28 with | some (.struct f) => f | _ => #[]), #[(0, 1), (1, 1), (2, 1), (3, 9), (12, 9), (21, 9), (30, 1), (31, 1)], fun w => by kernel_rfl, fun w => by kernel_rfl⟩
theorem Veil.load {T : TypeId} {n : Nat} (h : Veil T n) {w : World} {q o : Nat} {x : Ins} (hr : w.rangeAt q o (insV x).toList) : (loadCellsFrom ⟨q, o, none⟩ 0 n #[]).run Tryz.prog w = .ok (insV x) w := by
  have e := run_loadCells_list (P := Tryz.prog) w ⟨q, o, none⟩ (insV x).toList (fun j v hv => by rw [Addr.add_mid]; exact hr j v hv)
  rw [h.s]
  exact e
theorem Veil.cells {T : TypeId} {n : Nat} (h : Veil T n) (x : Ins) : (insV x).size = n := by rw [h.s]; rfl
theorem veil : ∃ T n, Veil T n := ⟨_, _, rfl, rfl⟩
theorem neq_nil (w : World) : (binOp .neq 42 .nilFunc .nilFunc).run Tryz.prog w = .ok (.bool false) w := by kernel_rfl
theorem neq_fun (n : Nat) (w : World) : (binOp .neq 42 (.func (.func n) #[] #[]) .nilFunc).run Tryz.prog w = .ok (.bool true) w := by kernel_rfl
def decR (σ : Sg) : Ins × Int := if σ.err = 0 then ({ σ.ins with len := σ.at' }, 0) else (Ins.zero, σ.err)
theorem decM_any (rl : Int → Option Rule) (X : Cx) : decM rl X.L X.bt = decR (behM rl (opcodeM X sg0).1 X (opcodeM X sg0).2) := by
  unfold decM
  rw [(rdFullM rl).same (bx X.L X.bt) X rfl rfl sg0]
  rfl
set_option maxHeartbeats 4000000 in
theorem decode_ok (rl : Int → Option Rule) (hT : TabOk rl) (w : World) (p : Option Addr) (cap L : Nat) (bt : Nat → Int) (hL : L ≤ 4611686018427387904) (hb : BytAt w p L bt) (hbd : ∀ j, j < L → 0 ≤ bt j ∧ bt j < 256) :
    Calls Tryz.prog 5 #[.slice p L cap] w fun e w' => e = .returned (.tuple #[.agg (insV (decM rl L bt).1), .int .i64 (decM rl L bt).2]) ∧ Kp noB w w' := by
  have hst := St.start w p cap L bt hL hb hbd
  have cO := opcode_ok _ _ _ hst
  have hod := opcodeM_bd (X := ⟨w.heap.size + 1, w.heap.size + 1 + 1, p, cap, L, bt, w.heap.size⟩) hbd sg0 (Nat.zero_le _)
  have hfull := decM_any rl ⟨w.heap.size + 1, w.heap.size + 1 + 1, p, cap, L, bt, w.heap.size⟩
  have hin : InD ⟨w.heap.size + 1, w.heap.size + 1 + 1, p, cap, L, bt, w.heap.size⟩ w sg0 _ := ⟨hst, heap_kept (S := noB) (heap_kept (S := noB) (MapKept.heap_alloc w _).1 (Kp.alloc _ _ _) id) (Kp.alloc _ _ _) id, ⟨by show w.heap.size < w.heap.size + 1; omega, by show w.heap.size < w.heap.size + 1 + 1; omega⟩, ((Kp.alloc _ _ _).trans (Kp.alloc _ _ _)).trans (Kp.alloc _ _ _)⟩
  obtain ⟨X, hX⟩ : ∃ X : Cx, X = ⟨w.heap.size + 1, w.heap.size + 1 + 1, p, cap, L, bt, w.heap.size⟩ := ⟨_, rfl⟩
  have hS : w.heap.size + 1 = X.S := by rw [hX]
  have hF : w.heap.size + 1 + 1 = X.F := by rw [hX]
  simp only [← hX] at cO hod hfull hin
  obtain ⟨op, hop⟩ : ∃ op, op = (opcodeM X sg0).1 := ⟨_, rfl⟩
  obtain ⟨σ1, hσ1⟩ : ∃ σ1, σ1 = (opcodeM X sg0).2 := ⟨_, rfl⟩
  rw [← hop, ← hσ1] at cO hfull
  rw [← hop] at hod
  obtain ⟨V, hV⟩ : ∃ V, V = decM rl L bt := ⟨_, rfl⟩
  have hV2 : V = decR (behM rl op X σ1) := hV.trans hfull
  rw [← hV]
  have HV : Hid (V = decR (behM rl op X σ1)) := hV2
  rw [hF] at cO
  have HI : Hid _ := hin
  have HS : Hid (w.heap.size + 1 = X.S) := hS
  have HF : Hid (w.heap.size + 1 + 1 = X.F) := hF
  obtain ⟨o0, o1⟩ := hod
  have hrow := hT op o0 o1
  have Hrow : Hid _ := hrow
  clear hst hb hbd hfull hin hX hS hF hop hσ1 hV hV2 hT hrow
  obtain ⟨T, nI, hVl⟩ := veil
  obtain ⟨vl, vs⟩ := hVl.ops
  have HVl : Hid _ := hVl
  have vA := hVl.agg
  have vS := hVl.size
  have vb := hVl.build
  obtain ⟨Z, hZ⟩ : ∃ Z, Z = insV Ins.zero := ⟨_, rfl⟩
  have vz : ∀ w, (zeroValue T).run Tryz.prog w = .ok (.agg Z) w := by rw [hZ]; exact hVl.zero
  obtain ⟨fsI, psI, vU, vM⟩ := hVl.under
  have vZ : Z.size = nI := by rw [hZ]; exact hVl.cells _
  have HZ : Hid (Z = insV Ins.zero) := hZ
  clear hZ
  clear hVl
  go_enter Tryz.func5, Tryz.ntmps5
  simp only [vl, vs, vb]
  clear vl vs vb
  go_wp2_with fail
  rw [HF.out, HS.out]
  refine cO.mono ?_; rintro e w1 ⟨rfl, hd⟩
  have h1 := HI.out.call hd
  clear hd cO HI HF HS
  have c2 := h1.st.f2
  have z2 := h1.st.ff 2
  have h2 : InD X w (opS op σ1) (w1.setCell ⟨X.F, 2, none⟩ (.int .i64 op)) := h1.call ⟨h1.st.setF 2 _ (fun _ => rfl) rfl rfl rfl ⟨o0, o1, h1.st.gd.vv, h1.st.gd.fb⟩, Kp.setCell _ (Or.inr rfl) _⟩
  have cF := find_ok (w1.setCell ⟨X.F, 2, none⟩ (.int .i64 op)) op o0 o1
  have H2 : Hid _ := h2
  clear h1 h2
  rcases Hrow.out with ⟨e1, e2⟩ | ⟨n, r, e1, e2, hn⟩
  · have hV3 : V = decR (refuse (opS op σ1)) := by rw [HV.out]; unfold behM; rw [e2]
    have HV3 : Hid _ := hV3
    rw [e1, show rvN none = .nilFunc from rfl] at cF
    clear e1 e2 hV3 HV Hrow
    go_wp2_with fail
    refine cF.mono ?_; rintro e w2 ⟨rfl, k2⟩
    have hq := neq_nil
    have h3 := H2.out.no k2
    have c1 := h3.st.f1
    have cR := refuse_ok w2 X _ h3.st
    have H3 : Hid _ := h3
    clear H2 cF k2 h3
    go_wp2_with fail
    refine cR.mono ?_; rintro e w3 ⟨rfl, hd⟩
    have h4 := H3.out.call hd
    clear hd cR H3 c1 c2 z2 o0 o1
    generalize refuse (opS op σ1) = σ3 at h4 HV3
    have s1 := h4.st.s1
    have s2 := h4.st.s2
    have zS := h4.st.sf 2
    have hle := h4.st.le
    have hrs := h4.rs
    by_cases he : σ3.err = 0
    · have hV4 : V = ({ σ3.ins with len := σ3.at' }, 0) := by rw [HV3.out]; unfold decR; rw [if_pos he]
      have HV4 : Hid _ := hV4
      rw [he] at s2
      have c38 := h4.st.f38
      have z38 := h4.st.ff 38
      have h5 : InD X w { σ3 with ins := { σ3.ins with len := σ3.at' } } (w3.setCell ⟨X.F, 38, none⟩ (.int .i64 (σ3.at' : Int))) := h4.call ⟨setLen_frm h4.st _, Kp.setCell _ (Or.inr rfl) _⟩
      have hld := HVl.out.load (range_frm h5.st)
      have hst := put_ins h5.rs rfl { σ3.ins with len := σ3.at' }
      have hgot := load_ins (got_ins h5.rs { σ3.ins with len := σ3.at' }) rfl
      have hkp := h5.kp.setRowNo (Nat.le_refl _) (insV { σ3.ins with len := σ3.at' })
      have hsz := HVl.out.cells { σ3.ins with len := σ3.at' }
      obtain ⟨A, hA⟩ : ∃ A, A = insV { σ3.ins with len := σ3.at' } := ⟨_, rfl⟩
      have hld' : (loadCellsFrom ⟨X.F, 7, none⟩ 0 nI #[]).run Tryz.prog (w3.setCell ⟨X.F, 38, none⟩ (.int .i64 (σ3.at' : Int))) = .ok A (w3.setCell ⟨X.F, 38, none⟩ (.int .i64 (σ3.at' : Int))) := by rw [hA]; exact hld
      rw [← hA] at hst hgot hkp hsz
      have HA : Hid _ := hA
      clear hld hA
      have Hgot : Hid _ := hgot
      have Hkp : Hid _ := hkp
      clear hgot hkp h5 h4 HV3 hV4 hle hrs
      go_wp2
      refine bodyPost_ret (v := .tuple #[.agg A, .int .i64 0]) ?_ rfl ⟨by rw [HV4.out, HA.out], Hkp.out⟩
      exact res2 rfl _ _ w.heap.size _ _ rfl rfl Hgot.out
    · have hV4 : V = (Ins.zero, σ3.err) := by rw [HV3.out]; unfold decR; rw [if_neg he]
      have HV4 : Hid _ := hV4
      have he' : (σ3.err != 0) = true := by simpa using he
      have hst : (storeCells ⟨w.heap.size, 0, none⟩ Z.toList).run Tryz.prog w3.drew = .ok () (w3.drew.setRow w.heap.size Z) := by rw [HZ.out]; exact put_ins (w := w3.drew) hrs rfl Ins.zero
      have hgot : (loadVar 28 ⟨w.heap.size, 0, none⟩).run Tryz.prog (w3.drew.setRow w.heap.size Z) = .ok (.agg Z) (w3.drew.setRow w.heap.size Z) := by rw [HZ.out]; exact load_ins (got_ins (w := w3.drew) hrs Ins.zero) rfl
      have hkp := (h4.kp.drewN 1).setRowNo (Nat.le_refl _) Z
      have hs2 : (w3.drew.setRow w.heap.size Z).cell? ⟨X.S, 2, none⟩ = some (.int .i64 σ3.err) := cell_kept (S := fun b => b = w.heap.size) (w := w3.drew) s2 (Kp.setRow (S := fun b => b = w.heap.size) w3.drew rfl Z) (by have := h4.lo; show ¬ X.S = w.heap.size; omega)
      have Hgot : Hid _ := hgot
      have Hkp : Hid _ := hkp
      clear h4 HV3 hV4 hle hgot hkp hrs
      go_wp2
      go_region
      all_goals
        go_wp2
        refine bodyPost_ret (v := .tuple #[.agg Z, .int .i64 σ3.err]) ?_ rfl ⟨by rw [HV4.out, HZ.out], Hkp.out⟩
        exact res2 rfl _ _ w.heap.size _ _ rfl rfl Hgot.out
  · have hV3 : V = decR (r.g X (opS op σ1)) := by rw [HV.out]; unfold behM; rw [e2]
    have HV3 : Hid _ := hV3
    rw [e1, show rvN (some n) = .func (.func n) #[] #[] from rfl] at cF
    clear e1 e2 hV3 HV Hrow
    go_wp2_with fail
    refine cF.mono ?_; rintro e w2 ⟨rfl, k2⟩
    have hq := neq_fun n
    have h3 := H2.out.no k2
    have cR := hn.1 w2 X _ h3.st
    have hcall := hn.2 (.pointer (some ⟨X.F, 0, none⟩))
    have H3 : Hid _ := h3
    clear H2 cF k2 h3 hn
    go_wp2_with fail
    refine cR.mono ?_; rintro e w3 ⟨rfl, hd⟩
    have h4 := H3.out.call hd
    clear hd cR H3 c2 z2 o0 o1 hcall
    generalize r.g X (opS op σ1) = σ3 at h4 HV3
    have s1 := h4.st.s1
    have s2 := h4.st.s2
    have zS := h4.st.sf 2
    have hle := h4.st.le
    have hrs := h4.rs
    by_cases he : σ3.err = 0
    · have hV4 : V = ({ σ3.ins with len := σ3.at' }, 0) := by rw [HV3.out]; unfold decR; rw [if_pos he]
      have HV4 : Hid _ := hV4
      rw [he] at s2
      have c38 := h4.st.f38
      have z38 := h4.st.ff 38
      have h5 : InD X w { σ3 with ins := { σ3.ins with len := σ3.at' } } (w3.setCell ⟨X.F, 38, none⟩ (.int .i64 (σ3.at' : Int))) := h4.call ⟨setLen_frm h4.st _, Kp.setCell _ (Or.inr rfl) _⟩
      have hld := HVl.out.load (range_frm h5.st)
      have hst := put_ins h5.rs rfl { σ3.ins with len := σ3.at' }
      have hgot := load_ins (got_ins h5.rs { σ3.ins with len := σ3.at' }) rfl
      have hkp := h5.kp.setRowNo (Nat.le_refl _) (insV { σ3.ins with len := σ3.at' })
      have hsz := HVl.out.cells { σ3.ins with len := σ3.at' }
      obtain ⟨A, hA⟩ : ∃ A, A = insV { σ3.ins with len := σ3.at' } := ⟨_, rfl⟩
      have hld' : (loadCellsFrom ⟨X.F, 7, none⟩ 0 nI #[]).run Tryz.prog (w3.setCell ⟨X.F, 38, none⟩ (.int .i64 (σ3.at' : Int))) = .ok A (w3.setCell ⟨X.F, 38, none⟩ (.int .i64 (σ3.at' : Int))) := by rw [hA]; exact hld
      rw [← hA] at hst hgot hkp hsz
      have HA : Hid _ := hA
      clear hld hA
      have Hgot : Hid _ := hgot
      have Hkp : Hid _ := hkp
      clear hgot hkp h5 h4 HV3 hV4 hle hrs
      go_wp2
      refine bodyPost_ret (v := .tuple #[.agg A, .int .i64 0]) ?_ rfl ⟨by rw [HV4.out, HA.out], Hkp.out⟩
      exact res2 rfl _ _ w.heap.size _ _ rfl rfl Hgot.out
    · have hV4 : V = (Ins.zero, σ3.err) := by rw [HV3.out]; unfold decR; rw [if_neg he]
      have HV4 : Hid _ := hV4
      have he' : (σ3.err != 0) = true := by simpa using he
      have hst : (storeCells ⟨w.heap.size, 0, none⟩ Z.toList).run Tryz.prog w3.drew = .ok () (w3.drew.setRow w.heap.size Z) := by rw [HZ.out]; exact put_ins (w := w3.drew) hrs rfl Ins.zero
      have hgot : (loadVar 28 ⟨w.heap.size, 0, none⟩).run Tryz.prog (w3.drew.setRow w.heap.size Z) = .ok (.agg Z) (w3.drew.setRow w.heap.size Z) := by rw [HZ.out]; exact load_ins (got_ins (w := w3.drew) hrs Ins.zero) rfl
      have hkp := (h4.kp.drewN 1).setRowNo (Nat.le_refl _) Z
      have hs2 : (w3.drew.setRow w.heap.size Z).cell? ⟨X.S, 2, none⟩ = some (.int .i64 σ3.err) := cell_kept (S := fun b => b = w.heap.size) (w := w3.drew) s2 (Kp.setRow (S := fun b => b = w.heap.size) w3.drew rfl Z) (by have := h4.lo; show ¬ X.S = w.heap.size; omega)
      have Hgot : Hid _ := hgot
      have Hkp : Hid _ := hkp
      clear h4 HV3 hV4 hle hgot hkp hrs
      go_wp2
      go_region
      all_goals
        go_wp2
        refine bodyPost_ret (v := .tuple #[.agg Z, .int .i64 σ3.err]) ?_ rfl ⟨by rw [HV4.out, HZ.out], Hkp.out⟩
        exact res2 rfl _ _ w.heap.size _ _ rfl rfl Hgot.out
end Go.Proofs.YtbfccfhjgopnbaaGreat
namespace Go.Proofs.YtbfccfhjgopnbaaGreat
open Go.ChangeShapes Go.WideShapes Go.ChangeAt Go.RowKit
set_option linter.unusedVariables false
set_option maxRecDepth 20000
deriving instance DecidableEq for Opd
deriving instance DecidableEq for Ins
theorem guardI (w : World) (a b : Operand) (A B : Array Value) : (eqGuard .eql 28 a b (.agg A) (.agg B)).run Tryz.prog w = .ok () w := run_eqGuard_agg w _ _ _ _ _ _ (by kernel_rfl)
/-- Two operands. -/
theorem eqlO (d : Nat) (w : World) (o p : Opd) : (Op.equalIn (d + 1 + 1) 26 (.agg o.vals) (.agg p.vals)).run Tryz.prog w = .ok (decide (o = p)) w := by
  have u3 := Tryz.underlying3
  have a3 := Tryz.isAgg3
  have z3 := Tryz.sizeOf3
  have u4 := Tryz.underlying24
  have a4 := Tryz.isAgg24
  have z4 := Tryz.sizeOf24
  rw [run_equalIn_struct w (d + 1) 26 _ _ (by kernel_rfl) (by kernel_rfl)]
  simp only [Program.fieldsOf, Tryz.underlying26, Opd.vals]
  go_simp
  by_cases h_kind : o.kind = p.kind
  case neg =>
    have hn : ¬ o = p := fun e => h_kind (by rw [e])
    simp [h_kind, hn]
  by_cases h_reg : o.reg = p.reg
  case neg =>
    have hn : ¬ o = p := fun e => h_reg (by rw [e])
    simp [h_kind, h_reg, hn]
  by_cases h_size : o.size = p.size
  case neg =>
    have hn : ¬ o = p := fun e => h_size (by rw [e])
    simp [h_kind, h_reg, h_size, hn]
  by_cases h_seg : o.seg = p.seg
  case neg =>
    have hn : ¬ o = p := fun e => h_seg (by rw [e])
    simp [h_kind, h_reg, h_size, h_seg, hn]
  by_cases h_base : o.base = p.base
  case neg =>
    have hn : ¬ o = p := fun e => h_base (by rw [e])
    simp [h_kind, h_reg, h_size, h_seg, h_base, hn]
  by_cases h_index : o.index = p.index
  case neg =>
    have hn : ¬ o = p := fun e => h_index (by rw [e])
    simp [h_kind, h_reg, h_size, h_seg, h_base, h_index, hn]
  by_cases h_scale : o.scale = p.scale
  case neg =>
    have hn : ¬ o = p := fun e => h_scale (by rw [e])
    simp [h_kind, h_reg, h_size, h_seg, h_base, h_index, h_scale, hn]
  by_cases h_disp : o.disp = p.disp
  case neg =>
    have hn : ¬ o = p := fun e => h_disp (by rw [e])
    simp [h_kind, h_reg, h_size, h_seg, h_base, h_index, h_scale, h_disp, hn]
  by_cases h_imm : o.imm = p.imm
  case neg =>
    have hn : ¬ o = p := fun e => h_imm (by rw [e])
    simp [h_kind, h_reg, h_size, h_seg, h_base, h_index, h_scale, h_disp, h_imm, hn]
  have he : o = p := by
    obtain ⟨o0, o1, o2, o3, o4, o5, o6, o7, o8⟩ := o
    obtain ⟨p0, p1, p2, p3, p4, p5, p6, p7, p8⟩ := p
    simp_all
  simp [he]
theorem partA (w : World) (x : Ins) : (part 26 (insV x) 3).run Tryz.prog w = .ok (.agg x.a.vals) w := by kernel_rfl
theorem partB (w : World) (x : Ins) : (part 26 (insV x) 12).run Tryz.prog w = .ok (.agg x.b.vals) w := by kernel_rfl
theorem partC (w : World) (x : Ins) : (part 26 (insV x) 21).run Tryz.prog w = .ok (.agg x.c.vals) w := by kernel_rfl
theorem eqlI (w : World) (x y : Ins) : (binOp .eql 28 (.agg (insV x)) (.agg (insV y))).run Tryz.prog w = .ok (.bool (decide (x = y))) w := by
  have u3 := Tryz.underlying3
  have a3 := Tryz.isAgg3
  have z3 := Tryz.sizeOf3
  have q1 : ∀ w z, (part 3 (insV z) 0).run Tryz.prog w = .ok (.int .i64 z.op) w := fun w z => by kernel_rfl
  have q2 : ∀ w z, (part 3 (insV z) 1).run Tryz.prog w = .ok (.int .i64 z.sub) w := fun w z => by kernel_rfl
  have q3 : ∀ w z, (part 3 (insV z) 2).run Tryz.prog w = .ok (.int .i64 z.size) w := fun w z => by kernel_rfl
  have q4 : ∀ w z, (part 3 (insV z) 30).run Tryz.prog w = .ok (.int .i64 z.rep) w := fun w z => by kernel_rfl
  have q5 : ∀ w z, (part 3 (insV z) 31).run Tryz.prog w = .ok (.int .i64 z.len) w := fun w z => by kernel_rfl
  rw [run_eql_struct, show (10000 : Nat) = 9999 + 1 from rfl, run_equalIn_struct w 9999 28 _ _ (by kernel_rfl) (by kernel_rfl)]
  have e0 : ∀ w a b, (Op.equalIn 9999 3 (.int .i64 a) (.int .i64 b)).run Tryz.prog w = .ok (a == b) w := fun w a b => run_equalIn_int w 9998 3 .i64 .i64 a b u3
  have eO : ∀ w o p, (Op.equalIn 9999 26 (.agg (Opd.vals o)) (.agg (Opd.vals p))).run Tryz.prog w = .ok (decide (o = p)) w := fun w o p => eqlO 9997 w o p
  simp only [Program.fieldsOf, Tryz.underlying28]
  simp only [Op.eqFields, Sem.run_bind, Sem.run_ite, q1, q2, q3, q4, q5, partA, partB, partC, e0, eO, Result.andThen_ok, Sem.run_pure]
  by_cases h_op : x.op = y.op
  case neg =>
    have hn : ¬ x = y := fun e => h_op (by rw [e])
    simp [h_op, hn]
  by_cases h_sub : x.sub = y.sub
  case neg =>
    have hn : ¬ x = y := fun e => h_sub (by rw [e])
    simp [h_op, h_sub, hn]
  by_cases h_size : x.size = y.size
  case neg =>
    have hn : ¬ x = y := fun e => h_size (by rw [e])
    simp [h_op, h_sub, h_size, hn]
  by_cases h_a : x.a = y.a
  case neg =>
    have hn : ¬ x = y := fun e => h_a (by rw [e])
    simp [h_op, h_sub, h_size, h_a, hn]
  by_cases h_b : x.b = y.b
  case neg =>
    have hn : ¬ x = y := fun e => h_b (by rw [e])
    simp [h_op, h_sub, h_size, h_a, h_b, hn]
  by_cases h_c : x.c = y.c
  case neg =>
    have hn : ¬ x = y := fun e => h_c (by rw [e])
    simp [h_op, h_sub, h_size, h_a, h_b, h_c, hn]
  by_cases h_rep : x.rep = y.rep
  case neg =>
    have hn : ¬ x = y := fun e => h_rep (by rw [e])
    simp [h_op, h_sub, h_size, h_a, h_b, h_c, h_rep, hn]
  by_cases h_len : x.len = y.len
  case neg =>
    have hn : ¬ x = y := fun e => h_len (by rw [e])
    simp [h_op, h_sub, h_size, h_a, h_b, h_c, h_rep, h_len, hn]
  have he : x = y := by
    obtain ⟨x0, x1, x2, x3, x4, x5, x6, x7⟩ := x
    obtain ⟨y0, y1, y2, y3, y4, y5, y6, y7⟩ := y
    simp_all
  simp [he]
end Go.Proofs.YtbfccfhjgopnbaaGreat
namespace Go.Proofs.YtbfccfhjgopnbaaGreat
open Go.ChangeShapes Go.WideShapes Go.ChangeAt Go.RowKit
set_option linter.unusedVariables false
set_option maxRecDepth 100000
/-- The function of a row, and what the row says. -/
def tab : List (Nat × Rule) := [
  (32, .row ⟨.no, 1, .opn, (.k 1), [.E, .G]⟩),
  (40, .row ⟨.no, 1, .opn, (.k 1), [.A, .I]⟩),
  (47, .row ⟨.no, 12, (.k 0), .v, [.Seg 2]⟩),
  (51, .row ⟨.no, 13, (.k 0), .v, [.Seg 3]⟩),
  (55, .row ⟨.no, 7, (.k 3), (.k 1), []⟩),
  (60, .row ⟨.no, 13, (.k 0), .v, [.R]⟩),
  (64, .row ⟨.no, 5, (.k 0), .v, [.G, .E, .I]⟩),
  (71, .row ⟨.no, 1, .mn, (.k 1), [.E, .I]⟩),
  (76, .row ⟨.no, 1, (.k 8), .v, [.E, .G]⟩),
  (80, .row ⟨.no, 8, (.k 0), .v, [.E, .G]⟩),
  (88, .row ⟨.no, 10, (.k 0), .v, [.R, .A]⟩),
  (92, .row ⟨.no, 17, (.k 0), .v, []⟩),
  (96, .row ⟨.no, 8, (.k 0), (.k 1), [.A, .O]⟩),
  (101, .str 0 (.k 1)),
  (106, .row ⟨.no, 1, (.k 8), (.k 1), [.A, .I]⟩),
  (110, .str 3 (.k 1)),
  (114, .row ⟨.no, 8, (.k 0), (.k 1), [.R, .I]⟩),
  (119, .row ⟨.no, 30, (.k 0), .v, [.Iw]⟩),
  (125, .row ⟨.no, 35, (.k 0), .v, []⟩),
  (129, .row ⟨.no, 33, (.k 0), .v, []⟩),
  (134, .row ⟨.no, 2, .mn, .v, [.E, .CL]⟩),
  (138, .row ⟨.no, 31, (.k 1), .v, [.Jb]⟩),
  (142, .row ⟨.no, 37, (.k 0), .v, [.A, .Ib]⟩),
  (147, .row ⟨.no, 27, (.k 0), .v, [.J]⟩),
  (153, .row ⟨.no, 37, (.k 0), .v, [.A, .DX]⟩),
  (157, .row ⟨.no, 39, (.k 2), (.k 4), []⟩),
  (164, .row ⟨.no, 39, (.k 6), (.k 4), []⟩),
  (169, .row ⟨(.only [3]), 44, (.k 0), (.k 2), [.E]⟩),
  (176, .row ⟨.no, 26, .opc, .v, [.G, .E]⟩),
  (180, .row ⟨.no, 13, (.k 0), .v, [.Seg 4]⟩),
  (184, .row ⟨.no, 12, (.k 0), .v, [.Seg 5]⟩),
  (188, .row ⟨.no, 3, (.k 1), .v, [.E, .G, .CL]⟩),
  (193, .row ⟨.no, 9, (.k 0), .v, [.G, .Ew]⟩),
  (199, .row ⟨.no, 9, (.k 1), .v, [.G, .Eb]⟩),
  (37, .row ⟨.no, 1, .opn, .v, [.E, .G]⟩),
  (43, .row ⟨.no, 1, .opn, .v, [.A, .I]⟩),
  (48, .row ⟨.no, 12, (.k 0), .v, [.Seg 3]⟩),
  (52, .row ⟨.no, 7, (.k 0), (.k 1), []⟩),
  (56, .row ⟨.no, 1, (.k 9), .v, [.R]⟩),
  (61, .row ⟨.no, 14, (.k 0), .v, []⟩),
  (65, .row ⟨.no, 12, (.k 0), .v, [.Is]⟩),
  (73, .row ⟨.no, 1, .mn, .v, [.E, .I]⟩),
  (77, .row ⟨.no, 10, (.k 0), (.k 1), [.E, .G]⟩),
  (81, .row ⟨.no, 8, (.k 0), (.k 1), [.G, .E]⟩),
  (89, .row ⟨.no, 20, (.k 0), .v, []⟩),
  (93, .row ⟨.no, 18, (.k 0), (.k 1), []⟩),
  (98, .row ⟨.no, 8, (.k 0), .v, [.A, .O]⟩),
  (103, .str 0 .v),
  (107, .row ⟨.no, 1, (.k 8), .v, [.A, .I]⟩),
  (111, .str 3 .v),
  (115, .row ⟨.no, 8, (.k 0), .v, [.R, .I]⟩),
  (121, .row ⟨.no, 30, (.k 0), .v, [.Num 0]⟩),
  (126, .row ⟨.no, 32, (.k 1), (.k 4), [.Num 3]⟩),
  (130, .row ⟨.no, 2, .mn, (.k 1), [.E, .Num 1]⟩),
  (135, .row ⟨.no, 7, (.k 4), (.k 1), [.I]⟩),
  (139, .row ⟨.no, 31, (.k 2), .v, [.Jb]⟩),
  (143, .row ⟨.no, 38, (.k 0), (.k 1), [.Ib, .A]⟩),
  (148, .row ⟨.no, 34, (.k 0), .v, [.Far]⟩),
  (154, .row ⟨.no, 38, (.k 0), (.k 1), [.DX, .A]⟩),
  (161, .row ⟨.no, 39, (.k 0), (.k 4), []⟩),
  (165, .row ⟨.no, 39, (.k 3), (.k 4), []⟩),
  (171, .row ⟨.no, 47, (.k 0), (.k 4), []⟩),
  (177, .row ⟨.no, 28, .opc, .v, [.J]⟩),
  (181, .row ⟨.no, 23, (.k 0), .v, [.E, .G]⟩),
  (185, .row ⟨.no, 13, (.k 0), .v, [.Seg 5]⟩),
  (189, .row ⟨.no, 5, (.k 0), .v, [.G, .E]⟩),
  (196, .row ⟨.no, 23, (.k 3), .v, [.E, .G]⟩),
  (200, .row ⟨.no, 9, (.k 1), .v, [.G, .Ew]⟩),
  (38, .row ⟨.no, 1, .opn, (.k 1), [.G, .E]⟩),
  (44, .row ⟨.no, 12, (.k 0), .v, [.Seg 0]⟩),
  (49, .row ⟨.no, 13, (.k 0), .v, [.Seg 0]⟩),
  (53, .row ⟨.no, 7, (.k 1), (.k 1), []⟩),
  (58, .row ⟨.no, 1, (.k 10), .v, [.R]⟩),
  (62, .row ⟨.no, 15, (.k 0), .v, []⟩),
  (67, .row ⟨.no, 5, (.k 0), .v, [.G, .E, .Is]⟩),
  (74, .row ⟨.no, 1, .mn, .v, [.E, .Is]⟩),
  (78, .row ⟨.no, 10, (.k 0), .v, [.E, .G]⟩),
  (82, .row ⟨.no, 8, (.k 0), .v, [.G, .E]⟩),
  (90, .row ⟨.no, 21, (.k 0), .v, []⟩),
  (94, .row ⟨.no, 19, (.k 0), (.k 1), []⟩),
  (99, .row ⟨.no, 8, (.k 0), (.k 1), [.O, .A]⟩),
  (104, .str 1 (.k 1)),
  (108, .str 2 (.k 1)),
  (112, .str 4 (.k 1)),
  (116, .row ⟨.no, 2, .mn, (.k 1), [.E, .Ib]⟩),
  (123, .row ⟨(.only [0]), 8, (.k 0), (.k 1), [.E, .I]⟩),
  (127, .row ⟨.no, 32, (.k 0), (.k 4), [.Ib]⟩),
  (131, .row ⟨.no, 2, .mn, .v, [.E, .Num 1]⟩),
  (136, .row ⟨.no, 7, (.k 5), (.k 1), [.I]⟩),
  (140, .row ⟨.no, 31, (.k 3), .v, [.Jb]⟩),
  (144, .row ⟨.no, 38, (.k 0), .v, [.Ib, .A]⟩),
  (150, .row ⟨.no, 27, (.k 0), .v, [.Jb]⟩),
  (155, .row ⟨.no, 38, (.k 0), .v, [.DX, .A]⟩),
  (162, .row ⟨.no, 39, (.k 1), (.k 4), []⟩),
  (166, .row ⟨.no, 39, (.k 4), (.k 4), []⟩),
  (172, .row ⟨(.only [0, 2, 3]), 45, (.k 0), (.k 4), [.Rm, .Cr]⟩),
  (178, .row ⟨.no, 25, .opc, (.k 1), [.E]⟩),
  (182, .row ⟨.no, 3, (.k 0), .v, [.E, .G, .Ib]⟩),
  (186, .row ⟨.no, 23, (.k 1), .v, [.E, .G]⟩),
  (190, .row ⟨.no, 23, (.k 2), .v, [.E, .G]⟩),
  (197, .row ⟨.no, 24, (.k 0), .v, [.G, .E]⟩),
  (201, .row ⟨.no, 22, (.k 0), (.k 4), [.R]⟩),
  (39, .row ⟨.no, 1, .opn, .v, [.G, .E]⟩),
  (46, .row ⟨.no, 12, (.k 0), .v, [.Seg 1]⟩),
  (50, .row ⟨.no, 13, (.k 0), .v, [.Seg 2]⟩),
  (54, .row ⟨.no, 7, (.k 2), (.k 1), []⟩),
  (59, .row ⟨.no, 12, (.k 0), .v, [.R]⟩),
  (63, .row ⟨.no, 12, (.k 0), .v, [.I]⟩),
  (68, .row ⟨.no, 28, .opc, .v, [.Jb]⟩),
  (75, .row ⟨.no, 1, (.k 8), (.k 1), [.E, .G]⟩),
  (79, .row ⟨.no, 8, (.k 0), (.k 1), [.E, .G]⟩),
  (86, .row ⟨(.only [0]), 13, (.k 0), .v, [.E]⟩),
  (91, .row ⟨.no, 16, (.k 0), .v, []⟩),
  (95, .row ⟨.no, 41, (.k 0), (.k 4), []⟩),
  (100, .row ⟨.no, 8, (.k 0), .v, [.O, .A]⟩),
  (105, .str 1 .v),
  (109, .str 2 .v),
  (113, .str 4 .v),
  (118, .row ⟨.no, 2, .mn, .v, [.E, .Ib]⟩),
  (124, .row ⟨(.only [0]), 8, (.k 0), .v, [.E, .I]⟩),
  (128, .row ⟨.no, 32, (.k 2), (.k 4), [.Num 4]⟩),
  (132, .row ⟨.no, 2, .mn, (.k 1), [.E, .CL]⟩),
  (137, .row ⟨.no, 31, (.k 0), .v, [.Jb]⟩),
  (141, .row ⟨.no, 37, (.k 0), (.k 1), [.A, .Ib]⟩),
  (145, .row ⟨.no, 29, (.k 0), .v, [.J]⟩),
  (151, .row ⟨.no, 37, (.k 0), (.k 1), [.A, .DX]⟩),
  (156, .row ⟨.no, 40, (.k 0), (.k 4), []⟩),
  (163, .row ⟨.no, 39, (.k 5), (.k 4), []⟩),
  (167, .row ⟨(.only [0, 1]), 1, .mp9, (.k 1), [.E]⟩),
  (175, .row ⟨(.only [0, 2, 3]), 45, (.k 0), (.k 4), [.Cr, .Rm]⟩),
  (179, .row ⟨.no, 12, (.k 0), .v, [.Seg 4]⟩),
  (183, .row ⟨.no, 3, (.k 0), .v, [.E, .G, .CL]⟩),
  (187, .row ⟨.no, 3, (.k 1), .v, [.E, .G, .Ib]⟩),
  (191, .row ⟨.no, 9, (.k 0), .v, [.G, .Eb]⟩),
  (198, .row ⟨.no, 24, (.k 1), .v, [.G, .E]⟩),
  (195, .row ⟨(.only [4, 5, 6, 7]), 23, .mm4, .v, [.E, .Ib]⟩),
  (158, .un (.k 1)),
  (160, .un .v),
  (168, .ff),
  (170, .sys),
  (84, .row ⟨.mem, 11, .k 0, .v, [.G, .E]⟩),
  (85, .to),
  (83, .frm)]
def lookN (L : List (Nat × Rule)) (n : Nat) : Option Rule := match L with | [] => none | e :: r => if n = e.1 then some e.2 else lookN r n
theorem lookN_mem : ∀ (L : List (Nat × Rule)) (n : Nat) (r : Rule), lookN L n = some r → (n, r) ∈ L
  | [], _, _, h => by cases h
  | e :: L, n, r, h => by
    unfold lookN at h
    by_cases he : n = e.1
    · rw [if_pos he] at h
      injection h with h
      subst he h
      exact List.mem_cons_self
    · rw [if_neg he] at h
      exact List.mem_cons_of_mem _ (lookN_mem L n r h)
/-- An opcode's rule. -/
def ruleOf (op : Int) : Option Rule := (rowOf op).bind (lookN tab)
theorem ruleOf_all : ∀ k : Fin 4096, (rowOf ((k : Nat) : Int)).all (fun n => (lookN tab n).isSome) = true := by decide +kernel
end Go.Proofs.YtbfccfhjgopnbaaGreat
namespace Go.Proofs.YtbfccfhjgopnbaaGreat
open Go.ChangeShapes Go.WideShapes Go.ChangeAt Go.RowKit
set_option linter.unusedVariables false
set_option maxRecDepth 20000
structure VlF (T : TypeId) (n : Nat) (Z : Array Value) (fs : Array Field) (ps : Array (Nat × Nat)) : Prop where
  v : Veil T n
  z : Z = insV Ins.zero
  agg : ∀ w, (isAgg T).run Tryz.prog w = .ok true w
  size : ∀ w, (sizeOf T).run Tryz.prog w = .ok n w
  zero : ∀ w, (zeroValue T).run Tryz.prog w = .ok (.agg Z) w
  under : ∀ w, (underlying T).run Tryz.prog w = .ok (.struct fs) w
  map : ∀ w, (Array.mapM (fun f : Field => Prod.mk f.offset <$> sizeOf f.type) fs).run Tryz.prog w = .ok ps w
  guard : ∀ w a b A B, (eqGuard .eql T a b (.agg A) (.agg B)).run Tryz.prog w = .ok () w
  zs : Z.size = n
  zn : Z.toList.length = n
theorem vlF : ∃ T n Z fs ps, VlF T n Z fs ps := by
  obtain ⟨T, n, h⟩ := veil
  obtain ⟨fs, ps, hu, hm⟩ := h.under
  exact ⟨T, n, insV Ins.zero, fs, ps, h, rfl, h.agg, h.size, h.zero, hu, hm, fun w a b A B => by rw [h.t]; exact guardI w a b A B, h.cells _, by rw [h.s]; rfl⟩
theorem VlF.ops {T : TypeId} {n : Nat} {Z : Array Value} {fs : Array Field} {ps : Array (Nat × Nat)} (h : VlF T n Z fs ps) :
    (∀ x, Op.load 28 x = Op.load T x) ∧ (∀ x y, Op.store 28 x y = Op.store T x y) ∧ Op.build 28 #[] = Op.build T #[] ∧ Op.alloc 28 = Op.alloc T ∧ ∀ x y, Op.binOp .eql 28 x y 28 = Op.binOp .eql T x y T := by
  rw [h.v.t]
  exact ⟨fun _ => rfl, fun _ _ => rfl, rfl, rfl, fun _ _ => rfl⟩
theorem VlF.eql {T : TypeId} {n : Nat} {Z : Array Value} {fs : Array Field} {ps : Array (Nat × Nat)} (h : VlF T n Z fs ps) (w : World) (x y : Ins) : (binOp .eql T (.agg (insV x)) (.agg (insV y))).run Tryz.prog w = .ok (.bool (decide (x = y))) w := by
  rw [h.v.t]
  exact eqlI w x y
theorem setRow_alloc (W : World) (c A : Array Value) (T : TypeId) : (W.alloc (.cells c T)).setRow W.heap.size A = W.alloc (.cells A T) := by
  unfold World.setRow World.alloc
  congr 1
  apply Array.ext_getElem?
  intro i
  rw [Array.getElem?_modify]
  by_cases h : W.heap.size = i
  · subst h; simp
  · simp only [h, if_false]
    by_cases h2 : i < W.heap.size
    · rw [Array.getElem?_push_lt h2, Array.getElem?_push_lt h2]
    · rw [Array.getElem?_eq_none (by simp; omega), Array.getElem?_eq_none (by simp; omega)]
/-- A new instruction is laid. -/
theorem VlF.new {T : TypeId} {n : Nat} {Z : Array Value} {fs : Array Field} {ps : Array (Nat × Nat)} (h : VlF T n Z fs ps) (x : Ins) (W : World) : (storeCells ⟨W.heap.size, 0, none⟩ (insV x).toList).run Tryz.prog (W.alloc (.cells Z T)) = .ok () (W.alloc (.cells (insV x) T)) := by
  rw [← setRow_alloc W Z (insV x) T, h.v.t]
  exact put_ins (MapKept.heap_alloc W (.cells Z 28)).1 (by rw [h.z]; rfl) x
/-- It is read where it lies. -/
theorem VlF.get {T : TypeId} {n : Nat} {Z : Array Value} {fs : Array Field} {ps : Array (Nat × Nat)} (h : VlF T n Z fs ps) {x : Ins} {W : World} {q : Nat} (hq : W.heap[q]? = some (.cells (insV x) T (0, 0))) : (loadCellsFrom ⟨q, 0, none⟩ 0 n #[]).run Tryz.prog W = .ok (insV x) W :=
  h.v.load (fun j v hv => by
    rw [cell_of_row W q (0 + j) _ _ _ hq, Nat.zero_add, ← Array.getElem?_toList]
    exact hv)
def bts (l : List Int) (j : Nat) : Int := l.getD j 0
theorem dec_two (hT : TabOk ruleOf) (w : World) (a b : Int) (ha : 0 ≤ a ∧ a < 256) (hb : 0 ≤ b ∧ b < 256) (x : Ins) (e : Int) (hx : decM ruleOf 2 (bts [a, b]) = (x, e)) :
    Calls Tryz.prog 5 #[.slice (some ⟨w.heap.size, 0, none⟩) 2 2] (w.alloc (.cells #[.int .u8 a, .int .u8 b] 5)) fun r w' => r = .returned (.tuple #[.agg (insV x), .int .i64 e]) ∧ Kp noB w w' := by
  have hh := (MapKept.heap_alloc w (.cells #[.int .u8 a, .int .u8 b] 5)).1
  refine (decode_ok ruleOf hT _ (some ⟨w.heap.size, 0, none⟩) 2 2 (bts [a, b]) (by decide) ?_ ?_).mono ?_
  · intro j hj
    refine ⟨w.heap.size, 0, rfl, by simp, ?_⟩
    rw [cell_of_row _ _ _ _ _ _ hh]
    rcases (by omega : j = 0 ∨ j = 1) with rfl | rfl <;> rfl
  · intro j hj
    rcases (by omega : j = 0 ∨ j = 1) with rfl | rfl
    · exact ha
    · exact hb
  · rintro r w' ⟨rfl, k⟩
    rw [hx]
    exact ⟨rfl, (Kp.alloc _ _ _).trans k⟩
theorem dec_one (hT : TabOk ruleOf) (w : World) (a : Int) (ha : 0 ≤ a ∧ a < 256) (x : Ins) (e : Int) (hx : decM ruleOf 1 (bts [a]) = (x, e)) :
    Calls Tryz.prog 5 #[.slice (some ⟨w.heap.size, 0, none⟩) 1 1] (w.alloc (.cells #[.int .u8 a] 5)) fun r w' => r = .returned (.tuple #[.agg (insV x), .int .i64 e]) ∧ Kp noB w w' := by
  have hh := (MapKept.heap_alloc w (.cells #[.int .u8 a] 5)).1
  refine (decode_ok ruleOf hT _ (some ⟨w.heap.size, 0, none⟩) 1 1 (bts [a]) (by decide) ?_ ?_).mono ?_
  · intro j hj
    refine ⟨w.heap.size, 0, rfl, by simp, ?_⟩
    rw [cell_of_row _ _ _ _ _ _ hh]
    obtain rfl : j = 0 := by omega
    rfl
  · intro j hj
    obtain rfl : j = 0 := by omega
    exact ha
  · rintro r w' ⟨rfl, k⟩
    rw [hx]
    exact ⟨rfl, (Kp.alloc _ _ _).trans k⟩
def addI : Ins := ⟨1, 0, 4, ⟨1, 0, 4, 0, 0, 0, 0, 0, 0⟩, ⟨1, 3, 4, 0, 0, 0, 0, 0, 0⟩, Opd.zero, 0, 2⟩
theorem dec_a1 : decM ruleOf 2 (bts [1, 216]) = (addI, 0) := by decide +kernel
theorem dec_a2 : decM ruleOf 2 (bts [141, 192]) = (Ins.zero, 60) := by decide +kernel
theorem dec_a3 : decM ruleOf 1 (bts [15]) = (Ins.zero, 61) := by decide +kernel
theorem VlF.add {T : TypeId} {n : Nat} {Z : Array Value} {fs : Array Field} {ps : Array (Nat × Nat)} (h : VlF T n Z fs ps) (w : World) : (binOp .eql T (.agg (insV addI)) (.agg #[.int .i64 1, .int .i64 0, .int .i64 4, .int .i64 1, .int .i64 0, .int .i64 4, .int .i64 0, .int .i64 0, .int .i64 0, .int .i64 0, .int .u32 0, .int .u32 0, .int .i64 1, .int .i64 3, .int .i64 4, .int .i64 0, .int .i64 0, .int .i64 0, .int .i64 0, .int .u32 0, .int .u32 0, .int .i64 0, .int .i64 0, .int .i64 0, .int .i64 0, .int .i64 0, .int .i64 0, .int .i64 0, .int .u32 0, .int .u32 0, .int .i64 0, .int .i64 2])).run Tryz.prog w = .ok (.bool true) w := h.eql w addI addI
set_option maxHeartbeats 2000000 in
theorem awake_ok (hT : TabOk ruleOf) (w : World) : Calls Tryz.prog 4 #[] w fun e w' => e = .returned (.bool true) ∧ Kp noB w w' := by
  obtain ⟨T, nI, Z, fsI, psI, h⟩ := vlF
  have H : Hid _ := h
  have HT : Hid _ := hT
  obtain ⟨vl, vs, vb, va, ve⟩ := h.ops
  have v1 := h.agg
  have v2 := h.size
  have v3 := h.zero
  have v4 := h.under
  have v5 := h.map
  have v6 := h.guard
  have v7 := h.zs
  have v8 := h.zn
  have v9 := h.add
  have n1 := h.new addI
  have n2 := h.new Ins.zero
  have s1 := h.v.cells addI
  have s2 := h.v.cells Ins.zero
  have c1 := dec_two hT w 1 216 (by decide) (by decide) _ _ dec_a1
  clear h hT
  go_enter Tryz.func4, Tryz.ntmps4
  simp only [vl, vs, va, ve]
  clear vl vs vb va ve
  go_wp2_with fail
  refine c1.mono ?_; rintro e w1 ⟨rfl, k1⟩
  have K1 : Hid _ := k1.trans (Kp.alloc noB w1 (.cells (insV addI) T))
  have hx := (MapKept.heap_alloc w1 (.cells (insV addI) T)).1
  have c2 := dec_two HT.out (w1.alloc (.cells (insV addI) T)) 141 192 (by decide) (by decide) _ _ dec_a2
  rw [show (w1.alloc (.cells (insV addI) T)).heap.size = w1.heap.size + 1 by simp] at c2
  clear c1 k1
  go_wp2_with fail
  refine c2.mono ?_; rintro e w2 ⟨rfl, k2⟩
  have K2 : Hid _ := (K1.out.trans k2).trans (Kp.alloc noB w2 (.cells (insV Ins.zero) T))
  have hx2 := heap_kept hx (k2.trans (Kp.alloc noB w2 (.cells (insV Ins.zero) T))) id
  have c3 := dec_one HT.out (w2.alloc (.cells (insV Ins.zero) T)) 15 (by decide) _ _ dec_a3
  rw [show (w2.alloc (.cells (insV Ins.zero) T)).heap.size = w2.heap.size + 1 by simp] at c3
  clear c2 k2 K1 hx
  go_wp2_with fail
  refine c3.mono ?_; rintro e w3 ⟨rfl, k3⟩
  have K3 : Hid _ := (K2.out.trans k3).trans (Kp.alloc noB w3 (.cells (insV Ins.zero) T))
  have hx3 := heap_kept hx2 (k3.trans (Kp.alloc noB w3 (.cells (insV Ins.zero) T))) id
  clear c3 k3 K2 hx2
  have hl : ∀ o1 o2, (loadCellsFrom ⟨w1.heap.size, 0, none⟩ 0 nI #[]).run Tryz.prog (((w3.alloc (.cells (insV Ins.zero) T)).alloc o1).alloc o2) = .ok (insV addI) (((w3.alloc (.cells (insV Ins.zero) T)).alloc o1).alloc o2) := fun o1 o2 => H.out.get (heap_kept hx3 ((Kp.alloc noB _ o1).trans (Kp.alloc noB _ o2)) id)
  have HK : Hid (∀ o1 o2, Kp noB w (((w3.alloc (.cells (insV Ins.zero) T)).alloc o1).alloc o2)) := fun o1 o2 => (K3.out.trans (Kp.alloc noB _ o1)).trans (Kp.alloc noB _ o2)
  clear hx3 K3
  go_wp2
  go_ret
  exact ⟨rfl, HK.out _ _⟩
end Go.Proofs.YtbfccfhjgopnbaaGreat
