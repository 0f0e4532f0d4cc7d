/- The contract of Decode: the instruction that bytes begin with, and the error, are those of the plain model. -/
import Derived.Test.YtolnaodlghahlaaGreatDoorDecRun
import Derived.Test.YtolnaodlghahlaaGreatDoorDecFind
import Derived.Laws.Rows
import Derived.Deep.MidRow
namespace Go.Proofs.YtolnaodlghahlaaGreatDoor
open Go.ChangeShapes Go.WideShapes Go.ChangeAt Go.RowKit
set_option linter.unusedVariables false
set_option maxRecDepth 20000

def insV (x : Ins) : Array Value := #[.int .i64 x.op, .int .i64 x.sub, .int .i64 x.size,
  .int .i64 x.a.kind, .int .i64 x.a.reg, .int .i64 x.a.size, .int .i64 x.a.seg, .int .i64 x.a.base, .int .i64 x.a.index, .int .i64 x.a.scale, .int .u32 x.a.disp, .int .u32 x.a.imm,
  .int .i64 x.b.kind, .int .i64 x.b.reg, .int .i64 x.b.size, .int .i64 x.b.seg, .int .i64 x.b.base, .int .i64 x.b.index, .int .i64 x.b.scale, .int .u32 x.b.disp, .int .u32 x.b.imm,
  .int .i64 x.c.kind, .int .i64 x.c.reg, .int .i64 x.c.size, .int .i64 x.c.seg, .int .i64 x.c.base, .int .i64 x.c.index, .int .i64 x.c.scale, .int .u32 x.c.disp, .int .u32 x.c.imm,
  .int .i64 x.rep, .int .i64 x.len]

theorem insV_size (x : Ins) : (insV x).size = 32 := rfl

/-- Bytes in memory. -/
def BytAt (w : World) (p : Option Addr) (L : Nat) (bt : Nat → Int) : Prop :=
  ∀ j, j < L → ∃ b o, p = some ⟨b, o, none⟩ ∧ b < w.heap.size ∧ w.cell? ⟨b, o + j, none⟩ = some (.int .u8 (bt j))

def TabOk (rl : Int → Option Rule) : Prop := ∀ op : Int, 0 ≤ op → op < 4096 → (rowOf op = none ∧ rl op = none) ∨ ∃ n r, rowOf op = some n ∧ rl op = some r ∧ RowOk n r

theorem take_bd' {X : Cx} (hb : ∀ j, j < X.L → 0 ≤ X.bt j ∧ X.bt j < 256) (σ : Sg) (h : σ.at' ≤ X.L) : (0 ≤ (take X σ).1 ∧ (take X σ).1 < 256) ∧ (take X σ).2.at' ≤ X.L := by
  unfold take
  split
  · exact ⟨⟨Int.le_refl _, by show (0 : Int) < 256; decide⟩, h⟩
  · split
    · exact ⟨⟨Int.le_refl _, by show (0 : Int) < 256; decide⟩, h⟩
    · split
      · exact ⟨⟨Int.le_refl _, by show (0 : Int) < 256; decide⟩, h⟩
      · exact ⟨hb _ (by omega), by show σ.at' + 1 ≤ X.L; omega⟩

theorem preL_bd {X : Cx} (hb : ∀ j, j < X.L → 0 ≤ X.bt j ∧ X.bt j < 256) : ∀ (n : Nat) (b : Int) (σ : Sg), σ.at' ≤ X.L → 0 ≤ b → b < 256 → (0 ≤ (preL X n b σ).1 ∧ (preL X n b σ).1 < 256) ∧ (preL X n b σ).2.at' ≤ X.L
  | 0, b, σ, h, b0, b1 => ⟨⟨b0, b1⟩, h⟩
  | n + 1, b, σ, h, b0, b1 => by
    unfold preL
    split
    · have t := take_bd' hb (preS b σ) (by rw [(preS_at b σ).1]; exact h)
      exact preL_bd hb n _ _ t.2 t.1.1 t.1.2
    · exact ⟨⟨b0, b1⟩, h⟩

theorem opcodeM_bd {X : Cx} (hb : ∀ j, j < X.L → 0 ≤ X.bt j ∧ X.bt j < 256) (σ : Sg) (h : σ.at' ≤ X.L) : 0 ≤ (opcodeM X σ).1 ∧ (opcodeM X σ).1 < 4096 := by
  have t := take_bd' hb σ h
  have p := preL_bd hb 16 _ _ t.2 t.1.1 t.1.2
  have q := take_bd' hb _ p.2
  unfold opcodeM
  simp only
  split
  · exact ⟨by show 0 ≤ 3840 + _; omega, by show 3840 + _ < 4096; omega⟩
  · exact ⟨p.1.1, by omega⟩

theorem inst_u : Tryz.prog.underlying 28 = some (.struct (match Tryz.prog.underlying 28 with | some (.struct f) => f | _ => default)) := by kernel_rfl
theorem inst_s : (Tryz.prog.info? 28).map (·.size) = some 32 := by kernel_rfl

theorem range_frm {X : Cx} {w : World} {σ : Sg} (h : St X w σ) : w.rangeAt X.F 7 (insV σ.ins).toList := by
  intro j v hv
  obtain ⟨fp, g, _⟩ := h.frm
  have hj : j < 32 := by
    have := (List.getElem?_eq_some_iff.1 hv).1
    simpa [insV] using this
  have e : (frmC X σ fp)[7 + j]? = (insV σ.ins)[j]? := by
    have key : ∀ k : Fin 32, (frmC X σ fp)[7 + k.val]? = (insV σ.ins)[k.val]? := by
      intro k
      match k with
      | ⟨0, _⟩ => rfl | ⟨1, _⟩ => rfl | ⟨2, _⟩ => rfl | ⟨3, _⟩ => rfl | ⟨4, _⟩ => rfl | ⟨5, _⟩ => rfl | ⟨6, _⟩ => rfl | ⟨7, _⟩ => rfl
      | ⟨8, _⟩ => rfl | ⟨9, _⟩ => rfl | ⟨10, _⟩ => rfl | ⟨11, _⟩ => rfl | ⟨12, _⟩ => rfl | ⟨13, _⟩ => rfl | ⟨14, _⟩ => rfl | ⟨15, _⟩ => rfl
      | ⟨16, _⟩ => rfl | ⟨17, _⟩ => rfl | ⟨18, _⟩ => rfl | ⟨19, _⟩ => rfl | ⟨20, _⟩ => rfl | ⟨21, _⟩ => rfl | ⟨22, _⟩ => rfl | ⟨23, _⟩ => rfl
      | ⟨24, _⟩ => rfl | ⟨25, _⟩ => rfl | ⟨26, _⟩ => rfl | ⟨27, _⟩ => rfl | ⟨28, _⟩ => rfl | ⟨29, _⟩ => rfl | ⟨30, _⟩ => rfl | ⟨31, _⟩ => rfl
      | ⟨n + 32, h⟩ => omega
    exact key ⟨j, hj⟩
  show w.cell? ⟨X.F, 7 + j, none⟩ = some v
  rw [cell_of_row w X.F (7 + j) _ _ _ g, e, ← Array.getElem?_toList]
  exact hv

theorem load_frm {X : Cx} {w : World} {σ : Sg} (h : St X w σ) : (Instr.loadAt 28 (.pointer (some ⟨X.F, 7, none⟩))).run Tryz.prog w = .ok (.agg (insV σ.ins)) w :=
  run_loadAt_mid w X.F 7 28 (insV σ.ins).toList _ (range_frm h) inst_u rfl inst_s

theorem one_insV (x : Ins) : ∀ v ∈ (insV x).toList, v.oneCell' = true := by
  intro v hv
  simp only [insV, List.mem_cons, List.not_mem_nil, or_false] at hv
  rcases hv with rfl | rfl | rfl | rfl | rfl | rfl | rfl | rfl | rfl | rfl | rfl | rfl | rfl | rfl | rfl | rfl | rfl | rfl | rfl | rfl | rfl | rfl | rfl | rfl | rfl | rfl | rfl | rfl | rfl | rfl | rfl | rfl <;> rfl

/-- A whole instruction into a block of its own. -/
theorem put_ins {w : World} {q : Nat} {c : Array Value} (h : w.heap[q]? = some (.cells c 28 (0, 0))) (hc : c.size = 32) (x : Ins) : (storeCells ⟨q, 0, none⟩ (insV x).toList).run Tryz.prog w = .ok () (w.setRow q (insV x)) := by
  have r := run_storeCells_at Tryz.prog q 0 28 (insV x).toList 0 c w h (by simp [hc, insV_size]) (one_insV x)
  rw [r]
  have e : (List.take (0 + 0) c.toList ++ (insV x).toList ++ List.drop (0 + 0 + (insV x).toList.length) c.toList).toArray = insV x := by
    have h1 : List.drop (0 + 0 + (insV x).toList.length) c.toList = [] := List.drop_eq_nil_of_le (by simp [hc, insV_size])
    rw [h1]
    simp
  rw [e]

theorem got_ins {w : World} {q : Nat} {c : Array Value} (h : w.heap[q]? = some (.cells c 28 (0, 0))) (x : Ins) : (w.setRow q (insV x)).heap[q]? = some (.cells (insV x) 28 (0, 0)) := setRow_heap w q _ _ _ _ h

theorem load_ins {w : World} {q : Nat} {c : Array Value} (h : w.heap[q]? = some (.cells c 28 (0, 0))) (hc : c.size = 32) : (loadVar 28 ⟨q, 0, none⟩).run Tryz.prog w = .ok (.agg c) w :=
  run_loadVar_row w q _ _ _ _ _ h inst_u rfl (by rw [hc]; exact inst_s)

theorem setLen_frm {X : Cx} {w : World} {σ : Sg} (h : St X w σ) (n : Int) : St X (w.setCell ⟨X.F, 38, none⟩ (.int .i64 n)) { σ with ins := { σ.ins with len := n } } :=
  h.setF 38 _ (fun _ => rfl) rfl rfl rfl ⟨h.gd.op0, h.gd.op1, h.gd.vv, h.gd.fb⟩

theorem St.f38 {X : Cx} {w : World} {σ : Sg} (h : St X w σ) : w.cell? ⟨X.F, 38, none⟩ = some (.int .i64 σ.ins.len) := by
  obtain ⟨fp, h1, _⟩ := h.frm
  simp [World.cell?, h1, frmC]

theorem St.start (w : World) (p : Option Addr) (cap L : Nat) (bt : Nat → Int) (hL : L ≤ 4611686018427387904) (hb : BytAt w p L bt) (hbd : ∀ j, j < L → 0 ≤ bt j ∧ bt j < 256) :
    St ⟨w.heap.size + 1, w.heap.size + 1 + 1, p, cap, L, bt, w.heap.size⟩
      (((w.alloc (.cells (insV Ins.zero) 28)).alloc (.cells #[.slice p L cap, .int .i64 0, .int .i64 0] 51)).alloc (.cells (frmC ⟨w.heap.size + 1, w.heap.size + 1 + 1, p, cap, L, bt, w.heap.size⟩ sg0 (.pointer none)) 55)) sg0 := by
  obtain ⟨w1, hw1⟩ : ∃ w1, w1 = w.alloc (.cells (insV Ins.zero) 28) := ⟨_, rfl⟩
  have hs : w1.heap.size = w.heap.size + 1 := by rw [hw1]; simp
  rw [← hw1]
  have k1 : Kp noB w w1 := by rw [hw1]; exact Kp.alloc _ _ _
  have kk : Kp noB w ((w1.alloc (.cells #[.slice p L cap, .int .i64 0, .int .i64 0] 51)).alloc (.cells (frmC ⟨w.heap.size + 1, w.heap.size + 1 + 1, p, cap, L, bt, w.heap.size⟩ sg0 (.pointer none)) 55)) := (k1.trans (Kp.alloc _ _ _)).trans (Kp.alloc _ _ _)
  refine ⟨by show w.heap.size + 1 ≠ w.heap.size + 1 + 1; omega, ?_, ⟨.pointer none, ?_, rfl⟩, ?_, hbd, hL, by show 0 ≤ 15; omega, by show 0 ≤ L; omega, by show w.heap.size ≤ w.heap.size + 1; omega, by show w.heap.size ≤ w.heap.size + 1 + 1; omega, ⟨by decide, by decide, Or.inr rfl, fun _ _ _ h => by cases h⟩⟩
  · show _[w.heap.size + 1]? = _
    rw [← hs]
    exact heap_kept (S := noB) (MapKept.heap_alloc w1 _).1 (Kp.alloc _ _ _) id
  · show _[w.heap.size + 1 + 1]? = _
    rw [← hs]
    exact heap2 w1 _ _
  · intro j hj
    obtain ⟨b, o, e, hb1, hc⟩ := hb j hj
    exact ⟨b, o, e, hb1, cell_kept hc kk id⟩

end Go.Proofs.YtolnaodlghahlaaGreatDoor
