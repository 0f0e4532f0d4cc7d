/- The contract of the document's data, while nothing of a set-up is wanted. -/
import Derived.Test.YtfpgijdfbgfkcaaRcLine
namespace Go.Proofs.Ytfpgijdfbgfkcaa
open Go.ChangeShapes Go.WideShapes Go.ChangeAt Go.RowKit
set_option linter.unusedVariables false

theorem ch_u : Try.prog.underlying 52 = some (.struct (match Try.prog.underlying 52 with | some (.struct f) => f | _ => default)) := by kernel_rfl
theorem ch_s : (Try.prog.info? 52).map (·.size) = some 36 := by kernel_rfl

theorem ch_res {fn : Func} {p : Tmp} (h : fn.results = #[.cell p 52]) (tmps : Array Value) (w : World) (q : Nat) (r : RC) (hp : tmps.getD p undef = .pointer (some ⟨q, 0, none⟩)) (hg : CAt w q r) : (results fn tmps).run Try.prog w = .ok (.agg (chV r)) w :=
  results_cell_row h tmps w q _ _ _ _ hp hg ch_u rfl ch_s

/-- A chip's room in a block of its own, not filled yet. -/
def ZAt (w : World) (q : Nat) : Prop := w.heap[q]? = some (.cells (chV RC.zero) 52 (0, 0))
theorem ZAt.kept {S : Nat → Prop} {w w' : World} {q : Nat} (h : ZAt w q) (k : Kp S w w') (hS : ¬ S q) : ZAt w' q := heap_kept h k hS
theorem ZAt.put {w : World} {q : Nat} (h : ZAt w q) (r : RC) : (storeCells ⟨q, 0, none⟩ (chV r).toList).run Try.prog w = .ok () (w.setRow q (chV r)) := put_ch h rfl r
theorem ZAt.got {w : World} {q : Nat} (h : ZAt w q) (r : RC) : CAt (w.setRow q (chV r)) q r := setRow_heap w q _ _ _ _ h
theorem VlC.zat {T : TypeId} {n : Nat} {Z : Array Value} {fs : Array Field} {ps : Array (Nat × Nat)} (h : VlC T n Z fs ps) (o : Obj) (W : World) : ZAt ((W.alloc o).alloc (.cells Z T)) (W.heap.size + 1) := by
  rw [h.t, h.z]; exact heap_alloc2_new W _ _
theorem Kp.newRow {S : Nat → Prop} {w W : World} (h : Kp S w W) {b : Nat} (hb : w.heap.size ≤ b) (cs : Array Value) : Kp S w (W.setRow b cs) := h.own (Kp.setRow (S := isB b) W rfl cs) hb

def mskK (r : RC) (v : Int) (k : Nat) : RC := { r with msk := fun j => if j < k then tb v j else r.msk j }

theorem mskK_0 (r : RC) (v : Int) : mskK r v 0 = r := by
  unfold mskK
  have : (fun j => if j < 0 then tb v j else r.msk j) = r.msk := funext fun j => by rw [if_neg (by omega)]
  rw [this]

theorem mskK_s (r : RC) (v : Int) (k : Nat) (hk : k < 8) : (chV (mskK r v k)).setIfInBounds (16 + k) (.bool (tb v k)) = chV (mskK r v (k + 1)) := by
  rw [set_msk _ hk]
  congr 1
  unfold mskK upd
  congr 1
  funext j
  by_cases e : j = k
  · subst e; simp
  · simp only [e, if_false]
    by_cases q : j < k
    · rw [if_pos q, if_pos (by omega)]
    · rw [if_neg q, if_neg (by omega)]

set_option maxRecDepth 20000 in
set_option maxHeartbeats 1000000 in
theorem rdata0 (w : World) (r : RC) (v : Int) (hv : By v) (h0 : r.wl = 0) : Calls Try.prog 27 #[.agg (chV r), .int .u8 v] w fun e w' => e = .returned (.agg (chV (mskK r v 8))) ∧ Kp noB w w' := by
  obtain ⟨T, nI, Z, fs, ps, V⟩ := vlC
  obtain ⟨vl, vs, va, vb⟩ := V.ops
  have v1 := V.agg
  have v2 := V.size
  have v3 := V.zero
  have v4 := V.under
  have v5 := V.map
  have v6 := V.zs
  have cs : ∀ r : RC, (chV r).size = nI := fun r => by rw [V.s]; rfl
  have c35 : (chV r)[35]? = some (.slice r.wp r.wl r.wc) := rfl
  rw [h0] at c35
  have HV : Hid (VlC T nI Z fs ps) := V
  have HBt : Hid (∀ (w : World) (n : Nat), n < 8 → _) := fun w n hn => bit_any w v hv n hn
  clear V h0 hv
  go_enter Try.func27, Try.ntmps27
  simp only [vl, vs, va, vb]
  clear vl vs va vb
  go_wp2
  obtain ⟨q, hq⟩ : ∃ q, q = w.heap.size := ⟨_, rfl⟩
  have hC : Hid (CAt ((w.alloc (.cells (chV r) T)).alloc (.cells Z T)) q (mskK r v 0)) := by rw [hq, mskK_0]; exact (HV.out.at r w).kept (Kp.alloc noB _ _) id
  have hZ : Hid (ZAt ((w.alloc (.cells (chV r) T)).alloc (.cells Z T)) (q + 1)) := by rw [hq]; exact HV.out.zat _ w
  have hK : Hid (Kp noB w ((w.alloc (.cells (chV r) T)).alloc (.cells Z T))) := (Kp.alloc _ _ _).trans (Kp.alloc _ _ _)
  have lq : Hid (w.heap.size ≤ q) := Nat.le_of_eq hq.symm
  rw [← hq]
  generalize (w.alloc (.cells (chV r) T)).alloc (.cells Z T) = w0 at hC hZ hK ⊢
  clear hq c35
  go_loopw [5] (fun s5 wr => ∃ k : Nat, s5 = .int .i64 k ∧ k ≤ 8 ∧ CAt wr q (mskK r v k) ∧ ZAt wr (q + 1) ∧ Kp noB w wr) (fun s5 _ => (8 - intOf s5).toNat)
  case atStart => exact ⟨0, rfl, by omega, hC.out, hZ.out, hK.out⟩
  case round =>
    clear hC hZ hK
    obtain ⟨k, rfl, hk, hC, hZ, kr⟩ := hrel
    by_cases hlt : k < 8
    · have HC : Hid (CAt wr q (mskK r v k)) := hC
      have HZ : Hid (ZAt wr (q + 1)) := hZ
      have c1 := hC.cell (ch_msk (mskK r v k) hlt)
      have z1 := hC.fz (16 + k)
      clear hC hZ
      go_wp2_with fail
      refine Calls.mono (HBt.out _ k hlt) ?_; rintro e v1 ⟨rfl, hw⟩; replace hw := hw.symm; subst hw
      go_wp2
      go_roundw
      case rel => exact ⟨k + 1, by go_num, by omega, HC.out.set (mskK_s r v k hlt), HZ.out.kept (kpB q _ _ _) (by show ¬ q + 1 = q; omega), kr.new lq.out _⟩
      case measure => simp [intOf]; omega
    · obtain rfl : k = 8 := by omega
      have L1 := HV.out.get hC
      have S1 := hZ.put (mskK r v 8)
      have E1 : Hid (CAt (wr.setRow (q + 1) (chV (mskK r v 8))) (q + 1) (mskK r v 8)) := hZ.got _
      have K1 : Hid (Kp noB w (wr.setRow (q + 1) (chV (mskK r v 8)))) := kr.newRow (by have := lq.out; omega) _
      clear hC hZ
      go_wp2
      exact bodyPost_ret (v := .agg (chV (mskK r v 8))) (ch_res Try.results27 _ _ (q + 1) _ rfl E1.out) rfl ⟨rfl, K1.out⟩
end Go.Proofs.Ytfpgijdfbgfkcaa
