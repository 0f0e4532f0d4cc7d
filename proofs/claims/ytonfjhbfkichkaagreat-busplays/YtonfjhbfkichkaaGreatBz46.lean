/- The bus and its devices: BqBase, BqAsk, BqPh, BqAlike, BqGate. -/
import Derived.Test.YtonfjhbfkichkaaGreatBz42
import Derived.Test.YtonfjhbfkichkaaGreatBz45
import Derived.Deep.RegionHeld3
import Derived.Test.YtonfjhbfkichkaaGreatBz01
import Derived.Test.YtonfjhbfkichkaaGreatBz21
namespace Go.Proofs.YtonfjhbfkichkaaGreat.Bs
open Go.ChangeShapes Go.WideShapes Go.ChangeAt Go.RowKit
open Go.Proofs.YtonfjhbfkichkaaGreat.Ut (Kp heap_lt heap_kept heap_set heap_new noB isB kpB)
set_option linter.unusedVariables false
set_option maxRecDepth 20000
def TT (R : Nat → Res) (L : Loc) (x : Bm) (L' : LocR) (y : Bm) : Nat → Res := updR (updR R 0 (busR L x)) 1 (docR L' y)
section
variable {W w : World} {R : Nat → Res} {L : Loc} {L' : LocR} {x y : Bm}
theorem TT.flip : TT R L x L' y = updR (updR R 1 (docR L' y)) 0 (busR L x) := upd_comm _ (by decide) _ _
theorem TT.up {r : Res} {j : Nat} (j0 : j ≠ 0) (j1 : j ≠ 1) : updR (TT R L x L' y) j r = TT (updR R j r) L x L' y := by
 unfold TT
 rw [upd_comm _ (Ne.symm j1), upd_comm _ (Ne.symm j0)]
theorem TT.at {j : Nat} (j0 : j ≠ 0) (j1 : j ≠ 1) : TT R L x L' y j = R j := by
 unfold TT
 rw [upd_other j1, upd_other j0]
theorem TT.two : two (busR L x) (docR L' y) = TT (fun _ => .none) L x L' y := by
 funext j
 match j with
 | 0 | 1 => rfl
 | n + 2 => rfl
theorem tBus {f : FuncId} {args : Array Value} {E : Ending → Prop} {x' : Bm} (h : Hs W w (TT R L x L' y)) (hc : ∀ S, BW w S L x → Calls Tryz.prog f args w fun e w' => E e ∧ BNx w S L x' w') : Calls Tryz.prog f args w fun e w' => E e ∧ Hs W w' (TT R L x' L' y) := by
 rw [TT.flip] at h
 exact (h.bus' hc).mono fun e w' ⟨q, r⟩ => ⟨q, by rw [TT.flip]; exact r⟩
theorem tDoc {f : FuncId} {args : Array Value} {E : Ending → Prop} {y' : Bm} (h : Hs W w (TT R L x L' y)) (hc : ∀ S, DW w S L' y → Calls Tryz.prog f args w fun e w' => E e ∧ DNx w S L' y' w') : Calls Tryz.prog f args w fun e w' => E e ∧ Hs W w' (TT R L x L' y') := by
 unfold TT at h
 exact (h.doc 1 upd_self hc).mono fun e w' ⟨q, r⟩ => ⟨q, by unfold TT; rw [upd_twice] at r; exact r⟩
theorem tBw (h : Hs W w (TT R L x L' y)) : (∃ S, BW w S L x) ∧ ∃ S, DW w S L' y := by
 refine ⟨?_, h.docAt upd_self⟩
 rw [TT.flip] at h
 exact h.bw
theorem tNew (h : Hs W w (TT R L x L' y)) {j : Nat} (hR : R j = .none) (j0 : j ≠ 0) (j1 : j ≠ 1) (o : Obj) : Hs W (w.alloc o) (TT (updR R j (.blk w.heap.size o)) L x L' y) := by
 rw [← TT.up j0 j1]
 exact h.new (by rw [TT.at j0 j1]; exact hR) (T' := isB w.heap.size) ⟨rfl, heap_new _ _⟩ (fun k (g : k = w.heap.size) => by rw [g]; exact ⟨Nat.le_refl _, by simp⟩) (Kp.alloc _ _ _)
theorem tDrop {j : Nat} {r : Res} (h : Hs W w (TT (updR R j r) L x L' y)) (hR : R j = .none) (j0 : j ≠ 0) (j1 : j ≠ 1) : Hs W w (TT R L x L' y) := by
 have := h.drop j
 rw [TT.up j0 j1, upd_twice, upd_id hR] at this
 exact this
theorem tBlk {j : Nat} {X : Nat} {o : Obj} (h : Hs W w (TT (updR R j (.blk X o)) L x L' y)) (j0 : j ≠ 0) (j1 : j ≠ 1) : w.heap[X]? = some o := by
 obtain ⟨T, a⟩ := h.at j
 rw [TT.at j0 j1, upd_self] at a
 exact a.2
end
structure Gt (x : Bm) : Prop where
 ok : x.Ok
 m : x.m = { Rm.mem0 256 with closed := x.cl }
theorem gt_outD {x : Bm} (h : x.m = { Rm.mem0 256 with closed := x.cl }) (v : Int) (o : Option (Dv × Int)) : (x.outD v o).m = { Rm.mem0 256 with closed := (x.outD v o).cl } := by
 unfold Bm.outD
 split
 all_goals first | exact h | (show ({ x.m with closed := _ } : Rm.Mem) = _; rw [h])
theorem gt_outN : ∀ (n : Nat) {x : Bm} (h : x.m = { Rm.mem0 256 with closed := x.cl }) (p v : Int), (Bm.outN n x p v).m = { Rm.mem0 256 with closed := (Bm.outN n x p v).cl }
 | 0, _, h, _, _ => h
 | n + 1, x, h, p, v => gt_outN n (gt_outD h (v % 256) (portOf p)) (nxt p) (v / 256)
theorem gt_inD {x : Bm} (h : x.m = { Rm.mem0 256 with closed := x.cl }) (o : Option (Dv × Int)) : (x.inD o).m = { Rm.mem0 256 with closed := (x.inD o).cl } := by
 unfold Bm.inD
 split
 all_goals exact h
theorem gt_inN : ∀ (n : Nat) {x : Bm} (h : x.m = { Rm.mem0 256 with closed := x.cl }) (p : Int), (Bm.inN n x p).m = { Rm.mem0 256 with closed := (Bm.inN n x p).cl }
 | 0, _, h, _ => h
 | n + 1, x, h, p => gt_inN n (gt_inD h (portOf p)) (nxt p)
theorem gt_ticks : ∀ (n : Nat) {x : Bm} (h : x.m = { Rm.mem0 256 with closed := x.cl }), (Bm.ticks n x).m = { Rm.mem0 256 with closed := (Bm.ticks n x).cl }
 | 0, _, h => h
 | n + 1, x, h => by rw [ticks_succ]; exact gt_ticks n h
theorem Gt.out {x : Bm} (g : Gt x) (p s v : Int) : Gt (x.out p s v) := ⟨g.ok.out p s v, by
 unfold Bm.out
 split
 ·show (x.put p s v).m = { Rm.mem0 256 with closed := (x.put p s v).cl }
  unfold Bm.put
  split
  ·exact g.m
  ·exact gt_outN _ g.m p v
 ·exact g.m⟩
theorem Gt.inn {x : Bm} (g : Gt x) (p s : Int) : Gt (x.inn p s) := ⟨g.ok.inn p s, by
 unfold Bm.inn
 split
 ·show (x.got p s).m = { Rm.mem0 256 with closed := (x.got p s).cl }
  unfold Bm.got
  split
  ·exact g.m
  ·exact gt_inN _ g.m p
 ·exact g.m⟩
theorem Gt.ticks {x : Bm} (g : Gt x) (n : Nat) : Gt (Bm.ticks n x) := ⟨.ticks n g.ok, gt_ticks n g.m⟩
theorem Gt.push {x : Bm} (g : Gt x) {v : Int} (hv : Byt v) : Gt (x.push v) := ⟨g.ok.push hv, g.m⟩
theorem Gt.ack {x : Bm} (g : Gt x) : Gt x.ack := ⟨g.ok.ack, g.m⟩
theorem tickN_few (x : Bm) {n : Int} (h : n ≤ 65536) : x.tickN n = Bm.ticks n.toNat x := by unfold Bm.tickN; rw [if_neg (by omega)]
def AskP (W : World) (R : Nat → Res) (L : Loc) (L' : LocR) (x : Bm) (e : Ending) (w' : World) : Prop := e = .returned (.bool true) ∧ ∃ x', Gt x' ∧ x'.wk ≤ x.wk + 16 ∧ Hs W w' (TT R L x' L' x')
section
variable {W w : World} {R : Nat → Res} {L : Loc} {L' : LocR} {x : Bm}
set_option maxHeartbeats 4000000 in
theorem asked_n (h : Hs W w (TT R L x L' x)) (R2 : R 2 = .none) (g : Gt x) (hw : x.wk + 16 < 9007199254740) (kd pt sz v : Int) (n1 : kd ≠ 1) (n2 : kd ≠ 2) (n3 : kd ≠ 3) (n4 : kd ≠ 4) (n5 : kd ≠ 5) (p0 : 0 ≤ pt) (p1 : pt < 65536) (v0 : 0 ≤ v) (v1 : v < 4294967296) : Calls Tryz.prog 10 #[.pointer (some ⟨L.B, 0, none⟩), .pointer (some ⟨L'.B, 0, none⟩), .agg #[.int .i64 kd, .int .u16 pt, .int .i64 sz, .int .u32 v]] w (AskP W R L L' x) := by
 obtain ⟨w1, hw1⟩ : ∃ w1, w1 = w.alloc (.cells #[.int .i64 kd, .int .u16 pt, .int .i64 sz, .int .u32 v] 44) := ⟨_, rfl⟩
 have h1 : Hs W w1 (TT (updR R 2 (.blk w.heap.size (opO kd pt sz v))) L x L' x) := by rw [hw1]; exact tNew h R2 (by decide) (by decide) _
 have CX : Hid (∀ w' x y, Hs W w' (TT (updR R 2 (.blk w.heap.size (opO kd pt sz v))) L x L' y) → _) := fun w' x y h => opO_cells (tBlk h (by decide) (by decide))
 have DX : Hid (∀ w' x y, Hs W w' (TT (updR R 2 (.blk w.heap.size (opO kd pt sz v))) L x L' y) → Hs W w' (TT R L x L' y)) := fun w' x y h => tDrop h R2 (by decide) (by decide)
 obtain ⟨c0, c1, c2, c3⟩ := CX.out _ _ _ h1
 have HZ : Hid (AskP W R L L' x (.returned (.bool true)) w1) := ⟨rfl, x, g, by omega, DX.out _ _ _ h1⟩
 have q1 : (kd == 1) = false := by rw [beq_eq_false_iff_ne]; exact n1
 have q2 : (kd == 2) = false := by rw [beq_eq_false_iff_ne]; exact n2
 have q3 : (kd == 3) = false := by rw [beq_eq_false_iff_ne]; exact n3
 have q4 : (kd == 4) = false := by rw [beq_eq_false_iff_ne]; exact n4
 have q5 : (kd == 5) = false := by rw [beq_eq_false_iff_ne]; exact n5
 rw [hw1] at c0 c1 c2 c3 HZ
 clear h h1 CX DX hw1 g hw n1 n2 n3 n4 n5 c1 c2 c3
 go_enter Tryz.func10, Tryz.ntmps10
 go_wp2
 go_ret
 exact HZ.out
set_option maxHeartbeats 4000000 in
theorem asked_1 (h : Hs W w (TT R L x L' x)) (R2 : R 2 = .none) (g : Gt x) (hw : x.wk + 16 < 9007199254740) (pt sz v : Int) (p0 : 0 ≤ pt) (p1 : pt < 65536) (v0 : 0 ≤ v) (v1 : v < 4294967296) : Calls Tryz.prog 10 #[.pointer (some ⟨L.B, 0, none⟩), .pointer (some ⟨L'.B, 0, none⟩), .agg #[.int .i64 1, .int .u16 pt, .int .i64 sz, .int .u32 v]] w (AskP W R L L' x) := by
 obtain ⟨w1, hw1⟩ : ∃ w1, w1 = w.alloc (.cells #[.int .i64 1, .int .u16 pt, .int .i64 sz, .int .u32 v] 44) := ⟨_, rfl⟩
 have h1 : Hs W w1 (TT (updR R 2 (.blk w.heap.size (opO 1 pt sz v))) L x L' x) := by rw [hw1]; exact tNew h R2 (by decide) (by decide) _
 have CX : Hid (∀ w' x y, Hs W w' (TT (updR R 2 (.blk w.heap.size (opO 1 pt sz v))) L x L' y) → _) := fun w' x y h => opO_cells (tBlk h (by decide) (by decide))
 have DX : Hid (∀ w' x y, Hs W w' (TT (updR R 2 (.blk w.heap.size (opO 1 pt sz v))) L x L' y) → Hs W w' (TT R L x L' y)) := fun w' x y h => tDrop h R2 (by decide) (by decide)
 obtain ⟨c0, c1, c2, c3⟩ := CX.out _ _ _ h1
 have h1d := h1.drew
 have HC : Hid (Calls Tryz.prog 18 #[.pointer (some ⟨L.B, 0, none⟩), .int .u16 pt, .int .i64 sz, .int .u32 v] w1.drew fun e w' => e = .returned (.int .i64 (erS sz)) ∧ Hs W w' (TT (updR R 2 (.blk w.heap.size (opO 1 pt sz v))) L (x.out pt sz v) L' x)) := tBus h1d fun S b => out_ok b g.ok pt sz v p0 p1 v0 v1 hw
 have HR : Hid (∀ w2, Hs W w2 (TT (updR R 2 (.blk w.heap.size (opO 1 pt sz v))) L (x.out pt sz v) L' x) → Calls Tryz.prog 35 #[.pointer (some ⟨L'.B, 0, none⟩), .int .u16 pt, .int .i64 sz, .int .u32 v] w2 fun e w' => e = .returned (.int .i64 (erS sz)) ∧ Hs W w' (TT (updR R 2 (.blk w.heap.size (opO 1 pt sz v))) L (x.out pt sz v) L' (x.out pt sz v))) := fun w2 h2 => tDoc h2 fun S b => dOut_ok b g.ok pt sz v p0 p1 v0 v1 hw
 have HZ : Hid (∀ w', Hs W w' (TT (updR R 2 (.blk w.heap.size (opO 1 pt sz v))) L (x.out pt sz v) L' (x.out pt sz v)) → AskP W R L L' x (.returned (.bool true)) w') := fun w' h => ⟨rfl, _, g.out pt sz v, out_wk g.ok pt sz v, DX.out _ _ _ h⟩
 have HS : Hid (w1.drew.cell? ⟨w.heap.size, 1, none⟩ = some (.int .u16 pt) ∧ w1.drew.cell? ⟨w.heap.size, 2, none⟩ = some (.int .i64 sz) ∧ w1.drew.cell? ⟨w.heap.size, 3, none⟩ = some (.int .u32 v)) := (CX.out _ _ _ h1d).2
 have HK : Hid (∀ w' x y, Hs W w' (TT (updR R 2 (.blk w.heap.size (opO 1 pt sz v))) L x L' y) → w'.cell? ⟨w.heap.size, 1, none⟩ = some (.int .u16 pt) ∧ w'.cell? ⟨w.heap.size, 2, none⟩ = some (.int .i64 sz) ∧ w'.cell? ⟨w.heap.size, 3, none⟩ = some (.int .u32 v)) := fun w' x y h => (CX.out _ _ _ h).2
 have HW : Hid (w1 = w.alloc (.cells #[.int .i64 1, .int .u16 pt, .int .i64 sz, .int .u32 v] 44)) := hw1
 rw [hw1] at c0 c1 c2 c3
 generalize x.out pt sz v = y at *
 generalize erS sz = er at *
 clear hw1 h h1 h1d CX DX g hw
 go_enter Tryz.func10, Tryz.ntmps10
 go_upto_region 3 with fail
 rw [← HW.out] at c0 c1 c2 c3 ⊢
 go_region_held3 (fun W => W.cell? ⟨w.heap.size, 1, none⟩ = some (.int .u16 pt) ∧ W.cell? ⟨w.heap.size, 2, none⟩ = some (.int .i64 sz) ∧ W.cell? ⟨w.heap.size, 3, none⟩ = some (.int .u32 v))
  (first | exact HS.out | exact HK.out _ _ _ (by assumption) | assumption)
  (first
   | (go_at_call 18; refine HC.out.mono ?_; rintro e w2 ⟨rfl, h2⟩)
   | (go_at_call 35; refine (HR.out _ (by assumption)).mono ?_; rintro e w3 ⟨rfl, h3⟩))
 all_goals
  go_wp2
  go_ret
  have := HZ.out _ h3
  exact ⟨ret_bool (by simp), this.2⟩
set_option maxHeartbeats 4000000 in
theorem asked_2 (h : Hs W w (TT R L x L' x)) (R2 : R 2 = .none) (g : Gt x) (hw : x.wk + 16 < 9007199254740) (pt sz v : Int) (p0 : 0 ≤ pt) (p1 : pt < 65536) (v0 : 0 ≤ v) (v1 : v < 4294967296) : Calls Tryz.prog 10 #[.pointer (some ⟨L.B, 0, none⟩), .pointer (some ⟨L'.B, 0, none⟩), .agg #[.int .i64 2, .int .u16 pt, .int .i64 sz, .int .u32 v]] w (AskP W R L L' x) := by
 obtain ⟨w1, hw1⟩ : ∃ w1, w1 = w.alloc (.cells #[.int .i64 2, .int .u16 pt, .int .i64 sz, .int .u32 v] 44) := ⟨_, rfl⟩
 have h1 : Hs W w1 (TT (updR R 2 (.blk w.heap.size (opO 2 pt sz v))) L x L' x) := by rw [hw1]; exact tNew h R2 (by decide) (by decide) _
 have CX : Hid (∀ w' x y, Hs W w' (TT (updR R 2 (.blk w.heap.size (opO 2 pt sz v))) L x L' y) → _) := fun w' x y h => opO_cells (tBlk h (by decide) (by decide))
 have DX : Hid (∀ w' x y, Hs W w' (TT (updR R 2 (.blk w.heap.size (opO 2 pt sz v))) L x L' y) → Hs W w' (TT R L x L' y)) := fun w' x y h => tDrop h R2 (by decide) (by decide)
 obtain ⟨c0, c1, c2, c3⟩ := CX.out _ _ _ h1
 have HC : Hid (Calls Tryz.prog 20 #[.pointer (some ⟨L.B, 0, none⟩), .int .u16 pt, .int .i64 sz] w1 fun e w' => e = .returned (.tuple #[.int .u32 (x.innV pt sz), .int .i64 (erS sz)]) ∧ Hs W w' (TT (updR R 2 (.blk w.heap.size (opO 2 pt sz v))) L (x.inn pt sz) L' x)) := tBus h1 fun S b => in_ok b g.ok pt sz p0 p1
 have HR : Hid (∀ w2, Hs W w2 (TT (updR R 2 (.blk w.heap.size (opO 2 pt sz v))) L (x.inn pt sz) L' x) → Calls Tryz.prog 36 #[.pointer (some ⟨L'.B, 0, none⟩), .int .u16 pt, .int .i64 sz] w2 fun e w' => e = .returned (.tuple #[.int .u32 (x.innV pt sz), .int .i64 (erS sz)]) ∧ Hs W w' (TT (updR R 2 (.blk w.heap.size (opO 2 pt sz v))) L (x.inn pt sz) L' (x.inn pt sz))) := fun w2 h2 => tDoc h2 fun S b => dIn_ok b g.ok pt sz p0 p1
 have HZ : Hid (∀ w', Hs W w' (TT (updR R 2 (.blk w.heap.size (opO 2 pt sz v))) L (x.inn pt sz) L' (x.inn pt sz)) → AskP W R L L' x (.returned (.bool true)) w') := fun w' h => ⟨rfl, _, g.inn pt sz, by have := inn_wk x pt sz; omega, DX.out _ _ _ h⟩
 rw [hw1] at c0 c1 c2 c3 HC
 generalize x.inn pt sz = y at *
 generalize x.innV pt sz = vv at *
 generalize erS sz = er at *
 clear hw1 h h1 DX g hw c3
 go_enter Tryz.func10, Tryz.ntmps10
 go_wp2_with fail
 refine Calls.mono HC.out ?_; rintro e w2 ⟨rfl, h2⟩
 obtain ⟨_, d1, d2, _⟩ := CX.out _ _ _ h2
 have H2 : Hid _ := HR.out _ h2
 clear h2 HC HR c0 c1 c2 CX
 go_wp2_with fail
 refine Calls.mono H2.out ?_; rintro e w3 ⟨rfl, h3⟩
 have H3 : Hid _ := HZ.out _ h3
 clear h3 H2 HZ d1 d2
 go_wp2
 go_ret
 exact ⟨ret_bool (by simp), H3.out.2⟩
set_option maxHeartbeats 4000000 in
theorem asked_3 (h : Hs W w (TT R L x L' x)) (R2 : R 2 = .none) (g : Gt x) (hw : x.wk + 16 < 9007199254740) (pt sz v : Int) (p0 : 0 ≤ pt) (p1 : pt < 65536) (v0 : 0 ≤ v) (v1 : v < 4294967296) : Calls Tryz.prog 10 #[.pointer (some ⟨L.B, 0, none⟩), .pointer (some ⟨L'.B, 0, none⟩), .agg #[.int .i64 3, .int .u16 pt, .int .i64 sz, .int .u32 v]] w (AskP W R L L' x) := by
 obtain ⟨w1, hw1⟩ : ∃ w1, w1 = w.alloc (.cells #[.int .i64 3, .int .u16 pt, .int .i64 sz, .int .u32 v] 44) := ⟨_, rfl⟩
 have h1 : Hs W w1 (TT (updR R 2 (.blk w.heap.size (opO 3 pt sz v))) L x L' x) := by rw [hw1]; exact tNew h R2 (by decide) (by decide) _
 have CX : Hid (∀ w' x y, Hs W w' (TT (updR R 2 (.blk w.heap.size (opO 3 pt sz v))) L x L' y) → _) := fun w' x y h => opO_cells (tBlk h (by decide) (by decide))
 have DX : Hid (∀ w' x y, Hs W w' (TT (updR R 2 (.blk w.heap.size (opO 3 pt sz v))) L x L' y) → Hs W w' (TT R L x L' y)) := fun w' x y h => tDrop h R2 (by decide) (by decide)
 obtain ⟨c0, c1, c2, c3⟩ := CX.out _ _ _ h1
 obtain ⟨n, hn⟩ : ∃ n, n = v % 7000 := ⟨_, rfl⟩
 have n0 : 0 ≤ n := by omega
 have n1 : n < 7000 := by omega
 have f1 : v % 7000 = n := hn.symm
 have f2 : IntKind.i64.wrap n = n := by rw [IntKind.wrap_i64]; omega
 have HC : Hid (Calls Tryz.prog 21 #[.pointer (some ⟨L.B, 0, none⟩), .int .i64 n] w1 fun e w' => e = .returned (.tuple #[]) ∧ Hs W w' (TT (updR R 2 (.blk w.heap.size (opO 3 pt sz v))) L (Bm.ticks n.toNat x) L' x)) := by
  rw [← tickN_few x (n := n) (by omega)]
  exact tBus h1 fun S b => tick_ok b g.ok n (by omega)
 have HR : Hid (∀ w2, Hs W w2 (TT (updR R 2 (.blk w.heap.size (opO 3 pt sz v))) L (Bm.ticks n.toNat x) L' x) → Calls Tryz.prog 37 #[.pointer (some ⟨L'.B, 0, none⟩), .int .i64 n] w2 fun e w' => e = .returned (.tuple #[]) ∧ Hs W w' (TT (updR R 2 (.blk w.heap.size (opO 3 pt sz v))) L (Bm.ticks n.toNat x) L' (Bm.ticks n.toNat x))) := fun w2 h2 => by
  have := tDoc h2 fun S b => dTick_ok b g.ok n.toNat (by omega)
  rw [show ((n.toNat : Nat) : Int) = n by omega] at this
  exact this
 have HZ : Hid (∀ w', Hs W w' (TT (updR R 2 (.blk w.heap.size (opO 3 pt sz v))) L (Bm.ticks n.toNat x) L' (Bm.ticks n.toNat x)) → AskP W R L L' x (.returned (.bool true)) w') := fun w' h => ⟨rfl, _, g.ticks n.toNat, by rw [ticks_wk]; omega, DX.out _ _ _ h⟩
 rw [hw1] at c0 c1 c2 c3 HC
 generalize Bm.ticks n.toNat x = y at *
 clear hw1 h h1 DX g hw c1 c2 hn CX
 go_enter Tryz.func10, Tryz.ntmps10
 go_wp2_with fail
 refine Calls.mono HC.out ?_; rintro e w2 ⟨rfl, h2⟩
 have H2 : Hid _ := HR.out _ h2
 clear h2 HC HR c0 c3
 go_wp2_with fail
 refine Calls.mono H2.out ?_; rintro e w3 ⟨rfl, h3⟩
 have H3 : Hid _ := HZ.out _ h3
 clear h3 H2 HZ
 go_wp2
 go_ret
 exact ⟨ret_bool (by simp), H3.out.2⟩
set_option maxHeartbeats 4000000 in
theorem asked_4 (h : Hs W w (TT R L x L' x)) (R2 : R 2 = .none) (g : Gt x) (hw : x.wk + 16 < 9007199254740) (pt sz v : Int) (p0 : 0 ≤ pt) (p1 : pt < 65536) (v0 : 0 ≤ v) (v1 : v < 4294967296) : Calls Tryz.prog 10 #[.pointer (some ⟨L.B, 0, none⟩), .pointer (some ⟨L'.B, 0, none⟩), .agg #[.int .i64 4, .int .u16 pt, .int .i64 sz, .int .u32 v]] w (AskP W R L L' x) := by
 obtain ⟨w1, hw1⟩ : ∃ w1, w1 = w.alloc (.cells #[.int .i64 4, .int .u16 pt, .int .i64 sz, .int .u32 v] 44) := ⟨_, rfl⟩
 have h1 : Hs W w1 (TT (updR R 2 (.blk w.heap.size (opO 4 pt sz v))) L x L' x) := by rw [hw1]; exact tNew h R2 (by decide) (by decide) _
 have CX : Hid (∀ w' x y, Hs W w' (TT (updR R 2 (.blk w.heap.size (opO 4 pt sz v))) L x L' y) → _) := fun w' x y h => opO_cells (tBlk h (by decide) (by decide))
 have DX : Hid (∀ w' x y, Hs W w' (TT (updR R 2 (.blk w.heap.size (opO 4 pt sz v))) L x L' y) → Hs W w' (TT R L x L' y)) := fun w' x y h => tDrop h R2 (by decide) (by decide)
 obtain ⟨c0, c1, c2, c3⟩ := CX.out _ _ _ h1
 obtain ⟨n, hn⟩ : ∃ n, n = v % 256 := ⟨_, rfl⟩
 have n0 : 0 ≤ n := by omega
 have n1 : n < 256 := by omega
 have f1 : v % 256 = n := hn.symm
 have f2 : IntKind.u8.wrap n = n := by rw [IntKind.wrap_u8]; omega
 have f3 : n % 256 = n := by omega
 have HC : Hid (Calls Tryz.prog 38 #[.pointer (some ⟨L.B, 0, none⟩), .int .u8 n] w1 fun e w' => e = .returned (.tuple #[]) ∧ Hs W w' (TT (updR R 2 (.blk w.heap.size (opO 4 pt sz v))) L (x.push n) L' x)) := tBus h1 fun S b => push_ok b g.ok n ⟨n0, n1⟩
 have HR : Hid (∀ w2, Hs W w2 (TT (updR R 2 (.blk w.heap.size (opO 4 pt sz v))) L (x.push n) L' x) → Calls Tryz.prog 39 #[.pointer (some ⟨L'.B, 0, none⟩), .int .u8 n] w2 fun e w' => e = .returned (.tuple #[]) ∧ Hs W w' (TT (updR R 2 (.blk w.heap.size (opO 4 pt sz v))) L (x.push n) L' (x.push n))) := fun w2 h2 => tDoc h2 fun S b => dPush_ok b g.ok n ⟨n0, n1⟩
 have HZ : Hid (∀ w', Hs W w' (TT (updR R 2 (.blk w.heap.size (opO 4 pt sz v))) L (x.push n) L' (x.push n)) → AskP W R L L' x (.returned (.bool true)) w') := fun w' h => ⟨rfl, _, g.push ⟨n0, n1⟩, by rw [push_wk]; omega, DX.out _ _ _ h⟩
 rw [hw1] at c0 c1 c2 c3 HC
 generalize x.push n = y at *
 clear hw1 h h1 DX g hw c1 c2 hn
 go_enter Tryz.func10, Tryz.ntmps10
 go_wp2_with fail
 refine Calls.mono HC.out ?_; rintro e w2 ⟨rfl, h2⟩
 obtain ⟨_, _, _, d3⟩ := CX.out _ _ _ h2
 have H2 : Hid _ := HR.out _ h2
 clear h2 HC HR c0 c3 CX
 go_wp2_with fail
 refine Calls.mono H2.out ?_; rintro e w3 ⟨rfl, h3⟩
 have H3 : Hid _ := HZ.out _ h3
 clear h3 H2 HZ d3
 go_wp2
 go_ret
 exact ⟨ret_bool (by simp), H3.out.2⟩
set_option maxHeartbeats 4000000 in
theorem asked_5 (h : Hs W w (TT R L x L' x)) (R2 : R 2 = .none) (g : Gt x) (hw : x.wk + 16 < 9007199254740) (pt sz v : Int) (p0 : 0 ≤ pt) (p1 : pt < 65536) (v0 : 0 ≤ v) (v1 : v < 4294967296) : Calls Tryz.prog 10 #[.pointer (some ⟨L.B, 0, none⟩), .pointer (some ⟨L'.B, 0, none⟩), .agg #[.int .i64 5, .int .u16 pt, .int .i64 sz, .int .u32 v]] w (AskP W R L L' x) := by
 obtain ⟨w1, hw1⟩ : ∃ w1, w1 = w.alloc (.cells #[.int .i64 5, .int .u16 pt, .int .i64 sz, .int .u32 v] 44) := ⟨_, rfl⟩
 have h1 : Hs W w1 (TT (updR R 2 (.blk w.heap.size (opO 5 pt sz v))) L x L' x) := by rw [hw1]; exact tNew h R2 (by decide) (by decide) _
 have CX : Hid (∀ w' x y, Hs W w' (TT (updR R 2 (.blk w.heap.size (opO 5 pt sz v))) L x L' y) → _) := fun w' x y h => opO_cells (tBlk h (by decide) (by decide))
 have DX : Hid (∀ w' x y, Hs W w' (TT (updR R 2 (.blk w.heap.size (opO 5 pt sz v))) L x L' y) → Hs W w' (TT R L x L' y)) := fun w' x y h => tDrop h R2 (by decide) (by decide)
 obtain ⟨c0, c1, c2, c3⟩ := CX.out _ _ _ h1
 have HC : Hid (Calls Tryz.prog 22 #[.pointer (some ⟨L.B, 0, none⟩)] w1 fun e w' => e = .returned (.int .i64 x.p.vec) ∧ Hs W w' (TT (updR R 2 (.blk w.heap.size (opO 5 pt sz v))) L x.ack L' x)) := tBus h1 fun S b => ack_ok b g.ok
 have HR : Hid (∀ w2, Hs W w2 (TT (updR R 2 (.blk w.heap.size (opO 5 pt sz v))) L x.ack L' x) → Calls Tryz.prog 40 #[.pointer (some ⟨L'.B, 0, none⟩)] w2 fun e w' => e = .returned (.int .i64 x.p.vec) ∧ Hs W w' (TT (updR R 2 (.blk w.heap.size (opO 5 pt sz v))) L x.ack L' x.ack)) := fun w2 h2 => tDoc h2 fun S b => dAck_ok b g.ok
 have HZ : Hid (∀ w', Hs W w' (TT (updR R 2 (.blk w.heap.size (opO 5 pt sz v))) L x.ack L' x.ack) → AskP W R L L' x (.returned (.bool true)) w') := fun w' h => ⟨rfl, _, g.ack, by show x.wk ≤ _; omega, DX.out _ _ _ h⟩
 rw [hw1] at c0 c1 c2 c3 HC
 generalize x.ack = y at *
 generalize x.p.vec = vv at *
 clear hw1 h h1 DX g hw c1 c2 c3 CX
 go_enter Tryz.func10, Tryz.ntmps10
 go_wp2_with fail
 refine Calls.mono HC.out ?_; rintro e w2 ⟨rfl, h2⟩
 have H2 : Hid _ := HR.out _ h2
 clear h2 HC HR c0
 go_wp2_with fail
 refine Calls.mono H2.out ?_; rintro e w3 ⟨rfl, h3⟩
 have H3 : Hid _ := HZ.out _ h3
 clear h3 H2 HZ
 go_wp2
 go_ret
 have := H3.out
 exact ⟨ret_bool (by simp), this.2⟩
theorem asked_any (h : Hs W w (TT R L x L' x)) (R2 : R 2 = .none) (g : Gt x) (hw : x.wk + 16 < 9007199254740) (kd pt sz v : Int) (p0 : 0 ≤ pt) (p1 : pt < 65536) (v0 : 0 ≤ v) (v1 : v < 4294967296) : Calls Tryz.prog 10 #[.pointer (some ⟨L.B, 0, none⟩), .pointer (some ⟨L'.B, 0, none⟩), .agg #[.int .i64 kd, .int .u16 pt, .int .i64 sz, .int .u32 v]] w (AskP W R L L' x) := by
 by_cases n1 : kd = 1
 ·subst n1; exact asked_1 h R2 g hw pt sz v p0 p1 v0 v1
 by_cases n2 : kd = 2
 ·subst n2; exact asked_2 h R2 g hw pt sz v p0 p1 v0 v1
 by_cases n3 : kd = 3
 ·subst n3; exact asked_3 h R2 g hw pt sz v p0 p1 v0 v1
 by_cases n4 : kd = 4
 ·subst n4; exact asked_4 h R2 g hw pt sz v p0 p1 v0 v1
 by_cases n5 : kd = 5
 ·subst n5; exact asked_5 h R2 g hw pt sz v p0 p1 v0 v1
 exact asked_n h R2 g hw kd pt sz v n1 n2 n3 n4 n5 p0 p1 v0 v1
end
section
variable {W w : World} {R : Nat → Res} {L : Loc} {L' : LocR} {x y : Bm}
theorem tWrit (h : Hs W w (TT R L x L' y)) {j : Nat} (hR : R j = .none) (j0 : j ≠ 0) (j1 : j ≠ 1) : Calls Tryz.prog 47 #[.pointer (some ⟨L.B, 0, none⟩)] w fun e w' => ∃ p c, e = .returned (.slice p x.d.log.length c) ∧ Hs W w' (TT (updR R j (intR (.slice p x.d.log.length c) x.d.log)) L { x with d := x.d.told } L' y) := by
 rw [TT.flip] at h
 refine (rWritten h (j := j) (by rw [upd_other j1]; exact hR) (Ne.symm j0)).mono fun e w' ⟨p, c, q, r⟩ => ⟨p, c, q, ?_⟩
 rw [← TT.up j0 j1, TT.flip]
 exact r
theorem tSent (h : Hs W w (TT R L x L' y)) {j : Nat} (hR : R j = .none) (j0 : j ≠ 0) (j1 : j ≠ 1) : Calls Tryz.prog 19 #[.pointer (some ⟨L.B, 0, none⟩)] w fun e w' => ∃ p c, e = .returned (.slice p x.u.sent.length c) ∧ Hs W w' (TT (updR R j (bytR (.slice p x.u.sent.length c) x.u.sent)) L { x with u := x.u.hush } L' y) := by
 rw [TT.flip] at h
 refine (rSent h (j := j) (by rw [upd_other j1]; exact hR) (Ne.symm j0)).mono fun e w' ⟨p, c, q, r⟩ => ⟨p, c, q, ?_⟩
 rw [← TT.up j0 j1, TT.flip]
 exact r
theorem tWritD (h : Hs W w (TT R L x L' y)) : Calls Tryz.prog 48 #[.pointer (some ⟨L'.I, 0, none⟩)] w fun e w' => ∃ p c, e = .returned (.slice p y.d.log.length c) ∧ Dk.OwnI w' (.slice p y.d.log.length c) y.d.log ∧ Hs W w' (TT R L x L' { y with d := y.d.told }) := by
 unfold TT at h
 refine (h.call (E := fun e w' r' => ∃ p c, e = .returned (.slice p y.d.log.length c) ∧ Dk.OwnI w' (.slice p y.d.log.length c) y.d.log ∧ r' = docR L' { y with d := y.d.told }) 1 (fun T a => ?_)).mono ?_
 ·rw [upd_self] at a
  obtain ⟨T5, a1, a2, a3⟩ := Sys.fst a 5
  refine (Dk.xWritten a1).mono ?_
  rintro e w' ⟨p, c, q, ⟨T', b1, b2⟩, b3⟩
  obtain ⟨S', d1, d2⟩ := a3 (ideX L'.I L'.gD L'.cap y.d.told) w' T' b1 ⟨b2.sub, kDk b2.kp⟩ b1.lt
  rw [dup5] at d1
  exact ⟨_, fun k => S' k ∧ k < w'.heap.size, ⟨p, c, q, b3, rfl⟩, Sys.lt d1, ⟨fun k g => d2.sub k g.1, d2.kp⟩, fun k g => g.2⟩
 ·rintro e w' ⟨r', ⟨p, c, q, o, rfl⟩, z⟩
  rw [upd_twice] at z
  exact ⟨p, c, q, o, z⟩
theorem tSentD (h : Hs W w (TT R L x L' y)) : Calls Tryz.prog 49 #[.pointer (some ⟨L'.U, 0, none⟩)] w fun e w' => ∃ p c, e = .returned (.slice p y.u.sent.length c) ∧ Ut.OwnB w' (.slice p y.u.sent.length c) y.u.sent ∧ Hs W w' (TT R L x L' { y with u := y.u.hush }) := by
 unfold TT at h
 refine (h.call (E := fun e w' r' => ∃ p c, e = .returned (.slice p y.u.sent.length c) ∧ Ut.OwnB w' (.slice p y.u.sent.length c) y.u.sent ∧ r' = docR L' { y with u := y.u.hush }) 1 (fun T a => ?_)).mono ?_
 ·rw [upd_self] at a
  obtain ⟨T4, a1, a2, a3⟩ := Sys.fst a 4
  obtain ⟨p, c, o1, o2, hc⟩ := Ut.xSent a1
  refine hc.mono ?_
  rintro e w' ⟨q, b3, T', b1, b2, b4⟩
  obtain ⟨S', d1, d2⟩ := a3 (uartX L'.U y.u.hush) w' T' b1 ⟨b2.sub, b2.kp⟩ b1.lt
  rw [dup4] at d1
  exact ⟨_, fun k => S' k ∧ k < w'.heap.size, ⟨p, c, q, b3, rfl⟩, Sys.lt d1, ⟨fun k g => d2.sub k g.1, d2.kp⟩, fun k g => g.2⟩
 ·rintro e w' ⟨r', ⟨p, c, q, o, rfl⟩, z⟩
  rw [upd_twice] at z
  exact ⟨p, c, q, o, z⟩
theorem tInt {j : Nat} {p : Option Addr} {n c : Nat} {l : List Int} (h : Hs W w (TT (updR R j (intR (.slice p n c) l)) L x L' y)) (j0 : j ≠ 0) (j1 : j ≠ 1) : Dk.IntAt w p l := by
 obtain ⟨T, a⟩ := h.at j
 rw [TT.at j0 j1, upd_self] at a
 exact a.1.at
theorem tStr {j : Nat} {v : Value} {l : List Int} (h : Hs W w (TT (updR R j (bytR v l)) L x L' y)) (j0 : j ≠ 0) (j1 : j ≠ 1) : (convert 22 9 v).run Tryz.prog w = .ok (.string (strOfNums l)) w := by
 rw [← TT.up j0 j1] at h
 exact h.str
theorem tBytes (h : Hs W w (TT R L x L' y)) : w.cell? ⟨L'.I, 0, none⟩ = some (.slice (some ⟨L'.gD, 0, none⟩) (512 * y.d.n) L'.cap) ∧ (convert 22 9 (.slice (some ⟨L'.gD, 0, none⟩) (512 * y.d.n) L'.cap)).run Tryz.prog w = .ok (.string (strOfNums (Dk.strR (512 * y.d.n) y.d.D))) w := by
 obtain ⟨_, S, b⟩ := tBw h
 obtain ⟨T, h2, _⟩ := Sys.at b 5
 obtain ⟨dn, sv, x1, xd, x2⟩ := Dk.XW.ex h2
 refine ⟨x1.c0, ?_⟩
 have hb : Dk.BytAt w (some ⟨L'.gD, 0, none⟩) (512 * y.d.n) y.d.D := fun j hj => by
  obtain ⟨cur, c1, c2, c3⟩ := x1.row
  refine ⟨L'.gD, 0, rfl, heap_lt c1, ?_⟩
  rw [Dk.cell_at c1, Nat.zero_add]
  exact c3 j hj
 exact hb.str
end
structure Ph (W : World) (R : Nat → Res) (L : Loc) (L' : LocR) (x : Bm) (t : Value × Value × Nat) (a b c : Bool) (w : World) : Prop where
 core : Hs W w (TT (bif a then updR R 3 (bytR t.1 x.u.sent) else R) L (bif a then { x with u := x.u.hush } else x) L' (bif b then { x with u := x.u.hush } else x))
 s2 : b = true → Ut.OwnB w t.2.1 x.u.sent
 row : c = true → Dk.RowB w t.2.2 (512 * x.d.n) x.d.D
section
variable {W w w' : World} {R : Nat → Res} {L : Loc} {L' : LocR} {x : Bm} {t : Value × Value × Nat} {a b c : Bool}
theorem Ph.keep (h : Ph W R L L' x t a b c w) (k : Kp noB w w') : Ph W R L L' x t a b c w' := ⟨h.core.keep k, fun e => (h.s2 e).kept k (fun _ _ => id), fun e => (h.row e).kept (dkK k) id⟩
theorem Ph.cells (h : Ph W R L L' x t a b c w) : w.cell? ⟨L'.B, 1, none⟩ = some (.pointer (some ⟨L'.P, 0, none⟩)) ∧ w.cell? ⟨L'.B, 3, none⟩ = some (.pointer (some ⟨L'.U, 0, none⟩)) ∧ w.cell? ⟨L'.B, 4, none⟩ = some (.pointer (some ⟨L'.I, 0, none⟩)) ∧ w.cell? ⟨L'.B, 5, none⟩ = some (.int .u64 x.now) := by
 obtain ⟨_, S, q⟩ := tBw h.core
 refine ⟨q.c1, q.c3, q.c4, ?_⟩
 have := q.c5
 cases b <;> exact this
theorem Ph.bytes (h : Ph W R L L' x t a b c w) : w.cell? ⟨L'.I, 0, none⟩ = some (.slice (some ⟨L'.gD, 0, none⟩) (512 * x.d.n) L'.cap) ∧ (convert 22 9 (.slice (some ⟨L'.gD, 0, none⟩) (512 * x.d.n) L'.cap)).run Tryz.prog w = .ok (.string (strOfNums (Dk.strR (512 * x.d.n) x.d.D))) w := by
 have := tBytes h.core
 cases b <;> exact this
theorem Ph.s1 (h : Ph W R L L' x t true b c w) : (convert 22 9 t.1).run Tryz.prog w = .ok (.string (strOfNums x.u.sent)) w := tStr h.core (by decide) (by decide)
theorem Ph.s2' (h : Ph W R L L' x t a true c w) : (convert 22 9 t.2.1).run Tryz.prog w = .ok (.string (strOfNums x.u.sent)) w := (h.s2 rfl).str
theorem Ph.sent (h : Ph W R L L' x t false false false w) (R3 : R 3 = .none) : Calls Tryz.prog 19 #[.pointer (some ⟨L.B, 0, none⟩)] w fun e w' => ∃ p c, e = .returned (.slice p x.u.sent.length c) ∧ Ph W R L L' x (.slice p x.u.sent.length c, t.2) true false false w' :=
 (tSent h.core R3 (by decide) (by decide)).mono fun e w' ⟨p, c, q, r⟩ => ⟨p, c, q, r, (fun h => by cases h), (fun h => by cases h)⟩
theorem Ph.sentD (h : Ph W R L L' x t true false false w) : Calls Tryz.prog 49 #[.pointer (some ⟨L'.U, 0, none⟩)] w fun e w' => ∃ p c, e = .returned (.slice p x.u.sent.length c) ∧ Ph W R L L' x (t.1, .slice p x.u.sent.length c, t.2.2) true true false w' :=
 (tSentD h.core).mono fun e w' ⟨p, c, q, o, r⟩ => ⟨p, c, q, r, (fun _ => o), (fun h => by cases h)⟩
theorem Ph.disk (h : Ph W R L L' x t true true false w) (k : x.Ok) : Calls Tryz.prog 50 #[.pointer (some ⟨L.B, 0, none⟩)] w fun e w' => e = .returned (.slice (some ⟨w.heap.size, 0, none⟩) (512 * x.d.n) (512 * x.d.n)) ∧ Ph W R L L' x (t.1, t.2.1, w.heap.size) true true true w' := by
 obtain ⟨⟨S, q⟩, _⟩ := tBw h.core
 refine (disk_ok q { k with u := k.u.hush }).mono fun e w' ⟨q, r⟩ => ⟨q, ?_⟩
 have := h.keep (kDk r.2.1)
 exact ⟨this.core, this.s2, fun _ => r.row⟩
theorem Ph.now (h : Ph W R L L' x t a b c w) : Calls Tryz.prog 13 #[.pointer (some ⟨L.B, 0, none⟩)] w fun e w' => e = .returned (.int .u64 x.now) ∧ w' = w := by
 obtain ⟨⟨S, q⟩, _⟩ := tBw h.core
 have := now_ok q
 cases a <;> exact this
theorem Ph.pend (h : Ph W R L L' x t a b c w) (k : x.Ok) : Calls Tryz.prog 11 #[.pointer (some ⟨L.B, 0, none⟩)] w fun e w' => e = .returned (.bool (x.p.a.next != -1)) ∧ Ph W R L L' x t a b c w' := by
 obtain ⟨⟨S, q⟩, _⟩ := tBw h.core
 have : Calls Tryz.prog 11 #[.pointer (some ⟨L.B, 0, none⟩)] w fun e w' => e = .returned (.bool (x.p.a.next != -1)) ∧ Kp noB w w' := by
  cases a
  ·exact pend_ok q k
  ·exact pend_ok (x := { x with u := x.u.hush }) q { k with u := k.u.hush }
 exact this.mono fun e w' ⟨q, r⟩ => ⟨q, h.keep r⟩
theorem Ph.pendD (h : Ph W R L L' x t a b c w) : Calls Tryz.prog 12 #[.pointer (some ⟨L'.P, 0, none⟩)] w fun e w' => e = .returned (.bool (x.p.a.next != -1)) ∧ Ph W R L L' x t a b c w' := by
 obtain ⟨_, S, q⟩ := tBw h.core
 have : Calls Tryz.prog 12 #[.pointer (some ⟨L'.P, 0, none⟩)] w fun e w' => e = .returned (.bool (x.p.a.next != -1)) ∧ Kp noB w w' := by
  cases b
  ·exact dPend_ok (x := x) q
  ·exact dPend_ok (x := { x with u := x.u.hush }) q
 exact this.mono fun e w' ⟨q, r⟩ => ⟨q, h.keep r⟩
end
section
variable {W w : World} {R : Nat → Res} {L : Loc} {L' : LocR} {x : Bm}
set_option maxHeartbeats 8000000 in
theorem alike_ok (h : Hs W w (TT R L x L' x)) (R2 : R 2 = .none) (R3 : R 3 = .none) (k : x.Ok) (hl : x.d.log.length < 4611686018427387904) : Calls Tryz.prog 16 #[.pointer (some ⟨L.B, 0, none⟩), .pointer (some ⟨L'.B, 0, none⟩)] w fun e w' => e = .returned (.bool true) ∧ Kp noB W w' := by
 have hd := h.drew
 have HA : Hid (Calls Tryz.prog 47 #[.pointer (some ⟨L.B, 0, none⟩)] w.drew fun e w' => ∃ p c, e = .returned (.slice p x.d.log.length c) ∧ Hs W w' (TT (updR R 2 (intR (.slice p x.d.log.length c) x.d.log)) L { x with d := x.d.told } L' x)) := tWrit hd R2 (by decide) (by decide)
 have HB : Hid (∀ w2 p c, Hs W w2 (TT (updR R 2 (intR (.slice p x.d.log.length c) x.d.log)) L { x with d := x.d.told } L' x) → Calls Tryz.prog 48 #[.pointer (some ⟨L'.I, 0, none⟩)] w2 fun e w' => ∃ q d, e = .returned (.slice q x.d.log.length d) ∧ Hs W w' (TT (updR R 2 (intR (.slice p x.d.log.length c) x.d.log)) L { x with d := x.d.told } L' { x with d := x.d.told }) ∧ Calls Tryz.prog 46 #[.slice p x.d.log.length c, .slice q x.d.log.length d] w' fun e w3 => e = .returned (.bool true) ∧ Hs W w3 (TT R L { x with d := x.d.told } L' { x with d := x.d.told })) := fun w2 p c h2 => (tWritD h2).mono fun e w' ⟨q, d, e1, o, h3⟩ => ⟨q, d, e1, h3, (Dk.same_ok w' p q c d x.d.log (tInt h3 (by decide) (by decide)) o.at hl).mono fun e w3 ⟨e2, k3⟩ => ⟨e2, (tDrop h3 R2 (by decide) (by decide)).keep (kDk k3)⟩⟩
 have HS : Hid (w.drew.cell? ⟨L'.B, 4, none⟩ = some (.pointer (some ⟨L'.I, 0, none⟩))) := by
  obtain ⟨_, S, b⟩ := tBw hd
  exact b.c4
 have HK : Hid (∀ w' R x y, Hs W w' (TT R L x L' y) → w'.cell? ⟨L'.B, 4, none⟩ = some (.pointer (some ⟨L'.I, 0, none⟩))) := fun w' R x y h => by
  obtain ⟨_, S, b⟩ := tBw h
  exact b.c4
 have k2 : ({ x with d := x.d.told } : Bm).Ok := { k with d := k.d.told }
 generalize x.d.log.length = n at *
 generalize x.d.log = lg at *
 obtain ⟨y, hy⟩ : ∃ y : Bm, y = { x with d := x.d.told } := ⟨_, rfl⟩
 rw [← hy] at HA HB k2
 clear hy h hd hl k R2
 have HP0 : Hid (∀ w, Hs W w (TT R L y L' y) → Ph W R L L' y (.bool true, .bool true, 0) false false false w.drew) := fun w h => ⟨h.drew, (fun h => by cases h), (fun h => by cases h)⟩
 have HE : Hid (∀ t a b c w, Ph W R L L' y t a b c w → Kp noB W w) := fun t a b c w h => h.core.kp
 have HC1 : Hid (∀ t w, Ph W R L L' y t false false false w → _) := fun t w h => h.sent R3
 have HC2 : Hid (∀ t w, Ph W R L L' y t true false false w → _) := fun t w h => h.sentD
 have HC3 : Hid (∀ t w, Ph W R L L' y t true true false w → _) := fun t w h => h.disk k2
 have HC4 : Hid (∀ t a b c w, Ph W R L L' y t a b c w → _) := fun t a b c w h => h.now
 have HC5 : Hid (∀ t a b c w, Ph W R L L' y t a b c w → _) := fun t a b c w h => h.pend k2
 have HC6 : Hid (∀ t a b c w, Ph W R L L' y t a b c w → _) := fun t a b c w h => h.pendD
 have HS1 : Hid (∀ t b c w, Ph W R L L' y t true b c w → (convert 22 9 t.1).run Tryz.prog w = .ok (.string (strOfNums y.u.sent)) w) := fun t b c w h => h.s1
 have HS2 : Hid (∀ t a c w, Ph W R L L' y t a true c w → (convert 22 9 t.2.1).run Tryz.prog w = .ok (.string (strOfNums y.u.sent)) w) := fun t a c w h => h.s2'
 have HS3 : Hid (∀ t a b w, Ph W R L L' y t a b true w → (convert 22 9 (.slice (some ⟨t.2.2, 0, none⟩) (512 * y.d.n) (512 * y.d.n))).run Tryz.prog w = .ok (.string (strOfNums (Dk.strR (512 * y.d.n) y.d.D))) w) := fun t a b w h => (h.row rfl).str
 have HF : Hid (∀ t a b c w, Ph W R L L' y t a b c w → _) := fun t a b c w h => h.cells
 have HG : Hid (∀ t a b c w, Ph W R L L' y t a b c w → _) := fun t a b c w h => h.bytes
 generalize strOfNums y.u.sent = sl at *
 generalize strOfNums (Dk.strR (512 * y.d.n) y.d.D) = sd at *
 generalize y.u.sent.length = SL at *
 generalize 512 * y.d.n = N at *
 generalize y.now = now at *
 generalize (y.p.a.next != -1) = pd at *
 clear k2 R3
 go_enter Tryz.func16, Tryz.ntmps16
 go_upto_region 1 with fail
 go_region_held3 (fun W => W.cell? ⟨L'.B, 4, none⟩ = some (.pointer (some ⟨L'.I, 0, none⟩)))
  (first | exact HS.out | exact HK.out _ _ _ _ (by assumption) | assumption)
  (first
   | (go_at_call 47; refine HA.out.mono ?_; rintro e w2 ⟨p1, q1, rfl, h2⟩)
   | (go_at_call 48; refine (HB.out _ _ _ (by assumption)).mono ?_; rintro e w3 ⟨p2, q2, rfl, h3, H3⟩)
   | (go_at_call 46; refine Calls.mono H3 ?_; rintro e w4 ⟨rfl, h4⟩))
 all_goals
  have P0 : Hid _ := HP0.out _ h4
  clear h4 HA HB HS HK HP0
  go_wp2
  refine OrdG.region_vals (τ := Value × Value × Nat) (fun t => [(.bool true), (.bool true), (.pointer (some ⟨L.B, 0, none⟩)), t.1, (.string sl), (.pointer (some ⟨L'.B, 0, none⟩)), (.pointer (some ⟨L'.B, 0, none⟩)), (.pointer (some ⟨L'.B, 3, none⟩)), (.pointer (some ⟨L'.U, 0, none⟩)), t.2.1, (.string sl), (.bool true), (.bool true), (.bool true), (.pointer (some ⟨L.B, 0, none⟩)), (.slice (some ⟨t.2.2, 0, none⟩) N N), (.string sd), (.pointer (some ⟨L'.B, 0, none⟩)), (.pointer (some ⟨L'.B, 0, none⟩)), (.pointer (some ⟨L'.B, 4, none⟩)), (.pointer (some ⟨L'.I, 0, none⟩)), (.pointer (some ⟨L'.I, 0, none⟩)), (.pointer (some ⟨L'.I, 0, none⟩)), (.slice (some ⟨L'.gD, 0, none⟩) N L'.cap), (.string sd), (.bool true), (.bool true), (.bool true), (.pointer (some ⟨L.B, 0, none⟩)), (.int .u64 now), (.pointer (some ⟨L'.B, 0, none⟩)), (.pointer (some ⟨L'.B, 0, none⟩)), (.pointer (some ⟨L'.B, 5, none⟩)), (.int .u64 now), (.bool true), (.bool true), (.bool true), (.pointer (some ⟨L.B, 0, none⟩)), (.bool pd), (.pointer (some ⟨L'.B, 0, none⟩)), (.pointer (some ⟨L'.B, 0, none⟩)), (.pointer (some ⟨L'.B, 1, none⟩)), (.pointer (some ⟨L'.P, 0, none⟩)), (.bool pd), (.bool true), (.bool true), (.bool true)]) (fun t listed w' => Ph W R L L' y t (listed.getD 3 false) (listed.getD 9 false) (listed.getD 15 false) w') (.bool true, .bool true, 0) (by kernel_rfl) (by kernel_rfl) (by kernel_rfl) (by kernel_rfl) (fun _ => rfl) (fun t => by simp only [OrdG.puts, Act.put, List.setIfInBounds_toArray, List.set_cons_zero, List.set_cons_succ]; rfl) (fun _ => by kernel_rfl) P0.out ?_ ?_
  ·refine ⟨?_, ?_, ?_, ?_, ?_, ?_, ?_, ?_, ?_, ?_, ?_, ?_, ?_, ?_, ?_, ?_, ?_, ?_, ?_, ?_, ?_, ?_, ?_, ?_, ?_, ?_, ?_, ?_, ?_, ?_, ?_, ?_, ?_, ?_, ?_, ?_, ?_, ?_, ?_, ?_, ?_, ?_, ?_, ?_, ?_, ?_, ?_, trivial⟩
   all_goals (intro t listed W' hz hSh hl hI hb K hK hK0; change Ph W R L L' y t (listed.getD 3 false) (listed.getD 9 false) (listed.getD 15 false) W' at hI; obtain ⟨s1, s2, s4, s5⟩ := HF.out _ _ _ _ _ hI; obtain ⟨s6, s7⟩ := HG.out _ _ _ _ _ hI)
   ·go_simp
    exact hK0 _ (by show Ph W R L L' y _ (Array.getD _ 3 false) (Array.getD _ 9 false) (Array.getD _ 15 false) _; rw [getD_set_ne false (by decide), getD_set_ne false (by decide), getD_set_ne false (by decide)]; exact hI)
   ·go_simp
    exact hK0 _ (by show Ph W R L L' y _ (Array.getD _ 3 false) (Array.getD _ 9 false) (Array.getD _ 15 false) _; rw [getD_set_ne false (by decide), getD_set_ne false (by decide), getD_set_ne false (by decide)]; exact hI)
   ·go_simp
    exact hK0 _ (by show Ph W R L L' y _ (Array.getD _ 3 false) (Array.getD _ 9 false) (Array.getD _ 15 false) _; rw [getD_set_ne false (by decide), getD_set_ne false (by decide), getD_set_ne false (by decide)]; exact hI)
   ·skip
    have n9 := OrdG.shut_no (j := 9) hSh hl (by kernel_rfl)
    have n10 := OrdG.shut_no (j := 10) hSh n9 (by kernel_rfl)
    have n11 := OrdG.shut_no (j := 11) hSh n10 (by kernel_rfl)
    have n12 := OrdG.shut_no (j := 12) hSh n11 (by kernel_rfl)
    have n13 := OrdG.shut_no (j := 13) hSh n12 (by kernel_rfl)
    have n15 := OrdG.shut_no (j := 15) hSh n13 (by kernel_rfl)
    rw [hl, n9, n15] at hI
    have H1 : Hid _ := HC1.out _ _ hI
    clear hI
    go_simp
    refine Calls.mono H1.out ?_; rintro e z5 ⟨p, c, rfl, h1⟩
    refine hK _ _ ⟨(.slice p SL c, t.2), rfl, OrdG.vals_one rfl hl, ?_⟩
    show Ph W R L L' y _ (Array.getD _ 3 false) (Array.getD _ 9 false) (Array.getD _ 15 false) _
    rw [OrdG.getD_self hz (by decide), getD_set_ne false (by decide), getD_set_ne false (by decide), n9, n15]
    exact h1
   ·have y3 := OrdG.on_of (i := 3) hb (by kernel_rfl)
    have s3 : (convert 22 9 t.1).run Tryz.prog W' = .ok (.string sl) W' := HS1.out _ _ _ _ (by rw [y3] at hI; exact hI)
    go_simp
    exact hK0 _ (by show Ph W R L L' y _ (Array.getD _ 3 false) (Array.getD _ 9 false) (Array.getD _ 15 false) _; rw [getD_set_ne false (by decide), getD_set_ne false (by decide), getD_set_ne false (by decide)]; exact hI)
   ·go_simp
    exact hK0 _ (by show Ph W R L L' y _ (Array.getD _ 3 false) (Array.getD _ 9 false) (Array.getD _ 15 false) _; rw [getD_set_ne false (by decide), getD_set_ne false (by decide), getD_set_ne false (by decide)]; exact hI)
   ·go_simp
    exact hK0 _ (by show Ph W R L L' y _ (Array.getD _ 3 false) (Array.getD _ 9 false) (Array.getD _ 15 false) _; rw [getD_set_ne false (by decide), getD_set_ne false (by decide), getD_set_ne false (by decide)]; exact hI)
   ·go_simp
    exact hK0 _ (by show Ph W R L L' y _ (Array.getD _ 3 false) (Array.getD _ 9 false) (Array.getD _ 15 false) _; rw [getD_set_ne false (by decide), getD_set_ne false (by decide), getD_set_ne false (by decide)]; exact hI)
   ·go_simp
    exact hK0 _ (by show Ph W R L L' y _ (Array.getD _ 3 false) (Array.getD _ 9 false) (Array.getD _ 15 false) _; rw [getD_set_ne false (by decide), getD_set_ne false (by decide), getD_set_ne false (by decide)]; exact hI)
   ·skip
    have y3 := OrdG.on_of (i := 3) hb (by kernel_rfl)
    have n10 := OrdG.shut_no (j := 10) hSh hl (by kernel_rfl)
    have n11 := OrdG.shut_no (j := 11) hSh n10 (by kernel_rfl)
    have n12 := OrdG.shut_no (j := 12) hSh n11 (by kernel_rfl)
    have n13 := OrdG.shut_no (j := 13) hSh n12 (by kernel_rfl)
    have n15 := OrdG.shut_no (j := 15) hSh n13 (by kernel_rfl)
    rw [y3, hl, n15] at hI
    have H1 : Hid _ := HC2.out _ _ hI
    clear hI
    go_simp
    refine Calls.mono H1.out ?_; rintro e z5 ⟨p, c, rfl, h1⟩
    refine hK _ _ ⟨(t.1, .slice p SL c, t.2.2), rfl, OrdG.vals_one rfl hl, ?_⟩
    show Ph W R L L' y _ (Array.getD _ 3 false) (Array.getD _ 9 false) (Array.getD _ 15 false) _
    rw [getD_set_ne false (by decide), OrdG.getD_self hz (by decide), getD_set_ne false (by decide), y3, n15]
    exact h1
   ·have y9 := OrdG.on_of (i := 9) hb (by kernel_rfl)
    have s3 : (convert 22 9 t.2.1).run Tryz.prog W' = .ok (.string sl) W' := HS2.out _ _ _ _ (by rw [y9] at hI; exact hI)
    go_simp
    exact hK0 _ (by show Ph W R L L' y _ (Array.getD _ 3 false) (Array.getD _ 9 false) (Array.getD _ 15 false) _; rw [getD_set_ne false (by decide), getD_set_ne false (by decide), getD_set_ne false (by decide)]; exact hI)
   ·go_simp
    exact hK0 _ (by show Ph W R L L' y _ (Array.getD _ 3 false) (Array.getD _ 9 false) (Array.getD _ 15 false) _; rw [getD_set_ne false (by decide), getD_set_ne false (by decide), getD_set_ne false (by decide)]; exact hI)
   ·go_simp
    exact hK0 _ (by show Ph W R L L' y _ (Array.getD _ 3 false) (Array.getD _ 9 false) (Array.getD _ 15 false) _; rw [getD_set_ne false (by decide), getD_set_ne false (by decide), getD_set_ne false (by decide)]; exact hI)
   ·go_simp
    exact hK0 _ (by show Ph W R L L' y _ (Array.getD _ 3 false) (Array.getD _ 9 false) (Array.getD _ 15 false) _; rw [getD_set_ne false (by decide), getD_set_ne false (by decide), getD_set_ne false (by decide)]; exact hI)
   ·go_simp
    exact hK0 _ (by show Ph W R L L' y _ (Array.getD _ 3 false) (Array.getD _ 9 false) (Array.getD _ 15 false) _; rw [getD_set_ne false (by decide), getD_set_ne false (by decide), getD_set_ne false (by decide)]; exact hI)
   ·skip
    have y13 := OrdG.on_of (i := 13) hb (by kernel_rfl)
    have y12 := OrdG.shut_yes (i := 12) hSh y13 (by kernel_rfl)
    have y11 := OrdG.shut_yes (i := 11) hSh y12 (by kernel_rfl)
    have y10 := OrdG.shut_yes (i := 10) hSh y11 (by kernel_rfl)
    have y9 := OrdG.shut_yes (i := 9) hSh y10 (by kernel_rfl)
    have y3 := OrdG.shut_yes (i := 3) hSh y9 (by kernel_rfl)
    rw [y3, y9, hl] at hI
    have H1 : Hid _ := HC3.out _ _ hI
    clear hI
    go_simp
    refine Calls.mono H1.out ?_; rintro e z5 ⟨rfl, h1⟩
    refine hK _ _ ⟨(t.1, t.2.1, W'.heap.size), rfl, OrdG.vals_one rfl hl, ?_⟩
    show Ph W R L L' y _ (Array.getD _ 3 false) (Array.getD _ 9 false) (Array.getD _ 15 false) _
    rw [getD_set_ne false (by decide), getD_set_ne false (by decide), OrdG.getD_self hz (by decide), y3, y9]
    exact h1
   ·have y15 := OrdG.on_of (i := 15) hb (by kernel_rfl)
    have s3 : (convert 22 9 (.slice (some ⟨t.2.2, 0, none⟩) N N)).run Tryz.prog W' = .ok (.string sd) W' := HS3.out _ _ _ _ (by rw [y15] at hI; exact hI)
    go_simp
    exact hK0 _ (by show Ph W R L L' y _ (Array.getD _ 3 false) (Array.getD _ 9 false) (Array.getD _ 15 false) _; rw [getD_set_ne false (by decide), getD_set_ne false (by decide), getD_set_ne false (by decide)]; exact hI)
   ·go_simp
    exact hK0 _ (by show Ph W R L L' y _ (Array.getD _ 3 false) (Array.getD _ 9 false) (Array.getD _ 15 false) _; rw [getD_set_ne false (by decide), getD_set_ne false (by decide), getD_set_ne false (by decide)]; exact hI)
   ·go_simp
    exact hK0 _ (by show Ph W R L L' y _ (Array.getD _ 3 false) (Array.getD _ 9 false) (Array.getD _ 15 false) _; rw [getD_set_ne false (by decide), getD_set_ne false (by decide), getD_set_ne false (by decide)]; exact hI)
   ·go_simp
    exact hK0 _ (by show Ph W R L L' y _ (Array.getD _ 3 false) (Array.getD _ 9 false) (Array.getD _ 15 false) _; rw [getD_set_ne false (by decide), getD_set_ne false (by decide), getD_set_ne false (by decide)]; exact hI)
   ·go_simp
    exact hK0 _ (by show Ph W R L L' y _ (Array.getD _ 3 false) (Array.getD _ 9 false) (Array.getD _ 15 false) _; rw [getD_set_ne false (by decide), getD_set_ne false (by decide), getD_set_ne false (by decide)]; exact hI)
   ·go_simp
    exact hK0 _ (by show Ph W R L L' y _ (Array.getD _ 3 false) (Array.getD _ 9 false) (Array.getD _ 15 false) _; rw [getD_set_ne false (by decide), getD_set_ne false (by decide), getD_set_ne false (by decide)]; exact hI)
   ·go_simp
    exact hK0 _ (by show Ph W R L L' y _ (Array.getD _ 3 false) (Array.getD _ 9 false) (Array.getD _ 15 false) _; rw [getD_set_ne false (by decide), getD_set_ne false (by decide), getD_set_ne false (by decide)]; exact hI)
   ·go_simp
    exact hK0 _ (by show Ph W R L L' y _ (Array.getD _ 3 false) (Array.getD _ 9 false) (Array.getD _ 15 false) _; rw [getD_set_ne false (by decide), getD_set_ne false (by decide), getD_set_ne false (by decide)]; exact hI)
   ·go_simp
    exact hK0 _ (by show Ph W R L L' y _ (Array.getD _ 3 false) (Array.getD _ 9 false) (Array.getD _ 15 false) _; rw [getD_set_ne false (by decide), getD_set_ne false (by decide), getD_set_ne false (by decide)]; exact hI)
   ·go_simp
    exact hK0 _ (by show Ph W R L L' y _ (Array.getD _ 3 false) (Array.getD _ 9 false) (Array.getD _ 15 false) _; rw [getD_set_ne false (by decide), getD_set_ne false (by decide), getD_set_ne false (by decide)]; exact hI)
   ·go_simp
    exact hK0 _ (by show Ph W R L L' y _ (Array.getD _ 3 false) (Array.getD _ 9 false) (Array.getD _ 15 false) _; rw [getD_set_ne false (by decide), getD_set_ne false (by decide), getD_set_ne false (by decide)]; exact hI)
   ·go_simp
    exact hK0 _ (by show Ph W R L L' y _ (Array.getD _ 3 false) (Array.getD _ 9 false) (Array.getD _ 15 false) _; rw [getD_set_ne false (by decide), getD_set_ne false (by decide), getD_set_ne false (by decide)]; exact hI)
   ·go_simp
    exact hK0 _ (by show Ph W R L L' y _ (Array.getD _ 3 false) (Array.getD _ 9 false) (Array.getD _ 15 false) _; rw [getD_set_ne false (by decide), getD_set_ne false (by decide), getD_set_ne false (by decide)]; exact hI)
   ·have H1 : Hid _ := HC4.out _ _ _ _ _ hI
    go_simp
    refine Calls.mono H1.out ?_; rintro e z5 ⟨rfl, hz5⟩
    subst hz5
    exact hK0 _ (by show Ph W R L L' y _ (Array.getD _ 3 false) (Array.getD _ 9 false) (Array.getD _ 15 false) _; rw [getD_set_ne false (by decide), getD_set_ne false (by decide), getD_set_ne false (by decide)]; exact hI)
   ·go_simp
    exact hK0 _ (by show Ph W R L L' y _ (Array.getD _ 3 false) (Array.getD _ 9 false) (Array.getD _ 15 false) _; rw [getD_set_ne false (by decide), getD_set_ne false (by decide), getD_set_ne false (by decide)]; exact hI)
   ·go_simp
    exact hK0 _ (by show Ph W R L L' y _ (Array.getD _ 3 false) (Array.getD _ 9 false) (Array.getD _ 15 false) _; rw [getD_set_ne false (by decide), getD_set_ne false (by decide), getD_set_ne false (by decide)]; exact hI)
   ·go_simp
    exact hK0 _ (by show Ph W R L L' y _ (Array.getD _ 3 false) (Array.getD _ 9 false) (Array.getD _ 15 false) _; rw [getD_set_ne false (by decide), getD_set_ne false (by decide), getD_set_ne false (by decide)]; exact hI)
   ·go_simp
    exact hK0 _ (by show Ph W R L L' y _ (Array.getD _ 3 false) (Array.getD _ 9 false) (Array.getD _ 15 false) _; rw [getD_set_ne false (by decide), getD_set_ne false (by decide), getD_set_ne false (by decide)]; exact hI)
   ·go_simp
    exact hK0 _ (by show Ph W R L L' y _ (Array.getD _ 3 false) (Array.getD _ 9 false) (Array.getD _ 15 false) _; rw [getD_set_ne false (by decide), getD_set_ne false (by decide), getD_set_ne false (by decide)]; exact hI)
   ·go_simp
    exact hK0 _ (by show Ph W R L L' y _ (Array.getD _ 3 false) (Array.getD _ 9 false) (Array.getD _ 15 false) _; rw [getD_set_ne false (by decide), getD_set_ne false (by decide), getD_set_ne false (by decide)]; exact hI)
   ·go_simp
    exact hK0 _ (by show Ph W R L L' y _ (Array.getD _ 3 false) (Array.getD _ 9 false) (Array.getD _ 15 false) _; rw [getD_set_ne false (by decide), getD_set_ne false (by decide), getD_set_ne false (by decide)]; exact hI)
   ·go_simp
    exact hK0 _ (by show Ph W R L L' y _ (Array.getD _ 3 false) (Array.getD _ 9 false) (Array.getD _ 15 false) _; rw [getD_set_ne false (by decide), getD_set_ne false (by decide), getD_set_ne false (by decide)]; exact hI)
   ·have H1 : Hid _ := HC5.out _ _ _ _ _ hI
    go_simp
    refine Calls.mono H1.out ?_; rintro e z5 ⟨rfl, h5⟩
    exact hK0 _ (by show Ph W R L L' y _ (Array.getD _ 3 false) (Array.getD _ 9 false) (Array.getD _ 15 false) _; rw [getD_set_ne false (by decide), getD_set_ne false (by decide), getD_set_ne false (by decide)]; exact h5)
   ·go_simp
    exact hK0 _ (by show Ph W R L L' y _ (Array.getD _ 3 false) (Array.getD _ 9 false) (Array.getD _ 15 false) _; rw [getD_set_ne false (by decide), getD_set_ne false (by decide), getD_set_ne false (by decide)]; exact hI)
   ·go_simp
    exact hK0 _ (by show Ph W R L L' y _ (Array.getD _ 3 false) (Array.getD _ 9 false) (Array.getD _ 15 false) _; rw [getD_set_ne false (by decide), getD_set_ne false (by decide), getD_set_ne false (by decide)]; exact hI)
   ·go_simp
    exact hK0 _ (by show Ph W R L L' y _ (Array.getD _ 3 false) (Array.getD _ 9 false) (Array.getD _ 15 false) _; rw [getD_set_ne false (by decide), getD_set_ne false (by decide), getD_set_ne false (by decide)]; exact hI)
   ·go_simp
    exact hK0 _ (by show Ph W R L L' y _ (Array.getD _ 3 false) (Array.getD _ 9 false) (Array.getD _ 15 false) _; rw [getD_set_ne false (by decide), getD_set_ne false (by decide), getD_set_ne false (by decide)]; exact hI)
   ·have H1 : Hid _ := HC6.out _ _ _ _ _ hI
    go_simp
    refine Calls.mono H1.out ?_; rintro e z5 ⟨rfl, h5⟩
    exact hK0 _ (by show Ph W R L L' y _ (Array.getD _ 3 false) (Array.getD _ 9 false) (Array.getD _ 15 false) _; rw [getD_set_ne false (by decide), getD_set_ne false (by decide), getD_set_ne false (by decide)]; exact h5)
   ·go_simp
    exact hK0 _ (by show Ph W R L L' y _ (Array.getD _ 3 false) (Array.getD _ 9 false) (Array.getD _ 15 false) _; rw [getD_set_ne false (by decide), getD_set_ne false (by decide), getD_set_ne false (by decide)]; exact hI)
   ·go_simp
    exact hK0 _ (by show Ph W R L L' y _ (Array.getD _ 3 false) (Array.getD _ 9 false) (Array.getD _ 15 false) _; rw [getD_set_ne false (by decide), getD_set_ne false (by decide), getD_set_ne false (by decide)]; exact hI)
   ·go_simp
    exact hK0 _ (by show Ph W R L L' y _ (Array.getD _ 3 false) (Array.getD _ 9 false) (Array.getD _ 15 false) _; rw [getD_set_ne false (by decide), getD_set_ne false (by decide), getD_set_ne false (by decide)]; exact hI)
  ·intro t listed W' hall hI
   have KZ : Hid _ := HE.out _ _ _ _ _ hI
   clear hI hall
   go_wp2
   go_ret
   exact ⟨rfl, KZ.out⟩
end
open Go.Proofs.YtonfjhbfkichkaaGreat.Rm (Mem)
theorem q_lay1 (M : Mem) (a v : Int) (hv : Byt v) : M.lay false a ((Rm.bytesV v).take (1 : Int).toNat) = M.put false a v := by
 have e : v % 256 = v := by have := hv.1; have := hv.2; omega
 show M.put false a (v % 256) = _
 rw [e]
theorem q_read1 (M : Mem) {a : Int} (a0 : 0 ≤ a) (a1 : a < 4294967296) : M.read a 1 = M.rd a := by
 have e : (a + ((0 : Nat) : Int)) % 4294967296 = a := by omega
 show Rm.cellB M a 1 0 + 0 * 256 + 0 * 65536 + 0 * 16777216 = _
 show M.rd ((a + ((0 : Nat) : Int)) % 4294967296) + 0 * 256 + 0 * 65536 + 0 * 16777216 = _
 rw [e]
 omega
def seven (b : Bool) : Int := bif b then 7 else 255
theorem gate_seven (b : Bool) : (({ Rm.mem0 256 with closed := b } : Mem).put false 0 7).read 1048576 1 = seven b := by
 obtain ⟨M, hM⟩ : ∃ M, M = ({ Rm.mem0 256 with closed := b } : Mem) := ⟨_, rfl⟩
 have n1 : M.n = 256 := by rw [hM]; rfl
 have c1 : M.closed = b := by rw [hM]
 have o1 : ∀ i, M.only i = false := fun i => by rw [hM]; rfl
 rw [← hM, q_read1 _ (by decide) (by decide)]
 have p0 : M.place 0 = 0 := by
  unfold Rm.Mem.place
  rw [if_neg (by rintro ⟨_, q⟩; exact absurd q (by decide))]
 unfold Rm.Mem.rd
 rw [Rm.put_place, Rm.put_n, n1]
 cases b with
 | false =>
  have p1 : M.place 1048576 = 1048576 := by
   unfold Rm.Mem.place
   rw [if_neg (by rw [c1]; rintro ⟨q, _⟩; cases q)]
  rw [p1, if_neg (by decide)]
  rfl
 | true =>
  have p1 : M.place 1048576 = 0 := by
   unfold Rm.Mem.place
   rw [if_pos ⟨c1, by decide⟩]
   rfl
  rw [p1, if_pos (by decide)]
  unfold Rm.Mem.put
  rw [p0, if_pos ⟨by rw [n1]; decide, .inr (o1 _)⟩]
  rfl
section
variable {W w : World} {R : Nat → Res} {L : Loc} {L' : LocR} {x y : Bm}
theorem doc_m (L' : LocR) (x : Bm) (m : Mem) : docRs L' x = docRs L' { x with m := m } := by
 funext j
 unfold docRs
 rfl
theorem tWrite (h : Hs W w (TT R L x L' x)) (a v : Int) (a0 : 0 ≤ a) (a1 : a < 4294967296) (hv : Byt v) : Calls Tryz.prog 14 #[.pointer (some ⟨L.M + 3, 0, none⟩), .int .u32 a, .int .i64 1, .int .u32 v] w fun e w' => e = .returned (.int .i64 0) ∧ Hs W w' (TT R L { x with m := x.m.put false a v } L' { x with m := x.m.put false a v }) := by
 have : docR L' x = docR L' { x with m := x.m.put false a v } := by unfold docR; rw [doc_m L' x (x.m.put false a v)]
 have h2 : Calls Tryz.prog 14 #[.pointer (some ⟨L.M + 3, 0, none⟩), .int .u32 a, .int .i64 1, .int .u32 v] w fun e w' => e = .returned (.int .i64 0) ∧ Hs W w' (TT R L { x with m := x.m.put false a v } L' x) := tBus h fun S b => bRam b (by rw [Rm.put_n]) fun q => by
  have := Rm.write_ok w L.M x.m q a 1 v a0 a1 hv.1 (by have := hv.2; omega) rfl
  rw [q_lay1 _ _ _ hv] at this
  exact this
 unfold TT at h2 ⊢
 rw [this] at h2
 exact h2
theorem tRead (h : Hs W w (TT R L x L' y)) (a : Int) (a0 : 0 ≤ a) (a1 : a < 4294967296) : Calls Tryz.prog 15 #[.pointer (some ⟨L.M + 3, 0, none⟩), .int .u32 a, .int .i64 1] w fun e w' => e = .returned (.tuple #[.int .u32 (x.m.read a 1), .int .i64 0]) ∧ Hs W w' (TT R L x L' y) := tBus h fun S b => bRamK b fun q => Rm.read_ok w L.M x.m q a 1 a0 a1 rfl
theorem tGate (h : Hs W w (TT R L x L' y)) : w.cell? ⟨L'.B, 0, none⟩ = some (.pointer (some ⟨L'.M, 0, none⟩)) ∧ w.cell? ⟨L'.M, 4, none⟩ = some (.bool y.cl) := by
 obtain ⟨_, S, b⟩ := tBw h
 exact ⟨b.c0, b.m4⟩
theorem tSee (h : Hs W w (TT R L x L' y)) : w.cell? ⟨L'.B, 1, none⟩ = some (.pointer (some ⟨L'.P, 0, none⟩)) ∧ w.cell? ⟨L'.B, 5, none⟩ = some (.int .u64 y.now) := by
 obtain ⟨_, S, b⟩ := tBw h
 exact ⟨b.c1, b.c5⟩
theorem tPend (h : Hs W w (TT R L x L' y)) (k : x.Ok) : Calls Tryz.prog 11 #[.pointer (some ⟨L.B, 0, none⟩)] w fun e w' => e = .returned (.bool (x.p.a.next != -1)) ∧ Hs W w' (TT R L x L' y) := by
 obtain ⟨⟨S, b⟩, _⟩ := tBw h
 exact (pend_ok b k).mono fun e w' ⟨q, r⟩ => ⟨q, h.keep r⟩
theorem tPendD (h : Hs W w (TT R L x L' y)) : Calls Tryz.prog 12 #[.pointer (some ⟨L'.P, 0, none⟩)] w fun e w' => e = .returned (.bool (y.p.a.next != -1)) ∧ Hs W w' (TT R L x L' y) := by
 obtain ⟨_, S, b⟩ := tBw h
 exact (dPend_ok b).mono fun e w' ⟨q, r⟩ => ⟨q, h.keep r⟩
theorem tNow (h : Hs W w (TT R L x L' y)) : Calls Tryz.prog 13 #[.pointer (some ⟨L.B, 0, none⟩)] w fun e w' => e = .returned (.int .u64 x.now) ∧ w' = w := by
 obtain ⟨⟨S, b⟩, _⟩ := tBw h
 exact now_ok b
end
section
variable (w : World) (a : Option Addr) (Ld c : Nat) (bt : Nat → Int)
theorem firstC (hb : Dk.BytAt w a Ld bt) (hbd : ∀ j, j < Ld → 0 ≤ bt j ∧ bt j < 256) (h1 : Ld % 512 = 0) (h2 : Ld ≤ 32768) : Calls Tryz.prog 5 #[.int .i64 1] w fun e w1 => ∃ A, e = .returned (.tuple #[.pointer (some A), .int .i64 0]) ∧ Calls Tryz.prog 6 #[.pointer (some A), .slice a Ld c] w1 fun e w2 => ∃ v, e = .returned (.tuple #[v, .int .i64 0]) ∧ Kp noB w w2 := by
 refine (Rm.new_ok w 1 (by decide) (by decide)).mono ?_
 rintro e w1 ⟨rfl, m1, z1, b1⟩
 obtain ⟨M, hM⟩ : ∃ M, M = w.heap.size := ⟨_, rfl⟩
 rw [← hM] at m1
 have ml : M + 4 + 1 ≤ w1.heap.size := m1.lt
 have s1 : Sys w1 (Rm.inRam M 1) (ramRs M (Rm.mem0 1)) := ⟨fun _ => 6, fun j => by
  by_cases q : j = 6
  ·subst q
   exact ⟨Rm.inRam M 1, ⟨m1, fun k g => g⟩, fun k g => ⟨rfl, g, by have : k < M + 4 + 1 := g.2; omega⟩⟩
  ·exact ⟨noB, by unfold ramRs; rw [if_neg q]; trivial, fun _ f => f.elim⟩⟩
 have P1 : Hs w w1 (two (sysR (ramRs M (Rm.mem0 1))) .none) := by
  rw [← none_0]
  exact (Hs.none w).new rfl s1 (fun k g => ⟨by have : M ≤ k := g.1; omega, by have : k < M + 4 + 1 := g.2; omega⟩) (kBelow b1)
 refine ⟨⟨w.heap.size + 3, 0, none⟩, rfl, ?_⟩
 rw [← hM]
 refine (P1.call (E := fun e w' r' => ∃ v, e = .returned (.tuple #[v, .int .i64 0])) 0 (fun T q => ?_)).mono ?_
 ·refine (new_ok w1 T M (Rm.mem0 1) q a Ld c bt (hb.kept (dkK P1.kp) (fun _ _ => id)) hbd h1 h2).mono ?_
  rintro e w' ⟨B, q, L, S', c1, c2, c3, c4⟩
  exact ⟨busR L _, fun k => S' k ∧ k < w'.heap.size, ⟨_, q⟩, Sys.lt c3, ⟨fun k g => c4.sub k g.1, c4.kp⟩, fun k g => g.2⟩
 ·rintro e w' ⟨r', ⟨v, q⟩, z⟩
  exact ⟨v, q, z.kp⟩
theorem firstD (hb : Dk.BytAt w a Ld bt) (hbd : ∀ j, j < Ld → 0 ≤ bt j ∧ bt j < 256) (h1 : Ld % 512 = 0) (h2 : Ld ≤ 32768) : Calls Tryz.prog 7 #[.int .i64 1] w fun e w1 => ∃ A, e = .returned (.tuple #[.pointer (some A), .int .i64 0]) ∧ Calls Tryz.prog 8 #[.pointer (some A), .slice a Ld c] w1 fun e w2 => ∃ v, e = .returned (.tuple #[v, .int .i64 0]) ∧ Kp noB w w2 := by
 refine (Rm.refNew_ok w 1 (by decide) (by decide)).mono ?_
 rintro e w1 ⟨R, rfl, r1, r2, r3⟩
 have P1 : Hs w w1 (two (sysR (memRs R.r (.cells #[.slice (some ⟨R.b, 0, none⟩) (4096 * 1) (4096 * 1), .slice (some ⟨R.o, 0, none⟩) 1 1, .slice (some ⟨R.t, 0, none⟩) (64 * 1) (64 * 1), .slice (some ⟨R.q, 0, none⟩) (64 * 1) (64 * 1), .bool false] 58 (0, 0)))) .none) := by
  rw [← none_0]
  refine (Hs.none w).new rfl (T' := isB R.r) ?_ (fun k (g : k = R.r) => ⟨by rw [g]; exact r2 _ (.inl rfl), by rw [g]; exact heap_lt r1.st⟩) (kRm r3)
  refine ⟨fun _ => 6, fun j => ?_⟩
  by_cases q : j = 6
  ·subst q
   exact ⟨isB R.r, ⟨rfl, r1.st⟩, fun k g => ⟨rfl, g, by rw [show k = R.r from g]; exact heap_lt r1.st⟩⟩
  ·exact ⟨noB, by unfold memRs; rw [if_neg q]; trivial, fun _ f => f.elim⟩
 refine ⟨⟨R.r, 0, none⟩, rfl, ?_⟩
 refine (P1.call (E := fun e w' r' => ∃ v, e = .returned (.tuple #[v, .int .i64 0])) 0 (fun T q => ?_)).mono ?_
 ·refine (dnew_ok w1 T R.r _ _ _ _ false q a Ld c bt (hb.kept (dkK P1.kp) (fun _ _ => id)) hbd h1 h2 (Rm.mem0 1)).mono ?_
  rintro e w' ⟨B, q, L, S', c1, c2, c3, c4⟩
  exact ⟨docR L _, fun k => S' k ∧ k < w'.heap.size, ⟨_, q⟩, Sys.lt c3, ⟨fun k g => c4.sub k g.1, c4.kp⟩, fun k g => g.2⟩
 ·rintro e w' ⟨r', ⟨v, q⟩, z⟩
  exact ⟨v, q, z.kp⟩
end
end Go.Proofs.YtonfjhbfkichkaaGreat.Bs
