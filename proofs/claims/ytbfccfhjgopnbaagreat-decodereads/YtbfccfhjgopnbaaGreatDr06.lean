/- The document's reader, and the code's (RfE, RfE2). -/
import Derived.Test.YtbfccfhjgopnbaaGreatDr04
import Derived.Test.YtbfccfhjgopnbaaGreatDr05
import Derived.Deep.Cut
set_option linter.unusedSimpArgs false
namespace Go.Proofs.YtbfccfhjgopnbaaGreat
open Go.ChangeShapes Go.WideShapes Go.ChangeAt Go.RowKit
set_option linter.unusedVariables false
theorem signed_okR (w : World) (X : Cx) (σ : Sg) (f : Int × Int × Int) (c : Int) (h : RSt X w σ f c) (s : Int) (hs : s = 1 ∨ s = 2 ∨ s = 4) :
    Calls Tryz.prog 204 #[.pointer (some ⟨X.S, 0, none⟩), .int .i64 s] w fun e w' => e = .returned (.int .u32 (sgnM s (bytesM X s σ).1)) ∧ RDn X w (bytesM X s σ).2 f c w' := by
  have cN := num_okR w X σ f c h s hs
  have hbd := rbytesM_bd h s hs
  generalize bytesM X s σ = Y at *
  obtain ⟨n, σ1⟩ := Y
  simp only at cN hbd ⊢
  obtain ⟨n0, n1⟩ := hbd
  clear h
  rcases hs with rfl | rfl | rfl
  · have n2 : n < 256 := by simpa using n1
    clear n1
    by_cases hn : 127 < n
    · have e : sgnM 1 n = n + 4294967040 := by unfold sgnM; rw [if_pos ⟨rfl, hn⟩]
      have hw : IntKind.u32.wrap (n + 4294967040) = n + 4294967040 := IntWalk.u32_in _ ⟨by omega, by omega⟩
      have E : Hid _ := e
      clear e
      go_enter Tryz.func204, Tryz.ntmps204
      go_wp2_with fail
      refine cN.mono ?_; rintro e w1 ⟨rfl, hd⟩
      have Hd : Hid _ := hd
      clear hd cN
      go_wp2
      go_ret
      rw [E.out]
      exact ⟨rfl, Hd.out⟩
    · have e : sgnM 1 n = n := by unfold sgnM; rw [if_neg (by omega), if_neg (by omega)]
      have E : Hid _ := e
      have HN : Hid _ := hn
      have hn' : n ≤ 127 := by omega
      clear e
      go_enter Tryz.func204, Tryz.ntmps204
      go_wp2_with fail
      refine cN.mono ?_; rintro e w1 ⟨rfl, hd⟩
      have Hd : Hid _ := hd
      clear hd cN
      go_wp2
      go_ret
      rw [E.out]
      exact ⟨rfl, Hd.out⟩
  · have n2 : n < 65536 := by simpa using n1
    clear n1
    by_cases hn : 32767 < n
    · have e : sgnM 2 n = n + 4294901760 := by unfold sgnM; rw [if_neg (by omega), if_pos ⟨rfl, hn⟩]
      have hw : IntKind.u32.wrap (n + 4294901760) = n + 4294901760 := IntWalk.u32_in _ ⟨by omega, by omega⟩
      have E : Hid _ := e
      clear e
      go_enter Tryz.func204, Tryz.ntmps204
      go_wp2_with fail
      refine cN.mono ?_; rintro e w1 ⟨rfl, hd⟩
      have Hd : Hid _ := hd
      clear hd cN
      go_wp2
      go_ret
      rw [E.out]
      exact ⟨rfl, Hd.out⟩
    · have e : sgnM 2 n = n := by unfold sgnM; rw [if_neg (by omega), if_neg (by omega)]
      have E : Hid _ := e
      clear e
      go_enter Tryz.func204, Tryz.ntmps204
      go_wp2_with fail
      refine cN.mono ?_; rintro e w1 ⟨rfl, hd⟩
      have Hd : Hid _ := hd
      clear hd cN
      go_wp2
      go_ret
      rw [E.out]
      exact ⟨rfl, Hd.out⟩
  · have e : sgnM 4 n = n := by unfold sgnM; rw [if_neg (by omega), if_neg (by omega)]
    have E : Hid _ := e
    clear e n1
    go_enter Tryz.func204, Tryz.ntmps204
    go_wp2_with fail
    refine cN.mono ?_; rintro e w1 ⟨rfl, hd⟩
    have Hd : Hid _ := hd
    clear hd cN
    go_wp2
    go_ret
    rw [E.out]
    exact ⟨rfl, Hd.out⟩
/-- An operand's own block, the result's, the reader. -/
structure InR (X : Cx) (w : World) (q : Nat) (o : Opd) (σ : Sg) (f : Int × Int × Int) (c : Int) (wr : World) : Prop where
  st : RSt X wr σ f c
  rs : wr.heap[w.heap.size]? = some (.cells Opd.zero.vals 26 (0, 0))
  op : wr.heap[q]? = some (.cells o.vals 26 (0, 0))
  kp : Kp (rOwn X) w wr
  lt : X.S < w.heap.size ∧ w.heap.size < q
theorem InR.call {X : Cx} {w wr w' : World} {q : Nat} {o : Opd} {σ σ' : Sg} {f f' : Int × Int × Int} {c c' : Int} (h : InR X w q o σ f c wr) (d : RDn X wr σ' f' c' w') : InR X w q o σ' f' c' w' :=
  ⟨d.1, heap_kept h.rs d.2 (by show ¬ w.heap.size = X.S; have := h.lt; omega), heap_kept h.op d.2 (by show ¬ q = X.S; have := h.lt; omega), h.kp.trans d.2, h.lt⟩
theorem InR.set {X : Cx} {w wr : World} {q : Nat} {o o' : Opd} {σ : Sg} {f : Int × Int × Int} {c : Int} (h : InR X w q o σ f c wr) (k : Nat) (v : Value) (e : o.vals.setIfInBounds k v = o'.vals) : InR X w q o' σ f c (wr.setCell ⟨q, k, none⟩ v) := by
  have kk : Kp (fun b => b = q) wr (wr.setCell ⟨q, k, none⟩ v) := Kp.setCell (S := fun b => b = q) wr (p := ⟨q, k, none⟩) rfl v
  have hl := h.lt
  refine ⟨h.st.other kk (by omega), heap_kept h.rs kk (by show ¬ w.heap.size = q; omega), by rw [heap_set h.op, e], ?_, h.lt⟩
  exact ⟨kk.os.trans h.kp.os, kk.tape.trans h.kp.tape, kk.output.trans h.kp.output, Nat.le_trans h.kp.size kk.size, fun i hi hs => (kk.block i (Nat.lt_of_lt_of_le hi h.kp.size) (by show ¬ i = q; omega)).trans (h.kp.block i hi hs)⟩
section
variable {X : Cx} {w wr : World} {q : Nat} {o : Opd} {σ : Sg} {f : Int × Int × Int} {c : Int}
/-- What the function answers: the operand is laid into the result. -/
theorem InR.fin (h : InR X w q o σ f c wr) : (storeCells ⟨w.heap.size, 0, none⟩ o.vals.toList).run Tryz.prog wr = .ok () (wr.setRow w.heap.size o.vals) ∧ (wr.setRow w.heap.size o.vals).heap[w.heap.size]? = some (.cells o.vals 26 (0, 0)) ∧ RDn X w σ f c (wr.setRow w.heap.size o.vals) := by
  have kk : Kp (fun b => b = w.heap.size) wr (wr.setRow w.heap.size o.vals) := Kp.setRow (S := fun b => b = w.heap.size) wr rfl o.vals
  have hl := h.lt
  refine ⟨put_res h.rs o, got_res h.rs o, h.st.other kk (by omega), ?_⟩
  exact ⟨kk.os.trans h.kp.os, kk.tape.trans h.kp.tape, kk.output.trans h.kp.output, Nat.le_trans h.kp.size kk.size, fun i hi hs => (kk.block i (Nat.lt_of_lt_of_le hi h.kp.size) (by show ¬ i = w.heap.size; omega)).trans (h.kp.block i hi hs)⟩
end
theorem InR.start {X : Cx} {w wr : World} {o : Opd} {σ : Sg} {f : Int × Int × Int} {c : Int} (h : RSt X wr σ f c) (k : Kp (rOwn X) (w.alloc (.cells Opd.zero.vals 26)) wr) (hS : X.S < w.heap.size) : InR X w wr.heap.size o σ f c (wr.alloc (.cells o.vals 26)) := by
  have hs : (w.alloc (.cells Opd.zero.vals 26)).heap.size = w.heap.size + 1 := by simp
  have hsz := k.size
  refine ⟨h.alloc _, heap_kept (heap_kept (MapKept.heap_alloc w _).1 k (by show ¬ w.heap.size = X.S; omega)) (Kp.alloc noB wr _) id, (MapKept.heap_alloc wr _).1, ?_, ⟨hS, by omega⟩⟩
  have k1 : Kp noB w (w.alloc (.cells Opd.zero.vals 26)) := Kp.alloc _ _ _
  exact (k1.any.trans k).trans (Kp.alloc _ _ _)
def rsegD (g : Int) : Int := if 0 ≤ g then g else 3
theorem rsegD_eq {g : Int} (h : -1 ≤ g) : segD g = rsegD g := by
  unfold segD rsegD
  by_cases e : g = -1
  · rw [if_pos e, if_neg (by omega)]
  · rw [if_neg e, if_pos (by omega)]
/-- A store into the result. -/
theorem RDn.res {X : Cx} {w W : World} {σ : Sg} {f : Int × Int × Int} {c : Int} (h : RDn X w σ f c W) (hS : X.S < w.heap.size) (k : Nat) (v : Value) : RDn X w σ f c (W.setCell ⟨w.heap.size, k, none⟩ v) := by
  have kk : Kp (fun b => b = w.heap.size) W (W.setCell ⟨w.heap.size, k, none⟩ v) := Kp.setCell (S := fun b => b = w.heap.size) W (p := ⟨w.heap.size, k, none⟩) rfl v
  exact ⟨h.1.other kk hS, ⟨kk.os.trans h.2.os, kk.tape.trans h.2.tape, kk.output.trans h.2.output, Nat.le_trans h.2.size kk.size, fun i hi hs => (kk.block i (Nat.lt_of_lt_of_le hi h.2.size) (by show ¬ i = w.heap.size; omega)).trans (h.2.block i hi hs)⟩⟩
theorem InR.nine {X : Cx} {w wr : World} {q : Nat} {o : Opd} {σ : Sg} {f : Int × Int × Int} {c : Int} (h : InR X w q o σ f c wr) : Hid (∀ a b c' d e g i j k : Value, RDn X w σ f c (((((((((wr.setCell ⟨w.heap.size, 0, none⟩ a).setCell ⟨w.heap.size, 1, none⟩ b).setCell ⟨w.heap.size, 2, none⟩ c').setCell ⟨w.heap.size, 3, none⟩ d).setCell ⟨w.heap.size, 4, none⟩ e).setCell ⟨w.heap.size, 5, none⟩ g).setCell ⟨w.heap.size, 6, none⟩ i).setCell ⟨w.heap.size, 7, none⟩ j).setCell ⟨w.heap.size, 8, none⟩ k)) := by
  intro a b c' d e g i j k
  have h0 : RDn X w σ f c wr := ⟨h.st, h.kp⟩
  have hS := h.lt.1
  exact ((((((((h0.res hS 0 a).res hS 1 b).res hS 2 c').res hS 3 d).res hS 4 e).res hS 5 g).res hS 6 i).res hS 7 j).res hS 8 k
def CutO (X : Cx) (w : World) (q : Nat) (o : Opd) (σ : Sg) (f : Int × Int × Int) (c : Int) (wr : World) : Prop := InR X w q o σ f c wr
set_option maxHeartbeats 1000000 in
theorem o_okR (w : World) (X : Cx) (σ : Sg) (f : Int × Int × Int) (c : Int) (h : RSt X w σ f c) (s : Int) :
    Calls Tryz.prog 213 #[.pointer (some ⟨X.S, 0, none⟩), .int .i64 s] w fun e w' => e = .returned (.agg (pO X s σ).1.vals) ∧ RDn X w (pO X s σ).2 f c w' := by
  have hS := h.ltS
  have h0 : RSt X (w.alloc (.cells Opd.zero.vals 26)) σ f c := h.alloc _
  have cN := num_okR _ X σ f c h0 4 (by decide)
  have hseg := bytesM_seg X 4 σ
  have hsg := h.sg
  have e1 : pO X s σ = (mem9 s (rsegD σ.seg) (-1) (-1) 1 (bytesM X 4 σ).1, (bytesM X 4 σ).2) := by rw [← rsegD_eq hsg]; rfl
  rw [e1]
  clear e1
  generalize bytesM X 4 σ = Y at *
  obtain ⟨d, σ1⟩ := Y
  simp only at cN hseg ⊢
  obtain ⟨g, hg⟩ : ∃ g, g = σ.seg := ⟨_, rfl⟩
  rw [← hg] at hseg hsg ⊢
  clear h h0 hg
  go_enter Tryz.func213, Tryz.ntmps213
  go_wp2_with fail
  refine cN.mono ?_; rintro e w1 ⟨rfl, h1, k1⟩
  have hI : InR X w w1.heap.size (mem9 s 3 (-1) (-1) 1 d) σ1 f c (w1.alloc (.cells (mem9 s 3 (-1) (-1) 1 d).vals 26)) := InR.start h1 k1 hS
  have HI : Hid _ := hI
  have HG : Hid (InR X w w1.heap.size (mem9 s g (-1) (-1) 1 d) σ1 f c (w1.alloc (.cells (mem9 s g (-1) (-1) 1 d).vals 26))) := InR.start h1 k1 hS
  have c3 := h1.c3
  rw [hseg] at c3
  have hlt1 := h1.ltS
  have Hseg : Hid _ := hseg
  clear hI h1 k1 cN hseg
  go_upto_if 14 with fail
  go_cut [] from 6 (CutO X w w1.heap.size (mem9 s (rsegD g) (-1) (-1) 1 d) σ1 f c)
  case first =>
    by_cases hge : 0 ≤ g
    · have e : rsegD g = g := if_pos hge
      have E : Hid _ := e
      clear e
      go_wp2
      go_meet
      case rel => rw [E.out]; exact HG.out
    · have e : rsegD g = 3 := if_neg hge
      have E : Hid _ := e
      clear e
      go_wp2
      go_meet
      case rel => rw [E.out]; exact HI.out
  case rest =>
    have hI3 : InR X w w1.heap.size (mem9 s (rsegD g) (-1) (-1) 1 d) σ1 f c wc := hcut
    have hn := hI3.nine
    obtain ⟨x0, x1, x2, x3, x4, x5, x6, x7, x8⟩ := res_cells hI3.op
    obtain ⟨q0, q1, q2, q3, q4, q5, q6, q7, q8⟩ := res_cells hI3.rs
    have qz := res_fz hI3.rs
    have hlt := hI3.lt
    have n1' : ¬ w1.heap.size = w.heap.size := by omega
    have n2' : ¬ w.heap.size = w1.heap.size := by omega
    simp only [mem9] at x0 x1 x2 x3 x4 x5 x6 x7 x8
    clear hI3 hcut
    go_wp2
    exact bodyPost_ret (v := .agg (mem9 s (rsegD g) (-1) (-1) 1 d).vals) (by simp [results, Tryz.results213, go_sem, q0, q1, q2, q3, q4, q5, q6, q7, q8]; rfl) rfl ⟨rfl, hn.out _ _ _ _ _ _ _ _ _⟩
end Go.Proofs.YtbfccfhjgopnbaaGreat
namespace Go.Proofs.YtbfccfhjgopnbaaGreat
open Go.ChangeShapes Go.WideShapes Go.ChangeAt Go.RowKit
set_option linter.unusedVariables false
set_option linter.unusedSimpArgs false
set_option maxHeartbeats 16000000
def CutR (X : Cx) (w : World) (s g m n r c : Int) (V : Opd × Sg) (wr : World) : Prop :=
  ∃ (b i k : Int) (σ2 : Sg), Hid (V = finE X s g m b i k σ2) ∧ Hid (σ2.seg = g) ∧ InR X w (w.heap.size + 1) (mem9 s 3 b i k 0) σ2 (m, n, r) c wr
theorem e_regR (w : World) (X : Cx) (σ : Sg) (n r c : Int) (h : RSt X w σ (3, n, r) c) (s : Int) :
    Calls Tryz.prog 206 #[.pointer (some ⟨X.S, 0, none⟩), .int .i64 s] w fun e w' => e = .returned (.agg (regO r s).vals) ∧ RDn X w σ (3, n, r) c w' := by
  have hS := h.ltS
  have h0 : RSt X (w.alloc (.cells Opd.zero.vals 26)) σ (3, n, r) c := h.alloc _
  have c6 := h.c6
  have c8 := h.c8
  simp only at c6 c8
  have Hh : Hid _ := h0
  clear h h0
  go_enter Tryz.func206, Tryz.ntmps206
  go_wp2_with fail
  refine (rReg_ok _ _ _).mono ?_; rintro e w2 ⟨rfl, k2⟩
  obtain ⟨hq0, hb0⟩ := new_res k2 id
  have hst := put_res hb0 (regO r s)
  have hsz := vals_size (regO r s)
  have hb1 := got_res hb0 (regO r s)
  obtain ⟨r0, r1, r2, r3, r4, r5, r6, r7, r8⟩ := res_cells hb1
  have Hk : Hid (RDn X w σ (3, n, r) c (w2.setRow w.heap.size (regO r s).vals)) := by
    have kk : Kp (fun b => b = w.heap.size) w2 (w2.setRow w.heap.size (regO r s).vals) := Kp.setRow (S := fun b => b = w.heap.size) w2 rfl _
    have k1 : Kp noB w (w.alloc (.cells Opd.zero.vals 26)) := Kp.alloc _ _ _
    have k3 := k1.trans k2
    refine ⟨(Hh.out.kp k2).other kk hS, ?_⟩
    exact ⟨kk.os.trans k3.os, kk.tape.trans k3.tape, kk.output.trans k3.output, Nat.le_trans k3.size kk.size, fun i hi hs => (kk.block i (Nat.lt_of_lt_of_le hi k3.size) (by show ¬ i = w.heap.size; omega)).trans (k3.block i hi id)⟩
  go_wp2
  exact bodyPost_ret (v := .agg (regO r s).vals) (by simp [results, Tryz.results206, go_sem, r0, r1, r2, r3, r4, r5, r6, r7, r8]; rfl) rfl ⟨rfl, Hk.out⟩
theorem sibM_eq (X : Cx) (σ : Sg) : sibM X σ = (if (take X σ).1 / 8 % 8 = 4 then ((take X σ).1 % 8, -1, 1) else ((take X σ).1 % 8, (take X σ).1 / 8 % 8, 2 ^ ((take X σ).1 / 64).toNat), (take X σ).2) := rfl
set_option maxRecDepth 20000 in
theorem e_memR0 (w : World) (X : Cx) (σ : Sg) (n r c g : Int) (h : RSt X w σ (0, n, r) c) (s : Int) (V : Opd × Sg) (hV0 : Hid (V = finE X s g 0 (sibP X r σ).1.1 (sibP X r σ).1.2.1 (sibP X r σ).1.2.2 (sibP X r σ).2)) (hgs : Hid (σ.seg = g)) :
    Calls Tryz.prog 206 #[.pointer (some ⟨X.S, 0, none⟩), .int .i64 s] w fun e w' => e = .returned (.agg V.1.vals) ∧ RDn X w V.2 (0, n, r) c w' := by
  have hS := h.ltS
  have g1 : -1 ≤ g := by have := h.sg; rw [hgs.out] at this; exact this
  have h0 : RSt X (w.alloc (.cells Opd.zero.vals 26)) σ (0, n, r) c := h.alloc _
  have c6 := h.c6
  have c8 := h.c8
  simp only at c6 c8
  have hI0 := InR.start (w := w) (o := mem9 s 3 r (-1) 1 0) h0 (Kp.refl _ _) hS
  have hs1 : (w.alloc (.cells Opd.zero.vals 26)).heap.size = w.heap.size + 1 := by simp
  rw [hs1] at hI0
  have HI0 : Hid _ := hI0
  clear hI0 hs1 h h0
  go_enter Tryz.func206, Tryz.ntmps206
  go_upto_if 29 with fail
  go_cut [] from 8 (CutR X w s g 0 n r c V)
  case first =>
    by_cases hr : r = 4
    · subst hr
      have e4 : sibP X 4 σ = sibM X σ := if_pos rfl
      have cT := next_ok _ X σ _ c HI0.out.st
      have hbd := rtake_bd HI0.out.st
      have hsg := take_seg X σ
      rw [e4, sibM_eq] at hV0
      rw [hgs.out] at hsg
      generalize take X σ = Y at *
      obtain ⟨a, σ1⟩ := Y
      simp only at cT hbd hsg hV0
      obtain ⟨a0, a1⟩ := hbd
      clear e4
      go_wp2_with fail
      refine cT.mono ?_; rintro e w3 ⟨rfl, hd⟩
      have hI3 := HI0.out.call hd
      have Hsg : Hid _ := hsg
      have yl := hI3.st.ltS
      have yq := heap_lt hI3.op
      obtain ⟨t0, t1, t2, t3, t4, t5, t6, t7, t8⟩ := res_cells hI3.op
      have tz := res_fz hI3.op
      simp only [mem9] at t0 t1 t2 t3 t4 t5 t6 t7 t8
      by_cases h4 : a / 8 % 8 = 4
      · rw [if_pos h4] at hV0
        have hf : CutR X w s g 0 n 4 c V _ := ⟨_, _, _, _, hV0, Hsg.out, hI3.set (o' := mem9 s 3 (a % 8) (-1) 1 0) 4 (.int .i64 (a % 8)) rfl⟩
        have HF : Hid _ := hf
        clear hf hI3 hd cT HI0 hsg hV0
        go_wp2
        go_meet
        case rel => exact HF.out
      · rw [if_neg h4] at hV0
        rcases shl1 a a0 a1 with hs | hs | hs | hs
        all_goals
          rw [hs] at hV0
          have hf : CutR X w s g 0 n 4 c V _ := ⟨_, _, _, _, hV0, Hsg.out, ((hI3.set (o' := mem9 s 3 (a % 8) (-1) 1 0) 4 (.int .i64 (a % 8)) rfl).set (o' := mem9 s 3 (a % 8) (a / 8 % 8) 1 0) 5 (.int .i64 (a / 8 % 8)) rfl).set (o' := mem9 s 3 (a % 8) (a / 8 % 8) _ 0) 6 (.int .i64 _) rfl⟩
          have HF : Hid _ := hf
          have h4' : (a / 8 % 8 != 4) = true := by simpa using h4
          clear hf hI3 hd cT HI0 hsg hV0
          go_wp2
          go_meet
          case rel => exact HF.out
    · have e4 : sibP X r σ = ((r, -1, 1), σ) := if_neg hr
      rw [e4] at hV0
      have hf : CutR X w s g 0 n r c V _ := ⟨_, _, _, _, hV0, hgs.out, HI0.out⟩
      have HF : Hid _ := hf
      clear hf HI0 hV0 e4
      go_wp2
      go_meet
      case rel => exact HF.out
  case rest =>
    clear HI0 hV0 hgs
    obtain ⟨b, i, k, σ2, hV, hsg, hIc⟩ := hcut
    obtain ⟨x0, x1, x2, x3, x4, x5, x6, x7, x8⟩ := res_cells hIc.op
    obtain ⟨q0, q1, q2, q3, q4, q5, q6, q7, q8⟩ := res_cells hIc.rs
    have xz := res_fz hIc.op
    have qz := res_fz hIc.rs
    have d6 := hIc.st.c6
    have d3 := hIc.st.c3
    rw [hsg.out] at d3
    simp only at d6
    have dl := hIc.st.ltS
    have dq := heap_lt hIc.op
    have n1 : ¬ X.S = w.heap.size := by omega
    have n2 : ¬ w.heap.size = X.S := by omega
    have n3 : ¬ X.S = w.heap.size + 1 := by omega
    have n4 : ¬ w.heap.size + 1 = X.S := by omega
    simp only [mem9] at x0 x1 x2 x3 x4 x5 x6 x7 x8
    have HI : Hid _ := hIc
    clear hIc c6 c8
    by_cases hb4 : b = 4
    · subst hb4
      by_cases hge : 0 ≤ g
      · have hgn : ¬ g = -1 := by omega
        have hI := HI.out
        have hJ1 := hI.set (o' := mem9 s 2 4 i k 0) 3 (.int .i64 2) rfl
        have hV2 : V = (mem9 s g 4 i k 0, σ2) := by rw [hV.out]; simp [finE, segP, baseP, dispP, hgn]
        have HV : Hid _ := hV2
        clear hV2 hV
        have hJ5 := hJ1.set (o' := mem9 s g 4 i k 0) 3 (.int .i64 g) rfl
        have Hk := hJ5.nine
        clear hJ5 hJ1 hI HI
        go_wp2
        refine bodyPost_ret (v := .agg (mem9 s g 4 i k 0).vals) (by simp [results, Tryz.results206, go_sem, q0, q1, q2, q3, q4, q5, q6, q7, q8]; rfl) rfl ?_
        rw [HV.out]
        exact ⟨rfl, Hk.out _ _ _ _ _ _ _ _ _⟩
      · obtain rfl : g = -1 := by omega
        have hI := HI.out
        have hJ1 := hI.set (o' := mem9 s 2 4 i k 0) 3 (.int .i64 2) rfl
        have hV2 : V = (mem9 s 2 4 i k 0, σ2) := by rw [hV.out]; simp [finE, segP, baseP, dispP]
        have HV : Hid _ := hV2
        clear hV2 hV
        have Hk := hJ1.nine
        clear hJ1 hI HI
        go_wp2
        refine bodyPost_ret (v := .agg (mem9 s 2 4 i k 0).vals) (by simp [results, Tryz.results206, go_sem, q0, q1, q2, q3, q4, q5, q6, q7, q8]; rfl) rfl ?_
        rw [HV.out]
        exact ⟨rfl, Hk.out _ _ _ _ _ _ _ _ _⟩
    · by_cases hb5 : b = 5
      · subst hb5
        by_cases hge : 0 ≤ g
        · have hgn : ¬ g = -1 := by omega
          have hI := HI.out
          have hJ1 := hI.set (o' := mem9 s 2 5 i k 0) 3 (.int .i64 2) rfl
          have hJ2 := hJ1.set (o' := mem9 s 2 (-1) i k 0) 4 (.int .i64 (-1)) rfl
          have hJ3 := hJ2.set (o' := mem9 s 3 (-1) i k 0) 3 (.int .i64 3) rfl
          have hV2 : V = (mem9 s g (-1) i k (bytesM X 4 σ2).1, (bytesM X 4 σ2).2) := by rw [hV.out]; simp [finE, segP, baseP, dispP, hgn]
          have HV : Hid _ := hV2
          clear hV2 hV
          have cN := num_okR _ X σ2 _ c hJ3.st 4 (by decide)
          have hsgn := bytesM_seg X 4 σ2
          rw [hsg.out] at hsgn
          generalize bytesM X 4 σ2 = Y at *
          obtain ⟨d0, σ3⟩ := Y
          simp only at cN HV hsgn
          obtain ⟨d, hd⟩ : ∃ d, d = d0 := ⟨_, rfl⟩
          subst hd
          go_wp2_with fail
          refine cN.mono ?_; rintro e w4 ⟨rfl, hd4⟩
          have hK := hJ3.call hd4
          obtain ⟨y0, y1, y2, y3, y4, y5, y6, y7, y8⟩ := res_cells hK.op
          have yz := res_fz hK.op
          obtain ⟨z0, z1, z2, z3, z4, z5, z6, z7, z8⟩ := res_cells hK.rs
          have zz := res_fz hK.rs
          have yc := hK.st.c3
          rw [hsgn] at yc
          have yl := hK.st.ltS
          have yq := heap_lt hK.op
          simp only [mem9] at y0 y1 y2 y3 y4 y5 y6 y7 y8
          have hJ27 := hK.set (o' := mem9 s 3 (-1) i k d) 7 (.int .u32 d) rfl
          have hJ28 := hJ27.set (o' := mem9 s g (-1) i k d) 3 (.int .i64 g) rfl
          have Hk := hJ28.nine
          clear hJ28 hJ27 hJ3 hJ2 hJ1 hK hd4 cN hI HI
          go_wp2
          refine bodyPost_ret (v := .agg (mem9 s g (-1) i k d).vals) (by simp [results, Tryz.results206, go_sem, z0, z1, z2, z3, z4, z5, z6, z7, z8]; rfl) rfl ?_
          rw [HV.out]
          exact ⟨rfl, Hk.out _ _ _ _ _ _ _ _ _⟩
        · obtain rfl : g = -1 := by omega
          have hI := HI.out
          have hJ1 := hI.set (o' := mem9 s 2 5 i k 0) 3 (.int .i64 2) rfl
          have hJ2 := hJ1.set (o' := mem9 s 2 (-1) i k 0) 4 (.int .i64 (-1)) rfl
          have hJ3 := hJ2.set (o' := mem9 s 3 (-1) i k 0) 3 (.int .i64 3) rfl
          have hV2 : V = (mem9 s 3 (-1) i k (bytesM X 4 σ2).1, (bytesM X 4 σ2).2) := by rw [hV.out]; simp [finE, segP, baseP, dispP]
          have HV : Hid _ := hV2
          clear hV2 hV
          have cN := num_okR _ X σ2 _ c hJ3.st 4 (by decide)
          have hsgn := bytesM_seg X 4 σ2
          rw [hsg.out] at hsgn
          generalize bytesM X 4 σ2 = Y at *
          obtain ⟨d0, σ3⟩ := Y
          simp only at cN HV hsgn
          obtain ⟨d, hd⟩ : ∃ d, d = d0 := ⟨_, rfl⟩
          subst hd
          go_wp2_with fail
          refine cN.mono ?_; rintro e w4 ⟨rfl, hd4⟩
          have hK := hJ3.call hd4
          obtain ⟨y0, y1, y2, y3, y4, y5, y6, y7, y8⟩ := res_cells hK.op
          have yz := res_fz hK.op
          obtain ⟨z0, z1, z2, z3, z4, z5, z6, z7, z8⟩ := res_cells hK.rs
          have zz := res_fz hK.rs
          have yc := hK.st.c3
          rw [hsgn] at yc
          have yl := hK.st.ltS
          have yq := heap_lt hK.op
          simp only [mem9] at y0 y1 y2 y3 y4 y5 y6 y7 y8
          have hJ27 := hK.set (o' := mem9 s 3 (-1) i k d) 7 (.int .u32 d) rfl
          have Hk := hJ27.nine
          clear hJ27 hJ3 hJ2 hJ1 hK hd4 cN hI HI
          go_wp2
          refine bodyPost_ret (v := .agg (mem9 s 3 (-1) i k d).vals) (by simp [results, Tryz.results206, go_sem, z0, z1, z2, z3, z4, z5, z6, z7, z8]; rfl) rfl ?_
          rw [HV.out]
          exact ⟨rfl, Hk.out _ _ _ _ _ _ _ _ _⟩
      · have hb4' : (b == 4) = false := by simpa using hb4
        have hb5' : (b == 5) = false := by simpa using hb5
        by_cases hge : 0 ≤ g
        · have hgn : ¬ g = -1 := by omega
          have hI := HI.out
          have hV2 : V = (mem9 s g b i k 0, σ2) := by rw [hV.out]; simp [finE, segP, baseP, dispP, hb5, hgn]
          have HV : Hid _ := hV2
          clear hV2 hV
          have hJ4 := hI.set (o' := mem9 s g b i k 0) 3 (.int .i64 g) rfl
          have Hk := hJ4.nine
          clear hJ4 hI HI
          go_wp2
          refine bodyPost_ret (v := .agg (mem9 s g b i k 0).vals) (by simp [results, Tryz.results206, go_sem, q0, q1, q2, q3, q4, q5, q6, q7, q8]; rfl) rfl ?_
          rw [HV.out]
          exact ⟨rfl, Hk.out _ _ _ _ _ _ _ _ _⟩
        · obtain rfl : g = -1 := by omega
          have hI := HI.out
          have hV2 : V = (mem9 s 3 b i k 0, σ2) := by rw [hV.out]; simp [finE, segP, baseP, dispP, hb4, hb5]
          have HV : Hid _ := hV2
          clear hV2 hV
          have Hk := hI.nine
          clear  hI HI
          go_wp2
          refine bodyPost_ret (v := .agg (mem9 s 3 b i k 0).vals) (by simp [results, Tryz.results206, go_sem, q0, q1, q2, q3, q4, q5, q6, q7, q8]; rfl) rfl ?_
          rw [HV.out]
          exact ⟨rfl, Hk.out _ _ _ _ _ _ _ _ _⟩
set_option maxRecDepth 20000 in
theorem e_memR1 (w : World) (X : Cx) (σ : Sg) (n r c g : Int) (h : RSt X w σ (1, n, r) c) (s : Int) (V : Opd × Sg) (hV0 : Hid (V = finE X s g 1 (sibP X r σ).1.1 (sibP X r σ).1.2.1 (sibP X r σ).1.2.2 (sibP X r σ).2)) (hgs : Hid (σ.seg = g)) :
    Calls Tryz.prog 206 #[.pointer (some ⟨X.S, 0, none⟩), .int .i64 s] w fun e w' => e = .returned (.agg V.1.vals) ∧ RDn X w V.2 (1, n, r) c w' := by
  have hS := h.ltS
  have g1 : -1 ≤ g := by have := h.sg; rw [hgs.out] at this; exact this
  have h0 : RSt X (w.alloc (.cells Opd.zero.vals 26)) σ (1, n, r) c := h.alloc _
  have c6 := h.c6
  have c8 := h.c8
  simp only at c6 c8
  have hI0 := InR.start (w := w) (o := mem9 s 3 r (-1) 1 0) h0 (Kp.refl _ _) hS
  have hs1 : (w.alloc (.cells Opd.zero.vals 26)).heap.size = w.heap.size + 1 := by simp
  rw [hs1] at hI0
  have HI0 : Hid _ := hI0
  clear hI0 hs1 h h0
  go_enter Tryz.func206, Tryz.ntmps206
  go_upto_if 29 with fail
  go_cut [] from 8 (CutR X w s g 1 n r c V)
  case first =>
    by_cases hr : r = 4
    · subst hr
      have e4 : sibP X 4 σ = sibM X σ := if_pos rfl
      have cT := next_ok _ X σ _ c HI0.out.st
      have hbd := rtake_bd HI0.out.st
      have hsg := take_seg X σ
      rw [e4, sibM_eq] at hV0
      rw [hgs.out] at hsg
      generalize take X σ = Y at *
      obtain ⟨a, σ1⟩ := Y
      simp only at cT hbd hsg hV0
      obtain ⟨a0, a1⟩ := hbd
      clear e4
      go_wp2_with fail
      refine cT.mono ?_; rintro e w3 ⟨rfl, hd⟩
      have hI3 := HI0.out.call hd
      have Hsg : Hid _ := hsg
      have yl := hI3.st.ltS
      have yq := heap_lt hI3.op
      obtain ⟨t0, t1, t2, t3, t4, t5, t6, t7, t8⟩ := res_cells hI3.op
      have tz := res_fz hI3.op
      simp only [mem9] at t0 t1 t2 t3 t4 t5 t6 t7 t8
      by_cases h4 : a / 8 % 8 = 4
      · rw [if_pos h4] at hV0
        have hf : CutR X w s g 1 n 4 c V _ := ⟨_, _, _, _, hV0, Hsg.out, hI3.set (o' := mem9 s 3 (a % 8) (-1) 1 0) 4 (.int .i64 (a % 8)) rfl⟩
        have HF : Hid _ := hf
        clear hf hI3 hd cT HI0 hsg hV0
        go_wp2
        go_meet
        case rel => exact HF.out
      · rw [if_neg h4] at hV0
        rcases shl1 a a0 a1 with hs | hs | hs | hs
        all_goals
          rw [hs] at hV0
          have hf : CutR X w s g 1 n 4 c V _ := ⟨_, _, _, _, hV0, Hsg.out, ((hI3.set (o' := mem9 s 3 (a % 8) (-1) 1 0) 4 (.int .i64 (a % 8)) rfl).set (o' := mem9 s 3 (a % 8) (a / 8 % 8) 1 0) 5 (.int .i64 (a / 8 % 8)) rfl).set (o' := mem9 s 3 (a % 8) (a / 8 % 8) _ 0) 6 (.int .i64 _) rfl⟩
          have HF : Hid _ := hf
          have h4' : (a / 8 % 8 != 4) = true := by simpa using h4
          clear hf hI3 hd cT HI0 hsg hV0
          go_wp2
          go_meet
          case rel => exact HF.out
    · have e4 : sibP X r σ = ((r, -1, 1), σ) := if_neg hr
      rw [e4] at hV0
      have hf : CutR X w s g 1 n r c V _ := ⟨_, _, _, _, hV0, hgs.out, HI0.out⟩
      have HF : Hid _ := hf
      clear hf HI0 hV0 e4
      go_wp2
      go_meet
      case rel => exact HF.out
  case rest =>
    clear HI0 hV0 hgs
    obtain ⟨b, i, k, σ2, hV, hsg, hIc⟩ := hcut
    obtain ⟨x0, x1, x2, x3, x4, x5, x6, x7, x8⟩ := res_cells hIc.op
    obtain ⟨q0, q1, q2, q3, q4, q5, q6, q7, q8⟩ := res_cells hIc.rs
    have xz := res_fz hIc.op
    have qz := res_fz hIc.rs
    have d6 := hIc.st.c6
    have d3 := hIc.st.c3
    rw [hsg.out] at d3
    simp only at d6
    have dl := hIc.st.ltS
    have dq := heap_lt hIc.op
    have n1 : ¬ X.S = w.heap.size := by omega
    have n2 : ¬ w.heap.size = X.S := by omega
    have n3 : ¬ X.S = w.heap.size + 1 := by omega
    have n4 : ¬ w.heap.size + 1 = X.S := by omega
    simp only [mem9] at x0 x1 x2 x3 x4 x5 x6 x7 x8
    have HI : Hid _ := hIc
    clear hIc c6 c8
    by_cases hb4 : b = 4
    · subst hb4
      by_cases hge : 0 ≤ g
      · have hgn : ¬ g = -1 := by omega
        have hI := HI.out
        have hJ1 := hI.set (o' := mem9 s 2 4 i k 0) 3 (.int .i64 2) rfl
        have hV2 : V = (mem9 s g 4 i k (sgnM 1 (bytesM X 1 σ2).1), (bytesM X 1 σ2).2) := by rw [hV.out]; simp [finE, segP, baseP, dispP, hgn]
        have HV : Hid _ := hV2
        clear hV2 hV
        have cN := signed_okR _ X σ2 _ c hJ1.st 1 (by decide)
        have hsgn := bytesM_seg X 1 σ2
        rw [hsg.out] at hsgn
        generalize bytesM X 1 σ2 = Y at *
        obtain ⟨d0, σ3⟩ := Y
        simp only at cN HV hsgn
        generalize sgnM 1 d0 = d at *
        go_wp2_with fail
        refine cN.mono ?_; rintro e w4 ⟨rfl, hd4⟩
        have hK := hJ1.call hd4
        obtain ⟨y0, y1, y2, y3, y4, y5, y6, y7, y8⟩ := res_cells hK.op
        have yz := res_fz hK.op
        obtain ⟨z0, z1, z2, z3, z4, z5, z6, z7, z8⟩ := res_cells hK.rs
        have zz := res_fz hK.rs
        have yc := hK.st.c3
        rw [hsgn] at yc
        have yl := hK.st.ltS
        have yq := heap_lt hK.op
        simp only [mem9] at y0 y1 y2 y3 y4 y5 y6 y7 y8
        have hJ24 := hK.set (o' := mem9 s 2 4 i k d) 7 (.int .u32 d) rfl
        have hJ25 := hJ24.set (o' := mem9 s g 4 i k d) 3 (.int .i64 g) rfl
        have Hk := hJ25.nine
        clear hJ25 hJ24 hJ1 hK hd4 cN hI HI
        go_wp2
        refine bodyPost_ret (v := .agg (mem9 s g 4 i k d).vals) (by simp [results, Tryz.results206, go_sem, z0, z1, z2, z3, z4, z5, z6, z7, z8]; rfl) rfl ?_
        rw [HV.out]
        exact ⟨rfl, Hk.out _ _ _ _ _ _ _ _ _⟩
      · obtain rfl : g = -1 := by omega
        have hI := HI.out
        have hJ1 := hI.set (o' := mem9 s 2 4 i k 0) 3 (.int .i64 2) rfl
        have hV2 : V = (mem9 s 2 4 i k (sgnM 1 (bytesM X 1 σ2).1), (bytesM X 1 σ2).2) := by rw [hV.out]; simp [finE, segP, baseP, dispP]
        have HV : Hid _ := hV2
        clear hV2 hV
        have cN := signed_okR _ X σ2 _ c hJ1.st 1 (by decide)
        have hsgn := bytesM_seg X 1 σ2
        rw [hsg.out] at hsgn
        generalize bytesM X 1 σ2 = Y at *
        obtain ⟨d0, σ3⟩ := Y
        simp only at cN HV hsgn
        generalize sgnM 1 d0 = d at *
        go_wp2_with fail
        refine cN.mono ?_; rintro e w4 ⟨rfl, hd4⟩
        have hK := hJ1.call hd4
        obtain ⟨y0, y1, y2, y3, y4, y5, y6, y7, y8⟩ := res_cells hK.op
        have yz := res_fz hK.op
        obtain ⟨z0, z1, z2, z3, z4, z5, z6, z7, z8⟩ := res_cells hK.rs
        have zz := res_fz hK.rs
        have yc := hK.st.c3
        rw [hsgn] at yc
        have yl := hK.st.ltS
        have yq := heap_lt hK.op
        simp only [mem9] at y0 y1 y2 y3 y4 y5 y6 y7 y8
        have hJ24 := hK.set (o' := mem9 s 2 4 i k d) 7 (.int .u32 d) rfl
        have Hk := hJ24.nine
        clear hJ24 hJ1 hK hd4 cN hI HI
        go_wp2
        refine bodyPost_ret (v := .agg (mem9 s 2 4 i k d).vals) (by simp [results, Tryz.results206, go_sem, z0, z1, z2, z3, z4, z5, z6, z7, z8]; rfl) rfl ?_
        rw [HV.out]
        exact ⟨rfl, Hk.out _ _ _ _ _ _ _ _ _⟩
    · by_cases hb5 : b = 5
      · subst hb5
        by_cases hge : 0 ≤ g
        · have hgn : ¬ g = -1 := by omega
          have hI := HI.out
          have hJ1 := hI.set (o' := mem9 s 2 5 i k 0) 3 (.int .i64 2) rfl
          have hV2 : V = (mem9 s g 5 i k (sgnM 1 (bytesM X 1 σ2).1), (bytesM X 1 σ2).2) := by rw [hV.out]; simp [finE, segP, baseP, dispP, hgn]
          have HV : Hid _ := hV2
          clear hV2 hV
          have cN := signed_okR _ X σ2 _ c hJ1.st 1 (by decide)
          have hsgn := bytesM_seg X 1 σ2
          rw [hsg.out] at hsgn
          generalize bytesM X 1 σ2 = Y at *
          obtain ⟨d0, σ3⟩ := Y
          simp only at cN HV hsgn
          generalize sgnM 1 d0 = d at *
          go_wp2_with fail
          refine cN.mono ?_; rintro e w4 ⟨rfl, hd4⟩
          have hK := hJ1.call hd4
          obtain ⟨y0, y1, y2, y3, y4, y5, y6, y7, y8⟩ := res_cells hK.op
          have yz := res_fz hK.op
          obtain ⟨z0, z1, z2, z3, z4, z5, z6, z7, z8⟩ := res_cells hK.rs
          have zz := res_fz hK.rs
          have yc := hK.st.c3
          rw [hsgn] at yc
          have yl := hK.st.ltS
          have yq := heap_lt hK.op
          simp only [mem9] at y0 y1 y2 y3 y4 y5 y6 y7 y8
          have hJ24 := hK.set (o' := mem9 s 2 5 i k d) 7 (.int .u32 d) rfl
          have hJ25 := hJ24.set (o' := mem9 s g 5 i k d) 3 (.int .i64 g) rfl
          have Hk := hJ25.nine
          clear hJ25 hJ24 hJ1 hK hd4 cN hI HI
          go_wp2
          refine bodyPost_ret (v := .agg (mem9 s g 5 i k d).vals) (by simp [results, Tryz.results206, go_sem, z0, z1, z2, z3, z4, z5, z6, z7, z8]; rfl) rfl ?_
          rw [HV.out]
          exact ⟨rfl, Hk.out _ _ _ _ _ _ _ _ _⟩
        · obtain rfl : g = -1 := by omega
          have hI := HI.out
          have hJ1 := hI.set (o' := mem9 s 2 5 i k 0) 3 (.int .i64 2) rfl
          have hV2 : V = (mem9 s 2 5 i k (sgnM 1 (bytesM X 1 σ2).1), (bytesM X 1 σ2).2) := by rw [hV.out]; simp [finE, segP, baseP, dispP]
          have HV : Hid _ := hV2
          clear hV2 hV
          have cN := signed_okR _ X σ2 _ c hJ1.st 1 (by decide)
          have hsgn := bytesM_seg X 1 σ2
          rw [hsg.out] at hsgn
          generalize bytesM X 1 σ2 = Y at *
          obtain ⟨d0, σ3⟩ := Y
          simp only at cN HV hsgn
          generalize sgnM 1 d0 = d at *
          go_wp2_with fail
          refine cN.mono ?_; rintro e w4 ⟨rfl, hd4⟩
          have hK := hJ1.call hd4
          obtain ⟨y0, y1, y2, y3, y4, y5, y6, y7, y8⟩ := res_cells hK.op
          have yz := res_fz hK.op
          obtain ⟨z0, z1, z2, z3, z4, z5, z6, z7, z8⟩ := res_cells hK.rs
          have zz := res_fz hK.rs
          have yc := hK.st.c3
          rw [hsgn] at yc
          have yl := hK.st.ltS
          have yq := heap_lt hK.op
          simp only [mem9] at y0 y1 y2 y3 y4 y5 y6 y7 y8
          have hJ24 := hK.set (o' := mem9 s 2 5 i k d) 7 (.int .u32 d) rfl
          have Hk := hJ24.nine
          clear hJ24 hJ1 hK hd4 cN hI HI
          go_wp2
          refine bodyPost_ret (v := .agg (mem9 s 2 5 i k d).vals) (by simp [results, Tryz.results206, go_sem, z0, z1, z2, z3, z4, z5, z6, z7, z8]; rfl) rfl ?_
          rw [HV.out]
          exact ⟨rfl, Hk.out _ _ _ _ _ _ _ _ _⟩
      · have hb4' : (b == 4) = false := by simpa using hb4
        have hb5' : (b == 5) = false := by simpa using hb5
        by_cases hge : 0 ≤ g
        · have hgn : ¬ g = -1 := by omega
          have hI := HI.out
          have hV2 : V = (mem9 s g b i k (sgnM 1 (bytesM X 1 σ2).1), (bytesM X 1 σ2).2) := by rw [hV.out]; simp [finE, segP, baseP, dispP, hb5, hgn]
          have HV : Hid _ := hV2
          clear hV2 hV
          have cN := signed_okR _ X σ2 _ c hI.st 1 (by decide)
          have hsgn := bytesM_seg X 1 σ2
          rw [hsg.out] at hsgn
          generalize bytesM X 1 σ2 = Y at *
          obtain ⟨d0, σ3⟩ := Y
          simp only at cN HV hsgn
          generalize sgnM 1 d0 = d at *
          go_wp2_with fail
          refine cN.mono ?_; rintro e w4 ⟨rfl, hd4⟩
          have hK := hI.call hd4
          obtain ⟨y0, y1, y2, y3, y4, y5, y6, y7, y8⟩ := res_cells hK.op
          have yz := res_fz hK.op
          obtain ⟨z0, z1, z2, z3, z4, z5, z6, z7, z8⟩ := res_cells hK.rs
          have zz := res_fz hK.rs
          have yc := hK.st.c3
          rw [hsgn] at yc
          have yl := hK.st.ltS
          have yq := heap_lt hK.op
          simp only [mem9] at y0 y1 y2 y3 y4 y5 y6 y7 y8
          have hJ23 := hK.set (o' := mem9 s 3 b i k d) 7 (.int .u32 d) rfl
          have hJ24 := hJ23.set (o' := mem9 s g b i k d) 3 (.int .i64 g) rfl
          have Hk := hJ24.nine
          clear hJ24 hJ23 hK hd4 cN hI HI
          go_wp2
          refine bodyPost_ret (v := .agg (mem9 s g b i k d).vals) (by simp [results, Tryz.results206, go_sem, z0, z1, z2, z3, z4, z5, z6, z7, z8]; rfl) rfl ?_
          rw [HV.out]
          exact ⟨rfl, Hk.out _ _ _ _ _ _ _ _ _⟩
        · obtain rfl : g = -1 := by omega
          have hI := HI.out
          have hV2 : V = (mem9 s 3 b i k (sgnM 1 (bytesM X 1 σ2).1), (bytesM X 1 σ2).2) := by rw [hV.out]; simp [finE, segP, baseP, dispP, hb4, hb5]
          have HV : Hid _ := hV2
          clear hV2 hV
          have cN := signed_okR _ X σ2 _ c hI.st 1 (by decide)
          have hsgn := bytesM_seg X 1 σ2
          rw [hsg.out] at hsgn
          generalize bytesM X 1 σ2 = Y at *
          obtain ⟨d0, σ3⟩ := Y
          simp only at cN HV hsgn
          generalize sgnM 1 d0 = d at *
          go_wp2_with fail
          refine cN.mono ?_; rintro e w4 ⟨rfl, hd4⟩
          have hK := hI.call hd4
          obtain ⟨y0, y1, y2, y3, y4, y5, y6, y7, y8⟩ := res_cells hK.op
          have yz := res_fz hK.op
          obtain ⟨z0, z1, z2, z3, z4, z5, z6, z7, z8⟩ := res_cells hK.rs
          have zz := res_fz hK.rs
          have yc := hK.st.c3
          rw [hsgn] at yc
          have yl := hK.st.ltS
          have yq := heap_lt hK.op
          simp only [mem9] at y0 y1 y2 y3 y4 y5 y6 y7 y8
          have hJ23 := hK.set (o' := mem9 s 3 b i k d) 7 (.int .u32 d) rfl
          have Hk := hJ23.nine
          clear hJ23 hK hd4 cN hI HI
          go_wp2
          refine bodyPost_ret (v := .agg (mem9 s 3 b i k d).vals) (by simp [results, Tryz.results206, go_sem, z0, z1, z2, z3, z4, z5, z6, z7, z8]; rfl) rfl ?_
          rw [HV.out]
          exact ⟨rfl, Hk.out _ _ _ _ _ _ _ _ _⟩
set_option maxRecDepth 20000 in
theorem e_memR2 (w : World) (X : Cx) (σ : Sg) (n r c g : Int) (h : RSt X w σ (2, n, r) c) (s : Int) (V : Opd × Sg) (hV0 : Hid (V = finE X s g 2 (sibP X r σ).1.1 (sibP X r σ).1.2.1 (sibP X r σ).1.2.2 (sibP X r σ).2)) (hgs : Hid (σ.seg = g)) :
    Calls Tryz.prog 206 #[.pointer (some ⟨X.S, 0, none⟩), .int .i64 s] w fun e w' => e = .returned (.agg V.1.vals) ∧ RDn X w V.2 (2, n, r) c w' := by
  have hS := h.ltS
  have g1 : -1 ≤ g := by have := h.sg; rw [hgs.out] at this; exact this
  have h0 : RSt X (w.alloc (.cells Opd.zero.vals 26)) σ (2, n, r) c := h.alloc _
  have c6 := h.c6
  have c8 := h.c8
  simp only at c6 c8
  have hI0 := InR.start (w := w) (o := mem9 s 3 r (-1) 1 0) h0 (Kp.refl _ _) hS
  have hs1 : (w.alloc (.cells Opd.zero.vals 26)).heap.size = w.heap.size + 1 := by simp
  rw [hs1] at hI0
  have HI0 : Hid _ := hI0
  clear hI0 hs1 h h0
  go_enter Tryz.func206, Tryz.ntmps206
  go_upto_if 29 with fail
  go_cut [] from 8 (CutR X w s g 2 n r c V)
  case first =>
    by_cases hr : r = 4
    · subst hr
      have e4 : sibP X 4 σ = sibM X σ := if_pos rfl
      have cT := next_ok _ X σ _ c HI0.out.st
      have hbd := rtake_bd HI0.out.st
      have hsg := take_seg X σ
      rw [e4, sibM_eq] at hV0
      rw [hgs.out] at hsg
      generalize take X σ = Y at *
      obtain ⟨a, σ1⟩ := Y
      simp only at cT hbd hsg hV0
      obtain ⟨a0, a1⟩ := hbd
      clear e4
      go_wp2_with fail
      refine cT.mono ?_; rintro e w3 ⟨rfl, hd⟩
      have hI3 := HI0.out.call hd
      have Hsg : Hid _ := hsg
      have yl := hI3.st.ltS
      have yq := heap_lt hI3.op
      obtain ⟨t0, t1, t2, t3, t4, t5, t6, t7, t8⟩ := res_cells hI3.op
      have tz := res_fz hI3.op
      simp only [mem9] at t0 t1 t2 t3 t4 t5 t6 t7 t8
      by_cases h4 : a / 8 % 8 = 4
      · rw [if_pos h4] at hV0
        have hf : CutR X w s g 2 n 4 c V _ := ⟨_, _, _, _, hV0, Hsg.out, hI3.set (o' := mem9 s 3 (a % 8) (-1) 1 0) 4 (.int .i64 (a % 8)) rfl⟩
        have HF : Hid _ := hf
        clear hf hI3 hd cT HI0 hsg hV0
        go_wp2
        go_meet
        case rel => exact HF.out
      · rw [if_neg h4] at hV0
        rcases shl1 a a0 a1 with hs | hs | hs | hs
        all_goals
          rw [hs] at hV0
          have hf : CutR X w s g 2 n 4 c V _ := ⟨_, _, _, _, hV0, Hsg.out, ((hI3.set (o' := mem9 s 3 (a % 8) (-1) 1 0) 4 (.int .i64 (a % 8)) rfl).set (o' := mem9 s 3 (a % 8) (a / 8 % 8) 1 0) 5 (.int .i64 (a / 8 % 8)) rfl).set (o' := mem9 s 3 (a % 8) (a / 8 % 8) _ 0) 6 (.int .i64 _) rfl⟩
          have HF : Hid _ := hf
          have h4' : (a / 8 % 8 != 4) = true := by simpa using h4
          clear hf hI3 hd cT HI0 hsg hV0
          go_wp2
          go_meet
          case rel => exact HF.out
    · have e4 : sibP X r σ = ((r, -1, 1), σ) := if_neg hr
      rw [e4] at hV0
      have hf : CutR X w s g 2 n r c V _ := ⟨_, _, _, _, hV0, hgs.out, HI0.out⟩
      have HF : Hid _ := hf
      clear hf HI0 hV0 e4
      go_wp2
      go_meet
      case rel => exact HF.out
  case rest =>
    clear HI0 hV0 hgs
    obtain ⟨b, i, k, σ2, hV, hsg, hIc⟩ := hcut
    obtain ⟨x0, x1, x2, x3, x4, x5, x6, x7, x8⟩ := res_cells hIc.op
    obtain ⟨q0, q1, q2, q3, q4, q5, q6, q7, q8⟩ := res_cells hIc.rs
    have xz := res_fz hIc.op
    have qz := res_fz hIc.rs
    have d6 := hIc.st.c6
    have d3 := hIc.st.c3
    rw [hsg.out] at d3
    simp only at d6
    have dl := hIc.st.ltS
    have dq := heap_lt hIc.op
    have n1 : ¬ X.S = w.heap.size := by omega
    have n2 : ¬ w.heap.size = X.S := by omega
    have n3 : ¬ X.S = w.heap.size + 1 := by omega
    have n4 : ¬ w.heap.size + 1 = X.S := by omega
    simp only [mem9] at x0 x1 x2 x3 x4 x5 x6 x7 x8
    have HI : Hid _ := hIc
    clear hIc c6 c8
    by_cases hb4 : b = 4
    · subst hb4
      by_cases hge : 0 ≤ g
      · have hgn : ¬ g = -1 := by omega
        have hI := HI.out
        have hJ1 := hI.set (o' := mem9 s 2 4 i k 0) 3 (.int .i64 2) rfl
        have hV2 : V = (mem9 s g 4 i k (bytesM X 4 σ2).1, (bytesM X 4 σ2).2) := by rw [hV.out]; simp [finE, segP, baseP, dispP, hgn]
        have HV : Hid _ := hV2
        clear hV2 hV
        have cN := num_okR _ X σ2 _ c hJ1.st 4 (by decide)
        have hsgn := bytesM_seg X 4 σ2
        rw [hsg.out] at hsgn
        generalize bytesM X 4 σ2 = Y at *
        obtain ⟨d0, σ3⟩ := Y
        simp only at cN HV hsgn
        obtain ⟨d, hd⟩ : ∃ d, d = d0 := ⟨_, rfl⟩
        subst hd
        go_wp2_with fail
        refine cN.mono ?_; rintro e w4 ⟨rfl, hd4⟩
        have hK := hJ1.call hd4
        obtain ⟨y0, y1, y2, y3, y4, y5, y6, y7, y8⟩ := res_cells hK.op
        have yz := res_fz hK.op
        obtain ⟨z0, z1, z2, z3, z4, z5, z6, z7, z8⟩ := res_cells hK.rs
        have zz := res_fz hK.rs
        have yc := hK.st.c3
        rw [hsgn] at yc
        have yl := hK.st.ltS
        have yq := heap_lt hK.op
        simp only [mem9] at y0 y1 y2 y3 y4 y5 y6 y7 y8
        have hJ25 := hK.set (o' := mem9 s 2 4 i k d) 7 (.int .u32 d) rfl
        have hJ26 := hJ25.set (o' := mem9 s g 4 i k d) 3 (.int .i64 g) rfl
        have Hk := hJ26.nine
        clear hJ26 hJ25 hJ1 hK hd4 cN hI HI
        go_wp2
        refine bodyPost_ret (v := .agg (mem9 s g 4 i k d).vals) (by simp [results, Tryz.results206, go_sem, z0, z1, z2, z3, z4, z5, z6, z7, z8]; rfl) rfl ?_
        rw [HV.out]
        exact ⟨rfl, Hk.out _ _ _ _ _ _ _ _ _⟩
      · obtain rfl : g = -1 := by omega
        have hI := HI.out
        have hJ1 := hI.set (o' := mem9 s 2 4 i k 0) 3 (.int .i64 2) rfl
        have hV2 : V = (mem9 s 2 4 i k (bytesM X 4 σ2).1, (bytesM X 4 σ2).2) := by rw [hV.out]; simp [finE, segP, baseP, dispP]
        have HV : Hid _ := hV2
        clear hV2 hV
        have cN := num_okR _ X σ2 _ c hJ1.st 4 (by decide)
        have hsgn := bytesM_seg X 4 σ2
        rw [hsg.out] at hsgn
        generalize bytesM X 4 σ2 = Y at *
        obtain ⟨d0, σ3⟩ := Y
        simp only at cN HV hsgn
        obtain ⟨d, hd⟩ : ∃ d, d = d0 := ⟨_, rfl⟩
        subst hd
        go_wp2_with fail
        refine cN.mono ?_; rintro e w4 ⟨rfl, hd4⟩
        have hK := hJ1.call hd4
        obtain ⟨y0, y1, y2, y3, y4, y5, y6, y7, y8⟩ := res_cells hK.op
        have yz := res_fz hK.op
        obtain ⟨z0, z1, z2, z3, z4, z5, z6, z7, z8⟩ := res_cells hK.rs
        have zz := res_fz hK.rs
        have yc := hK.st.c3
        rw [hsgn] at yc
        have yl := hK.st.ltS
        have yq := heap_lt hK.op
        simp only [mem9] at y0 y1 y2 y3 y4 y5 y6 y7 y8
        have hJ25 := hK.set (o' := mem9 s 2 4 i k d) 7 (.int .u32 d) rfl
        have Hk := hJ25.nine
        clear hJ25 hJ1 hK hd4 cN hI HI
        go_wp2
        refine bodyPost_ret (v := .agg (mem9 s 2 4 i k d).vals) (by simp [results, Tryz.results206, go_sem, z0, z1, z2, z3, z4, z5, z6, z7, z8]; rfl) rfl ?_
        rw [HV.out]
        exact ⟨rfl, Hk.out _ _ _ _ _ _ _ _ _⟩
    · by_cases hb5 : b = 5
      · subst hb5
        by_cases hge : 0 ≤ g
        · have hgn : ¬ g = -1 := by omega
          have hI := HI.out
          have hJ1 := hI.set (o' := mem9 s 2 5 i k 0) 3 (.int .i64 2) rfl
          have hV2 : V = (mem9 s g 5 i k (bytesM X 4 σ2).1, (bytesM X 4 σ2).2) := by rw [hV.out]; simp [finE, segP, baseP, dispP, hgn]
          have HV : Hid _ := hV2
          clear hV2 hV
          have cN := num_okR _ X σ2 _ c hJ1.st 4 (by decide)
          have hsgn := bytesM_seg X 4 σ2
          rw [hsg.out] at hsgn
          generalize bytesM X 4 σ2 = Y at *
          obtain ⟨d0, σ3⟩ := Y
          simp only at cN HV hsgn
          obtain ⟨d, hd⟩ : ∃ d, d = d0 := ⟨_, rfl⟩
          subst hd
          go_wp2_with fail
          refine cN.mono ?_; rintro e w4 ⟨rfl, hd4⟩
          have hK := hJ1.call hd4
          obtain ⟨y0, y1, y2, y3, y4, y5, y6, y7, y8⟩ := res_cells hK.op
          have yz := res_fz hK.op
          obtain ⟨z0, z1, z2, z3, z4, z5, z6, z7, z8⟩ := res_cells hK.rs
          have zz := res_fz hK.rs
          have yc := hK.st.c3
          rw [hsgn] at yc
          have yl := hK.st.ltS
          have yq := heap_lt hK.op
          simp only [mem9] at y0 y1 y2 y3 y4 y5 y6 y7 y8
          have hJ25 := hK.set (o' := mem9 s 2 5 i k d) 7 (.int .u32 d) rfl
          have hJ26 := hJ25.set (o' := mem9 s g 5 i k d) 3 (.int .i64 g) rfl
          have Hk := hJ26.nine
          clear hJ26 hJ25 hJ1 hK hd4 cN hI HI
          go_wp2
          refine bodyPost_ret (v := .agg (mem9 s g 5 i k d).vals) (by simp [results, Tryz.results206, go_sem, z0, z1, z2, z3, z4, z5, z6, z7, z8]; rfl) rfl ?_
          rw [HV.out]
          exact ⟨rfl, Hk.out _ _ _ _ _ _ _ _ _⟩
        · obtain rfl : g = -1 := by omega
          have hI := HI.out
          have hJ1 := hI.set (o' := mem9 s 2 5 i k 0) 3 (.int .i64 2) rfl
          have hV2 : V = (mem9 s 2 5 i k (bytesM X 4 σ2).1, (bytesM X 4 σ2).2) := by rw [hV.out]; simp [finE, segP, baseP, dispP]
          have HV : Hid _ := hV2
          clear hV2 hV
          have cN := num_okR _ X σ2 _ c hJ1.st 4 (by decide)
          have hsgn := bytesM_seg X 4 σ2
          rw [hsg.out] at hsgn
          generalize bytesM X 4 σ2 = Y at *
          obtain ⟨d0, σ3⟩ := Y
          simp only at cN HV hsgn
          obtain ⟨d, hd⟩ : ∃ d, d = d0 := ⟨_, rfl⟩
          subst hd
          go_wp2_with fail
          refine cN.mono ?_; rintro e w4 ⟨rfl, hd4⟩
          have hK := hJ1.call hd4
          obtain ⟨y0, y1, y2, y3, y4, y5, y6, y7, y8⟩ := res_cells hK.op
          have yz := res_fz hK.op
          obtain ⟨z0, z1, z2, z3, z4, z5, z6, z7, z8⟩ := res_cells hK.rs
          have zz := res_fz hK.rs
          have yc := hK.st.c3
          rw [hsgn] at yc
          have yl := hK.st.ltS
          have yq := heap_lt hK.op
          simp only [mem9] at y0 y1 y2 y3 y4 y5 y6 y7 y8
          have hJ25 := hK.set (o' := mem9 s 2 5 i k d) 7 (.int .u32 d) rfl
          have Hk := hJ25.nine
          clear hJ25 hJ1 hK hd4 cN hI HI
          go_wp2
          refine bodyPost_ret (v := .agg (mem9 s 2 5 i k d).vals) (by simp [results, Tryz.results206, go_sem, z0, z1, z2, z3, z4, z5, z6, z7, z8]; rfl) rfl ?_
          rw [HV.out]
          exact ⟨rfl, Hk.out _ _ _ _ _ _ _ _ _⟩
      · have hb4' : (b == 4) = false := by simpa using hb4
        have hb5' : (b == 5) = false := by simpa using hb5
        by_cases hge : 0 ≤ g
        · have hgn : ¬ g = -1 := by omega
          have hI := HI.out
          have hV2 : V = (mem9 s g b i k (bytesM X 4 σ2).1, (bytesM X 4 σ2).2) := by rw [hV.out]; simp [finE, segP, baseP, dispP, hb5, hgn]
          have HV : Hid _ := hV2
          clear hV2 hV
          have cN := num_okR _ X σ2 _ c hI.st 4 (by decide)
          have hsgn := bytesM_seg X 4 σ2
          rw [hsg.out] at hsgn
          generalize bytesM X 4 σ2 = Y at *
          obtain ⟨d0, σ3⟩ := Y
          simp only at cN HV hsgn
          obtain ⟨d, hd⟩ : ∃ d, d = d0 := ⟨_, rfl⟩
          subst hd
          go_wp2_with fail
          refine cN.mono ?_; rintro e w4 ⟨rfl, hd4⟩
          have hK := hI.call hd4
          obtain ⟨y0, y1, y2, y3, y4, y5, y6, y7, y8⟩ := res_cells hK.op
          have yz := res_fz hK.op
          obtain ⟨z0, z1, z2, z3, z4, z5, z6, z7, z8⟩ := res_cells hK.rs
          have zz := res_fz hK.rs
          have yc := hK.st.c3
          rw [hsgn] at yc
          have yl := hK.st.ltS
          have yq := heap_lt hK.op
          simp only [mem9] at y0 y1 y2 y3 y4 y5 y6 y7 y8
          have hJ24 := hK.set (o' := mem9 s 3 b i k d) 7 (.int .u32 d) rfl
          have hJ25 := hJ24.set (o' := mem9 s g b i k d) 3 (.int .i64 g) rfl
          have Hk := hJ25.nine
          clear hJ25 hJ24 hK hd4 cN hI HI
          go_wp2
          refine bodyPost_ret (v := .agg (mem9 s g b i k d).vals) (by simp [results, Tryz.results206, go_sem, z0, z1, z2, z3, z4, z5, z6, z7, z8]; rfl) rfl ?_
          rw [HV.out]
          exact ⟨rfl, Hk.out _ _ _ _ _ _ _ _ _⟩
        · obtain rfl : g = -1 := by omega
          have hI := HI.out
          have hV2 : V = (mem9 s 3 b i k (bytesM X 4 σ2).1, (bytesM X 4 σ2).2) := by rw [hV.out]; simp [finE, segP, baseP, dispP, hb4, hb5]
          have HV : Hid _ := hV2
          clear hV2 hV
          have cN := num_okR _ X σ2 _ c hI.st 4 (by decide)
          have hsgn := bytesM_seg X 4 σ2
          rw [hsg.out] at hsgn
          generalize bytesM X 4 σ2 = Y at *
          obtain ⟨d0, σ3⟩ := Y
          simp only at cN HV hsgn
          obtain ⟨d, hd⟩ : ∃ d, d = d0 := ⟨_, rfl⟩
          subst hd
          go_wp2_with fail
          refine cN.mono ?_; rintro e w4 ⟨rfl, hd4⟩
          have hK := hI.call hd4
          obtain ⟨y0, y1, y2, y3, y4, y5, y6, y7, y8⟩ := res_cells hK.op
          have yz := res_fz hK.op
          obtain ⟨z0, z1, z2, z3, z4, z5, z6, z7, z8⟩ := res_cells hK.rs
          have zz := res_fz hK.rs
          have yc := hK.st.c3
          rw [hsgn] at yc
          have yl := hK.st.ltS
          have yq := heap_lt hK.op
          simp only [mem9] at y0 y1 y2 y3 y4 y5 y6 y7 y8
          have hJ24 := hK.set (o' := mem9 s 3 b i k d) 7 (.int .u32 d) rfl
          have Hk := hJ24.nine
          clear hJ24 hK hd4 cN hI HI
          go_wp2
          refine bodyPost_ret (v := .agg (mem9 s 3 b i k d).vals) (by simp [results, Tryz.results206, go_sem, z0, z1, z2, z3, z4, z5, z6, z7, z8]; rfl) rfl ?_
          rw [HV.out]
          exact ⟨rfl, Hk.out _ _ _ _ _ _ _ _ _⟩
end Go.Proofs.YtbfccfhjgopnbaaGreat
