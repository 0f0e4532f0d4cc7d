/- The bus and its devices: DecIs, DecOnly, DecRule0, DecSp, DecData, DecOp. -/
import Derived.Test.YtiagfmkinefidaaGreatEx07
import Derived.Deep.RegionWith
import Derived.LoopN
import Derived.LoopTactic
namespace Go.Proofs.YtiagfmkinefidaaGreat.Dc
open Go.ChangeShapes Go.WideShapes Go.ChangeAt Go.RowKit
set_option linter.unusedVariables false
set_option maxRecDepth 20000
def PartOk (X : Cx) (w0 : World) (n : Nat) (cap : Array Value) (f : Cx → Int → Sg → Opd × Sg) (s : Int) : Prop :=
  (∀ w : World, (callFunc n (#[.pointer (some ⟨X.F, 0, none⟩), .int .i64 s] ++ cap)).run Tryz.prog w = .ok (.enter n (#[.pointer (some ⟨X.F, 0, none⟩), .int .i64 s] ++ cap)) w) ∧
  ∀ (w : World) (σ : Sg), Kp X.own w0 w → St X w σ → Calls Tryz.prog n (#[.pointer (some ⟨X.F, 0, none⟩), .int .i64 s] ++ cap) w fun e w' => e = .returned (.agg (f X s σ).1.vals) ∧ Done X w (f X s σ).2 w'
def hdS (op sub size : Int) (σ : Sg) : Sg := { σ with ins := { σ.ins with op := op, sub := sub, size := size } }
def setA (p : Opd × Sg) : Sg := { p.2 with ins := { p.2.ins with a := p.1 } }
def setB (p : Opd × Sg) : Sg := { p.2 with ins := { p.2.ins with b := p.1 } }
def setC (p : Opd × Sg) : Sg := { p.2 with ins := { p.2.ins with c := p.1 } }
theorem St.rowF {X : Cx} {w : World} {σ σ' : Sg} (h : St X w σ) (o : Opd) (k : Nat) (hk : k + 9 ≤ 39) (e : ∀ fp, ((frmC X σ fp).toList.take k ++ o.vals.toList ++ (frmC X σ fp).toList.drop (k + 9)).toArray = frmC X σ' fp) (eS : srcC X σ = srcC X σ') (el : σ.fl = σ'.fl) (ea : σ.at' = σ'.at') (gd : Good σ') :
    ∃ w2, (storeCells ⟨X.F, k, none⟩ o.vals.toList).run Tryz.prog w = .ok () w2 ∧ Done X w σ' w2 := by
  obtain ⟨fp, h1, h2⟩ := h.frm
  have r := run_storeCells_at Tryz.prog X.F k 203 o.vals.toList 0 (frmC X σ fp) w h1 (by show k + 0 + 9 ≤ 39; omega) (by simp [Opd.vals, Value.oneCell'])
  refine ⟨_, r, ?_⟩
  rw [Nat.add_zero, show o.vals.toList.length = 9 from rfl, e]
  have k' : Kp X.own w (w.setRow X.F (frmC X σ' fp)) := Kp.setRow w (Or.inr rfl) _
  refine ⟨⟨h.ne, ?_, ⟨fp, ?_, ?_⟩, byt_kp h k', h.bd, h.lt, ea ▸ h.le, ea ▸ h.lL, h.los, h.lof, gd⟩, k'⟩
  · rw [← eS]; exact heap_kept h.src (Kp.setRow (S := fun k => k = X.F) w rfl _) h.ne
  · exact setRow_heap _ _ _ _ _ _ h1
  · rw [← el]; exact h2.kp k'
theorem put_A {X : Cx} {w : World} {σ : Sg} (h : St X w σ) (o : Opd) : ∃ w2, (storeCells ⟨X.F, 10, none⟩ o.vals.toList).run Tryz.prog w = .ok () w2 ∧ Done X w (setA (o, σ)) w2 :=
  h.rowF o 10 (by decide) (fun _ => rfl) rfl rfl rfl ⟨h.gd.op0, h.gd.op1, h.gd.vv, h.gd.fb⟩
theorem put_B {X : Cx} {w : World} {σ : Sg} (h : St X w σ) (o : Opd) : ∃ w2, (storeCells ⟨X.F, 19, none⟩ o.vals.toList).run Tryz.prog w = .ok () w2 ∧ Done X w (setB (o, σ)) w2 :=
  h.rowF o 19 (by decide) (fun _ => rfl) rfl rfl rfl ⟨h.gd.op0, h.gd.op1, h.gd.vv, h.gd.fb⟩
theorem put_C {X : Cx} {w : World} {σ : Sg} (h : St X w σ) (o : Opd) : ∃ w2, (storeCells ⟨X.F, 28, none⟩ o.vals.toList).run Tryz.prog w = .ok () w2 ∧ Done X w (setC (o, σ)) w2 :=
  h.rowF o 28 (by decide) (fun _ => rfl) rfl rfl rfl ⟨h.gd.op0, h.gd.op1, h.gd.vv, h.gd.fb⟩
theorem St.hd {X : Cx} {w : World} {σ : Sg} (h : St X w σ) (op sub size : Int) : Done X w (hdS op sub size σ) (((w.setCell ⟨X.F, 7, none⟩ (.int .i64 op)).setCell ⟨X.F, 8, none⟩ (.int .i64 sub)).setCell ⟨X.F, 9, none⟩ (.int .i64 size)) := by
  have g : Good { σ with ins := { σ.ins with op := op } } := ⟨h.gd.op0, h.gd.op1, h.gd.vv, h.gd.fb⟩
  have h1 := h.setF (σ' := { σ with ins := { σ.ins with op := op } }) 7 (.int .i64 op) (fun _ => rfl) rfl rfl rfl g
  have h2 := h1.setF (σ' := { σ with ins := { σ.ins with op := op, sub := sub } }) 8 (.int .i64 sub) (fun _ => rfl) rfl rfl rfl ⟨g.op0, g.op1, g.vv, g.fb⟩
  have h3 := h2.setF (σ' := hdS op sub size σ) 9 (.int .i64 size) (fun _ => rfl) rfl rfl rfl ⟨g.op0, g.op1, g.vv, g.fb⟩
  exact ⟨h3, ((Kp.setCell w (Or.inr rfl) _).trans (Kp.setCell _ (Or.inr rfl) _)).trans (Kp.setCell _ (Or.inr rfl) _)⟩
theorem St.f7 {X : Cx} {w : World} {σ : Sg} (h : St X w σ) : w.cell? ⟨X.F, 7, none⟩ = some (.int .i64 σ.ins.op) ∧ w.cell? ⟨X.F, 8, none⟩ = some (.int .i64 σ.ins.sub) ∧ w.cell? ⟨X.F, 9, none⟩ = some (.int .i64 σ.ins.size) := by
  obtain ⟨fp, h1, _⟩ := h.frm
  simp [World.cell?, h1, frmC]
structure Prt where
  n : Nat
  cap : Array Value
  f : Cx → Int → Sg → Opd × Sg
def setI (i : Nat) (p : Opd × Sg) : Sg := match i with | 0 => setA p | 1 => setB p | _ => setC p
def stp (X : Cx) (s : Int) : Nat → List Prt → Sg → Sg
  | _, [], σ => σ
  | i, p :: r, σ => stp X s (i + 1) r (setI i (p.f X s σ))
/-- The slice of parts, from place i on. -/
def Parts (X : Cx) (w0 : World) (s : Int) (pq : Option Addr) (i : Nat) (R : List Prt) (w : World) : Prop :=
  ∀ j p, R[j]? = some p → (∃ q o, pq = some ⟨q, o, none⟩ ∧ ¬ X.own q ∧ w.cell? ⟨q, o + (i + j), none⟩ = some (.func (.func p.n) #[] p.cap)) ∧ PartOk X w0 p.n p.cap p.f s
theorem Parts.kp {X : Cx} {w0 : World} {s : Int} {pq : Option Addr} {i : Nat} {R : List Prt} {w w' : World} (h : Parts X w0 s pq i R w) (k : Kp X.own w w') : Parts X w0 s pq i R w' := fun j p hj => by
  obtain ⟨⟨q, o, e, hq, hc⟩, hp⟩ := h j p hj
  exact ⟨⟨q, o, e, hq, cell_kept hc k hq⟩, hp⟩
theorem Parts.tail {X : Cx} {w0 : World} {s : Int} {pq : Option Addr} {i : Nat} {p : Prt} {R : List Prt} {w : World} (h : Parts X w0 s pq i (p :: R) w) : Parts X w0 s pq (i + 1) R w := fun j p' hj => by
  have := h (j + 1) p' (by simpa using hj)
  rw [show i + 1 + j = i + (j + 1) by omega]
  exact this
def LoopI (X : Cx) (w0 : World) (s : Int) (pq : Option Addr) (pl k : Nat) (V : Sg) (vi : Value) (wr : World) : Prop :=
  ∃ (i : Nat) (R : List Prt) (σ : Sg), vi = .int .i64 i ∧ i + R.length = k ∧ Parts X w0 s pq i R wr ∧ V = stp X s i R σ ∧ St X wr σ ∧ Kp X.own w0 wr ∧
    wr.heap[pl]? = some (.cells #[.pointer (some ⟨X.F, 10, none⟩), .pointer (some ⟨X.F, 19, none⟩), .pointer (some ⟨X.F, 28, none⟩)] 333 (0, 0))
set_option maxRecDepth 100000 in
set_option maxHeartbeats 4000000 in
theorem is_any (w : World) (X : Cx) (σ : Sg) (h : St X w σ) (op sub s : Int) (pq : Option Addr) (R0 : List Prt) (hR : R0.length ≤ 3) (hP : Parts X w s pq 0 R0 w) :
    Calls Tryz.prog 231 #[.pointer (some ⟨X.F, 0, none⟩), .int .i64 op, .int .i64 sub, .int .i64 s, .slice pq R0.length R0.length] w fun e w' => e = .returned (.tuple #[]) ∧ Done X w (stp X s 0 R0 (hdS op sub s σ)) w' := by
  obtain ⟨V, hV⟩ : ∃ V, V = stp X s 0 R0 (hdS op sub s σ) := ⟨_, rfl⟩
  obtain ⟨k, hk⟩ : ∃ k, k = R0.length := ⟨_, rfl⟩
  rw [← hV, ← hk]
  rw [← hk] at hR
  obtain ⟨c7, c8, c9⟩ := h.f7
  have z7 := h.ff 7
  have z8 := h.ff 8
  have z9 := h.ff 9
  have hF := h.ltF
  have hfre := h.fresh
  have hlow := h.low
  have hh := h.hd op sub s
  have Hstart : Hid (LoopI X w s pq w.heap.size k V (.int .i64 0) ((((w.setCell ⟨X.F, 7, none⟩ (.int .i64 op)).setCell ⟨X.F, 8, none⟩ (.int .i64 sub)).setCell ⟨X.F, 9, none⟩ (.int .i64 s)).alloc (.cells #[.pointer (some ⟨X.F, 10, none⟩), .pointer (some ⟨X.F, 19, none⟩), .pointer (some ⟨X.F, 28, none⟩)] 333)).drew) := by
    have ha := (hh.1.alloc (.cells #[.pointer (some ⟨X.F, 10, none⟩), .pointer (some ⟨X.F, 19, none⟩), .pointer (some ⟨X.F, 28, none⟩)] 333)).drewN 1
    have hb := ((hh.2.trans (Kp.alloc X.own _ (.cells #[.pointer (some ⟨X.F, 10, none⟩), .pointer (some ⟨X.F, 19, none⟩), .pointer (some ⟨X.F, 28, none⟩)] 333)))).drewN 1
    refine ⟨0, R0, hdS op sub s σ, rfl, by omega, hP.kp hb, hV, ha, hb, ?_⟩
    have hn := (MapKept.heap_alloc (((w.setCell ⟨X.F, 7, none⟩ (.int .i64 op)).setCell ⟨X.F, 8, none⟩ (.int .i64 sub)).setCell ⟨X.F, 9, none⟩ (.int .i64 s)) (.cells #[.pointer (some ⟨X.F, 10, none⟩), .pointer (some ⟨X.F, 19, none⟩), .pointer (some ⟨X.F, 28, none⟩)] 333)).1
    have e : (((w.setCell ⟨X.F, 7, none⟩ (.int .i64 op)).setCell ⟨X.F, 8, none⟩ (.int .i64 sub)).setCell ⟨X.F, 9, none⟩ (.int .i64 s)).heap.size = w.heap.size := by simp [World.setCell]
    rw [e] at hn
    exact hn
  have Hhk : Hid (k = R0.length) := hk
  clear hh hP h hV hk
  go_enter Tryz.func231, Tryz.ntmps231
  go_wp2
  go_region
  go_wp2
  go_loopw [43] (LoopI X w s pq w.heap.size k V) (fun vi _ => (k - intOf vi).toNat)
  case atStart => exact Hstart.out
  case round =>
    obtain ⟨i, R, σ', rfl, hik, hP, hV, hst, kk, hpl⟩ := hrel
    cases R with
    | nil =>
      have hki : ¬ ((i : Int) < (k : Int)) := by simp at hik; omega
      have HV : Hid (V = σ') := hV
      have Hd : Hid (Done X w σ' wr) := ⟨hst, kk⟩
      clear hV hst kk hP hpl
      go_wp2
      go_end0
      rw [HV.out]
      exact ⟨rfl, Hd.out⟩
    | cons p R =>
      have hki : (i : Int) < (k : Int) := by simp at hik; omega
      have hi3 : i < 3 := by simp at hik; omega
      obtain ⟨⟨q, o, rfl, hqo, hqc⟩, hp⟩ := hP 0 p rfl
      have hqc' : wr.cell? ⟨q, o + i, none⟩ = some (.func (.func p.n) #[] p.cap) := by simpa using hqc
      have hT := hP.tail
      have hql := cell_lt hqc'
      have hcf := hp.1
      have p0 : wr.cell? ⟨w.heap.size, 0, none⟩ = some (.pointer (some ⟨X.F, 10, none⟩)) := by simp [World.cell?, hpl]
      have p1 : wr.cell? ⟨w.heap.size, 1, none⟩ = some (.pointer (some ⟨X.F, 19, none⟩)) := by simp [World.cell?, hpl]
      have p2 : wr.cell? ⟨w.heap.size, 2, none⟩ = some (.pointer (some ⟨X.F, 28, none⟩)) := by simp [World.cell?, hpl]
      have HV : Hid (V = stp X s (i + 1) R (setI i (p.f X s σ'))) := hV
      have Hst : Hid (St X wr.drew σ') := hst.drewN 1
      have Hkk : Hid (Kp X.own w wr.drew) := kk.drewN 1
      have Hpl : Hid (wr.drew.heap[w.heap.size]? = some (.cells #[.pointer (some ⟨X.F, 10, none⟩), .pointer (some ⟨X.F, 19, none⟩), .pointer (some ⟨X.F, 28, none⟩)] 333 (0, 0))) := hpl
      have Hp : Hid (PartOk X w p.n p.cap p.f s) := hp
      have HT : Hid (Parts X w s (some ⟨q, o, none⟩) (i + 1) R wr.drew) := hT.kp ((Kp.refl _ _).drewN 1)
      have hik' : i + 1 + R.length = k := by simp at hik; omega
      clear hV hst kk hpl hp hT hP hik hqc Hstart hi3
      rcases (by omega : i = 0 ∨ i = 1 ∨ i = 2) with rfl | rfl | rfl
      · simp only [Nat.reduceAdd, Nat.add_zero] at hqc' HT hik' HV
        go_wp2
        go_region_with (refine (Hp.out.2 _ σ' Hkk.out Hst.out).mono ?_; rintro e w1 ⟨rfl, h1, k1⟩; have hpl1 := heap_kept Hpl.out k1 hfre; have y0 : w1.cell? ⟨w.heap.size, 0, none⟩ = some (.pointer (some ⟨X.F, 10, none⟩)) := (by simp [World.cell?, hpl1]); obtain ⟨w2, hs2, hd2⟩ := put_A h1 (p.f X s σ').1; have hsz := vals_size (p.f X s σ').1)
        all_goals
          go_wp2
          go_roundw
          case rel => exact ⟨1, R, _, rfl, by omega, HT.out.kp (k1.trans hd2.2), HV.out, hd2.1, Hkk.out.trans (k1.trans hd2.2), heap_kept hpl1 hd2.2 hfre⟩
          case measure => simp [intOf]; omega
      · simp only [Nat.reduceAdd] at hqc' HT hik' HV
        go_wp2
        go_region_with (refine (Hp.out.2 _ σ' Hkk.out Hst.out).mono ?_; rintro e w1 ⟨rfl, h1, k1⟩; have hpl1 := heap_kept Hpl.out k1 hfre; have y0 : w1.cell? ⟨w.heap.size, 1, none⟩ = some (.pointer (some ⟨X.F, 19, none⟩)) := (by simp [World.cell?, hpl1]); obtain ⟨w2, hs2, hd2⟩ := put_B h1 (p.f X s σ').1; have hsz := vals_size (p.f X s σ').1)
        all_goals
          go_wp2
          go_roundw
          case rel => exact ⟨2, R, _, rfl, by omega, HT.out.kp (k1.trans hd2.2), HV.out, hd2.1, Hkk.out.trans (k1.trans hd2.2), heap_kept hpl1 hd2.2 hfre⟩
          case measure => simp [intOf]; omega
      · simp only [Nat.reduceAdd] at hqc' HT hik' HV
        go_wp2
        go_region_with (refine (Hp.out.2 _ σ' Hkk.out Hst.out).mono ?_; rintro e w1 ⟨rfl, h1, k1⟩; have hpl1 := heap_kept Hpl.out k1 hfre; have y0 : w1.cell? ⟨w.heap.size, 2, none⟩ = some (.pointer (some ⟨X.F, 28, none⟩)) := (by simp [World.cell?, hpl1]); obtain ⟨w2, hs2, hd2⟩ := put_C h1 (p.f X s σ').1; have hsz := vals_size (p.f X s σ').1)
        all_goals
          go_wp2
          go_roundw
          case rel => exact ⟨3, R, _, rfl, by omega, HT.out.kp (k1.trans hd2.2), HV.out, hd2.1, Hkk.out.trans (k1.trans hd2.2), heap_kept hpl1 hd2.2 hfre⟩
          case measure => simp [intOf]; omega
end Go.Proofs.YtiagfmkinefidaaGreat.Dc
namespace Go.Proofs.YtiagfmkinefidaaGreat.Dc
open Go.ChangeShapes Go.WideShapes Go.ChangeAt Go.RowKit
set_option linter.unusedVariables false
set_option maxRecDepth 20000
def stpF (X : Cx) (s : Int) : Nat → List (Cx → Int → Sg → Opd × Sg) → Sg → Sg
  | _, [], σ => σ
  | i, f :: r, σ => stpF X s (i + 1) r (setI i (f X s σ))
theorem stp_map (X : Cx) (s : Int) : ∀ (R : List Prt) (i : Nat) (σ : Sg), stp X s i R σ = stpF X s i (R.map Prt.f) σ
  | [], _, _ => rfl
  | p :: R, i, σ => stp_map X s R (i + 1) _
/-- What 'is' makes of the form. -/
def isM (X : Cx) (op sub s : Int) (fs : List (Cx → Int → Sg → Opd × Sg)) (σ : Sg) : Sg := stpF X s 0 fs (hdS op sub s σ)
def Prt.val (p : Prt) : Value := .func (.func p.n) #[] p.cap
theorem is_gen (W : World) (X : Cx) (σ : Sg) (h : St X W σ) (op sub s : Int) (q : Nat) (R : List Prt) (hR : R.length ≤ 3) (hq : ¬ X.own q) (hh : W.heap[q]? = some (.cells (R.map Prt.val).toArray 291 (0, 0))) (hp : ∀ p ∈ R, PartOk X W p.n p.cap p.f s) :
    Calls Tryz.prog 231 #[.pointer (some ⟨X.F, 0, none⟩), .int .i64 op, .int .i64 sub, .int .i64 s, .slice (some ⟨q, 0, none⟩) R.length R.length] W fun e w' => e = .returned (.tuple #[]) ∧ Done X W (isM X op sub s (R.map Prt.f) σ) w' := by
  have c := is_any W X σ h op sub s (some ⟨q, 0, none⟩) R hR (fun j p hj => ⟨⟨q, 0, rfl, hq, by
    have : (R.map Prt.val).toArray[j]? = some p.val := by rw [List.getElem?_toArray, List.getElem?_map, hj]; rfl
    simp [World.cell?, hh, hj, Prt.val]⟩, hp p (List.mem_of_getElem? hj)⟩)
  rw [stp_map] at c
  exact c
theorem is_nil (W : World) (X : Cx) (σ : Sg) (h : St X W σ) (op sub s : Int) :
    Calls Tryz.prog 231 #[.pointer (some ⟨X.F, 0, none⟩), .int .i64 op, .int .i64 sub, .int .i64 s, .slice none 0 0] W fun e w' => e = .returned (.tuple #[]) ∧ Done X W (isM X op sub s [] σ) w' :=
  is_any W X σ h op sub s none [] (by decide) (fun j p hj => by simp at hj)
theorem plain_ok {X : Cx} {w0 : World} {n : Nat} {f : Cx → Int → Sg → Opd × Sg} {s : Int} (h1 : ∀ (a b : Value) (w : World), (callFunc n #[a, b]).run Tryz.prog w = .ok (.enter n #[a, b]) w) (h2 : ∀ (w : World) (σ : Sg), St X w σ → Calls Tryz.prog n #[.pointer (some ⟨X.F, 0, none⟩), .int .i64 s] w fun e w' => e = .returned (.agg (f X s σ).1.vals) ∧ Done X w (f X s σ).2 w') : PartOk X w0 n #[] f s :=
  ⟨fun w => h1 _ _ w, fun w σ _ hst => h2 w σ hst⟩
def pSeg (r : Int) (X : Cx) (s : Int) (σ : Sg) : Opd × Sg := (segO r, σ)
def pNum (r : Int) (X : Cx) (s : Int) (σ : Sg) : Opd × Sg := (numO r, σ)
theorem seg_ok {X : Cx} {w0 : World} {s r : Int} {q : Nat} (hq : ¬ X.own q) (hc : w0.cell? ⟨q, 0, none⟩ = some (.int .i64 r)) : PartOk X w0 456 #[.pointer (some ⟨q, 0, none⟩)] (pSeg r) s :=
  ⟨fun w => by kernel_rfl, fun w σ k hst => (segment1_ok w _ s r q (cell_kept hc k hq)).mono (by rintro e w' ⟨h1, h2⟩; exact ⟨h1, hst.no h2, h2.any⟩)⟩
theorem num_ok {X : Cx} {w0 : World} {s r : Int} {q : Nat} (hq : ¬ X.own q) (hc : w0.cell? ⟨q, 0, none⟩ = some (.int .u32 r)) : PartOk X w0 462 #[.pointer (some ⟨q, 0, none⟩)] (pNum r) s :=
  ⟨fun w => by kernel_rfl, fun w σ k hst => (constant1_ok w _ s r q (cell_kept hc k hq)).mono (by rintro e w' ⟨h1, h2⟩; exact ⟨h1, hst.no h2, h2.any⟩)⟩
theorem index_ok (w : World) (q k : Nat) (x : Int) (L : List Int) (hL : k = L.length) (hk : k ≤ 8) (hc : ∀ j, j < k → w.cell? ⟨q, j, none⟩ = some (.int .i64 (L.getD j 0))) :
    Calls Tryz.prog 520 #[.slice (some ⟨q, 0, none⟩) k k, .int .i64 x] w fun e w' => (∃ r : Int, e = .returned (.int .i64 r) ∧ decide (0 ≤ r) = L.contains x) ∧ w' = w := by
  have HL : Hid (k = L.length) := hL
  have Hc : Hid _ := hc
  clear hL hc
  go_enter Tryz.func520, Tryz.ntmps520
  go_wp2
  go_loopw [8] (fun vi wr => ∃ i : Nat, vi = .int .i64 i ∧ i ≤ k ∧ Hid (∀ j, j < i → L.getD j 0 ≠ x) ∧ wr = w) (fun vi _ => (k - intOf vi).toNat)
  case atStart => exact ⟨0, rfl, Nat.zero_le _, fun j hj => absurd hj (Nat.not_lt_zero _), rfl⟩
  case round =>
    obtain ⟨i, rfl, hi, hno, rfl⟩ := hrel
    by_cases hlt : (i : Int) < (k : Int)
    · have c := Hc.out i (by omega)
      obtain ⟨y, hy⟩ : ∃ y, y = L.getD i 0 := ⟨_, rfl⟩
      rw [← hy] at c
      have Hy : Hid (y = L.getD i 0) := hy
      clear hy
      by_cases hxy : x = y
      · go_wp2
        go_ret
        refine ⟨⟨_, rfl, ?_⟩, rfl⟩
        have hm : x ∈ L := by
          rw [hxy, Hy.out, List.getD_eq_getElem?_getD, List.getElem?_eq_getElem (by have := HL.out; omega)]
          exact List.getElem_mem _
        simp [hm]
      · go_wp2
        go_roundw
        case rel =>
          refine ⟨i + 1, by go_num, by omega, fun j hj => ?_, by first | rfl | trivial⟩
          by_cases hji : j = i
          · rw [hji, ← Hy.out]; exact fun e => hxy e.symm
          · exact hno.out j (by omega)
        case measure => simp [intOf]; omega
    · go_wp2
      go_ret
      refine ⟨⟨_, rfl, ?_⟩, rfl⟩
      have hm : x ∉ L := fun hm => by
        obtain ⟨j, hj, e⟩ := List.getElem_of_mem hm
        have := hno.out j (by have := HL.out; omega)
        rw [List.getD_eq_getElem?_getD, List.getElem?_eq_getElem hj] at this
        exact this e
      simp [hm]
theorem contains_ok (w : World) (q k : Nat) (x : Int) (L : List Int) (hL : k = L.length) (hk : k ≤ 8) (hc : ∀ j, j < k → w.cell? ⟨q, j, none⟩ = some (.int .i64 (L.getD j 0))) :
    Calls Tryz.prog 460 #[.slice (some ⟨q, 0, none⟩) k k, .int .i64 x] w fun e w' => e = .returned (.bool (L.contains x)) ∧ w' = w := by
  have c := index_ok w q k x L hL hk hc
  obtain ⟨T, hT⟩ : ∃ T, T = L.contains x := ⟨_, rfl⟩
  rw [← hT] at c ⊢
  clear hL hc hT
  go_enter Tryz.func460, Tryz.ntmps460
  go_wp2_with fail
  refine c.mono ?_; rintro e w' ⟨⟨r, rfl, hr⟩, hw⟩; replace hw := hw.symm; subst hw
  go_wp2
  go_ret
  exact ⟨ret_bool (by first | exact hr | rfl), rfl⟩
def onlyM (X : Cx) (L : List Int) (σ : Sg) : Sg := if L.contains (modrm X σ).1.2.1 = true then (modrm X σ).2 else refuse (modrm X σ).2
def onlyMem (X : Cx) (σ : Sg) : Sg := if (modrm X σ).1.1 = 3 then refuse (modrm X σ).2 else (modrm X σ).2
theorem only_ok (w : World) (X : Cx) (σ : Sg) (h : St X w σ) (q k : Nat) (L : List Int) (hL : k = L.length) (hk : k ≤ 8) (hq : ¬ X.own q) (hc : ∀ j, j < k → w.cell? ⟨q, j, none⟩ = some (.int .i64 (L.getD j 0))) :
    Calls Tryz.prog 285 #[.pointer (some ⟨X.F, 0, none⟩), .slice (some ⟨q, 0, none⟩) k k] w fun e w' => e = .returned (.tuple #[]) ∧ Done X w (onlyM X L σ) w' := by
  have cM := modrm_ok _ X σ h
  obtain ⟨⟨m, n, r⟩, hm⟩ : ∃ x, x = (modrm X σ).1 := ⟨_, rfl⟩
  obtain ⟨T, hT⟩ : ∃ T, T = L.contains n := ⟨_, rfl⟩
  have eO : onlyM X L σ = if T = true then (modrm X σ).2 else refuse (modrm X σ).2 := by unfold onlyM; rw [← hm, hT]
  rw [← hm] at cM
  simp only [mrV] at cM
  rw [eO]
  have fl1 := fld1
  clear hm eO
  have HT : Hid (T = L.contains n) := hT
  have Hc : Hid _ := hc
  have HL : Hid _ := hL
  clear hT hc hL
  cases T
  · go_enter Tryz.func285, Tryz.ntmps285
    go_wp2_with fail
    refine cM.mono ?_; rintro e w1 ⟨rfl, h1, k1⟩
    go_wp2_with fail
    refine (contains_ok w1 q k n L HL.out hk (fun j hj => cell_kept (Hc.out j hj) k1 hq)).mono ?_; rintro e w' ⟨rfl, hw⟩; subst hw
    rw [← HT.out]
    have c1 := h1.f1
    have cR := refuse_ok _ X _ h1
    go_wp2_with fail
    refine cR.mono ?_; rintro e w2 ⟨rfl, h2, k2⟩
    go_wp2
    go_end0
    exact ⟨rfl, h2, k1.trans k2⟩
  · go_enter Tryz.func285, Tryz.ntmps285
    go_wp2_with fail
    refine cM.mono ?_; rintro e w1 ⟨rfl, h1, k1⟩
    go_wp2_with fail
    refine (contains_ok w1 q k n L HL.out hk (fun j hj => cell_kept (Hc.out j hj) k1 hq)).mono ?_; rintro e w' ⟨rfl, hw⟩; subst hw
    rw [← HT.out]
    go_wp2
    go_end0
    exact ⟨rfl, h1, k1⟩
theorem onlyMem_ok (w : World) (X : Cx) (σ : Sg) (h : St X w σ) :
    Calls Tryz.prog 459 #[.pointer (some ⟨X.F, 0, none⟩)] w fun e w' => e = .returned (.tuple #[]) ∧ Done X w (onlyMem X σ) w' := by
  have cM := modrm_ok _ X σ h
  obtain ⟨⟨m, n, r⟩, hm⟩ : ∃ x, x = (modrm X σ).1 := ⟨_, rfl⟩
  have eO : onlyMem X σ = if m = 3 then refuse (modrm X σ).2 else (modrm X σ).2 := by unfold onlyMem; rw [← hm]
  rw [← hm] at cM
  simp only [mrV] at cM
  rw [eO]
  have fl0 := fld0
  clear hm eO
  by_cases h3 : m = 3
  · rw [if_pos h3]
    go_enter Tryz.func459, Tryz.ntmps459
    go_wp2_with fail
    refine cM.mono ?_; rintro e w1 ⟨rfl, h1, k1⟩
    have c1 := h1.f1
    have cR := refuse_ok _ X _ h1
    go_wp2_with fail
    refine cR.mono ?_; rintro e w2 ⟨rfl, h2, k2⟩
    go_wp2
    go_end0
    exact ⟨rfl, h2, k1.trans k2⟩
  · rw [if_neg h3]
    go_enter Tryz.func459, Tryz.ntmps459
    go_wp2_with fail
    refine cM.mono ?_; rintro e w1 ⟨rfl, h1, k1⟩
    go_wp2
    go_end0
    exact ⟨rfl, h1, k1⟩
end Go.Proofs.YtiagfmkinefidaaGreat.Dc
namespace Go.Proofs.YtiagfmkinefidaaGreat.Dc
open Go.ChangeShapes Go.WideShapes Go.ChangeAt Go.RowKit
set_option linter.unusedVariables false
set_option maxRecDepth 20000
theorem pE_ok (w : World) (X : Cx) (σ : Sg) (h : St X w σ) (s : Int) (hs : s = 1 ∨ s = 2 ∨ s = 4) :
    Calls Tryz.prog 233 #[.pointer (some ⟨X.F, 0, none⟩), .int .i64 s] w fun e w' => e = .returned (.agg (pE X s σ).1.vals) ∧ Done X w (pE X s σ).2 w' := by
  by_cases h3 : (modrm X σ).1.1 = 3
  · exact pE_reg w X σ h s h3
  · exact pE_mem w X σ h s h3
def pEb (X : Cx) (s : Int) (σ : Sg) : Opd × Sg := pE X 1 σ
def pEw (X : Cx) (s : Int) (σ : Sg) : Opd × Sg := pE X 2 σ
set_option maxHeartbeats 1000000 in
theorem pEb_ok (w : World) (X : Cx) (σ : Sg) (h : St X w σ) (s : Int) (hs : s = 1 ∨ s = 2 ∨ s = 4) :
    Calls Tryz.prog 390 #[.pointer (some ⟨X.F, 0, none⟩), .int .i64 s] w fun e w' => e = .returned (.agg (pEb X s σ).1.vals) ∧ Done X w (pEb X s σ).2 w' := by
  have hlow := h.low
  have hfre := h.fresh
  have h0 : St X (w.alloc (.cells Opd.zero.vals 38)) σ := h.alloc _
  have cB := pE_ok _ X σ h0 1 (by decide)
  show Calls _ _ _ _ fun e w' => e = .returned (.agg (pE X 1 σ).1.vals) ∧ Done X w (pE X 1 σ).2 w'
  generalize pE X 1 σ = Y at *
  obtain ⟨o, σ1⟩ := Y
  simp only at cB ⊢
  clear hs h
  go_enter Tryz.func390, Tryz.ntmps390
  go_wp2_with fail
  refine cB.mono ?_; rintro e w1 ⟨rfl, h1, k1⟩
  obtain ⟨hq0, hb0⟩ := new_res k1 hfre
  have hst := put_res hb0 o
  have hsz := vals_size o
  have hb1 := got_res hb0 o
  obtain ⟨r0, r1, r2, r3, r4, r5, r6, r7, r8⟩ := res_cells hb1
  have Hk : Hid _ := res_done k1 h1 hlow hfre o.vals
  go_wp2
  exact bodyPost_ret (v := .agg o.vals) (by simp [results, Tryz.results390, go_sem, r0, r1, r2, r3, r4, r5, r6, r7, r8]; rfl) rfl ⟨rfl, Hk.out⟩
set_option maxHeartbeats 1000000 in
theorem pEw_ok (w : World) (X : Cx) (σ : Sg) (h : St X w σ) (s : Int) (hs : s = 1 ∨ s = 2 ∨ s = 4) :
    Calls Tryz.prog 392 #[.pointer (some ⟨X.F, 0, none⟩), .int .i64 s] w fun e w' => e = .returned (.agg (pEw X s σ).1.vals) ∧ Done X w (pEw X s σ).2 w' := by
  have hlow := h.low
  have hfre := h.fresh
  have h0 : St X (w.alloc (.cells Opd.zero.vals 38)) σ := h.alloc _
  have cB := pE_ok _ X σ h0 2 (by decide)
  show Calls _ _ _ _ fun e w' => e = .returned (.agg (pE X 2 σ).1.vals) ∧ Done X w (pE X 2 σ).2 w'
  generalize pE X 2 σ = Y at *
  obtain ⟨o, σ1⟩ := Y
  simp only at cB ⊢
  clear hs h
  go_enter Tryz.func392, Tryz.ntmps392
  go_wp2_with fail
  refine cB.mono ?_; rintro e w1 ⟨rfl, h1, k1⟩
  obtain ⟨hq0, hb0⟩ := new_res k1 hfre
  have hst := put_res hb0 o
  have hsz := vals_size o
  have hb1 := got_res hb0 o
  obtain ⟨r0, r1, r2, r3, r4, r5, r6, r7, r8⟩ := res_cells hb1
  have Hk : Hid _ := res_done k1 h1 hlow hfre o.vals
  go_wp2
  exact bodyPost_ret (v := .agg o.vals) (by simp [results, Tryz.results392, go_sem, r0, r1, r2, r3, r4, r5, r6, r7, r8]; rfl) rfl ⟨rfl, Hk.out⟩
theorem okA {X : Cx} {w0 : World} {s : Int} (hs : s = 1 ∨ s = 2 ∨ s = 4) : PartOk X w0 239 #[] pA s := plain_ok (fun a b w => by kernel_rfl) (fun w σ h => pA_ok w X σ h s hs)
theorem okCL {X : Cx} {w0 : World} {s : Int} (hs : s = 1 ∨ s = 2 ∨ s = 4) : PartOk X w0 331 #[] pCL s := plain_ok (fun a b w => by kernel_rfl) (fun w σ h => pCL_ok w X σ h s hs)
theorem okDX {X : Cx} {w0 : World} {s : Int} (hs : s = 1 ∨ s = 2 ∨ s = 4) : PartOk X w0 350 #[] pDX s := plain_ok (fun a b w => by kernel_rfl) (fun w σ h => pDX_ok w X σ h s hs)
theorem okR {X : Cx} {w0 : World} {s : Int} (hs : s = 1 ∨ s = 2 ∨ s = 4) : PartOk X w0 255 #[] pR s := plain_ok (fun a b w => by kernel_rfl) (fun w σ h => pR_ok w X σ h s hs)
theorem okG {X : Cx} {w0 : World} {s : Int} (hs : s = 1 ∨ s = 2 ∨ s = 4) : PartOk X w0 234 #[] pG s := plain_ok (fun a b w => by kernel_rfl) (fun w σ h => pG_ok w X σ h s hs)
theorem okRm {X : Cx} {w0 : World} {s : Int} (hs : s = 1 ∨ s = 2 ∨ s = 4) : PartOk X w0 371 #[] pRm s := plain_ok (fun a b w => by kernel_rfl) (fun w σ h => pRm_ok w X σ h s hs)
theorem okCr {X : Cx} {w0 : World} {s : Int} (hs : s = 1 ∨ s = 2 ∨ s = 4) : PartOk X w0 372 #[] pCr s := plain_ok (fun a b w => by kernel_rfl) (fun w σ h => pCr_ok w X σ h s hs)
theorem okI {X : Cx} {w0 : World} {s : Int} (hs : s = 1 ∨ s = 2 ∨ s = 4) : PartOk X w0 240 #[] pI s := plain_ok (fun a b w => by kernel_rfl) (fun w σ h => pI_ok w X σ h s hs)
theorem okIb {X : Cx} {w0 : World} {s : Int} (hs : s = 1 ∨ s = 2 ∨ s = 4) : PartOk X w0 315 #[] pIb s := plain_ok (fun a b w => by kernel_rfl) (fun w σ h => pIb_ok w X σ h s hs)
theorem okIw {X : Cx} {w0 : World} {s : Int} (hs : s = 1 ∨ s = 2 ∨ s = 4) : PartOk X w0 318 #[] pIw s := plain_ok (fun a b w => by kernel_rfl) (fun w σ h => pIw_ok w X σ h s hs)
theorem okIs {X : Cx} {w0 : World} {s : Int} (hs : s = 1 ∨ s = 2 ∨ s = 4) : PartOk X w0 264 #[] pIs s := plain_ok (fun a b w => by kernel_rfl) (fun w σ h => pIs_ok w X σ h s hs)
theorem okJ {X : Cx} {w0 : World} {s : Int} (hs : s = 1 ∨ s = 2 ∨ s = 4) : PartOk X w0 344 #[] pJ s := plain_ok (fun a b w => by kernel_rfl) (fun w σ h => pJ_ok w X σ h s hs)
theorem okJb {X : Cx} {w0 : World} {s : Int} (hs : s = 1 ∨ s = 2 ∨ s = 4) : PartOk X w0 268 #[] pJb s := plain_ok (fun a b w => by kernel_rfl) (fun w σ h => pJb_ok w X σ h s hs)
theorem okFar {X : Cx} {w0 : World} {s : Int} (hs : s = 1 ∨ s = 2 ∨ s = 4) : PartOk X w0 347 #[] pFar s := plain_ok (fun a b w => by kernel_rfl) (fun w σ h => pFar_ok w X σ h s hs)
theorem okString {X : Cx} {w0 : World} {s : Int} (hs : s = 1 ∨ s = 2 ∨ s = 4) : PartOk X w0 461 #[] pString s := plain_ok (fun a b w => by kernel_rfl) (fun w σ h => pString_ok w X σ h s hs)
theorem okO {X : Cx} {w0 : World} {s : Int} (hs : s = 1 ∨ s = 2 ∨ s = 4) : PartOk X w0 295 #[] pO s := plain_ok (fun a b w => by kernel_rfl) (fun w σ h => pO_ok w X σ h s hs)
theorem okE {X : Cx} {w0 : World} {s : Int} (hs : s = 1 ∨ s = 2 ∨ s = 4) : PartOk X w0 233 #[] pE s := plain_ok (fun a b w => by kernel_rfl) (fun w σ h => pE_ok w X σ h s hs)
theorem okEb {X : Cx} {w0 : World} {s : Int} (hs : s = 1 ∨ s = 2 ∨ s = 4) : PartOk X w0 390 #[] pEb s := plain_ok (fun a b w => by kernel_rfl) (fun w σ h => pEb_ok w X σ h s hs)
theorem okEw {X : Cx} {w0 : World} {s : Int} (hs : s = 1 ∨ s = 2 ∨ s = 4) : PartOk X w0 392 #[] pEw s := plain_ok (fun a b w => by kernel_rfl) (fun w σ h => pEw_ok w X σ h s hs)
theorem modrm_v (X : Cx) (σ : Sg) : (modrm X σ).2.v = σ.v := by
  have ht : (take X σ).2.v = σ.v := by
    unfold take
    split
    · rfl
    · split
      · rfl
      · split <;> rfl
  unfold modrm
  split
  · rfl
  · exact ht
theorem St.vs {X : Cx} {w : World} {σ : Sg} (h : St X w σ) : σ.v = 1 ∨ σ.v = 2 ∨ σ.v = 4 := Or.inr h.gd.vv
def RuleOk (n : Nat) (g : Cx → Sg → Sg) : Prop := ∀ (w : World) (X : Cx) (σ : Sg), St X w σ → Calls Tryz.prog n #[.pointer (some ⟨X.F, 0, none⟩)] w fun e w' => e = .returned (.tuple #[]) ∧ Done X w (g X σ) w'
def isStr (X : Cx) (sub s : Int) (σ : Sg) : Sg := { isM X 36 sub s [pString] σ with ins := { (isM X 36 sub s [pString] σ).ins with rep := (isM X 36 sub s [pString] σ).rep } }
theorem isString_ok (w : World) (X : Cx) (σ : Sg) (h : St X w σ) (sub s : Int) (hs : s = 1 ∨ s = 2 ∨ s = 4) :
    Calls Tryz.prog 300 #[.pointer (some ⟨X.F, 0, none⟩), .int .i64 sub, .int .i64 s] w fun e w' => e = .returned (.tuple #[]) ∧ Done X w (isStr X sub s σ) w' := by
  have hfre := h.fresh
  have h1 : St X (w.alloc (.cells #[.func (.func 461) #[] #[]] 291)) σ := h.alloc _
  have c := is_gen _ X σ h1 36 sub s w.heap.size [⟨461, #[], pString⟩] (by decide) hfre (MapKept.heap_alloc w _).1 (by intro p hp; simp at hp; subst hp; exact okString hs)
  clear h h1 hs
  go_enter Tryz.func300, Tryz.ntmps300
  go_wp2_with fail
  refine c.mono ?_; rintro e w1 ⟨rfl, hst, k1⟩
  have f5 := hst.f5
  have hc : ∃ v, w1.cell? ⟨X.F, 37, none⟩ = some v := by obtain ⟨fp, g, _⟩ := hst.frm; exact ⟨_, by simp [World.cell?, g, frmC]; rfl⟩
  obtain ⟨v, hc⟩ := hc
  have hz := hst.ff 37
  have Hd : Hid (Done X w (isStr X sub s σ) (w1.setCell ⟨X.F, 37, none⟩ (.int .i64 (isM X 36 sub s (List.map Prt.f [⟨461, #[], pString⟩]) σ).rep))) :=
    ⟨hst.setF 37 _ (fun _ => rfl) rfl rfl rfl ⟨hst.gd.op0, hst.gd.op1, hst.gd.vv, hst.gd.fb⟩, ((Kp.alloc _ _ _).trans k1).trans (Kp.setCell _ (Or.inr rfl) _)⟩
  clear hst k1 c
  go_wp2
  go_end0
  exact ⟨rfl, Hd.out⟩
theorem St.fresh1 {X : Cx} {w : World} {σ : Sg} (h : St X w σ) : ¬ X.own (w.heap.size + 1) := by
  have := h.ltS
  have := h.ltF
  rintro (e | e) <;> omega
theorem heap2 (w : World) (a b : Obj) : ((w.alloc a).alloc b).heap[w.heap.size + 1]? = some b := by
  have h := (MapKept.heap_alloc (w.alloc a) b).1
  have e : (w.alloc a).heap.size = w.heap.size + 1 := by simp
  rw [e] at h
  exact h
theorem cell_new (w : World) (v : Value) (t : TypeId) : (w.alloc (.cells #[v] t)).cell? ⟨w.heap.size, 0, none⟩ = some v := by
  have h := (MapKept.heap_alloc w (.cells #[v] t)).1
  unfold World.cell?
  rw [h]
  rfl
end Go.Proofs.YtiagfmkinefidaaGreat.Dc
namespace Go.Proofs.YtiagfmkinefidaaGreat.Dc
open Go.ChangeShapes Go.WideShapes Go.ChangeAt Go.RowKit
set_option linter.unusedVariables false
set_option maxRecDepth 100000
def gUn (s : Int) (X : Cx) (σ : Sg) : Sg :=
  let x := modrm X σ
  let n := x.1.2.1
  if n = 0 ∨ n = 1 then isM X 1 8 s [pE, pI] x.2 else if n = 2 then isM X 1 12 s [pE] x.2 else if n = 3 then isM X 1 11 s [pE] x.2 else if n = 4 ∨ n = 5 then isM X 4 (n - 4) s [pE] x.2 else isM X 6 (n - 6) s [pE] x.2
set_option maxHeartbeats 4000000 in
theorem unary_ok (w : World) (X : Cx) (σ : Sg) (h : St X w σ) (s : Int) (hs : s = 1 ∨ s = 2 ∨ s = 4) :
    Calls Tryz.prog 357 #[.pointer (some ⟨X.F, 0, none⟩), .int .i64 s] w fun e w' => e = .returned (.tuple #[]) ∧ Done X w (gUn s X σ) w' := by
  have cM := modrm_ok w X σ h
  have hbd := modrm_bd h
  obtain ⟨V, hV⟩ : ∃ V, V = gUn s X σ := ⟨_, rfl⟩
  rw [← hV]
  unfold gUn at hV
  obtain ⟨⟨m, n, r⟩, hm⟩ : ∃ x, x = (modrm X σ).1 := ⟨_, rfl⟩
  obtain ⟨σ1, hσ1⟩ : ∃ σ1, σ1 = (modrm X σ).2 := ⟨_, rfl⟩
  simp only [← hm, ← hσ1, mrV] at cM hbd hV
  obtain ⟨_, ⟨n0, n1⟩, _⟩ := hbd
  have fl1 := fld1
  have HS : Hid _ := hs
  have HV : Hid _ := hV
  clear hm hσ1 hV hs h
  rcases (by omega : n = 0 ∨ n = 1 ∨ n = 2 ∨ n = 3 ∨ n = 4 ∨ n = 5 ∨ n = 6 ∨ n = 7) with rfl | rfl | rfl | rfl | rfl | rfl | rfl | rfl
  · go_enter Tryz.func357, Tryz.ntmps357
    go_wp2_with fail
    refine cM.mono ?_; rintro e w1 ⟨rfl, h1, k1⟩
    have cI := is_gen (w1.alloc (.cells #[.func (.func 233) #[] #[], .func (.func 240) #[] #[]] 291)) X σ1 (h1.alloc _) 1 8 s w1.heap.size [⟨233, #[], pE⟩, ⟨240, #[], pI⟩] (by simp) h1.fresh (MapKept.heap_alloc w1 _).1 (by
      intro p hp
      simp at hp
      rcases hp with rfl | rfl
      · exact okE HS.out
      · exact okI HS.out)
    go_wp2_with fail
    refine cI.mono ?_; rintro e w2 ⟨rfl, hd⟩
    have Hd : Hid (Done X w V w2) := ⟨by rw [HV.out]; exact hd.1, (k1.trans (Kp.alloc X.own w1 _)).trans hd.2⟩
    clear hd k1 h1 cI cM
    go_wp2
    go_end0
    exact ⟨rfl, Hd.out⟩
  · go_enter Tryz.func357, Tryz.ntmps357
    go_wp2_with fail
    refine cM.mono ?_; rintro e w1 ⟨rfl, h1, k1⟩
    have cI := is_gen (w1.alloc (.cells #[.func (.func 233) #[] #[], .func (.func 240) #[] #[]] 291)) X σ1 (h1.alloc _) 1 8 s w1.heap.size [⟨233, #[], pE⟩, ⟨240, #[], pI⟩] (by simp) h1.fresh (MapKept.heap_alloc w1 _).1 (by
      intro p hp
      simp at hp
      rcases hp with rfl | rfl
      · exact okE HS.out
      · exact okI HS.out)
    go_wp2_with fail
    refine cI.mono ?_; rintro e w2 ⟨rfl, hd⟩
    have Hd : Hid (Done X w V w2) := ⟨by rw [HV.out]; exact hd.1, (k1.trans (Kp.alloc X.own w1 _)).trans hd.2⟩
    clear hd k1 h1 cI cM
    go_wp2
    go_end0
    exact ⟨rfl, Hd.out⟩
  · go_enter Tryz.func357, Tryz.ntmps357
    go_wp2_with fail
    refine cM.mono ?_; rintro e w1 ⟨rfl, h1, k1⟩
    have cI := is_gen (w1.alloc (.cells #[.func (.func 233) #[] #[]] 291)) X σ1 (h1.alloc _) 1 12 s w1.heap.size [⟨233, #[], pE⟩] (by simp) h1.fresh (MapKept.heap_alloc w1 _).1 (by
      intro p hp
      simp at hp
      subst hp
      exact okE HS.out)
    go_wp2_with fail
    refine cI.mono ?_; rintro e w2 ⟨rfl, hd⟩
    have Hd : Hid (Done X w V w2) := ⟨by rw [HV.out]; exact hd.1, (k1.trans (Kp.alloc X.own w1 _)).trans hd.2⟩
    clear hd k1 h1 cI cM
    go_wp2
    go_end0
    exact ⟨rfl, Hd.out⟩
  · go_enter Tryz.func357, Tryz.ntmps357
    go_wp2_with fail
    refine cM.mono ?_; rintro e w1 ⟨rfl, h1, k1⟩
    have cI := is_gen (w1.alloc (.cells #[.func (.func 233) #[] #[]] 291)) X σ1 (h1.alloc _) 1 11 s w1.heap.size [⟨233, #[], pE⟩] (by simp) h1.fresh (MapKept.heap_alloc w1 _).1 (by
      intro p hp
      simp at hp
      subst hp
      exact okE HS.out)
    go_wp2_with fail
    refine cI.mono ?_; rintro e w2 ⟨rfl, hd⟩
    have Hd : Hid (Done X w V w2) := ⟨by rw [HV.out]; exact hd.1, (k1.trans (Kp.alloc X.own w1 _)).trans hd.2⟩
    clear hd k1 h1 cI cM
    go_wp2
    go_end0
    exact ⟨rfl, Hd.out⟩
  · go_enter Tryz.func357, Tryz.ntmps357
    go_wp2_with fail
    refine cM.mono ?_; rintro e w1 ⟨rfl, h1, k1⟩
    have cI := is_gen (w1.alloc (.cells #[.func (.func 233) #[] #[]] 291)) X σ1 (h1.alloc _) 4 0 s w1.heap.size [⟨233, #[], pE⟩] (by simp) h1.fresh (MapKept.heap_alloc w1 _).1 (by
      intro p hp
      simp at hp
      subst hp
      exact okE HS.out)
    go_wp2_with fail
    refine cI.mono ?_; rintro e w2 ⟨rfl, hd⟩
    have Hd : Hid (Done X w V w2) := ⟨by rw [HV.out]; exact hd.1, (k1.trans (Kp.alloc X.own w1 _)).trans hd.2⟩
    clear hd k1 h1 cI cM
    go_wp2
    go_end0
    exact ⟨rfl, Hd.out⟩
  · go_enter Tryz.func357, Tryz.ntmps357
    go_wp2_with fail
    refine cM.mono ?_; rintro e w1 ⟨rfl, h1, k1⟩
    have cI := is_gen (w1.alloc (.cells #[.func (.func 233) #[] #[]] 291)) X σ1 (h1.alloc _) 4 1 s w1.heap.size [⟨233, #[], pE⟩] (by simp) h1.fresh (MapKept.heap_alloc w1 _).1 (by
      intro p hp
      simp at hp
      subst hp
      exact okE HS.out)
    go_wp2_with fail
    refine cI.mono ?_; rintro e w2 ⟨rfl, hd⟩
    have Hd : Hid (Done X w V w2) := ⟨by rw [HV.out]; exact hd.1, (k1.trans (Kp.alloc X.own w1 _)).trans hd.2⟩
    clear hd k1 h1 cI cM
    go_wp2
    go_end0
    exact ⟨rfl, Hd.out⟩
  · go_enter Tryz.func357, Tryz.ntmps357
    go_wp2_with fail
    refine cM.mono ?_; rintro e w1 ⟨rfl, h1, k1⟩
    have cI := is_gen (w1.alloc (.cells #[.func (.func 233) #[] #[]] 291)) X σ1 (h1.alloc _) 6 0 s w1.heap.size [⟨233, #[], pE⟩] (by simp) h1.fresh (MapKept.heap_alloc w1 _).1 (by
      intro p hp
      simp at hp
      subst hp
      exact okE HS.out)
    go_wp2_with fail
    refine cI.mono ?_; rintro e w2 ⟨rfl, hd⟩
    have Hd : Hid (Done X w V w2) := ⟨by rw [HV.out]; exact hd.1, (k1.trans (Kp.alloc X.own w1 _)).trans hd.2⟩
    clear hd k1 h1 cI cM
    go_wp2
    go_end0
    exact ⟨rfl, Hd.out⟩
  · go_enter Tryz.func357, Tryz.ntmps357
    go_wp2_with fail
    refine cM.mono ?_; rintro e w1 ⟨rfl, h1, k1⟩
    have cI := is_gen (w1.alloc (.cells #[.func (.func 233) #[] #[]] 291)) X σ1 (h1.alloc _) 6 1 s w1.heap.size [⟨233, #[], pE⟩] (by simp) h1.fresh (MapKept.heap_alloc w1 _).1 (by
      intro p hp
      simp at hp
      subst hp
      exact okE HS.out)
    go_wp2_with fail
    refine cI.mono ?_; rintro e w2 ⟨rfl, hd⟩
    have Hd : Hid (Done X w V w2) := ⟨by rw [HV.out]; exact hd.1, (k1.trans (Kp.alloc X.own w1 _)).trans hd.2⟩
    clear hd k1 h1 cI cM
    go_wp2
    go_end0
    exact ⟨rfl, Hd.out⟩
theorem rE0_19 : RuleOk 356 (gUn 1) := by
  intro w X σ h
  have c := unary_ok w X σ h 1 (by decide)
  clear h
  go_enter Tryz.func356, Tryz.ntmps356
  go_wp2_with fail
  refine c.mono ?_; rintro e w1 ⟨rfl, hd⟩
  go_wp2
  go_end0
  exact ⟨rfl, hd⟩
theorem rE0_20 : RuleOk 358 (fun X σ => gUn σ.v X σ) := by
  intro w X σ h
  have f3 := h.f3
  have c := unary_ok w X σ h σ.v h.vs
  clear h
  go_enter Tryz.func358, Tryz.ntmps358
  go_wp2_with fail
  refine c.mono ?_; rintro e w1 ⟨rfl, hd⟩
  go_wp2
  go_end0
  exact ⟨rfl, hd⟩
def gFF (X : Cx) (σ : Sg) : Sg :=
  let x := modrm X σ
  if x.1.2.1 = 0 then isM X 1 9 x.2.v [pE] x.2 else if x.1.2.1 = 1 then isM X 1 10 x.2.v [pE] x.2 else if x.1.2.1 = 2 then isM X 29 0 x.2.v [pE] x.2 else if x.1.2.1 = 4 then isM X 27 0 x.2.v [pE] x.2 else if x.1.2.1 = 6 then isM X 12 0 x.2.v [pE] x.2 else refuse x.2
set_option maxHeartbeats 4000000 in
theorem gFF_ok : RuleOk 366 gFF := by
  intro w X σ h
  obtain ⟨V, hV⟩ : ∃ V, V = gFF X σ := ⟨_, rfl⟩
  rw [← hV]
  unfold gFF at hV
  have cM := fun W (hW : St X W σ) => modrm_ok W X σ hW
  have hbd := fun W (hW : St X W σ) => modrm_bd hW
  obtain ⟨⟨m, n, r⟩, hm⟩ : ∃ x, x = (modrm X σ).1 := ⟨_, rfl⟩
  obtain ⟨σ1, hσ1⟩ : ∃ σ1, σ1 = (modrm X σ).2 := ⟨_, rfl⟩
  simp only [← hm, ← hσ1, mrV] at cM hbd hV
  have fl1 := fld1
  have HV : Hid _ := hV
  have HM : Hid _ := cM
  have HB : Hid _ := hbd
  have Hst : Hid (St X w σ) := h
  clear hm hσ1 hV cM hbd h
  go_enter Tryz.func366, Tryz.ntmps366
  go_wp2_with fail
  refine (HM.out _ Hst.out).mono ?_; rintro e w1 ⟨rfl, h1, k1⟩
  obtain ⟨_, ⟨n0, n1⟩, _⟩ := HB.out _ Hst.out
  have f3 := h1.f3
  have f1 := h1.f1
  have H1 : Hid (St X w1 σ1) := h1
  have K1 : Hid (Kp X.own w w1) := k1
  clear h1 k1
  rcases (by omega : n = 0 ∨ n = 1 ∨ n = 2 ∨ n = 3 ∨ n = 4 ∨ n = 5 ∨ n = 6 ∨ n = 7) with rfl | rfl | rfl | rfl | rfl | rfl | rfl | rfl
  · have cI := is_gen (w1.alloc (.cells #[.func (.func 233) #[] #[]] 291)) X σ1 (H1.out.alloc _) 1 9 σ1.v w1.heap.size [⟨233, #[], pE⟩] (by simp) H1.out.fresh (MapKept.heap_alloc w1 _).1 (by
      intro p hp
      simp at hp
      subst hp
      exact okE H1.out.vs)
    go_wp2_with fail
    refine cI.mono ?_; rintro e w2 ⟨rfl, hd⟩
    have Hd : Hid (Done X w V w2) := ⟨by rw [HV.out]; exact hd.1, (K1.out.trans (Kp.alloc X.own w1 _)).trans hd.2⟩
    clear hd cI
    go_wp2
    go_end0
    exact ⟨rfl, Hd.out⟩
  · have cI := is_gen (w1.alloc (.cells #[.func (.func 233) #[] #[]] 291)) X σ1 (H1.out.alloc _) 1 10 σ1.v w1.heap.size [⟨233, #[], pE⟩] (by simp) H1.out.fresh (MapKept.heap_alloc w1 _).1 (by
      intro p hp
      simp at hp
      subst hp
      exact okE H1.out.vs)
    go_wp2_with fail
    refine cI.mono ?_; rintro e w2 ⟨rfl, hd⟩
    have Hd : Hid (Done X w V w2) := ⟨by rw [HV.out]; exact hd.1, (K1.out.trans (Kp.alloc X.own w1 _)).trans hd.2⟩
    clear hd cI
    go_wp2
    go_end0
    exact ⟨rfl, Hd.out⟩
  · have cI := is_gen (w1.alloc (.cells #[.func (.func 233) #[] #[]] 291)) X σ1 (H1.out.alloc _) 29 0 σ1.v w1.heap.size [⟨233, #[], pE⟩] (by simp) H1.out.fresh (MapKept.heap_alloc w1 _).1 (by
      intro p hp
      simp at hp
      subst hp
      exact okE H1.out.vs)
    go_wp2_with fail
    refine cI.mono ?_; rintro e w2 ⟨rfl, hd⟩
    have Hd : Hid (Done X w V w2) := ⟨by rw [HV.out]; exact hd.1, (K1.out.trans (Kp.alloc X.own w1 _)).trans hd.2⟩
    clear hd cI
    go_wp2
    go_end0
    exact ⟨rfl, Hd.out⟩
  · have cR := refuse_ok w1 X σ1 H1.out
    go_wp2_with fail
    refine cR.mono ?_; rintro e w2 ⟨rfl, hd⟩
    have Hd : Hid (Done X w V w2) := ⟨by rw [HV.out]; exact hd.1, K1.out.trans hd.2⟩
    clear hd cR
    go_wp2
    go_end0
    exact ⟨rfl, Hd.out⟩
  · have cI := is_gen (w1.alloc (.cells #[.func (.func 233) #[] #[]] 291)) X σ1 (H1.out.alloc _) 27 0 σ1.v w1.heap.size [⟨233, #[], pE⟩] (by simp) H1.out.fresh (MapKept.heap_alloc w1 _).1 (by
      intro p hp
      simp at hp
      subst hp
      exact okE H1.out.vs)
    go_wp2_with fail
    refine cI.mono ?_; rintro e w2 ⟨rfl, hd⟩
    have Hd : Hid (Done X w V w2) := ⟨by rw [HV.out]; exact hd.1, (K1.out.trans (Kp.alloc X.own w1 _)).trans hd.2⟩
    clear hd cI
    go_wp2
    go_end0
    exact ⟨rfl, Hd.out⟩
  · have cR := refuse_ok w1 X σ1 H1.out
    go_wp2_with fail
    refine cR.mono ?_; rintro e w2 ⟨rfl, hd⟩
    have Hd : Hid (Done X w V w2) := ⟨by rw [HV.out]; exact hd.1, K1.out.trans hd.2⟩
    clear hd cR
    go_wp2
    go_end0
    exact ⟨rfl, Hd.out⟩
  · have cI := is_gen (w1.alloc (.cells #[.func (.func 233) #[] #[]] 291)) X σ1 (H1.out.alloc _) 12 0 σ1.v w1.heap.size [⟨233, #[], pE⟩] (by simp) H1.out.fresh (MapKept.heap_alloc w1 _).1 (by
      intro p hp
      simp at hp
      subst hp
      exact okE H1.out.vs)
    go_wp2_with fail
    refine cI.mono ?_; rintro e w2 ⟨rfl, hd⟩
    have Hd : Hid (Done X w V w2) := ⟨by rw [HV.out]; exact hd.1, (K1.out.trans (Kp.alloc X.own w1 _)).trans hd.2⟩
    clear hd cI
    go_wp2
    go_end0
    exact ⟨rfl, Hd.out⟩
  · have cR := refuse_ok w1 X σ1 H1.out
    go_wp2_with fail
    refine cR.mono ?_; rintro e w2 ⟨rfl, hd⟩
    have Hd : Hid (Done X w V w2) := ⟨by rw [HV.out]; exact hd.1, K1.out.trans hd.2⟩
    clear hd cR
    go_wp2
    go_end0
    exact ⟨rfl, Hd.out⟩
def gSys (X : Cx) (σ : Sg) : Sg :=
  let x := modrm X (onlyMem X σ)
  if x.1.2.1 = 2 then isM X 42 0 4 [pE] x.2 else if x.1.2.1 = 3 then isM X 43 0 4 [pE] x.2 else if x.1.2.1 = 7 then isM X 46 0 4 [pE] x.2 else refuse x.2
set_option maxHeartbeats 4000000 in
theorem gSys_ok : RuleOk 368 gSys := by
  intro w X σ h
  obtain ⟨V, hV⟩ : ∃ V, V = gSys X σ := ⟨_, rfl⟩
  rw [← hV]
  unfold gSys at hV
  have cO := onlyMem_ok w X σ h
  obtain ⟨σa, hσa⟩ : ∃ σa, σa = onlyMem X σ := ⟨_, rfl⟩
  rw [← hσa] at cO hV
  clear hσa
  have cM := fun W (hW : St X W σa) => modrm_ok W X σa hW
  have hbd := fun W (hW : St X W σa) => modrm_bd hW
  obtain ⟨⟨m, n, r⟩, hm⟩ : ∃ x, x = (modrm X σa).1 := ⟨_, rfl⟩
  obtain ⟨σ1, hσ1⟩ : ∃ σ1, σ1 = (modrm X σa).2 := ⟨_, rfl⟩
  simp only [← hm, ← hσ1, mrV] at cM hbd hV
  have fl1 := fld1
  have HV : Hid _ := hV
  have HM : Hid _ := cM
  have HB : Hid _ := hbd
  have Hst : Hid (St X w σ) := h
  clear hm hσ1 hV cM hbd h
  go_enter Tryz.func368, Tryz.ntmps368
  go_wp2_with fail
  refine cO.mono ?_; rintro e wa ⟨rfl, ha, ka⟩
  go_wp2_with fail
  refine (HM.out _ ha).mono ?_; rintro e w1 ⟨rfl, h1, k1⟩
  replace k1 := ka.trans k1
  obtain ⟨_, ⟨n0, n1⟩, _⟩ := HB.out _ ha
  have f3 := h1.f3
  have f1 := h1.f1
  have H1 : Hid (St X w1 σ1) := h1
  have K1 : Hid (Kp X.own w w1) := k1
  clear h1 k1 ha ka cO
  rcases (by omega : n = 0 ∨ n = 1 ∨ n = 2 ∨ n = 3 ∨ n = 4 ∨ n = 5 ∨ n = 6 ∨ n = 7) with rfl | rfl | rfl | rfl | rfl | rfl | rfl | rfl
  · have cR := refuse_ok w1 X σ1 H1.out
    go_wp2_with fail
    refine cR.mono ?_; rintro e w2 ⟨rfl, hd⟩
    have Hd : Hid (Done X w V w2) := ⟨by rw [HV.out]; exact hd.1, K1.out.trans hd.2⟩
    clear hd cR
    go_wp2
    go_end0
    exact ⟨rfl, Hd.out⟩
  · have cR := refuse_ok w1 X σ1 H1.out
    go_wp2_with fail
    refine cR.mono ?_; rintro e w2 ⟨rfl, hd⟩
    have Hd : Hid (Done X w V w2) := ⟨by rw [HV.out]; exact hd.1, K1.out.trans hd.2⟩
    clear hd cR
    go_wp2
    go_end0
    exact ⟨rfl, Hd.out⟩
  · have cI := is_gen (w1.alloc (.cells #[.func (.func 233) #[] #[]] 291)) X σ1 (H1.out.alloc _) 42 0 4 w1.heap.size [⟨233, #[], pE⟩] (by simp) H1.out.fresh (MapKept.heap_alloc w1 _).1 (by
      intro p hp
      simp at hp
      subst hp
      exact okE (by decide))
    go_wp2_with fail
    refine cI.mono ?_; rintro e w2 ⟨rfl, hd⟩
    have Hd : Hid (Done X w V w2) := ⟨by rw [HV.out]; exact hd.1, (K1.out.trans (Kp.alloc X.own w1 _)).trans hd.2⟩
    clear hd cI
    go_wp2
    go_end0
    exact ⟨rfl, Hd.out⟩
  · have cI := is_gen (w1.alloc (.cells #[.func (.func 233) #[] #[]] 291)) X σ1 (H1.out.alloc _) 43 0 4 w1.heap.size [⟨233, #[], pE⟩] (by simp) H1.out.fresh (MapKept.heap_alloc w1 _).1 (by
      intro p hp
      simp at hp
      subst hp
      exact okE (by decide))
    go_wp2_with fail
    refine cI.mono ?_; rintro e w2 ⟨rfl, hd⟩
    have Hd : Hid (Done X w V w2) := ⟨by rw [HV.out]; exact hd.1, (K1.out.trans (Kp.alloc X.own w1 _)).trans hd.2⟩
    clear hd cI
    go_wp2
    go_end0
    exact ⟨rfl, Hd.out⟩
  · have cR := refuse_ok w1 X σ1 H1.out
    go_wp2_with fail
    refine cR.mono ?_; rintro e w2 ⟨rfl, hd⟩
    have Hd : Hid (Done X w V w2) := ⟨by rw [HV.out]; exact hd.1, K1.out.trans hd.2⟩
    clear hd cR
    go_wp2
    go_end0
    exact ⟨rfl, Hd.out⟩
  · have cR := refuse_ok w1 X σ1 H1.out
    go_wp2_with fail
    refine cR.mono ?_; rintro e w2 ⟨rfl, hd⟩
    have Hd : Hid (Done X w V w2) := ⟨by rw [HV.out]; exact hd.1, K1.out.trans hd.2⟩
    clear hd cR
    go_wp2
    go_end0
    exact ⟨rfl, Hd.out⟩
  · have cR := refuse_ok w1 X σ1 H1.out
    go_wp2_with fail
    refine cR.mono ?_; rintro e w2 ⟨rfl, hd⟩
    have Hd : Hid (Done X w V w2) := ⟨by rw [HV.out]; exact hd.1, K1.out.trans hd.2⟩
    clear hd cR
    go_wp2
    go_end0
    exact ⟨rfl, Hd.out⟩
  · have cI := is_gen (w1.alloc (.cells #[.func (.func 233) #[] #[]] 291)) X σ1 (H1.out.alloc _) 46 0 4 w1.heap.size [⟨233, #[], pE⟩] (by simp) H1.out.fresh (MapKept.heap_alloc w1 _).1 (by
      intro p hp
      simp at hp
      subst hp
      exact okE (by decide))
    go_wp2_with fail
    refine cI.mono ?_; rintro e w2 ⟨rfl, hd⟩
    have Hd : Hid (Done X w V w2) := ⟨by rw [HV.out]; exact hd.1, (K1.out.trans (Kp.alloc X.own w1 _)).trans hd.2⟩
    clear hd cI
    go_wp2
    go_end0
    exact ⟨rfl, Hd.out⟩
def gLea (X : Cx) (σ : Sg) : Sg := isM X 11 0 (onlyMem X σ).v [pG, pE] (onlyMem X σ)
theorem gLea_ok : RuleOk 282 gLea := by
  intro w X σ h
  have cO := onlyMem_ok w X σ h
  unfold gLea
  obtain ⟨σa, hσa⟩ : ∃ σa, σa = onlyMem X σ := ⟨_, rfl⟩
  rw [← hσa] at cO ⊢
  clear hσa h
  go_enter Tryz.func282, Tryz.ntmps282
  go_wp2_with fail
  refine cO.mono ?_; rintro e wa ⟨rfl, ha, ka⟩
  have f3 := ha.f3
  have cI := is_gen (wa.alloc (.cells #[.func (.func 234) #[] #[], .func (.func 233) #[] #[]] 291)) X σa (ha.alloc _) 11 0 σa.v wa.heap.size [⟨234, #[], pG⟩, ⟨233, #[], pE⟩] (by simp) ha.fresh (MapKept.heap_alloc wa _).1 (by
    intro p hp
    simp at hp
    rcases hp with rfl | rfl
    · exact okG ha.vs
    · exact okE ha.vs)
  go_wp2_with fail
  refine cI.mono ?_; rintro e w2 ⟨rfl, hd⟩
  have Hd : Hid (Done X w _ w2) := ⟨hd.1, (ka.trans (Kp.alloc X.own wa _)).trans hd.2⟩
  clear hd cI ha ka cO
  go_wp2
  go_end0
  exact ⟨rfl, Hd.out⟩
def gTo (X : Cx) (σ : Sg) : Sg := isM X 8 0 2 [pSeg (modrm X (onlyM X [0, 2, 3, 4, 5] σ)).1.2.1, pE] (modrm X (onlyM X [0, 2, 3, 4, 5] σ)).2
set_option maxHeartbeats 2000000 in
theorem gTo_ok : RuleOk 283 gTo := by
  intro w X σ h
  unfold gTo
  have h0 : St X (w.alloc (.cells #[.int .i64 0, .int .i64 2, .int .i64 3, .int .i64 4, .int .i64 5] 3)) σ := h.alloc _
  have hn0 := (MapKept.heap_alloc w (.cells #[.int .i64 0, .int .i64 2, .int .i64 3, .int .i64 4, .int .i64 5] 3)).1
  have cO := only_ok _ X σ h0 w.heap.size 5 [0, 2, 3, 4, 5] rfl (by decide) h.fresh (fun j hj => by
    rcases (by omega : j = 0 ∨ j = 1 ∨ j = 2 ∨ j = 3 ∨ j = 4) with rfl | rfl | rfl | rfl | rfl <;> (unfold World.cell?; rw [hn0]; rfl))
  obtain ⟨σa, hσa⟩ : ∃ σa, σa = onlyM X [0, 2, 3, 4, 5] σ := ⟨_, rfl⟩
  rw [← hσa] at cO ⊢
  have cM := fun W (hW : St X W σa) => modrm_ok W X σa hW
  obtain ⟨⟨m, n, r⟩, hm⟩ : ∃ x, x = (modrm X σa).1 := ⟨_, rfl⟩
  obtain ⟨σ1, hσ1⟩ : ∃ σ1, σ1 = (modrm X σa).2 := ⟨_, rfl⟩
  rw [← hm, ← hσ1]
  simp only [← hm, ← hσ1, mrV] at cM ⊢
  have fl1 := fld1
  have HM : Hid _ := cM
  clear hσa h h0 hn0 hm hσ1 cM
  go_enter Tryz.func283, Tryz.ntmps283
  go_wp2_with fail
  refine cO.mono ?_; rintro e wa ⟨rfl, ha, ka⟩
  replace ka := (Kp.alloc X.own w _).trans ka
  clear cO
  go_wp2_with fail
  refine (HM.out _ ha).mono ?_; rintro e w1 ⟨rfl, h1, k1⟩
  go_wp2_with fail
  refine (segment_ok _ _).mono ?_; rintro e w3 ⟨rfl, hw⟩; subst hw
  have cI := is_gen ((w1.alloc (.cells #[.int .i64 n] 3)).alloc (.cells #[.func (.func 456) #[] #[.pointer (some ⟨w1.heap.size, 0, none⟩)], .func (.func 233) #[] #[]] 291)) X σ1 ((h1.alloc _).alloc _) 8 0 2 (w1.heap.size + 1) [⟨456, #[.pointer (some ⟨w1.heap.size, 0, none⟩)], pSeg n⟩, ⟨233, #[], pE⟩] (by simp) h1.fresh1 (heap2 w1 _ _) (by
    intro p hp
    simp at hp
    rcases hp with rfl | rfl
    · exact seg_ok h1.fresh (cell_kept (cell_new w1 (.int .i64 n) 3) (Kp.alloc X.own _ _) h1.fresh)
    · exact okE (by decide))
  go_wp2_with fail
  refine cI.mono ?_; rintro e w2 ⟨rfl, hd⟩
  have Hd : Hid (Done X w _ w2) := ⟨hd.1, (((ka.trans k1).trans (Kp.alloc X.own _ _)).trans (Kp.alloc X.own _ _)).trans hd.2⟩
  clear hd cI ha ka h1 k1
  go_wp2
  go_end0
  exact ⟨rfl, Hd.out⟩
def gFrom (X : Cx) (σ : Sg) : Sg :=
  let x := modrm X (onlyM X [0, 1, 2, 3, 4, 5] σ)
  let y := modrm X x.2
  isM X 8 0 (if x.1.1 = 3 then x.2.v else 2) [pE, pSeg y.1.2.1] y.2
set_option maxHeartbeats 4000000 in
theorem gFrom_ok : RuleOk 281 gFrom := by
  intro w X σ h
  unfold gFrom
  have h0 : St X (w.alloc (.cells #[.int .i64 0, .int .i64 1, .int .i64 2, .int .i64 3, .int .i64 4, .int .i64 5] 3)) σ := h.alloc _
  have hn0 := (MapKept.heap_alloc w (.cells #[.int .i64 0, .int .i64 1, .int .i64 2, .int .i64 3, .int .i64 4, .int .i64 5] 3)).1
  have cO := only_ok _ X σ h0 w.heap.size 6 [0, 1, 2, 3, 4, 5] rfl (by decide) h.fresh (fun j hj => by
    rcases (by omega : j = 0 ∨ j = 1 ∨ j = 2 ∨ j = 3 ∨ j = 4 ∨ j = 5) with rfl | rfl | rfl | rfl | rfl | rfl <;> (unfold World.cell?; rw [hn0]; rfl))
  obtain ⟨σa, hσa⟩ : ∃ σa, σa = onlyM X [0, 1, 2, 3, 4, 5] σ := ⟨_, rfl⟩
  rw [← hσa] at cO ⊢
  have cM := fun W (hW : St X W σa) => modrm_ok W X σa hW
  obtain ⟨⟨m, n, r⟩, hm⟩ : ∃ x, x = (modrm X σa).1 := ⟨_, rfl⟩
  obtain ⟨σ1, hσ1⟩ : ∃ σ1, σ1 = (modrm X σa).2 := ⟨_, rfl⟩
  have cM2 := fun W (hW : St X W σ1) => modrm_ok W X σ1 hW
  obtain ⟨⟨m2, n2, r2⟩, hm2⟩ : ∃ x, x = (modrm X σ1).1 := ⟨_, rfl⟩
  obtain ⟨σ2, hσ2⟩ : ∃ σ2, σ2 = (modrm X σ1).2 := ⟨_, rfl⟩
  simp only [← hm, ← hσ1, ← hm2, ← hσ2, mrV] at cM cM2 ⊢
  obtain ⟨s, hs⟩ : ∃ s, s = if m = 3 then σ1.v else 2 := ⟨_, rfl⟩
  rw [← hs]
  have fl0 := fld0
  have fl1 := fld1
  have HM : Hid _ := cM
  have HM2 : Hid _ := cM2
  have HS : Hid _ := hs
  clear hσa h h0 hn0 hm hσ1 cM hm2 hσ2 cM2 hs
  go_enter Tryz.func281, Tryz.ntmps281
  go_wp2_with fail
  refine cO.mono ?_; rintro e wa ⟨rfl, ha, ka⟩
  replace ka := (Kp.alloc X.own w _).trans ka
  clear cO
  go_wp2_with fail
  refine (HM.out _ ha).mono ?_; rintro e w1 ⟨rfl, h1, k1⟩
  have f3 := h1.f3
  by_cases h3 : m = 3
  · have hs1 : σ1.v = s := by rw [HS.out, if_pos h3]
    have hsz : s = 1 ∨ s = 2 ∨ s = 4 := by rw [← hs1]; exact h1.vs
    rw [hs1] at f3
    have HZ : Hid _ := hsz
    clear hsz hs1
    go_wp2_with fail
    refine (HM2.out _ h1).mono ?_; rintro e w2 ⟨rfl, h2, k2⟩
    go_wp2_with fail
    refine (segment_ok _ _).mono ?_; rintro e w3 ⟨rfl, hw⟩; subst hw
    have cI := is_gen ((w2.alloc (.cells #[.int .i64 n2] 3)).alloc (.cells #[.func (.func 233) #[] #[], .func (.func 456) #[] #[.pointer (some ⟨w2.heap.size, 0, none⟩)]] 291)) X σ2 ((h2.alloc _).alloc _) 8 0 s (w2.heap.size + 1) [⟨233, #[], pE⟩, ⟨456, #[.pointer (some ⟨w2.heap.size, 0, none⟩)], pSeg n2⟩] (by simp) h2.fresh1 (heap2 w2 _ _) (by
      intro p hp
      simp at hp
      rcases hp with rfl | rfl
      · exact okE HZ.out
      · exact seg_ok h2.fresh (cell_kept (cell_new w2 (.int .i64 n2) 3) (Kp.alloc X.own _ _) h2.fresh))
    go_wp2_with fail
    refine cI.mono ?_; rintro e w4 ⟨rfl, hd⟩
    have Hd : Hid (Done X w _ w4) := ⟨hd.1, ((((ka.trans k1).trans k2).trans (Kp.alloc X.own _ _)).trans (Kp.alloc X.own _ _)).trans hd.2⟩
    clear hd cI ha ka h1 k1 h2 k2
    go_wp2
    go_end0
    exact ⟨rfl, Hd.out⟩
  · have hs1 : s = 2 := by rw [HS.out, if_neg h3]
    have HS1 : Hid _ := hs1
    clear hs1
    go_wp2_with fail
    refine (HM2.out _ h1).mono ?_; rintro e w2 ⟨rfl, h2, k2⟩
    go_wp2_with fail
    refine (segment_ok _ _).mono ?_; rintro e w3 ⟨rfl, hw⟩; subst hw
    have cI := is_gen ((w2.alloc (.cells #[.int .i64 n2] 3)).alloc (.cells #[.func (.func 233) #[] #[], .func (.func 456) #[] #[.pointer (some ⟨w2.heap.size, 0, none⟩)]] 291)) X σ2 ((h2.alloc _).alloc _) 8 0 2 (w2.heap.size + 1) [⟨233, #[], pE⟩, ⟨456, #[.pointer (some ⟨w2.heap.size, 0, none⟩)], pSeg n2⟩] (by simp) h2.fresh1 (heap2 w2 _ _) (by
      intro p hp
      simp at hp
      rcases hp with rfl | rfl
      · exact okE (by decide)
      · exact seg_ok h2.fresh (cell_kept (cell_new w2 (.int .i64 n2) 3) (Kp.alloc X.own _ _) h2.fresh))
    go_wp2_with fail
    refine cI.mono ?_; rintro e w4 ⟨rfl, hd⟩
    have Hd : Hid (Done X w (isM X 8 0 2 [pE, pSeg n2] σ2) w4) := ⟨hd.1, ((((ka.trans k1).trans k2).trans (Kp.alloc X.own _ _)).trans (Kp.alloc X.own _ _)).trans hd.2⟩
    clear hd cI ha ka h1 k1 h2 k2
    go_wp2
    go_end0
    rw [HS1.out]
    exact ⟨rfl, Hd.out⟩
end Go.Proofs.YtiagfmkinefidaaGreat.Dc
namespace Go.Proofs.YtiagfmkinefidaaGreat.Dc
open Go.ChangeShapes Go.WideShapes Go.ChangeAt Go.RowKit
set_option linter.unusedVariables false
set_option maxRecDepth 20000
/-- What is told of the sub-number. -/
inductive Sb
  | k (x : Int)
  | opn
  | opc
  | mn
  | mp9
  | mm4
  deriving DecidableEq
inductive Szk
  | k (x : Int)
  | v
  deriving DecidableEq
inductive Gt
  | no
  | only (L : List Int)
  | mem
  deriving DecidableEq
inductive Pt
  | A
  | CL
  | DX
  | R
  | G
  | Rm
  | Cr
  | I
  | Ib
  | Iw
  | Is
  | J
  | Jb
  | Far
  | O
  | E
  | Eb
  | Ew
  | Seg (r : Int)
  | Num (r : Int)
  deriving DecidableEq
def Pt.f : Pt → Cx → Int → Sg → Opd × Sg
  | .A => pA
  | .CL => pCL
  | .DX => pDX
  | .R => pR
  | .G => pG
  | .Rm => pRm
  | .Cr => pCr
  | .I => pI
  | .Ib => pIb
  | .Iw => pIw
  | .Is => pIs
  | .J => pJ
  | .Jb => pJb
  | .Far => pFar
  | .O => pO
  | .E => pE
  | .Eb => pEb
  | .Ew => pEw
  | .Seg r => pSeg r
  | .Num r => pNum r
structure Row where
  gt : Gt
  op : Int
  sb : Sb
  sz : Szk
  ps : List Pt
  deriving DecidableEq
def Szk.of (z : Szk) (σ : Sg) : Int := match z with | .k x => x | .v => σ.v
def Gt.g (t : Gt) (X : Cx) (σ : Sg) : Sg := match t with | .no => σ | .only L => onlyM X L σ | .mem => onlyMem X σ
def Row.is (r : Row) (X : Cx) (σ : Sg) : Sg :=
  match r.sb with
  | .k x => isM X r.op x (r.sz.of σ) (r.ps.map Pt.f) σ
  | .opn => isM X r.op (σ.op / 8 % 8) (r.sz.of σ) (r.ps.map Pt.f) σ
  | .opc => isM X r.op (σ.op % 16) (r.sz.of σ) (r.ps.map Pt.f) σ
  | .mn => isM X r.op (modrm X σ).1.2.1 (r.sz.of σ) (r.ps.map Pt.f) (modrm X σ).2
  | .mp9 => isM X r.op (9 + (modrm X σ).1.2.1) (r.sz.of σ) (r.ps.map Pt.f) (modrm X σ).2
  | .mm4 => isM X r.op ((modrm X σ).1.2.1 - 4) (r.sz.of σ) (r.ps.map Pt.f) (modrm X σ).2
def Row.g (r : Row) (X : Cx) (σ : Sg) : Sg := r.is X (r.gt.g X σ)
/-- What an opcode asks. -/
inductive Rule
  | row (r : Row)
  | str (sub : Int) (z : Szk)
  | un (z : Szk)
  | ff
  | sys
  | to
  | frm
  deriving DecidableEq
def Rule.g : Rule → Cx → Sg → Sg
  | .row r, X, σ => r.g X σ
  | .str sub z, X, σ => isStr X sub (z.of σ) σ
  | .un z, X, σ => gUn (z.of σ) X σ
  | .ff, X, σ => gFF X σ
  | .sys, X, σ => gSys X σ
  | .to, X, σ => gTo X σ
  | .frm, X, σ => gFrom X σ
/-- A rule's function does what its row says, and can be called. -/
def RowOk (n : Nat) (r : Rule) : Prop := RuleOk n r.g ∧ ∀ (a : Value) (w : World), (callFunc n #[a]).run Tryz.prog w = .ok (.enter n #[a]) w
end Go.Proofs.YtiagfmkinefidaaGreat.Dc
namespace Go.Proofs.YtiagfmkinefidaaGreat.Dc
open Go.ChangeShapes Go.WideShapes Go.ChangeAt Go.RowKit
set_option linter.unusedVariables false
set_option maxRecDepth 20000
def preL (X : Cx) : Nat → Int → Sg → Int × Sg
  | 0, b, σ => (b, σ)
  | n + 1, b, σ => if isPre b = true then preL X n (take X (preS b σ)).1 (take X (preS b σ)).2 else (b, σ)
def opcodeM (X : Cx) (σ : Sg) : Int × Sg :=
  let p := preL X 16 (take X σ).1 (take X σ).2
  if p.1 = 15 then (3840 + (take X p.2).1, (take X p.2).2) else p
theorem preS_at (b : Int) (σ : Sg) : (preS b σ).at' = σ.at' ∧ (preS b σ).err = σ.err := by
  unfold preS
  repeat' split
  all_goals exact ⟨rfl, rfl⟩
/-- A byte that is a prefix was there. -/
theorem take_pre (X : Cx) (σ : Sg) (h : isPre (take X σ).1 = true) : (take X σ).2.at' = σ.at' + 1 ∧ (take X σ).2.err = 0 := by
  revert h
  unfold take
  split
  · intro h; cases h
  · rename_i he
    split
    · intro h; cases h
    · split
      · intro h; cases h
      · intro _; exact ⟨rfl, by simpa using he⟩
def mM (σ : Sg) : Nat := 2 * (16 - σ.at') + if σ.err = 0 then 1 else 0
theorem take_less (X : Cx) (σ : Sg) (h : σ.err = 0) (hl : σ.at' ≤ 15) : mM (take X σ).2 < mM σ := by
  unfold take
  rw [if_neg (by simpa using h)]
  split
  · simp [mM, h]
  · split
    · simp [mM, h]
    · simp only [mM, h, if_true]; omega
def LoopP (X : Cx) (w0 : World) (V : Int × Sg) (vb : Value) (wr : World) : Prop :=
  ∃ (n : Nat) (b : Int) (σ : Sg), vb = .int .i64 b ∧ (0 ≤ b ∧ b < 256) ∧ V = preL X n b σ ∧ (isPre b = true → 16 ≤ σ.at' + n ∧ σ.err = 0) ∧ St X wr σ ∧ Kp X.own w0 wr
/-- How far the reader is: read off the world. -/
def leftOf (X : Cx) (w : World) : Nat := match w.cell? ⟨X.S, 1, none⟩, w.cell? ⟨X.S, 2, none⟩ with | some (.int _ a), some (.int _ e) => 2 * (16 - a.toNat) + if e = 0 then 1 else 0 | _, _ => 0
theorem leftOf_eq {X : Cx} {w : World} {σ : Sg} (h : St X w σ) : leftOf X w = mM σ := by
  unfold leftOf
  rw [h.s1, h.s2]
  rfl
set_option maxHeartbeats 2000000 in
theorem opcode_ok (w : World) (X : Cx) (σ : Sg) (h : St X w σ) :
    Calls Tryz.prog 88 #[.pointer (some ⟨X.F, 0, none⟩)] w fun e w' => e = .returned (.int .i64 (opcodeM X σ).1) ∧ Done X w (opcodeM X σ).2 w' := by
  have c0 := h.f0
  have cT := take_ok w X σ h
  have hbd := take_bd h
  have hpr := take_pre X σ
  obtain ⟨V, hV⟩ : ∃ V, V = preL X 16 (take X σ).1 (take X σ).2 := ⟨_, rfl⟩
  have eO : opcodeM X σ = if V.1 = 15 then (3840 + (take X V.2).1, (take X V.2).2) else V := by rw [hV]; rfl
  obtain ⟨Z, hZ⟩ : ∃ Z, Z = opcodeM X σ := ⟨_, rfl⟩
  rw [← hZ]
  have HZ : Hid (Z = if V.1 = 15 then (3840 + (take X V.2).1, (take X V.2).2) else V) := hZ.trans eO
  clear eO hZ
  generalize (take X σ).1 = b at *
  generalize (take X σ).2 = σ1 at *
  have HV : Hid (V = preL X 16 b σ1) := hV
  clear hV h
  go_enter Tryz.func88, Tryz.ntmps88
  go_wp2_with fail
  refine cT.mono ?_; rintro e w1 ⟨rfl, h1, k1⟩
  have Hstart : Hid (LoopP X w V (.int .i64 b) w1) := ⟨16, b, σ1, rfl, hbd, HV.out, fun hb => ⟨by omega, (hpr hb).2⟩, h1, k1⟩
  clear h1 k1 cT hbd HV c0 hpr
  go_wp2_with fail
  go_loopw [3] (LoopP X w V) (fun _ wr => leftOf X wr)
  case atStart => exact Hstart.out
  case round =>
    obtain ⟨n, b', σ', rfl, hb', hV, hpr, hst, kk⟩ := hrel
    have c0 := hst.f0
    have cP := prefix_ok wr X σ' hst b'
    have Hst : Hid (St X wr σ') := hst
    have Hkk : Hid (Kp X.own w wr) := kk
    have Hpr : Hid (isPre b' = true → 16 ≤ σ'.at' + n ∧ σ'.err = 0) := hpr
    have HV : Hid (V = preL X n b' σ') := hV
    obtain ⟨b0, b1⟩ := hb'
    obtain ⟨T, hT⟩ : ∃ T, T = isPre b' := ⟨_, rfl⟩
    rw [← hT] at cP
    have HT : Hid (T = isPre b') := hT
    clear hst kk hpr hV hT
    cases T
    · have hp0 : preS b' σ' = σ' := by
        have h := HT.out
        unfold preS
        simp [isPre] at h
        obtain ⟨⟨⟨⟨⟨⟨⟨⟨x1, x2⟩, x3⟩, x4⟩, x5⟩, x6⟩, x7⟩, x8⟩, x9⟩ := h
        simp [x1, x2, x3, x4, x5, x6, x7, x8, x9]
      rw [hp0] at cP
      have hVe : V = (b', σ') := by
        rw [HV.out]
        cases n with
        | zero => rfl
        | succ n => unfold preL; rw [← HT.out]; rfl
      have HVe : Hid (V = (b', σ')) := hVe
      clear hVe hp0
      by_cases h15 : b' = 15
      · subst h15
        go_wp2_with fail
        refine cP.mono ?_; rintro e w2 ⟨rfl, h2, k2⟩
        have c2 := h2.f0
        have cT := take_ok w2 X σ' h2
        have hbd := take_bd h2
        obtain ⟨t0, t1⟩ := hbd
        go_wp2_with fail
        refine cT.mono ?_; rintro e w3 ⟨rfl, h3, k3⟩
        have Hd : Hid (Done X w (take X σ').2 w3) := ⟨h3, (Hkk.out.trans k2).trans k3⟩
        clear h3 k3 h2 k2 cT cP
        go_wp2
        go_ret
        rw [HZ.out, HVe.out]
        exact ⟨rfl, Hd.out⟩
      · go_wp2_with fail
        refine cP.mono ?_; rintro e w2 ⟨rfl, h2, k2⟩
        have Hd : Hid (Done X w σ' w2) := ⟨h2, Hkk.out.trans k2⟩
        clear h2 k2 cP
        go_wp2
        go_ret
        rw [HZ.out, HVe.out, if_neg h15]
        exact ⟨rfl, Hd.out⟩
    · obtain ⟨hn, herr⟩ := Hpr.out HT.out.symm
      have hle := Hst.out.le
      obtain ⟨n', rfl⟩ : ∃ n', n = n' + 1 := ⟨n - 1, by omega⟩
      have hpa := preS_at b' σ'
      have hless := take_less X (preS b' σ') (hpa.2.trans herr) (by rw [hpa.1]; exact hle)
      have hmm : mM (preS b' σ') = mM σ' := by unfold mM; rw [hpa.1, hpa.2]
      have hV2 : V = preL X n' (take X (preS b' σ')).1 (take X (preS b' σ')).2 := by
        rw [HV.out]; show (if isPre b' = true then _ else _) = _; rw [if_pos HT.out.symm]
      have hpre := take_pre X (preS b' σ')
      have HA : Hid (mM (take X (preS b' σ')).2 < mM σ' ∧ V = preL X n' (take X (preS b' σ')).1 (take X (preS b' σ')).2 ∧ (isPre (take X (preS b' σ')).1 = true → 16 ≤ (take X (preS b' σ')).2.at' + n' ∧ (take X (preS b' σ')).2.err = 0)) :=
        ⟨by omega, hV2, fun hx => ⟨by have := (hpre hx).1; rw [hpa.1] at this; omega, (hpre hx).2⟩⟩
      clear hpre hV2 hmm hless hpa hn herr hle
      go_wp2_with fail
      refine cP.mono ?_; rintro e w2 ⟨rfl, h2, k2⟩
      have c2 := h2.f0
      have cT := take_ok w2 X _ h2
      have hbd := take_bd h2
      go_wp2_with fail
      refine cT.mono ?_; rintro e w3 ⟨rfl, h3, k3⟩
      have HB : Hid (LoopP X w V (.int .i64 (take X (preS b' σ')).1) w3) := ⟨n', _, _, rfl, hbd, HA.out.2.1, HA.out.2.2, h3, (Hkk.out.trans k2).trans k3⟩
      have HM : Hid (leftOf X w3 < leftOf X wr) := by
        show leftOf X w3 < leftOf X wr
        rw [leftOf_eq h3, leftOf_eq Hst.out]; exact HA.out.1
      clear h3 k3 h2 k2 cT cP hbd
      go_wp2
      go_roundw
      case rel => exact HB.out
      case measure => exact HM.out
end Go.Proofs.YtiagfmkinefidaaGreat.Dc
