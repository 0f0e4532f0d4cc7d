/- The contract of 'is': what the instruction is, and its parts in their order. -/
import Derived.Test.YtolnaodlghahlaaGreatDoorDecPart
import Derived.Deep.RegionWith
import Derived.LoopN
namespace Go.Proofs.YtolnaodlghahlaaGreatDoor
open Go.ChangeShapes Go.WideShapes Go.ChangeAt Go.RowKit
set_option linter.unusedVariables false

def PartOk (X : Cx) (w0 : World) (n : Nat) (cap : Array Value) (f : Cx → Int → Sg → Opd × Sg) (s : Int) : Prop :=
  (∀ w : World, (callFunc n (#[.pointer (some ⟨X.F, 0, none⟩), .int .i64 s] ++ cap)).run Tryz.prog w = .ok (.enter n (#[.pointer (some ⟨X.F, 0, none⟩), .int .i64 s] ++ cap)) w) ∧
  ∀ (w : World) (σ : Sg), Kp X.own w0 w → St X w σ → Calls Tryz.prog n (#[.pointer (some ⟨X.F, 0, none⟩), .int .i64 s] ++ cap) w fun e w' => e = .returned (.agg (f X s σ).1.vals) ∧ Done X w (f X s σ).2 w'

def hdS (op sub size : Int) (σ : Sg) : Sg := { σ with ins := { σ.ins with op := op, sub := sub, size := size } }
def setA (p : Opd × Sg) : Sg := { p.2 with ins := { p.2.ins with a := p.1 } }
def setB (p : Opd × Sg) : Sg := { p.2 with ins := { p.2.ins with b := p.1 } }
def setC (p : Opd × Sg) : Sg := { p.2 with ins := { p.2.ins with c := p.1 } }

theorem St.rowF {X : Cx} {w : World} {σ σ' : Sg} (h : St X w σ) (o : Opd) (k : Nat) (hk : k + 9 ≤ 39) (e : ∀ fp, ((frmC X σ fp).toList.take k ++ o.vals.toList ++ (frmC X σ fp).toList.drop (k + 9)).toArray = frmC X σ' fp) (eS : srcC X σ = srcC X σ') (el : σ.fl = σ'.fl) (ea : σ.at' = σ'.at') (gd : Good σ') :
    ∃ w2, (storeCells ⟨X.F, k, none⟩ o.vals.toList).run Tryz.prog w = .ok () w2 ∧ Done X w σ' w2 := by
  obtain ⟨fp, h1, h2⟩ := h.frm
  have r := run_storeCells_at Tryz.prog X.F k 55 o.vals.toList 0 (frmC X σ fp) w h1 (by show k + 0 + 9 ≤ 39; omega) (by simp [Opd.vals, Value.oneCell'])
  refine ⟨_, r, ?_⟩
  rw [Nat.add_zero, show o.vals.toList.length = 9 from rfl, e]
  have k' : Kp X.own w (w.setRow X.F (frmC X σ' fp)) := Kp.setRow w (Or.inr rfl) _
  refine ⟨⟨h.ne, ?_, ⟨fp, ?_, ?_⟩, byt_kp h k', h.bd, h.lt, ea ▸ h.le, ea ▸ h.lL, h.los, h.lof, gd⟩, k'⟩
  · rw [← eS]; exact heap_kept h.src (Kp.setRow (S := fun k => k = X.F) w rfl _) h.ne
  · exact setRow_heap _ _ _ _ _ _ h1
  · rw [← el]; exact h2.kp k'

theorem put_A {X : Cx} {w : World} {σ : Sg} (h : St X w σ) (o : Opd) : ∃ w2, (storeCells ⟨X.F, 10, none⟩ o.vals.toList).run Tryz.prog w = .ok () w2 ∧ Done X w (setA (o, σ)) w2 :=
  h.rowF o 10 (by decide) (fun _ => rfl) rfl rfl rfl ⟨h.gd.op0, h.gd.op1, h.gd.vv, h.gd.fb⟩
theorem put_B {X : Cx} {w : World} {σ : Sg} (h : St X w σ) (o : Opd) : ∃ w2, (storeCells ⟨X.F, 19, none⟩ o.vals.toList).run Tryz.prog w = .ok () w2 ∧ Done X w (setB (o, σ)) w2 :=
  h.rowF o 19 (by decide) (fun _ => rfl) rfl rfl rfl ⟨h.gd.op0, h.gd.op1, h.gd.vv, h.gd.fb⟩
theorem put_C {X : Cx} {w : World} {σ : Sg} (h : St X w σ) (o : Opd) : ∃ w2, (storeCells ⟨X.F, 28, none⟩ o.vals.toList).run Tryz.prog w = .ok () w2 ∧ Done X w (setC (o, σ)) w2 :=
  h.rowF o 28 (by decide) (fun _ => rfl) rfl rfl rfl ⟨h.gd.op0, h.gd.op1, h.gd.vv, h.gd.fb⟩

theorem St.hd {X : Cx} {w : World} {σ : Sg} (h : St X w σ) (op sub size : Int) : Done X w (hdS op sub size σ) (((w.setCell ⟨X.F, 7, none⟩ (.int .i64 op)).setCell ⟨X.F, 8, none⟩ (.int .i64 sub)).setCell ⟨X.F, 9, none⟩ (.int .i64 size)) := by
  have g : Good { σ with ins := { σ.ins with op := op } } := ⟨h.gd.op0, h.gd.op1, h.gd.vv, h.gd.fb⟩
  have h1 := h.setF (σ' := { σ with ins := { σ.ins with op := op } }) 7 (.int .i64 op) (fun _ => rfl) rfl rfl rfl g
  have h2 := h1.setF (σ' := { σ with ins := { σ.ins with op := op, sub := sub } }) 8 (.int .i64 sub) (fun _ => rfl) rfl rfl rfl ⟨g.op0, g.op1, g.vv, g.fb⟩
  have h3 := h2.setF (σ' := hdS op sub size σ) 9 (.int .i64 size) (fun _ => rfl) rfl rfl rfl ⟨g.op0, g.op1, g.vv, g.fb⟩
  exact ⟨h3, ((Kp.setCell w (Or.inr rfl) _).trans (Kp.setCell _ (Or.inr rfl) _)).trans (Kp.setCell _ (Or.inr rfl) _)⟩

theorem St.f7 {X : Cx} {w : World} {σ : Sg} (h : St X w σ) : w.cell? ⟨X.F, 7, none⟩ = some (.int .i64 σ.ins.op) ∧ w.cell? ⟨X.F, 8, none⟩ = some (.int .i64 σ.ins.sub) ∧ w.cell? ⟨X.F, 9, none⟩ = some (.int .i64 σ.ins.size) := by
  obtain ⟨fp, h1, _⟩ := h.frm
  simp [World.cell?, h1, frmC]

structure Prt where
  n : Nat
  cap : Array Value
  f : Cx → Int → Sg → Opd × Sg

def setI (i : Nat) (p : Opd × Sg) : Sg := match i with | 0 => setA p | 1 => setB p | _ => setC p

def stp (X : Cx) (s : Int) : Nat → List Prt → Sg → Sg
  | _, [], σ => σ
  | i, p :: r, σ => stp X s (i + 1) r (setI i (p.f X s σ))

theorem put_I {X : Cx} {w : World} {σ : Sg} (h : St X w σ) (o : Opd) (i : Nat) (hi : i < 3) : ∃ w2, (storeCells ⟨X.F, 10 + 9 * i, none⟩ o.vals.toList).run Tryz.prog w = .ok () w2 ∧ Done X w (setI i (o, σ)) w2 := by
  rcases (by omega : i = 0 ∨ i = 1 ∨ i = 2) with rfl | rfl | rfl
  · exact put_A h o
  · exact put_B h o
  · exact put_C h o

/-- The slice of parts, from place i on. -/
def Parts (X : Cx) (w0 : World) (s : Int) (pq : Option Addr) (i : Nat) (R : List Prt) (w : World) : Prop :=
  ∀ j p, R[j]? = some p → (∃ q o, pq = some ⟨q, o, none⟩ ∧ ¬ X.own q ∧ w.cell? ⟨q, o + (i + j), none⟩ = some (.func (.func p.n) #[] p.cap)) ∧ PartOk X w0 p.n p.cap p.f s

theorem Parts.kp {X : Cx} {w0 : World} {s : Int} {pq : Option Addr} {i : Nat} {R : List Prt} {w w' : World} (h : Parts X w0 s pq i R w) (k : Kp X.own w w') : Parts X w0 s pq i R w' := fun j p hj => by
  obtain ⟨⟨q, o, e, hq, hc⟩, hp⟩ := h j p hj
  exact ⟨⟨q, o, e, hq, cell_kept hc k hq⟩, hp⟩

theorem Parts.tail {X : Cx} {w0 : World} {s : Int} {pq : Option Addr} {i : Nat} {p : Prt} {R : List Prt} {w : World} (h : Parts X w0 s pq i (p :: R) w) : Parts X w0 s pq (i + 1) R w := fun j p' hj => by
  have := h (j + 1) p' (by simpa using hj)
  rw [show i + 1 + j = i + (j + 1) by omega]
  exact this

def LoopI (X : Cx) (w0 : World) (s : Int) (pq : Option Addr) (pl k : Nat) (V : Sg) (vi : Value) (wr : World) : Prop :=
  ∃ (i : Nat) (R : List Prt) (σ : Sg), vi = .int .i64 i ∧ i + R.length = k ∧ Parts X w0 s pq i R wr ∧ V = stp X s i R σ ∧ St X wr σ ∧ Kp X.own w0 wr ∧
    wr.heap[pl]? = some (.cells #[.pointer (some ⟨X.F, 10, none⟩), .pointer (some ⟨X.F, 19, none⟩), .pointer (some ⟨X.F, 28, none⟩)] 100 (0, 0))

set_option maxRecDepth 100000 in
set_option maxHeartbeats 4000000 in
theorem is_any (w : World) (X : Cx) (σ : Sg) (h : St X w σ) (op sub s : Int) (pq : Option Addr) (R0 : List Prt) (hR : R0.length ≤ 3) (hP : Parts X w s pq 0 R0 w) :
    Calls Tryz.prog 64 #[.pointer (some ⟨X.F, 0, none⟩), .int .i64 op, .int .i64 sub, .int .i64 s, .slice pq R0.length R0.length] w fun e w' => e = .returned (.tuple #[]) ∧ Done X w (stp X s 0 R0 (hdS op sub s σ)) w' := by
  obtain ⟨V, hV⟩ : ∃ V, V = stp X s 0 R0 (hdS op sub s σ) := ⟨_, rfl⟩
  obtain ⟨k, hk⟩ : ∃ k, k = R0.length := ⟨_, rfl⟩
  rw [← hV, ← hk]
  rw [← hk] at hR
  obtain ⟨c7, c8, c9⟩ := h.f7
  have z7 := h.ff 7
  have z8 := h.ff 8
  have z9 := h.ff 9
  have hF := h.ltF
  have hfre := h.fresh
  have hlow := h.low
  have hh := h.hd op sub s
  have Hstart : Hid (LoopI X w s pq w.heap.size k V (.int .i64 0) ((((w.setCell ⟨X.F, 7, none⟩ (.int .i64 op)).setCell ⟨X.F, 8, none⟩ (.int .i64 sub)).setCell ⟨X.F, 9, none⟩ (.int .i64 s)).alloc (.cells #[.pointer (some ⟨X.F, 10, none⟩), .pointer (some ⟨X.F, 19, none⟩), .pointer (some ⟨X.F, 28, none⟩)] 100)).drew) := by
    have ha := (hh.1.alloc (.cells #[.pointer (some ⟨X.F, 10, none⟩), .pointer (some ⟨X.F, 19, none⟩), .pointer (some ⟨X.F, 28, none⟩)] 100)).drewN 1
    have hb := ((hh.2.trans (Kp.alloc X.own _ (.cells #[.pointer (some ⟨X.F, 10, none⟩), .pointer (some ⟨X.F, 19, none⟩), .pointer (some ⟨X.F, 28, none⟩)] 100)))).drewN 1
    refine ⟨0, R0, hdS op sub s σ, rfl, by omega, hP.kp hb, hV, ha, hb, ?_⟩
    have hn := (MapKept.heap_alloc (((w.setCell ⟨X.F, 7, none⟩ (.int .i64 op)).setCell ⟨X.F, 8, none⟩ (.int .i64 sub)).setCell ⟨X.F, 9, none⟩ (.int .i64 s)) (.cells #[.pointer (some ⟨X.F, 10, none⟩), .pointer (some ⟨X.F, 19, none⟩), .pointer (some ⟨X.F, 28, none⟩)] 100)).1
    have e : (((w.setCell ⟨X.F, 7, none⟩ (.int .i64 op)).setCell ⟨X.F, 8, none⟩ (.int .i64 sub)).setCell ⟨X.F, 9, none⟩ (.int .i64 s)).heap.size = w.heap.size := by simp [World.setCell]
    rw [e] at hn
    exact hn
  have Hhk : Hid (k = R0.length) := hk
  clear hh hP h hV hk
  go_enter Tryz.func64, Tryz.ntmps64
  go_wp2
  go_region
  go_wp2
  go_loopw [43] (LoopI X w s pq w.heap.size k V) (fun vi _ => (k - intOf vi).toNat)
  case atStart => exact Hstart.out
  case round =>
    obtain ⟨i, R, σ', rfl, hik, hP, hV, hst, kk, hpl⟩ := hrel
    cases R with
    | nil =>
      have hki : ¬ ((i : Int) < (k : Int)) := by simp at hik; omega
      have HV : Hid (V = σ') := hV
      have Hd : Hid (Done X w σ' wr) := ⟨hst, kk⟩
      clear hV hst kk hP hpl
      go_wp2
      go_end0
      rw [HV.out]
      exact ⟨rfl, Hd.out⟩
    | cons p R =>
      have hki : (i : Int) < (k : Int) := by simp at hik; omega
      have hi3 : i < 3 := by simp at hik; omega
      obtain ⟨⟨q, o, rfl, hqo, hqc⟩, hp⟩ := hP 0 p rfl
      have hqc' : wr.cell? ⟨q, o + i, none⟩ = some (.func (.func p.n) #[] p.cap) := by simpa using hqc
      have hT := hP.tail
      have hql := cell_lt hqc'
      have hcf := hp.1
      have p0 : wr.cell? ⟨w.heap.size, 0, none⟩ = some (.pointer (some ⟨X.F, 10, none⟩)) := by simp [World.cell?, hpl]
      have p1 : wr.cell? ⟨w.heap.size, 1, none⟩ = some (.pointer (some ⟨X.F, 19, none⟩)) := by simp [World.cell?, hpl]
      have p2 : wr.cell? ⟨w.heap.size, 2, none⟩ = some (.pointer (some ⟨X.F, 28, none⟩)) := by simp [World.cell?, hpl]
      have HV : Hid (V = stp X s (i + 1) R (setI i (p.f X s σ'))) := hV
      have Hst : Hid (St X wr.drew σ') := hst.drewN 1
      have Hkk : Hid (Kp X.own w wr.drew) := kk.drewN 1
      have Hpl : Hid (wr.drew.heap[w.heap.size]? = some (.cells #[.pointer (some ⟨X.F, 10, none⟩), .pointer (some ⟨X.F, 19, none⟩), .pointer (some ⟨X.F, 28, none⟩)] 100 (0, 0))) := hpl
      have Hp : Hid (PartOk X w p.n p.cap p.f s) := hp
      have HT : Hid (Parts X w s (some ⟨q, o, none⟩) (i + 1) R wr.drew) := hT.kp ((Kp.refl _ _).drewN 1)
      have hik' : i + 1 + R.length = k := by simp at hik; omega
      clear hV hst kk hpl hp hT hP hik hqc Hstart hi3
      rcases (by omega : i = 0 ∨ i = 1 ∨ i = 2) with rfl | rfl | rfl
      · simp only [Nat.reduceAdd, Nat.add_zero] at hqc' HT hik' HV
        go_wp2
        go_region_with (refine (Hp.out.2 _ σ' Hkk.out Hst.out).mono ?_; rintro e w1 ⟨rfl, h1, k1⟩; have hpl1 := heap_kept Hpl.out k1 hfre; have y0 : w1.cell? ⟨w.heap.size, 0, none⟩ = some (.pointer (some ⟨X.F, 10, none⟩)) := (by simp [World.cell?, hpl1]); obtain ⟨w2, hs2, hd2⟩ := put_A h1 (p.f X s σ').1; have hsz := vals_size (p.f X s σ').1)
        all_goals
          go_wp2
          go_roundw
          case rel => exact ⟨1, R, _, rfl, by omega, HT.out.kp (k1.trans hd2.2), HV.out, hd2.1, Hkk.out.trans (k1.trans hd2.2), heap_kept hpl1 hd2.2 hfre⟩
          case measure => simp [intOf]; omega
      · simp only [Nat.reduceAdd] at hqc' HT hik' HV
        go_wp2
        go_region_with (refine (Hp.out.2 _ σ' Hkk.out Hst.out).mono ?_; rintro e w1 ⟨rfl, h1, k1⟩; have hpl1 := heap_kept Hpl.out k1 hfre; have y0 : w1.cell? ⟨w.heap.size, 1, none⟩ = some (.pointer (some ⟨X.F, 19, none⟩)) := (by simp [World.cell?, hpl1]); obtain ⟨w2, hs2, hd2⟩ := put_B h1 (p.f X s σ').1; have hsz := vals_size (p.f X s σ').1)
        all_goals
          go_wp2
          go_roundw
          case rel => exact ⟨2, R, _, rfl, by omega, HT.out.kp (k1.trans hd2.2), HV.out, hd2.1, Hkk.out.trans (k1.trans hd2.2), heap_kept hpl1 hd2.2 hfre⟩
          case measure => simp [intOf]; omega
      · simp only [Nat.reduceAdd] at hqc' HT hik' HV
        go_wp2
        go_region_with (refine (Hp.out.2 _ σ' Hkk.out Hst.out).mono ?_; rintro e w1 ⟨rfl, h1, k1⟩; have hpl1 := heap_kept Hpl.out k1 hfre; have y0 : w1.cell? ⟨w.heap.size, 2, none⟩ = some (.pointer (some ⟨X.F, 28, none⟩)) := (by simp [World.cell?, hpl1]); obtain ⟨w2, hs2, hd2⟩ := put_C h1 (p.f X s σ').1; have hsz := vals_size (p.f X s σ').1)
        all_goals
          go_wp2
          go_roundw
          case rel => exact ⟨3, R, _, rfl, by omega, HT.out.kp (k1.trans hd2.2), HV.out, hd2.1, Hkk.out.trans (k1.trans hd2.2), heap_kept hpl1 hd2.2 hfre⟩
          case measure => simp [intOf]; omega

end Go.Proofs.YtolnaodlghahlaaGreatDoor
