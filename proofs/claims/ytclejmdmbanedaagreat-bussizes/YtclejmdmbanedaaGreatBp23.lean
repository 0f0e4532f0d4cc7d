/- The bus and its devices: RcSim, RcOut, RcAll, RcS. -/
import Derived.Test.YtclejmdmbanedaaGreatBp22
namespace Go.Proofs.YtclejmdmbanedaaGreat.Pc
open Go.ChangeShapes Go.WideShapes Go.ChangeAt Go.RowKit
set_option linter.unusedVariables false
set_option maxRecDepth 20000
def wantsOf (d : Int) : List Int := if d = 1 then [1] else if d = 2 then [2] else if d = 3 then [1, 2] else if d = 4 then [3] else if d = 5 then [1, 3] else if d = 6 then [2, 3] else if d = 7 then [1, 2, 3] else []
/-- What is wanted is as it was, or lies in a new block. -/
def Wd (w : World) (r : RC) (l : List Int) (w' : World) (r' : RC) (l' : List Int) : Prop := (r'.wp = r.wp ∧ r'.wl = r.wl ∧ r'.wc = r.wc ∧ l' = l) ∨ Wn w' w.heap.size r'.wp r'.wl r'.wc l'
end Go.Proofs.YtclejmdmbanedaaGreat.Pc
namespace Go.Proofs.YtclejmdmbanedaaGreat.Pc
open Go.ChangeShapes Go.WideShapes Go.ChangeAt Go.RowKit
set_option linter.unusedVariables false
set_option maxRecDepth 20000
theorem Wn.kept2 {S : Nat → Prop} {w w' : World} {base : Nat} {p : Option Addr} {n c : Nat} {l : List Int} (h : Wn w base p n c l) (k : Kp S w w') (hS : ∀ g, base ≤ g → g < w.heap.size → ¬ S g) : Wn w' base p n c l :=
  ⟨h.1, h.2.1, fun j hj => by
    obtain ⟨g, e, hb, hl, hc⟩ := h.2.2 j hj
    exact ⟨g, e, hb, Nat.lt_of_lt_of_le hl k.size, cell_kept hc k (hS g hb hl)⟩⟩
end Go.Proofs.YtclejmdmbanedaaGreat.Pc
namespace Go.Proofs.YtclejmdmbanedaaGreat.Pc
open Go.ChangeShapes Go.WideShapes Go.ChangeAt Go.RowKit
set_option linter.unusedVariables false
set_option maxRecDepth 20000
structure RX (w : World) (R : Nat) (m : M2) (a b : RC) : Prop where
  rm : RM w R m a b
  wa : Wn w (R + 1) a.wp a.wl a.wc (wantsOf m.a.due)
  wb : Wn w (R + 1) b.wp b.wl b.wc (wantsOf m.b.due)
def RW (w : World) (R : Nat) (m : M2) : Prop := ∃ a b, RX w R m a b
theorem RW.ok {w : World} {R : Nat} {m : M2} (h : RW w R m) : m.Ok := by obtain ⟨a, b, h⟩ := h; exact h.rm.ok
theorem RW.st {w : World} {R : Nat} {m : M2} (h : RW w R m) : St2 m := by obtain ⟨a, b, h⟩ := h; exact h.rm.st
theorem RW.lt {w : World} {R : Nat} {m : M2} (h : RW w R m) : R < w.heap.size := by obtain ⟨a, b, h⟩ := h; exact h.rm.at_.lt
theorem RW.kept {S : Nat → Prop} {w w' : World} {R : Nat} {m : M2} (h : RW w R m) (k : Kp S w w') (hS : ∀ g, R ≤ g → g < w.heap.size → ¬ S g) : RW w' R m := by
  obtain ⟨a, b, h⟩ := h
  exact ⟨a, b, ⟨h.rm.at_.kept k (hS R (Nat.le_refl _) h.rm.at_.lt), h.rm.ra, h.rm.rb, h.rm.ok, h.rm.st⟩, h.wa.kept2 k (fun g hg hl => hS g (by omega) hl), h.wb.kept2 k (fun g hg hl => hS g (by omega) hl)⟩
theorem settle_st2 {m : M2} (h : m.Ok) : St2 m.settle := by
  unfold St2
  rw [settle_asks h, if_pos rfl]; rfl
theorem settle_id {m : M2} (k : m.Ok) (h : St2 m) : m.settle = m := by
  have e : m.settle.a.asks = m.a.asks := by_ext k.settle.a.asks k.a.asks fun j hj => by
    rw [settle_asks k]
    by_cases q : j = 2
    · subst q; rw [if_pos rfl]; exact h.symm
    · rw [if_neg q]
  have e2 : m.settle = ⟨{ m.a with asks := m.settle.a.asks }, m.b⟩ := rfl
  rw [e2, e]
theorem line_due (c : Ch) (k : Int) (u : Bool) : (c.line k u).due = c.due := (line_keep c k u).2.2.2.1
theorem Wd.fin {w w1 w2 w' : World} {R : Nat} {r r' : RC} {l l' : List Int} (hw : Wn w (R + 1) r.wp r.wl r.wc l) (k1 : Kp (isB R) w w') (hs : w1.heap.size = w.heap.size + 1) (hR : R < w.heap.size) (hd : Wd w1 r l w2 r' l') (k2 : Kp (fun k => k = R ∨ k = w.heap.size) w2 w') : Wn w' (R + 1) r'.wp r'.wl r'.wc l' := by
  rcases hd with ⟨e1, e2, e3, e4⟩ | hd
  · rw [e1, e2, e3, e4]
    exact hw.kept2 k1 (fun g hg _ f => by have : g = R := f; omega)
  · exact (hd.kept2 k2 (fun g hg _ f => by rcases f with f | f <;> omega)).mono (by omega)
theorem xLine (w : World) (R : Nat) (m : M2) (h : RW w R m) (n : Int) (u : Bool) (n0 : 0 ≤ n) (n1 : n < 16) : Calls Tryz.prog 82 #[.pointer (some ⟨R, 0, none⟩), .int .i64 n, .bool u] w fun e w' => e = .returned (.int .i64 0) ∧ RW w' R (m.line n u) ∧ Kp (isB R) w w' := by
  have ok' := h.ok.line n0 n1 u
  have hs := settle_id h.ok h.st
  obtain ⟨a, b, h⟩ := h
  by_cases e2 : n = 2
  · subst e2
    have hX : m.line 2 u = m := by unfold M2.line; rw [if_pos rfl]; exact hs
    rw [hX]
    exact (rline_2 w R u).mono fun e w' ⟨z1, z2⟩ => ⟨z1, z2 ▸ ⟨a, b, h⟩, z2 ▸ Kp.refl _ _⟩
  · by_cases e8 : n < 8
    · obtain ⟨k, rfl⟩ := Int.eq_ofNat_of_zero_le n0
      have k8 : k < 8 := by omega
      have k2 : k ≠ 2 := by omega
      have hX : m.line (k : Int) u = (m.set false (m.a.line (k : Int) u)).settle := by unfold M2.line; rw [if_neg e2, if_pos e8]
      have o1 : (m.set false (m.a.line (k : Int) u)).Ok := h.rm.ok.set false (h.rm.ok.a.line n0 e8 u)
      refine (rlineA w R a b h.rm.at_ k k8 k2 u).mono fun e w' ⟨z1, z2, z3⟩ => ⟨z1, ⟨a.line k u, b, ⟨z2, ?_, ?_, ok', ?_⟩, ?_, ?_⟩, z3⟩
      · rw [hX]; exact Rel.settle (h.rm.ra.line h.rm.ok.a k8 (fun _ => k2) u) o1
      · rw [hX]; exact h.rm.rb
      · rw [hX]; exact settle_st2 o1
      · rw [hX]
        show Wn w' (R + 1) a.wp a.wl a.wc (wantsOf (m.a.line (k : Int) u).due)
        rw [line_due]
        exact h.wa.kept2 z3 (fun g hg _ f => by have : g = R := f; omega)
      · rw [hX]
        exact h.wb.kept2 z3 (fun g hg _ f => by have : g = R := f; omega)
    · obtain ⟨k, hk⟩ := Int.eq_ofNat_of_zero_le (show 0 ≤ n - 8 by omega)
      have k8 : k < 8 := by omega
      have hX : m.line n u = (m.set true (m.b.line (k : Int) u)).settle := by unfold M2.line; rw [if_neg e2, if_neg e8, hk]
      have o1 : (m.set true (m.b.line (k : Int) u)).Ok := h.rm.ok.set true (h.rm.ok.b.line (n := (k : Int)) (by omega) (by omega) u)
      refine (rlineB w R a b h.rm.at_ k k8 u n (by omega)).mono fun e w' ⟨z1, z2, z3⟩ => ⟨z1, ⟨a, b.line k u, ⟨z2, ?_, ?_, ok', ?_⟩, ?_, ?_⟩, z3⟩
      · rw [hX]; exact Rel.settle (m := m.set true (m.b.line (k : Int) u)) h.rm.ra o1
      · rw [hX]; exact h.rm.rb.line h.rm.ok.b k8 (fun f => by cases f) u
      · rw [hX]; exact settle_st2 o1
      · rw [hX]
        exact h.wa.kept2 z3 (fun g hg _ f => by have : g = R := f; omega)
      · rw [hX]
        show Wn w' (R + 1) b.wp b.wl b.wc (wantsOf (m.b.line (k : Int) u).due)
        rw [line_due]
        exact h.wb.kept2 z3 (fun g hg _ f => by have : g = R := f; omega)
theorem zero_rel (s : Bool) : Rel RC.zero ch0 s := ⟨fun j _ _ => (zero_tb j).symm, fun j _ => (zero_tb j).symm, fun j _ => (zero_tb j).symm, fun j _ _ => (zero_tb j).symm, rfl, rfl, rfl⟩
theorem st0 : St2 m00 := by unfold St2; kernel_rfl
theorem xNew (w : World) : Calls Tryz.prog 38 #[] w fun e w' => e = .returned (.pointer (some ⟨w.heap.size, 0, none⟩)) ∧ RW w' w.heap.size m00 ∧ Kp noB w w' := by
  have hR : Hid (∀ w' : World, w'.heap[w.heap.size]? = some (.cells (chV RC.zero ++ chV RC.zero) 146 (0, 0)) → RW w' w.heap.size m00) := fun w' h => ⟨RC.zero, RC.zero, ⟨⟨h⟩, zero_rel _, zero_rel _, m00_ok, st0⟩, ⟨rfl, Nat.le_refl _, fun j hj => absurd hj (by show ¬ j < 0; omega)⟩, ⟨rfl, Nat.le_refl _, fun j hj => absurd hj (by show ¬ j < 0; omega)⟩⟩
  have hz0 : ∀ w, (zeroValue 146).run Tryz.prog w = .ok (.agg (chV RC.zero ++ chV RC.zero)) w := fun w => by kernel_rfl
  obtain ⟨Y, hY⟩ : ∃ Y, Y = chV RC.zero ++ chV RC.zero := ⟨_, rfl⟩
  rw [← hY] at hz0 hR
  clear hY
  go_enter Tryz.func38, Tryz.ntmps38
  go_wp2
  go_ret
  exact ⟨rfl, hR.out _ (heap_new w _), Kp.alloc _ _ _⟩
end Go.Proofs.YtclejmdmbanedaaGreat.Pc
namespace Go.Proofs.YtclejmdmbanedaaGreat.Pc
open Go.ChangeShapes Go.WideShapes Go.ChangeAt Go.RowKit
set_option linter.unusedVariables false
/-- What is wanted lies in a block of S that is not R. -/
def WnS (w : World) (S : Nat → Prop) (R : Nat) (p : Option Addr) (n c : Nat) (l : List Int) : Prop := n = l.length ∧ n ≤ c ∧ ∀ j, j < l.length → ∃ g, p = some ⟨g, 0, none⟩ ∧ (S g ∧ g ≠ R) ∧ g < w.heap.size ∧ w.cell? ⟨g, j, none⟩ = some (.int .i64 (l.getD j 0))
def nS (S : Nat → Prop) (w w' : World) : Nat → Prop := fun k => k < w'.heap.size ∧ (S k ∨ w.heap.size ≤ k)
section
variable {w w' : World} {S : Nat → Prop} {R : Nat} {p : Option Addr} {n c : Nat} {l : List Int}
theorem WnS.wn (h : WnS w S R p n c l) : Wn w 0 p n c l := ⟨h.1, h.2.1, fun j hj => by
  obtain ⟨g, e, hb, hl, hc⟩ := h.2.2 j hj
  exact ⟨g, e, Nat.zero_le _, hl, hc⟩⟩
theorem WnS.next (h : WnS w S R p n c l) (k : Kp (isB R) w w') : WnS w' (nS S w w') R p n c l := ⟨h.1, h.2.1, fun j hj => by
  obtain ⟨g, e, hb, hl, hc⟩ := h.2.2 j hj
  have hl' := Nat.lt_of_lt_of_le hl k.size
  exact ⟨g, e, ⟨⟨hl', .inl hb.1⟩, hb.2⟩, hl', cell_kept hc k hb.2⟩⟩
theorem WnS.kept {T : Nat → Prop} (h : WnS w S R p n c l) (k : Kp T w w') (hS : ∀ k, S k → ¬ T k) : WnS w' S R p n c l := ⟨h.1, h.2.1, fun j hj => by
  obtain ⟨g, e, hb, hl, hc⟩ := h.2.2 j hj
  exact ⟨g, e, hb, Nat.lt_of_lt_of_le hl k.size, cell_kept hc k (hS g hb.1)⟩⟩
theorem WnS.same (h : WnS w S R p n c l) : WnS w (nS S w w) R p n c l := h.next (Kp.refl _ _)
end
theorem WnS.fin {w w1 w2 w' : World} {S : Nat → Prop} {R : Nat} {r r' : RC} {l l' : List Int} (hw : WnS w S R r.wp r.wl r.wc l) (k1 : Kp (isB R) w w') (hs : w1.heap.size = w.heap.size + 1) (hd : Wd w1 r l w2 r' l') (k2 : Kp (fun k => k = R ∨ k = w.heap.size) w2 w') (hR : R < w.heap.size) : WnS w' (nS S w w') R r'.wp r'.wl r'.wc l' := by
  rcases hd with ⟨e1, e2, e3, e4⟩ | hd
  · rw [e1, e2, e3, e4]
    exact hw.next k1
  · exact ⟨hd.1, hd.2.1, fun j hj => by
      obtain ⟨g, e, hb, hl, hc⟩ := hd.2.2 j hj
      have hl' := Nat.lt_of_lt_of_le hl k2.size
      exact ⟨g, e, ⟨⟨hl', .inr (by omega)⟩, by omega⟩, hl', cell_kept hc k2 (fun f => by rcases f with f | f <;> omega)⟩⟩
structure RXS (w : World) (S : Nat → Prop) (R : Nat) (m : M2) (a b : RC) : Prop where
  rm : RM w R m a b
  wa : WnS w S R a.wp a.wl a.wc (wantsOf m.a.due)
  wb : WnS w S R b.wp b.wl b.wc (wantsOf m.b.due)
def RWS (w : World) (S : Nat → Prop) (R : Nat) (m : M2) : Prop := ∃ a b, RXS w S R m a b
theorem RXS.same {w : World} {S : Nat → Prop} {R : Nat} {m : M2} {a b : RC} (h : RXS w S R m a b) : RXS w (nS S w w) R m a b := ⟨h.rm, h.wa.same, h.wb.same⟩
theorem RWS.ok {w : World} {S : Nat → Prop} {R : Nat} {m : M2} (h : RWS w S R m) : m.Ok := by obtain ⟨a, b, h⟩ := h; exact h.rm.ok
theorem RWS.st {w : World} {S : Nat → Prop} {R : Nat} {m : M2} (h : RWS w S R m) : St2 m := by obtain ⟨a, b, h⟩ := h; exact h.rm.st
theorem RWS.lt {w : World} {S : Nat → Prop} {R : Nat} {m : M2} (h : RWS w S R m) : R < w.heap.size := by obtain ⟨a, b, h⟩ := h; exact h.rm.at_.lt
theorem RWS.kept {T : Nat → Prop} {w w' : World} {S : Nat → Prop} {R : Nat} {m : M2} (h : RWS w S R m) (sR : S R) (k : Kp T w w') (hS : ∀ k, S k → ¬ T k) : RWS w' S R m := by
  obtain ⟨a, b, h⟩ := h
  exact ⟨a, b, ⟨h.rm.at_.kept k (hS R sR), h.rm.ra, h.rm.rb, h.rm.ok, h.rm.st⟩, h.wa.kept k hS, h.wb.kept k hS⟩
theorem sLine (w : World) (R : Nat) (m : M2) (S : Nat → Prop) (h : RWS w S R m) (n : Int) (u : Bool) (n0 : 0 ≤ n) (n1 : n < 16) : Calls Tryz.prog 82 #[.pointer (some ⟨R, 0, none⟩), .int .i64 n, .bool u] w fun e w' => e = .returned (.int .i64 0) ∧ RWS w' (nS S w w') R (m.line n u) ∧ Kp (isB R) w w' := by
  obtain ⟨a, b, h⟩ := h
  have ok' := h.rm.ok.line n0 n1 u
  have hs := settle_id h.rm.ok h.rm.st
  by_cases e2 : n = 2
  · subst e2
    have hX : m.line 2 u = m := by unfold M2.line; rw [if_pos rfl]; exact hs
    rw [hX]
    exact (rline_2 w R u).mono fun e w' ⟨z1, z2⟩ => ⟨z1, by subst z2; exact ⟨a, b, h.same⟩, z2 ▸ Kp.refl _ _⟩
  · by_cases e8 : n < 8
    · obtain ⟨k, rfl⟩ := Int.eq_ofNat_of_zero_le n0
      have k8 : k < 8 := by omega
      have k2 : k ≠ 2 := by omega
      have hX : m.line (k : Int) u = (m.set false (m.a.line (k : Int) u)).settle := by unfold M2.line; rw [if_neg e2, if_pos e8]
      have o1 : (m.set false (m.a.line (k : Int) u)).Ok := h.rm.ok.set false (h.rm.ok.a.line n0 e8 u)
      refine (rlineA w R a b h.rm.at_ k k8 k2 u).mono fun e w' ⟨z1, z2, z3⟩ => ⟨z1, ⟨a.line k u, b, ⟨z2, ?_, ?_, ok', ?_⟩, ?_, ?_⟩, z3⟩
      · rw [hX]; exact Rel.settle (h.rm.ra.line h.rm.ok.a k8 (fun _ => k2) u) o1
      · rw [hX]; exact h.rm.rb
      · rw [hX]; exact settle_st2 o1
      · rw [hX]
        show WnS w' (nS S w w') R a.wp a.wl a.wc (wantsOf (m.a.line (k : Int) u).due)
        rw [line_due]
        exact h.wa.next z3
      · rw [hX]
        exact h.wb.next z3
    · obtain ⟨k, hk⟩ := Int.eq_ofNat_of_zero_le (show 0 ≤ n - 8 by omega)
      have k8 : k < 8 := by omega
      have hX : m.line n u = (m.set true (m.b.line (k : Int) u)).settle := by unfold M2.line; rw [if_neg e2, if_neg e8, hk]
      have o1 : (m.set true (m.b.line (k : Int) u)).Ok := h.rm.ok.set true (h.rm.ok.b.line (n := (k : Int)) (by omega) (by omega) u)
      refine (rlineB w R a b h.rm.at_ k k8 u n (by omega)).mono fun e w' ⟨z1, z2, z3⟩ => ⟨z1, ⟨a, b.line k u, ⟨z2, ?_, ?_, ok', ?_⟩, ?_, ?_⟩, z3⟩
      · rw [hX]; exact Rel.settle (m := m.set true (m.b.line (k : Int) u)) h.rm.ra o1
      · rw [hX]; exact h.rm.rb.line h.rm.ok.b k8 (fun f => by cases f) u
      · rw [hX]; exact settle_st2 o1
      · rw [hX]
        exact h.wa.next z3
      · rw [hX]
        show WnS w' (nS S w w') R b.wp b.wl b.wc (wantsOf (m.b.line (k : Int) u).due)
        rw [line_due]
        exact h.wb.next z3
theorem sNew (w : World) : Calls Tryz.prog 38 #[] w fun e w' => e = .returned (.pointer (some ⟨w.heap.size, 0, none⟩)) ∧ RWS w' (isB w.heap.size) w.heap.size m00 ∧ Kp noB w w' := by
  have hR : Hid (∀ w' : World, w'.heap[w.heap.size]? = some (.cells (chV RC.zero ++ chV RC.zero) 146 (0, 0)) → RWS w' (isB w.heap.size) w.heap.size m00) := fun w' h => ⟨RC.zero, RC.zero, ⟨⟨h⟩, zero_rel _, zero_rel _, m00_ok, st0⟩, ⟨rfl, Nat.le_refl _, fun j hj => absurd hj (by show ¬ j < 0; omega)⟩, ⟨rfl, Nat.le_refl _, fun j hj => absurd hj (by show ¬ j < 0; omega)⟩⟩
  have hz0 : ∀ w, (zeroValue 146).run Tryz.prog w = .ok (.agg (chV RC.zero ++ chV RC.zero)) w := fun w => by kernel_rfl
  obtain ⟨Y, hY⟩ : ∃ Y, Y = chV RC.zero ++ chV RC.zero := ⟨_, rfl⟩
  rw [← hY] at hz0 hR
  clear hY
  go_enter Tryz.func38, Tryz.ntmps38
  go_wp2
  go_ret
  exact ⟨rfl, hR.out _ (heap_new w _), Kp.alloc _ _ _⟩
end Go.Proofs.YtclejmdmbanedaaGreat.Pc
