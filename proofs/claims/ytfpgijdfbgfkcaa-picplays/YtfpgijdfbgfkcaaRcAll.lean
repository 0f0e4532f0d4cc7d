/- The document's pair, whole: what its calls answer, and what they leave, by the plain model. -/
import Derived.Test.YtfpgijdfbgfkcaaRcIn
namespace Go.Proofs.Ytfpgijdfbgfkcaa
open Go.ChangeShapes Go.WideShapes Go.ChangeAt Go.RowKit
set_option linter.unusedVariables false

structure RX (w : World) (R : Nat) (m : M2) (a b : RC) : Prop where
  rm : RM w R m a b
  wa : Wn w (R + 1) a.wp a.wl a.wc (wantsOf m.a.due)
  wb : Wn w (R + 1) b.wp b.wl b.wc (wantsOf m.b.due)

def RW (w : World) (R : Nat) (m : M2) : Prop := ∃ a b, RX w R m a b

theorem RW.ok {w : World} {R : Nat} {m : M2} (h : RW w R m) : m.Ok := by obtain ⟨a, b, h⟩ := h; exact h.rm.ok
theorem RW.st {w : World} {R : Nat} {m : M2} (h : RW w R m) : St2 m := by obtain ⟨a, b, h⟩ := h; exact h.rm.st
theorem RW.lt {w : World} {R : Nat} {m : M2} (h : RW w R m) : R < w.heap.size := by obtain ⟨a, b, h⟩ := h; exact h.rm.at_.lt

theorem RW.kept {S : Nat → Prop} {w w' : World} {R : Nat} {m : M2} (h : RW w R m) (k : Kp S w w') (hS : ∀ g, R ≤ g → g < w.heap.size → ¬ S g) : RW w' R m := by
  obtain ⟨a, b, h⟩ := h
  exact ⟨a, b, ⟨h.rm.at_.kept k (hS R (Nat.le_refl _) h.rm.at_.lt), h.rm.ra, h.rm.rb, h.rm.ok, h.rm.st⟩, h.wa.kept2 k (fun g hg hl => hS g (by omega) hl), h.wb.kept2 k (fun g hg hl => hS g (by omega) hl)⟩

theorem settle_st2 {m : M2} (h : m.Ok) : St2 m.settle := by
  unfold St2
  rw [settle_asks h, if_pos rfl]; rfl

theorem settle_id {m : M2} (k : m.Ok) (h : St2 m) : m.settle = m := by
  have e : m.settle.a.asks = m.a.asks := by_ext k.settle.a.asks k.a.asks fun j hj => by
    rw [settle_asks k]
    by_cases q : j = 2
    · subst q; rw [if_pos rfl]; exact h.symm
    · rw [if_neg q]
  have e2 : m.settle = ⟨{ m.a with asks := m.settle.a.asks }, m.b⟩ := rfl
  rw [e2, e]

theorem line_due (c : Ch) (k : Int) (u : Bool) : (c.line k u).due = c.due := (line_keep c k u).2.2.2.1
theorem told_due (c : Ch) (k : Int) : (c.told k).due = c.due := by unfold Ch.told; split; rfl; split <;> rfl

theorem Wd.fin {w w1 w2 w' : World} {R : Nat} {r r' : RC} {l l' : List Int} (hw : Wn w (R + 1) r.wp r.wl r.wc l) (k1 : Kp (isB R) w w') (hs : w1.heap.size = w.heap.size + 1) (hR : R < w.heap.size) (hd : Wd w1 r l w2 r' l') (k2 : Kp (fun k => k = R ∨ k = w.heap.size) w2 w') : Wn w' (R + 1) r'.wp r'.wl r'.wc l' := by
  rcases hd with ⟨e1, e2, e3, e4⟩ | hd
  · rw [e1, e2, e3, e4]
    exact hw.kept2 k1 (fun g hg _ f => by have : g = R := f; omega)
  · exact (hd.kept2 k2 (fun g hg _ f => by rcases f with f | f <;> omega)).mono (by omega)

theorem xOut (w : World) (R : Nat) (m : M2) (h : RW w R m) (p v : Int) (p0 : 0 ≤ p) (p1 : p < 4) (hv : By v) : Calls Try.prog 12 #[.pointer (some ⟨R, 0, none⟩), .int .i64 p, .int .u8 v] w fun e w' => e = .returned (.int .i64 0) ∧ RW w' R (m.out p v) ∧ Kp (isB R) w w' := by
  obtain ⟨a, b, h⟩ := h
  have lR := h.rm.at_.lt
  have ok' := h.rm.ok.out (p := p) hv
  rcases (by omega : p = 0 ∨ p = 1 ∨ p = 2 ∨ p = 3) with rfl | rfl | rfl | rfl
  · have o1 : (m.set false (m.a.cmd v)).Ok := h.rm.ok.set false (h.rm.ok.a.cmd hv)
    refine (rout_0 w R a b h.rm.at_ v (fun r' w2 => ∃ w1, w1.heap.size = w.heap.size + 1 ∧ Rel r' (m.a.cmd v) true ∧ Wd w1 a (wantsOf m.a.due) w2 r' (wantsOf (m.a.cmd v).due)) (fun w1 k1 s1 => (simCmd w1 (R + 1) a m.a true v h.rm.ra h.rm.ok.a hv (by omega) (h.wa.kept2 k1 (fun _ _ _ f => f))).mono fun e w2 ⟨r', q1, q2, q3, q4⟩ => ⟨r', q1, ⟨w1, s1, q2, q3⟩, q4⟩)).mono fun e w' ⟨z1, ⟨r', w2, ⟨w1, s1, q2, q3⟩, z2, z3⟩, z4⟩ => ⟨z1, ⟨r', b, ⟨z2, q2.settle o1, h.rm.rb, ok', settle_st2 o1⟩, Wd.fin h.wa z4 s1 lR q3 z3, h.wb.kept2 z4 (fun g hg _ f => by have : g = R := f; omega)⟩, z4⟩
  · have o1 : (m.set false (m.a.dat v)).Ok := h.rm.ok.set false (h.rm.ok.a.dat hv)
    refine (rout_1 w R a b h.rm.at_ v (fun r' w2 => ∃ w1, w1.heap.size = w.heap.size + 1 ∧ Rel r' (m.a.dat v) true ∧ Wd w1 a (wantsOf m.a.due) w2 r' (wantsOf (m.a.dat v).due)) (fun w1 k1 s1 => (simDat w1 (R + 1) a m.a true v h.rm.ra h.rm.ok.a hv (by omega) (h.wa.kept2 k1 (fun _ _ _ f => f))).mono fun e w2 ⟨r', q1, q2, q3, q4⟩ => ⟨r', q1, ⟨w1, s1, q2, q3⟩, q4⟩)).mono fun e w' ⟨z1, ⟨r', w2, ⟨w1, s1, q2, q3⟩, z2, z3⟩, z4⟩ => ⟨z1, ⟨r', b, ⟨z2, q2.settle o1, h.rm.rb, ok', settle_st2 o1⟩, Wd.fin h.wa z4 s1 lR q3 z3, h.wb.kept2 z4 (fun g hg _ f => by have : g = R := f; omega)⟩, z4⟩
  · have o1 : (m.set true (m.b.cmd v)).Ok := h.rm.ok.set true (h.rm.ok.b.cmd hv)
    refine (rout_2 w R a b h.rm.at_ v (fun r' w2 => ∃ w1, w1.heap.size = w.heap.size + 1 ∧ Rel r' (m.b.cmd v) false ∧ Wd w1 b (wantsOf m.b.due) w2 r' (wantsOf (m.b.cmd v).due)) (fun w1 k1 s1 => (simCmd w1 (R + 1) b m.b false v h.rm.rb h.rm.ok.b hv (by omega) (h.wb.kept2 k1 (fun _ _ _ f => f))).mono fun e w2 ⟨r', q1, q2, q3, q4⟩ => ⟨r', q1, ⟨w1, s1, q2, q3⟩, q4⟩)).mono fun e w' ⟨z1, ⟨r', w2, ⟨w1, s1, q2, q3⟩, z2, z3⟩, z4⟩ => ⟨z1, ⟨a, r', ⟨z2, Rel.settle (m := m.set true (m.b.cmd v)) h.rm.ra o1, q2, ok', settle_st2 o1⟩, h.wa.kept2 z4 (fun g hg _ f => by have : g = R := f; omega), Wd.fin h.wb z4 s1 lR q3 z3⟩, z4⟩
  · have o1 : (m.set true (m.b.dat v)).Ok := h.rm.ok.set true (h.rm.ok.b.dat hv)
    refine (rout_3 w R a b h.rm.at_ v (fun r' w2 => ∃ w1, w1.heap.size = w.heap.size + 1 ∧ Rel r' (m.b.dat v) false ∧ Wd w1 b (wantsOf m.b.due) w2 r' (wantsOf (m.b.dat v).due)) (fun w1 k1 s1 => (simDat w1 (R + 1) b m.b false v h.rm.rb h.rm.ok.b hv (by omega) (h.wb.kept2 k1 (fun _ _ _ f => f))).mono fun e w2 ⟨r', q1, q2, q3, q4⟩ => ⟨r', q1, ⟨w1, s1, q2, q3⟩, q4⟩)).mono fun e w' ⟨z1, ⟨r', w2, ⟨w1, s1, q2, q3⟩, z2, z3⟩, z4⟩ => ⟨z1, ⟨a, r', ⟨z2, Rel.settle (m := m.set true (m.b.dat v)) h.rm.ra o1, q2, ok', settle_st2 o1⟩, h.wa.kept2 z4 (fun g hg _ f => by have : g = R := f; omega), Wd.fin h.wb z4 s1 lR q3 z3⟩, z4⟩

theorem shown_bt {r : RC} {c : Ch} {s : Bool} (h : Rel r c s) (k : c.Ok) : By c.shown := by unfold Ch.shown; split; exact k.srv; exact k.asks

theorem xIn (w : World) (R : Nat) (m : M2) (h : RW w R m) (p : Int) (p0 : 0 ≤ p) (p1 : p < 4) : Calls Try.prog 14 #[.pointer (some ⟨R, 0, none⟩), .int .i64 p] w fun e w' => e = .returned (.tuple #[.int .u8 (m.inn p), .int .i64 0]) ∧ Kp noB w w' := by
  obtain ⟨a, b, h⟩ := h
  have st := h.rm.st
  rcases (by omega : p = 0 ∨ p = 1 ∨ p = 2 ∨ p = 3) with rfl | rfl | rfl | rfl
  · show Calls _ _ _ _ fun e w' => e = .returned (.tuple #[.int .u8 m.a.shown, .int .i64 0]) ∧ Kp noB w w'
    cases e : m.a.sh
    · have hs : m.a.shown = m.a.asks := by unfold Ch.shown; rw [e]; rfl
      rw [hs]
      exact rin_qa w R a b h.rm.at_ _ h.rm.ok.a.asks (h.rm.ra.told.trans e) (upd a.asks 2 (m.b.next != -1)) (fun j hj => by
        unfold upd
        by_cases q : j = 2
        · subst q; rw [if_pos rfl]; exact st.symm
        · rw [if_neg q]; exact h.rm.ra.asks j hj (fun _ => q)) (fun w hw => asking_a w R a b m hw h.rm.rb h.rm.ok)
    · have hs : m.a.shown = m.a.srv := by unfold Ch.shown; rw [e]; rfl
      rw [hs]
      exact rin_sa w R a b h.rm.at_ _ h.rm.ok.a.srv (h.rm.ra.told.trans e) h.rm.ra.srv
  · exact rin_ma w R a b h.rm.at_ _ h.rm.ok.a.msk h.rm.ra.msk
  · show Calls _ _ _ _ fun e w' => e = .returned (.tuple #[.int .u8 m.b.shown, .int .i64 0]) ∧ Kp noB w w'
    cases e : m.b.sh
    · have hs : m.b.shown = m.b.asks := by unfold Ch.shown; rw [e]; rfl
      rw [hs]
      exact rin_qb w R a b h.rm.at_ _ h.rm.ok.b.asks (h.rm.rb.told.trans e) b.asks (fun j hj => h.rm.rb.asks j hj (fun f => by cases f)) (fun w hw => asking_b w R a b hw)
    · have hs : m.b.shown = m.b.srv := by unfold Ch.shown; rw [e]; rfl
      rw [hs]
      exact rin_sb w R a b h.rm.at_ _ h.rm.ok.b.srv (h.rm.rb.told.trans e) h.rm.rb.srv
  · exact rin_mb w R a b h.rm.at_ _ h.rm.ok.b.msk h.rm.rb.msk

theorem xLine (w : World) (R : Nat) (m : M2) (h : RW w R m) (n : Int) (u : Bool) (n0 : 0 ≤ n) (n1 : n < 16) : Calls Try.prog 16 #[.pointer (some ⟨R, 0, none⟩), .int .i64 n, .bool u] w fun e w' => e = .returned (.int .i64 0) ∧ RW w' R (m.line n u) ∧ Kp (isB R) w w' := by
  have ok' := h.ok.line n0 n1 u
  have hs := settle_id h.ok h.st
  obtain ⟨a, b, h⟩ := h
  by_cases e2 : n = 2
  · subst e2
    have hX : m.line 2 u = m := by unfold M2.line; rw [if_pos rfl]; exact hs
    rw [hX]
    exact (rline_2 w R u).mono fun e w' ⟨z1, z2⟩ => ⟨z1, z2 ▸ ⟨a, b, h⟩, z2 ▸ Kp.refl _ _⟩
  · by_cases e8 : n < 8
    · obtain ⟨k, rfl⟩ := Int.eq_ofNat_of_zero_le n0
      have k8 : k < 8 := by omega
      have k2 : k ≠ 2 := by omega
      have hX : m.line (k : Int) u = (m.set false (m.a.line (k : Int) u)).settle := by unfold M2.line; rw [if_neg e2, if_pos e8]
      have o1 : (m.set false (m.a.line (k : Int) u)).Ok := h.rm.ok.set false (h.rm.ok.a.line n0 e8 u)
      refine (rlineA w R a b h.rm.at_ k k8 k2 u).mono fun e w' ⟨z1, z2, z3⟩ => ⟨z1, ⟨a.line k u, b, ⟨z2, ?_, ?_, ok', ?_⟩, ?_, ?_⟩, z3⟩
      · rw [hX]; exact Rel.settle (h.rm.ra.line h.rm.ok.a k8 (fun _ => k2) u) o1
      · rw [hX]; exact h.rm.rb
      · rw [hX]; exact settle_st2 o1
      · rw [hX]
        show Wn w' (R + 1) a.wp a.wl a.wc (wantsOf (m.a.line (k : Int) u).due)
        rw [line_due]
        exact h.wa.kept2 z3 (fun g hg _ f => by have : g = R := f; omega)
      · rw [hX]
        exact h.wb.kept2 z3 (fun g hg _ f => by have : g = R := f; omega)
    · obtain ⟨k, hk⟩ := Int.eq_ofNat_of_zero_le (show 0 ≤ n - 8 by omega)
      have k8 : k < 8 := by omega
      have hX : m.line n u = (m.set true (m.b.line (k : Int) u)).settle := by unfold M2.line; rw [if_neg e2, if_neg e8, hk]
      have o1 : (m.set true (m.b.line (k : Int) u)).Ok := h.rm.ok.set true (h.rm.ok.b.line (n := (k : Int)) (by omega) (by omega) u)
      refine (rlineB w R a b h.rm.at_ k k8 u n (by omega)).mono fun e w' ⟨z1, z2, z3⟩ => ⟨z1, ⟨a, b.line k u, ⟨z2, ?_, ?_, ok', ?_⟩, ?_, ?_⟩, z3⟩
      · rw [hX]; exact Rel.settle (m := m.set true (m.b.line (k : Int) u)) h.rm.ra o1
      · rw [hX]; exact h.rm.rb.line h.rm.ok.b k8 (fun f => by cases f) u
      · rw [hX]; exact settle_st2 o1
      · rw [hX]
        exact h.wa.kept2 z3 (fun g hg _ f => by have : g = R := f; omega)
      · rw [hX]
        show Wn w' (R + 1) b.wp b.wl b.wc (wantsOf (m.b.line (k : Int) u).due)
        rw [line_due]
        exact h.wb.kept2 z3 (fun g hg _ f => by have : g = R := f; omega)

theorem acks_due (m : M2) : m.acks.a.due = m.a.due ∧ m.acks.b.due = m.b.due := by
  unfold M2.acks
  split
  · exact ⟨told_due _ _, told_due _ _⟩
  · exact ⟨told_due _ _, rfl⟩

theorem xAck (w : World) (R : Nat) (m : M2) (h : RW w R m) : Calls Try.prog 18 #[.pointer (some ⟨R, 0, none⟩)] w fun e w' => e = .returned (.int .i64 m.vec) ∧ RW w' R m.ack ∧ Kp (isB R) w w' := by
  obtain ⟨a, b, h⟩ := h
  obtain ⟨d1, d2⟩ := acks_due m
  refine (rack_ok w R m a b h.rm).mono fun e w' ⟨z1, ⟨a', b', z2, ⟨p1, p2, p3⟩, q1, q2, q3⟩, z3⟩ => ⟨z1, ⟨a', b', z2, ?_, ?_⟩, z3⟩
  · show Wn w' (R + 1) a'.wp a'.wl a'.wc (wantsOf m.acks.a.due)
    rw [p1, p2, p3, d1]
    exact h.wa.kept2 z3 (fun g hg _ f => by have : g = R := f; omega)
  · show Wn w' (R + 1) b'.wp b'.wl b'.wc (wantsOf m.acks.b.due)
    rw [q1, q2, q3, d2]
    exact h.wb.kept2 z3 (fun g hg _ f => by have : g = R := f; omega)

theorem xPend (w : World) (R : Nat) (m : M2) (h : RW w R m) : Calls Try.prog 20 #[.pointer (some ⟨R, 0, none⟩)] w fun e w' => e = .returned (.bool (m.a.next != -1)) ∧ Kp noB w w' := by
  obtain ⟨a, b, h⟩ := h
  exact rpend_ok w R a b m h.rm.at_ h.rm.ra h.rm.rb h.rm.ok h.rm.st

theorem zero_rel (s : Bool) : Rel RC.zero ch0 s := ⟨fun j _ _ => (zero_tb j).symm, fun j _ => (zero_tb j).symm, fun j _ => (zero_tb j).symm, fun j _ _ => (zero_tb j).symm, rfl, rfl, rfl⟩

theorem st0 : St2 m00 := by unfold St2; kernel_rfl

theorem xNew (w : World) : Calls Try.prog 10 #[] w fun e w' => e = .returned (.pointer (some ⟨w.heap.size, 0, none⟩)) ∧ RW w' w.heap.size m00 ∧ Kp noB w w' := by
  have hR : Hid (∀ w' : World, w'.heap[w.heap.size]? = some (.cells (chV RC.zero ++ chV RC.zero) 55 (0, 0)) → RW w' w.heap.size m00) := fun w' h => ⟨RC.zero, RC.zero, ⟨⟨h⟩, zero_rel _, zero_rel _, m00_ok, st0⟩, ⟨rfl, Nat.le_refl _, fun j hj => absurd hj (by show ¬ j < 0; omega)⟩, ⟨rfl, Nat.le_refl _, fun j hj => absurd hj (by show ¬ j < 0; omega)⟩⟩
  have hz0 : ∀ w, (zeroValue 55).run Try.prog w = .ok (.agg (chV RC.zero ++ chV RC.zero)) w := fun w => by kernel_rfl
  obtain ⟨Y, hY⟩ : ∃ Y, Y = chV RC.zero ++ chV RC.zero := ⟨_, rfl⟩
  rw [← hY] at hz0 hR
  clear hY
  go_enter Try.func10, Try.ntmps10
  go_wp2
  go_ret
  exact ⟨rfl, hR.out _ (heap_new w _), Kp.alloc _ _ _⟩
end Go.Proofs.Ytfpgijdfbgfkcaa
