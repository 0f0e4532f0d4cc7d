/- The contracts of the functions that are handed to with. -/
import Derived.Test.YtfpgijdfbgfkcaaPcCmd
import Derived.Test.YtfpgijdfbgfkcaaPcDat
import Derived.Test.YtfpgijdfbgfkcaaPcLine
import Derived.Test.YtfpgijdfbgfkcaaPcSettle
namespace Go.Proofs.Ytfpgijdfbgfkcaa
open Go.ChangeShapes Go.WideShapes Go.ChangeAt Go.RowKit
set_option linter.unusedVariables false

theorem outc_a (w : World) (B q : Nat) (m : M2) (h : PAt w B m) (v : Int) (hv : By v) (hq : w.cell? ⟨q, 0, none⟩ = some (.int .u8 v)) : Calls Try.prog 23 #[.pointer (some ⟨B, 0, none⟩), .int .i64 0, .pointer (some ⟨q, 0, none⟩)] w fun e w' => e = .returned (.tuple #[]) ∧ PAt w' B (m.set false (m.a.cmd v)) ∧ Kp (isB B) w w' := by
  have H : Hid _ := cmd_a w B m h v hv
  go_enter Try.func23, Try.ntmps23
  go_wp2_with fail
  refine Calls.mono H.out ?_; rintro e w1 ⟨rfl, r1, k1⟩
  go_wp2
  go_end0
  exact ⟨rfl, r1, k1⟩

theorem outd_a (w : World) (B q : Nat) (m : M2) (h : PAt w B m) (v : Int) (hv : By v) (hq : w.cell? ⟨q, 0, none⟩ = some (.int .u8 v)) : Calls Try.prog 23 #[.pointer (some ⟨B, 0, none⟩), .int .i64 1, .pointer (some ⟨q, 0, none⟩)] w fun e w' => e = .returned (.tuple #[]) ∧ PAt w' B (m.set false (m.a.dat v)) ∧ Kp (isB B) w w' := by
  have H : Hid _ := dat_a w B m h v hv
  go_enter Try.func23, Try.ntmps23
  go_wp2_with fail
  refine Calls.mono H.out ?_; rintro e w1 ⟨rfl, r1, k1⟩
  go_wp2
  go_end0
  exact ⟨rfl, r1, k1⟩

theorem inc_a (w : World) (B q : Nat) (m : M2) (h : PAt w B m) (x : Value) (hq : w.cell? ⟨q, 0, none⟩ = some x) (zq : w.frozen? ⟨q, 0, none⟩ = false) : Calls Try.prog 28 #[.pointer (some ⟨B, 0, none⟩), .int .i64 0, .pointer (some ⟨q, 0, none⟩)] w fun e w' => e = .returned (.tuple #[]) ∧ w' = w.setCell ⟨q, 0, none⟩ (.int .u8 m.a.shown) := by
  have H : Hid _ := shown_a w B m h
  go_enter Try.func28, Try.ntmps28
  go_wp2_with fail
  refine Calls.mono H.out ?_; rintro e w1 ⟨rfl, hw⟩; replace hw := hw.symm; subst hw
  go_wp2
  go_end0
  exact ⟨rfl, rfl⟩

theorem ind_a (w : World) (B q : Nat) (m : M2) (h : PAt w B m) (x : Value) (hq : w.cell? ⟨q, 0, none⟩ = some x) (zq : w.frozen? ⟨q, 0, none⟩ = false) : Calls Try.prog 28 #[.pointer (some ⟨B, 0, none⟩), .int .i64 1, .pointer (some ⟨q, 0, none⟩)] w fun e w' => e = .returned (.tuple #[]) ∧ w' = w.setCell ⟨q, 0, none⟩ (.int .u8 m.a.msk) := by
  have c3 := h.c3
  go_enter Try.func28, Try.ntmps28
  go_wp2
  go_end0
  exact ⟨rfl, rfl⟩

theorem linc_a (w : World) (B q r : Nat) (m : M2) (h : PAt w B m) (n x : Int) (u : Bool) (n0 : 0 ≤ n) (n1 : n < 8) (hx : (x != 2) = true) (hq : w.cell? ⟨q, 0, none⟩ = some (.int .i64 x)) (hr : w.cell? ⟨r, 0, none⟩ = some (.bool u)) : Calls Try.prog 32 #[.pointer (some ⟨B, 0, none⟩), .int .i64 n, .pointer (some ⟨q, 0, none⟩), .pointer (some ⟨r, 0, none⟩)] w fun e w' => e = .returned (.tuple #[]) ∧ PAt w' B (m.set false (m.a.line n u)) ∧ Kp (isB B) w w' := by
  have H : Hid _ := line_a w B m h n n0 n1 u
  go_enter Try.func32, Try.ntmps32
  go_wp2_with fail
  refine Calls.mono H.out ?_; rintro e w1 ⟨rfl, r1, k1⟩
  go_wp2
  go_end0
  exact ⟨rfl, r1, k1⟩

theorem outc_b (w : World) (B q : Nat) (m : M2) (h : PAt w B m) (v : Int) (hv : By v) (hq : w.cell? ⟨q, 0, none⟩ = some (.int .u8 v)) : Calls Try.prog 23 #[.pointer (some ⟨B, 8, none⟩), .int .i64 0, .pointer (some ⟨q, 0, none⟩)] w fun e w' => e = .returned (.tuple #[]) ∧ PAt w' B (m.set true (m.b.cmd v)) ∧ Kp (isB B) w w' := by
  have H : Hid _ := cmd_b w B m h v hv
  go_enter Try.func23, Try.ntmps23
  go_wp2_with fail
  refine Calls.mono H.out ?_; rintro e w1 ⟨rfl, r1, k1⟩
  go_wp2
  go_end0
  exact ⟨rfl, r1, k1⟩

theorem outd_b (w : World) (B q : Nat) (m : M2) (h : PAt w B m) (v : Int) (hv : By v) (hq : w.cell? ⟨q, 0, none⟩ = some (.int .u8 v)) : Calls Try.prog 23 #[.pointer (some ⟨B, 8, none⟩), .int .i64 1, .pointer (some ⟨q, 0, none⟩)] w fun e w' => e = .returned (.tuple #[]) ∧ PAt w' B (m.set true (m.b.dat v)) ∧ Kp (isB B) w w' := by
  have H : Hid _ := dat_b w B m h v hv
  go_enter Try.func23, Try.ntmps23
  go_wp2_with fail
  refine Calls.mono H.out ?_; rintro e w1 ⟨rfl, r1, k1⟩
  go_wp2
  go_end0
  exact ⟨rfl, r1, k1⟩

theorem inc_b (w : World) (B q : Nat) (m : M2) (h : PAt w B m) (x : Value) (hq : w.cell? ⟨q, 0, none⟩ = some x) (zq : w.frozen? ⟨q, 0, none⟩ = false) : Calls Try.prog 28 #[.pointer (some ⟨B, 8, none⟩), .int .i64 0, .pointer (some ⟨q, 0, none⟩)] w fun e w' => e = .returned (.tuple #[]) ∧ w' = w.setCell ⟨q, 0, none⟩ (.int .u8 m.b.shown) := by
  have H : Hid _ := shown_b w B m h
  go_enter Try.func28, Try.ntmps28
  go_wp2_with fail
  refine Calls.mono H.out ?_; rintro e w1 ⟨rfl, hw⟩; replace hw := hw.symm; subst hw
  go_wp2
  go_end0
  exact ⟨rfl, rfl⟩

theorem ind_b (w : World) (B q : Nat) (m : M2) (h : PAt w B m) (x : Value) (hq : w.cell? ⟨q, 0, none⟩ = some x) (zq : w.frozen? ⟨q, 0, none⟩ = false) : Calls Try.prog 28 #[.pointer (some ⟨B, 8, none⟩), .int .i64 1, .pointer (some ⟨q, 0, none⟩)] w fun e w' => e = .returned (.tuple #[]) ∧ w' = w.setCell ⟨q, 0, none⟩ (.int .u8 m.b.msk) := by
  have c3 := h.c11
  go_enter Try.func28, Try.ntmps28
  go_wp2
  go_end0
  exact ⟨rfl, rfl⟩

theorem linc_b (w : World) (B q r : Nat) (m : M2) (h : PAt w B m) (n x : Int) (u : Bool) (n0 : 0 ≤ n) (n1 : n < 8) (hx : (x != 2) = true) (hq : w.cell? ⟨q, 0, none⟩ = some (.int .i64 x)) (hr : w.cell? ⟨r, 0, none⟩ = some (.bool u)) : Calls Try.prog 32 #[.pointer (some ⟨B, 8, none⟩), .int .i64 n, .pointer (some ⟨q, 0, none⟩), .pointer (some ⟨r, 0, none⟩)] w fun e w' => e = .returned (.tuple #[]) ∧ PAt w' B (m.set true (m.b.line n u)) ∧ Kp (isB B) w w' := by
  have H : Hid _ := line_b w B m h n n0 n1 u
  go_enter Try.func32, Try.ntmps32
  go_wp2_with fail
  refine Calls.mono H.out ?_; rintro e w1 ⟨rfl, r1, k1⟩
  go_wp2
  go_end0
  exact ⟨rfl, r1, k1⟩

theorem linc_2 (w : World) (B q r : Nat) (hq : w.cell? ⟨q, 0, none⟩ = some (.int .i64 2)) : Calls Try.prog 32 #[.pointer (some ⟨B, 0, none⟩), .int .i64 2, .pointer (some ⟨q, 0, none⟩), .pointer (some ⟨r, 0, none⟩)] w fun e w' => e = .returned (.tuple #[]) ∧ w' = w := by
  go_enter Try.func32, Try.ntmps32
  go_wp2
  go_end0
  exact ⟨rfl, rfl⟩

def M2.acks (m : M2) : M2 := if m.a.next = 2 then ⟨m.a.told 2, m.b.told m.b.next⟩ else ⟨m.a.told m.a.next, m.b⟩
def M2.vec (m : M2) : Int := if m.a.next = 2 then m.b.vec m.b.next else m.a.vec m.a.next

theorem ackAny_a (w : World) (B : Nat) (m : M2) (h : PAt w B m) (k : m.a.Ok) (n : Int) (n0 : -1 ≤ n) (n1 : n < 8) : Calls Try.prog 36 #[.pointer (some ⟨B, 0, none⟩), .int .i64 n] w fun e w' => e = .returned (.int .i64 (m.a.vec n)) ∧ PAt w' B (m.set false (m.a.told n)) ∧ Kp (isB B) w w' := by
  by_cases g : n = -1
  · subst g; exact ackn_a w B m h k
  · exact ack_a w B m h k n (by omega) n1

theorem ackAny_b (w : World) (B : Nat) (m : M2) (h : PAt w B m) (k : m.b.Ok) (n : Int) (n0 : -1 ≤ n) (n1 : n < 8) : Calls Try.prog 36 #[.pointer (some ⟨B, 8, none⟩), .int .i64 n] w fun e w' => e = .returned (.int .i64 (m.b.vec n)) ∧ PAt w' B (m.set true (m.b.told n)) ∧ Kp (isB B) w w' := by
  by_cases g : n = -1
  · subst g; exact ackn_b w B m h k
  · exact ack_b w B m h k n (by omega) n1

def isBq (B q k : Nat) : Prop := k = B ∨ k = q

theorem cell_kept {S : Nat → Prop} {w w' : World} {b o : Nat} {v : Value} (h : w.cell? ⟨b, o, none⟩ = some v) (k : Kp S w w') (hS : ¬ S b) : w'.cell? ⟨b, o, none⟩ = some v := by
  have hb : b < w.heap.size := by
    by_cases e : b < w.heap.size
    · exact e
    · have : w.heap[b]? = none := Array.getElem?_eq_none (by omega)
      simp [World.cell?, this] at h
  rw [World.cell?_of_block (w := w) (k.block b hb hS)]; exact h

theorem cell_self {w : World} {b o : Nat} {v x : Value} (h : w.cell? ⟨b, o, none⟩ = some x) : (w.setCell ⟨b, o, none⟩ v).cell? ⟨b, o, none⟩ = some v := by simp [go_sem, h]

theorem frozen_kept {S : Nat → Prop} {w w' : World} {b o : Nat} (h : w.frozen? ⟨b, o, none⟩ = false) (hb : b < w.heap.size) (k : Kp S w w') (hS : ¬ S b) : w'.frozen? ⟨b, o, none⟩ = false := by
  have e := k.block b hb hS
  unfold World.frozen? at h ⊢
  rw [e]; exact h

theorem ackc_ok (w : World) (B q r : Nat) (m : M2) (h : PAt w B m) (k : m.Ok) (x : Value) (hq : w.cell? ⟨q, 0, none⟩ = some x) (zq : w.frozen? ⟨q, 0, none⟩ = false) (hr : w.cell? ⟨r, 0, none⟩ = some (.pointer (some ⟨B, 0, none⟩))) (qB : ¬ q = B) (rB : ¬ r = B) (rq : ¬ r = q) (lq : q < w.heap.size) : Calls Try.prog 34 #[.pointer (some ⟨B, 0, none⟩), .int .i64 0, .pointer (some ⟨q, 0, none⟩), .pointer (some ⟨r, 0, none⟩)] w fun e w' => e = .returned (.tuple #[]) ∧ PAt w' B m.acks ∧ w'.cell? ⟨q, 0, none⟩ = some (.int .i64 m.vec) ∧ Kp (isBq B q) w w' := by
  have bn := next_bd k.a
  have bm := next_bd k.b
  have HN : Hid _ := next_a w B m h k.a
  have HA : Hid (∀ w, PAt w B m → _) := fun w h => ackAny_a w B m h k.a m.a.next bn.1 bn.2
  by_cases g : m.a.next = 2
  · have hX : m.acks = ⟨m.a.told 2, m.b.told m.b.next⟩ := by unfold M2.acks; rw [if_pos g]
    have hV : m.vec = m.b.vec m.b.next := by unfold M2.vec; rw [if_pos g]
    rw [hX, hV]
    rw [g] at HN HA
    have HN2 : Hid (∀ w, PAt w B (m.set false (m.a.told 2)) → _) := fun w h => next_b w B _ h k.b
    have HA2 : Hid (∀ w, PAt w B (m.set false (m.a.told 2)) → _) := fun w h => ackAny_b w B _ h k.b m.b.next bm.1 bm.2
    go_enter Try.func34, Try.ntmps34
    go_wp2_with fail
    refine Calls.mono HN.out ?_; rintro e w1 ⟨rfl, k1⟩
    have h1 := h.kept k1 id
    have hq1 := cell_kept hq k1 id
    have zq1 := frozen_kept zq lq k1 id
    have hr1 := cell_kept hr k1 id
    have lq1 : q < w1.heap.size := Nat.lt_of_lt_of_le lq k1.size
    clear hq zq hr
    go_wp2_with fail
    refine Calls.mono (HA.out w1 h1) ?_; rintro e w2 ⟨rfl, h2, k2⟩
    have hq2 := cell_kept hq1 k2 qB
    have zq2 := frozen_kept zq1 lq1 k2 qB
    have hr2 := cell_kept hr1 k2 rB
    have lq2 : q < w2.heap.size := Nat.lt_of_lt_of_le lq1 k2.size
    clear hq1 zq1 hr1
    have k3 : Kp (isB q) w2 (w2.setCell ⟨q, 0, none⟩ (.int .i64 (m.a.vec 2))) := Kp.setCell (S := isB q) w2 (p := ⟨q, 0, none⟩) rfl _
    have h3 := h2.kept k3 (fun e => qB e.symm)
    have hr3 := cell_kept hr2 k3 rq
    have zq3 : (w2.setCell ⟨q, 0, none⟩ (.int .i64 (m.a.vec 2))).frozen? ⟨q, 0, none⟩ = false := by simpa [go_sem] using zq2
    have hq3 : (w2.setCell ⟨q, 0, none⟩ (.int .i64 (m.a.vec 2))).cell? ⟨q, 0, none⟩ = some (.int .i64 (m.a.vec 2)) := by simp [go_sem, hq2]
    have lq3 : q < (w2.setCell ⟨q, 0, none⟩ (.int .i64 (m.a.vec 2))).heap.size := Nat.lt_of_lt_of_le lq2 k3.size
    go_wp2_with fail
    clear hq2 zq2 hr2
    refine Calls.mono (HN2.out _ h3) ?_; rintro e w4 ⟨rfl, k4⟩
    have h4 := h3.kept k4 id
    have hq4 := cell_kept hq3 k4 id
    have zq4 := frozen_kept zq3 lq3 k4 id
    have lq4 : q < w4.heap.size := Nat.lt_of_lt_of_le lq3 k4.size
    clear hq3 zq3 hr3
    go_wp2_with fail
    refine Calls.mono (HA2.out w4 h4) ?_; rintro e w5 ⟨rfl, h5, k5⟩
    have hq5 := cell_kept hq4 k5 qB
    have zq5 := frozen_kept zq4 lq4 k5 qB
    clear hq4 zq4
    have k6 : Kp (isB q) w5 (w5.setCell ⟨q, 0, none⟩ (.int .i64 (m.b.vec m.b.next))) := Kp.setCell (S := isB q) w5 (p := ⟨q, 0, none⟩) rfl _
    have h6 := h5.kept k6 (fun e => qB e.symm)
    go_wp2
    go_end0
    refine ⟨rfl, h6, cell_self hq5, ?_⟩
    exact (((((k1.any (S := isBq B q)).over k2 (fun _ _ e => .inl e)).over k3 (fun _ _ e => .inr e)).over k4 (fun _ _ e => e.elim)).over k5 (fun _ _ e => .inl e)).over k6 (fun _ _ e => .inr e)
  · have hX : m.acks = ⟨m.a.told m.a.next, m.b⟩ := by unfold M2.acks; rw [if_neg g]
    have hV : m.vec = m.a.vec m.a.next := by unfold M2.vec; rw [if_neg g]
    rw [hX, hV]
    have g' : (m.a.next == 2) = false := by simp [g]
    obtain ⟨N, hN⟩ : ∃ N, N = m.a.next := ⟨_, rfl⟩
    rw [← hN] at HN HA g' ⊢
    clear g hN hX hV bn
    go_enter Try.func34, Try.ntmps34
    go_wp2_with fail
    refine Calls.mono HN.out ?_; rintro e w1 ⟨rfl, k1⟩
    have h1 := h.kept k1 id
    have hq1 := cell_kept hq k1 id
    have zq1 := frozen_kept zq lq k1 id
    have lq1 : q < w1.heap.size := Nat.lt_of_lt_of_le lq k1.size
    clear hq zq hr
    go_wp2_with fail
    refine Calls.mono (HA.out w1 h1) ?_; rintro e w2 ⟨rfl, h2, k2⟩
    have hq2 := cell_kept hq1 k2 qB
    have zq2 := frozen_kept zq1 lq1 k2 qB
    clear hq1 zq1
    have k3 : Kp (isB q) w2 (w2.setCell ⟨q, 0, none⟩ (.int .i64 (m.a.vec N))) := Kp.setCell (S := isB q) w2 (p := ⟨q, 0, none⟩) rfl _
    have h3 := h2.kept k3 (fun e => qB e.symm)
    go_wp2
    go_end0
    refine ⟨rfl, h3, cell_self hq2, ?_⟩
    exact ((k1.any (S := isBq B q)).over k2 (fun _ _ e => .inl e)).over k3 (fun _ _ e => .inr e)

end Go.Proofs.Ytfpgijdfbgfkcaa
