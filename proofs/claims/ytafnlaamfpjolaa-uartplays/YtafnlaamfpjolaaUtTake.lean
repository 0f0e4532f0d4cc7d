/- The contract of take: a receive that never waits. -/
import Derived.Test.YtafnlaamfpjolaaUtLone
import Derived.Test.YtafnlaamfpjolaaUtLeaf
namespace Go.Proofs.Ytafnlaamfpjolaa
open Go.ChangeShapes Go.WideShapes Go.ChangeAt Go.RowKit Go.Conc
set_option linter.unusedVariables false

section
variable {w : World} {B : Nat} {cv : Option Nat} {sv : Value} {u : U}

set_option maxRecDepth 20000 in
theorem take_some {c : Nat} (c0 : w.cell? ⟨B, 0, none⟩ = some (.chan (some c))) {b : Int} {l : List Int} {s r : Nat} (hc : w.heap[c]? = some (.chan 16 ((b :: l).map (Value.int .u8)).toArray false s r false)) : Calls Try.prog 29 #[.pointer (some ⟨B, 0, none⟩)] w fun e w' => e = .returned (.int .u8 b) ∧ w' = w.setChan c 16 (l.map (Value.int .u8)).toArray false s (r + 1) false := by
  refine calls_of_loneB Try.func29 rfl ?_
  simp only [Try.ntmps29, List.size_toArray, List.length_cons, List.length_nil, Nat.reduceAdd, Nat.reduceSub, Array.replicate_succ, Array.replicate_zero, List.push_toArray, List.append_toArray, List.nil_append, List.cons_append]
  refine loneB_seq ?_
  go_wp2
  refine loneB_seq ?_
  go_wp2
  refine loneB_sel (.tuple #[goInt 0, .bool true, .int .u8 b]) (w.setChan c 16 (l.map (Value.int .u8)).toArray false s (r + 1) false) (fun k cs => ?_) ?_
  · refine Eq.trans (step_lone_select_recv_buf (c := c) (cap := 16) (buf := ((b :: l).map (Value.int .u8)).toArray) (closed := false) (s := s) (r := r) (tm := false) (z := .int .u8 0) (w₁ := w) (stepG_comm (cases := #[rcase c (.int .u8 0)]) (blocking := false) (shape := .select) (w' := w) rfl rfl (by decide) (by simp [go_sem, execOp, rcase, Act.eval])) hc (by simp)) ?_
    simp [List.take_of_length_le]
  go_wp2
  refine loneB_end Try.func29 ?_
  go_wp2
  go_ret
  exact ⟨⟨rfl, rfl⟩, by simp⟩

set_option maxRecDepth 20000 in
theorem take_empty {c : Nat} (c0 : w.cell? ⟨B, 0, none⟩ = some (.chan (some c))) {s r : Nat} (hc : w.heap[c]? = some (.chan 16 #[] false s r false)) : Calls Try.prog 29 #[.pointer (some ⟨B, 0, none⟩)] w fun e w' => e = .returned (.int .u8 0) ∧ w' = w := by
  refine calls_of_loneB Try.func29 rfl ?_
  simp only [Try.ntmps29, List.size_toArray, List.length_cons, List.length_nil, Nat.reduceAdd, Nat.reduceSub, Array.replicate_succ, Array.replicate_zero, List.push_toArray, List.append_toArray, List.nil_append, List.cons_append]
  refine loneB_seq ?_
  go_wp2
  refine loneB_seq ?_
  go_wp2
  refine loneB_sel (.tuple #[goInt (-1), .bool false, .int .u8 0]) w (fun k cs => ?_) ?_
  · exact step_lone_select_default (c := c) (cap := 16) (s := s) (r := r) (tm := false) (z := .int .u8 0) (w₁ := w) (stepG_comm (cases := #[rcase c (.int .u8 0)]) (blocking := false) (shape := .select) (w' := w) rfl rfl (by decide) (by simp [go_sem, execOp, rcase, Act.eval])) hc
  go_wp2
  refine loneB_end Try.func29 ?_
  go_wp2
  go_ret
  exact ⟨⟨rfl, rfl⟩, by simp⟩

set_option maxRecDepth 20000 in
theorem take_nil (c0 : w.cell? ⟨B, 0, none⟩ = some (.chan none)) : Calls Try.prog 29 #[.pointer (some ⟨B, 0, none⟩)] w fun e w' => e = .returned (.int .u8 0) ∧ w' = w := by
  refine calls_of_loneB Try.func29 rfl ?_
  simp only [Try.ntmps29, List.size_toArray, List.length_cons, List.length_nil, Nat.reduceAdd, Nat.reduceSub, Array.replicate_succ, Array.replicate_zero, List.push_toArray, List.append_toArray, List.nil_append, List.cons_append]
  refine loneB_seq ?_
  go_wp2
  refine loneB_seq ?_
  go_wp2
  refine loneB_sel (.tuple #[goInt (-1), .bool false, .int .u8 0]) w (fun k cs => ?_) ?_
  · exact step_lone_select_recv_nil (z := .int .u8 0) (w₁ := w) (stepG_comm (cases := #[rcaseNil (.int .u8 0)]) (blocking := false) (shape := .select) (w' := w) rfl rfl (by decide) (by simp [go_sem, execOp, rcaseNil, Act.eval]))
  go_wp2
  refine loneB_end Try.func29 ?_
  go_wp2
  go_ret
  exact ⟨⟨rfl, rfl⟩, by simp⟩

theorem kpChan (w : World) (c cap : Nat) (buf : Array Value) (cl : Bool) (s r : Nat) (tm : Bool) : Kp (isB c) w (w.setChan c cap buf cl s r tm) :=
  ⟨rfl, rfl, rfl, by simp [World.setChan], fun k hk hs => by simp only [World.setChan]; rw [Array.getElem?_setIfInBounds_ne (fun e => hs e.symm)]⟩

theorem UAt.chan {c : Nat} (h : UAt w B (some c) sv u) (l : List Int) (hl : l.length ≤ 16) (s r : Nat) : UAt (w.setChan c 16 (l.map (Value.int .u8)).toArray false s r false) B (some c) sv { u with came := l } := by
  have hk := kpChan w c 16 (l.map (Value.int .u8)).toArray false s r false
  obtain ⟨s', r', g⟩ := h.chn.lt
  refine ⟨heap_kept h.blk hk ?_, .on c s r l (heap_setChan _ _ _ _ _ _ _ _ (heap_lt g)) hl, h.snt.kept hk ?_⟩
  · rintro (rfl : B = c)
    rw [h.blk] at g
    cases g
  · rintro k e (rfl : k = c)
    obtain ⟨cur, g'⟩ := h.snt.lt e
    rw [g'] at g
    cases g

/-- The channel's block alone. -/
def isC (cv : Option Nat) (k : Nat) : Prop := cv = some k

theorem take_ok (h : UAt w B cv sv u) : Calls Try.prog 29 #[.pointer (some ⟨B, 0, none⟩)] w fun e w' => e = .returned (.int .u8 u.first) ∧ UAt w' B cv sv u.took ∧ Kp (isC cv) w w' := by
  have c0 := h.c0
  have hc := h.chn
  obtain ⟨came, lost, tell, on, d0, d1, want, line, modem, jot, sent⟩ := u
  simp only at hc
  cases hc with
  | no => exact (take_nil c0).mono fun e w' ⟨a, b⟩ => ⟨a, b ▸ h, b ▸ Kp.refl _ _⟩
  | on c s r l g hl =>
    cases came with
    | nil => exact (take_empty c0 g).mono fun e w' ⟨a, b⟩ => ⟨a, b ▸ h, b ▸ Kp.refl _ _⟩
    | cons b l =>
      refine (take_some c0 g).mono fun e w' ⟨a, e'⟩ => ⟨a, e' ▸ ?_, e' ▸ ?_⟩
      · exact h.chan l (by simp only [List.length_cons] at hl; omega) s (r + 1)
      · exact (kpChan _ _ _ _ _ _ _ _).mono fun k _ (e : k = c) => by rw [e]; rfl
end
end Go.Proofs.Ytafnlaamfpjolaa
