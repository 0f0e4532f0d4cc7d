/- The bus and its devices: UtPush, UtW, UtOpen, UartLatchesLaw, UtStr, UrBase, UrLeaf. -/
import Derived.Test.YtonfjhbfkichkaaGreatBz02
import Derived.Test.YtonfjhbfkichkaaGreatRows
import Derived.WalkKit
import Derived.ProofKit
import Derived.OpenShut
import Derived.Carry
import Derived.Deep.Slices
import Derived.Below
import Derived.SizedLaws
import Derived.Laws.BytesArg
namespace Go.Proofs.YtonfjhbfkichkaaGreat.Ut
open Go.ChangeShapes Go.WideShapes Go.ChangeAt Go.RowKit Go.Conc
set_option linter.unusedVariables false
theorem mk16 (w : World) : (Instr.makeChan 126 (.int .i64 16)).run Tryz.prog w = .ok (.chan (some w.heap.size)) (w.alloc (.chan 16 #[] false 0 0 false)) := by
 have h : (Tryz.prog.info? 5).map (·.bytes) = some 1 := by kernel_rfl
 obtain ⟨i, hi, hb⟩ := Option.map_eq_some_iff.1 h
 simpa using run_makeChan (P := Tryz.prog) (w := w) Tryz.underlying126 hi .i64 16 (by omega) (by rw [hb]; omega)
theorem eqC (w : World) (x : Nat) : (binOp .eql 126 (.chan (some x)) (.chan none)).run Tryz.prog w = .ok (.bool false) w := by kernel_rfl
theorem eqN (w : World) : (binOp .eql 126 (.chan none) (.chan none)).run Tryz.prog w = .ok (.bool true) w := by kernel_rfl
section
variable {w : World} {B : Nat} {cv : Option Nat} {sv : Value} {u : U}
def UPush (w : World) (B : Nat) (cv : Option Nat) (sv : Value) (u : U) (w' : World) : Prop :=
 ∃ cv', UAt w' B cv' sv u ∧ (cv' = cv ∨ ∃ c, cv' = some c ∧ w.heap.size ≤ c) ∧ Kp (fun k => k = B ∨ cv = some k) w w'
set_option maxRecDepth 20000 in
theorem push_off {c : Nat} (h : UAt w B (some c) sv u) (eo : u.on = false) (et : u.there = true) (b : Int) : Calls Tryz.prog 83 #[.pointer (some ⟨B, 0, none⟩), .int .u8 b] w fun e w' => e = .returned (.tuple #[]) ∧ w' = w.setCell ⟨B, 1, none⟩ (.bool true) := by
 have c0 := h.c0
 have c1 := h.c1
 have ec := fun w => eqC w c
 have z1 := h.fz 1
 have c4 := h.c4
 have HT : Hid _ := there_any h
 rw [eo] at c4
 rw [et] at HT
 clear h
 go_enter Tryz.func83, Tryz.ntmps83
 go_wp2_with fail
 refine Calls.mono HT.out ?_; rintro e w1 ⟨rfl, hw⟩; replace hw := hw.symm; subst hw
 go_wp2
 refine bodyPost_ret (results_none rfl _ _ _) rfl ?_
 exact ⟨rfl, rfl⟩
set_option maxRecDepth 20000 in
theorem push_room_on {c : Nat} (h : UAt w B (some c) sv u) (eo : u.on = true) (b : Int) {l : List Int} {s r : Nat} (hc : w.heap[c]? = some (.chan 16 (l.map (Value.int .u8)).toArray false s r false)) (hl : l.length < 16) : Calls Tryz.prog 83 #[.pointer (some ⟨B, 0, none⟩), .int .u8 b] w fun e w' => e = .returned (.tuple #[]) ∧ w' = w.setChan c 16 ((l ++ [b]).map (Value.int .u8)).toArray false (s + 1) r false := by
 have c0 := h.c0
 have c1 := h.c1
 have ec := fun w => eqC w c
 have z1 := h.fz 1
 have c4 := h.c4
 rw [eo] at c4
 clear h
 refine calls_of_loneB Tryz.func83 rfl ?_
 simp only [Tryz.ntmps83, List.size_toArray, List.length_cons, List.length_nil, Nat.reduceAdd, Nat.reduceSub, Array.replicate_succ, Array.replicate_zero, List.push_toArray, List.append_toArray, List.nil_append, List.cons_append]
 refine loneB_seq ?_
 go_wp2
 refine loneB_seq ?_
 go_wp2
 refine loneB_seq ?_
 go_wp2
 refine loneB_seq ?_
 go_wp2
 refine loneB_sel (.tuple #[goInt 0, .bool false]) (w.setChan c 16 ((l ++ [b]).map (Value.int .u8)).toArray false (s + 1) r false) (fun k cs => ?_) ?_
 ·refine Eq.trans (step_lone_select_send_room (c := c) (cap := 16) (buf := (l.map (Value.int .u8)).toArray) (s := s) (r := r) (tm := false) (v := .int .u8 b) (z' := .int .u8 0) (w₁ := w) (stepG_comm (cases := #[scase c (.int .u8 b) (.int .u8 0)]) (blocking := false) (shape := .select) (w' := w) rfl rfl (by decide) (by simp [go_sem, execOp, scase, Act.eval])) hc (by simpa using hl)) ?_
  simp
 go_wp2
 refine loneB_end Tryz.func83 ?_
 go_wp2
 go_end0
 exact ⟨⟨rfl, rfl⟩, by simp⟩
set_option maxRecDepth 20000 in
theorem push_room_off {c : Nat} (h : UAt w B (some c) sv u) (eo : u.on = false) (et : u.there = false) (b : Int) {l : List Int} {s r : Nat} (hc : w.heap[c]? = some (.chan 16 (l.map (Value.int .u8)).toArray false s r false)) (hl : l.length < 16) : Calls Tryz.prog 83 #[.pointer (some ⟨B, 0, none⟩), .int .u8 b] w fun e w' => e = .returned (.tuple #[]) ∧ w' = w.setChan c 16 ((l ++ [b]).map (Value.int .u8)).toArray false (s + 1) r false := by
 have c0 := h.c0
 have c1 := h.c1
 have ec := fun w => eqC w c
 have z1 := h.fz 1
 have c4 := h.c4
 have HT : Hid _ := there_any h
 rw [et] at HT
 rw [eo] at c4
 clear h
 refine calls_of_loneB Tryz.func83 rfl ?_
 simp only [Tryz.ntmps83, List.size_toArray, List.length_cons, List.length_nil, Nat.reduceAdd, Nat.reduceSub, Array.replicate_succ, Array.replicate_zero, List.push_toArray, List.append_toArray, List.nil_append, List.cons_append]
 refine loneB_seq ?_
 go_wp2
 refine loneB_seq ?_
 go_wp2
 refine loneB_seq ?_
 go_wp2_with fail
 refine Calls.mono HT.out ?_; rintro e w1 ⟨rfl, hw⟩; replace hw := hw.symm; subst hw
 go_wp2
 refine loneB_seq ?_
 go_wp2
 refine loneB_sel (.tuple #[goInt 0, .bool false]) (w.setChan c 16 ((l ++ [b]).map (Value.int .u8)).toArray false (s + 1) r false) (fun k cs => ?_) ?_
 ·refine Eq.trans (step_lone_select_send_room (c := c) (cap := 16) (buf := (l.map (Value.int .u8)).toArray) (s := s) (r := r) (tm := false) (v := .int .u8 b) (z' := .int .u8 0) (w₁ := w) (stepG_comm (cases := #[scase c (.int .u8 b) (.int .u8 0)]) (blocking := false) (shape := .select) (w' := w) rfl rfl (by decide) (by simp [go_sem, execOp, scase, Act.eval])) hc (by simpa using hl)) ?_
  simp
 go_wp2
 refine loneB_end Tryz.func83 ?_
 go_wp2
 go_end0
 exact ⟨⟨rfl, rfl⟩, by simp⟩
set_option maxRecDepth 20000 in
theorem push_full_on {c : Nat} (h : UAt w B (some c) sv u) (eo : u.on = true) (b : Int) {l : List Int} {s r : Nat} (hc : w.heap[c]? = some (.chan 16 (l.map (Value.int .u8)).toArray false s r false)) (hl : 16 ≤ l.length) : Calls Tryz.prog 83 #[.pointer (some ⟨B, 0, none⟩), .int .u8 b] w fun e w' => e = .returned (.tuple #[]) ∧ w' = w.setCell ⟨B, 1, none⟩ (.bool true) := by
 have c0 := h.c0
 have c1 := h.c1
 have ec := fun w => eqC w c
 have z1 := h.fz 1
 have c4 := h.c4
 rw [eo] at c4
 clear h
 refine calls_of_loneB Tryz.func83 rfl ?_
 simp only [Tryz.ntmps83, List.size_toArray, List.length_cons, List.length_nil, Nat.reduceAdd, Nat.reduceSub, Array.replicate_succ, Array.replicate_zero, List.push_toArray, List.append_toArray, List.nil_append, List.cons_append]
 refine loneB_seq ?_
 go_wp2
 refine loneB_seq ?_
 go_wp2
 refine loneB_seq ?_
 go_wp2
 refine loneB_seq ?_
 go_wp2
 refine loneB_sel (.tuple #[goInt (-1), .bool false]) w (fun k cs => ?_) ?_
 ·exact step_lone_select_send_full (c := c) (cap := 16) (buf := (l.map (Value.int .u8)).toArray) (s := s) (r := r) (tm := false) (v := .int .u8 b) (z' := .int .u8 0) (w₁ := w) (stepG_comm (cases := #[scase c (.int .u8 b) (.int .u8 0)]) (blocking := false) (shape := .select) (w' := w) rfl rfl (by decide) (by simp [go_sem, execOp, scase, Act.eval])) hc (by simpa using hl)
 go_wp2
 refine loneB_end Tryz.func83 ?_
 go_wp2
 go_end0
 exact ⟨⟨rfl, rfl⟩, by simp⟩
def wCh (w : World) (B : Nat) : World := (w.alloc (.chan 16 #[] false 0 0 false)).setCell ⟨B, 0, none⟩ (.chan (some w.heap.size))
theorem wCh_at (h : UAt w B none sv u) : UAt (wCh w B) B (some w.heap.size) sv u ∧ (wCh w B).heap[w.heap.size]? = some (.chan 16 (([] : List Int).map (Value.int .u8)).toArray false 0 0 false) := by
 have hn := heap_new w (.chan 16 #[] false 0 0 false)
 have hB := h.lt
 have e : u.came = [] := by
  have := h.chn
  generalize u.came = l at this
  cases this
  rfl
 refine ⟨(h.alloc _).put _ _ _ rfl (e ▸ .on _ 0 0 [] hn (by decide)) (h.alloc _).snt, ?_⟩
 exact heap_kept hn (kpB B _ 0 _) (fun g => by unfold isB at g; omega)
theorem wCh_kp (w : World) (B : Nat) : Kp (isB B) w (wCh w B) := (Kp.alloc _ _ _).trans (kpB B _ _ _)
set_option maxRecDepth 20000 in
theorem push_new_on (h : UAt w B none sv u) (eo : u.on = true) (b : Int) : Calls Tryz.prog 83 #[.pointer (some ⟨B, 0, none⟩), .int .u8 b] w fun e w' => e = .returned (.tuple #[]) ∧ w' = (wCh w B).setChan w.heap.size 16 (([] ++ [b]).map (Value.int .u8)).toArray false 1 0 false := by
 have c0 := h.c0
 have z0 := h.fz 0
 have c0' := (h.alloc (.chan 16 #[] false 0 0 false)).c0
 have z0' := (h.alloc (.chan 16 #[] false 0 0 false)).fz 0
 have en := eqN
 have mk := mk16
 have et : u.there = false := by
  have := h.chn
  unfold U.there
  generalize u.came = l at this
  cases this
  rfl
 obtain ⟨hU0, hc0⟩ := wCh_at h
 have hU : Hid (UAt (wCh w B) B (some w.heap.size) sv u) := hU0
 have hc : Hid ((wCh w B).heap[w.heap.size]? = some (.chan 16 (([] : List Int).map (Value.int .u8)).toArray false 0 0 false)) := hc0
 clear hU0 hc0 h
 refine calls_of_loneB Tryz.func83 rfl ?_
 simp only [Tryz.ntmps83, List.size_toArray, List.length_cons, List.length_nil, Nat.reduceAdd, Nat.reduceSub, Array.replicate_succ, Array.replicate_zero, List.push_toArray, List.append_toArray, List.nil_append, List.cons_append]
 refine loneB_seq ?_
 go_wp2
 refine loneB_seq ?_
 go_wp2
 have ew : ((w.alloc (.chan 16 #[] false 0 0 false)).setCell ⟨B, 0, none⟩ (.chan (some w.heap.size))) = wCh w B := rfl
 rw [ew]
 clear ew c0 z0 c0' z0' en mk
 obtain ⟨c, ecc⟩ : ∃ c, c = w.heap.size := ⟨_, rfl⟩
 rw [← ecc] at hU hc ⊢
 generalize wCh w B = w2 at hU hc ⊢
 clear ecc
 have c0 := hU.out.c0
 have c4 := hU.out.c4
 rw [eo] at c4
 have hc := hc.out
 clear hU
 refine loneB_seq ?_
 go_wp2
 refine loneB_seq ?_
 go_wp2
 refine loneB_sel (.tuple #[goInt 0, .bool false]) (w2.setChan c 16 (([] ++ [b]).map (Value.int .u8)).toArray false 1 0 false) (fun k cs => ?_) ?_
 ·refine Eq.trans (step_lone_select_send_room (c := c) (cap := 16) (buf := (([] : List Int).map (Value.int .u8)).toArray) (s := 0) (r := 0) (tm := false) (v := .int .u8 b) (z' := .int .u8 0) (w₁ := w2) (stepG_comm (cases := #[scase c (.int .u8 b) (.int .u8 0)]) (blocking := false) (shape := .select) (w' := w2) rfl rfl (by decide) (by simp [go_sem, execOp, scase, Act.eval])) hc (by simp)) ?_
  simp
 go_wp2
 refine loneB_end Tryz.func83 ?_
 go_wp2
 go_end0
 exact ⟨⟨rfl, rfl⟩, by simp⟩
set_option maxRecDepth 20000 in
theorem push_new_off (h : UAt w B none sv u) (eo : u.on = false) (b : Int) : Calls Tryz.prog 83 #[.pointer (some ⟨B, 0, none⟩), .int .u8 b] w fun e w' => e = .returned (.tuple #[]) ∧ w' = (wCh w B).setChan w.heap.size 16 (([] ++ [b]).map (Value.int .u8)).toArray false 1 0 false := by
 have c0 := h.c0
 have z0 := h.fz 0
 have c0' := (h.alloc (.chan 16 #[] false 0 0 false)).c0
 have z0' := (h.alloc (.chan 16 #[] false 0 0 false)).fz 0
 have en := eqN
 have mk := mk16
 have et : u.there = false := by
  have := h.chn
  unfold U.there
  generalize u.came = l at this
  cases this
  rfl
 obtain ⟨hU0, hc0⟩ := wCh_at h
 have hU : Hid (UAt (wCh w B) B (some w.heap.size) sv u) := hU0
 have hc : Hid ((wCh w B).heap[w.heap.size]? = some (.chan 16 (([] : List Int).map (Value.int .u8)).toArray false 0 0 false)) := hc0
 clear hU0 hc0 h
 refine calls_of_loneB Tryz.func83 rfl ?_
 simp only [Tryz.ntmps83, List.size_toArray, List.length_cons, List.length_nil, Nat.reduceAdd, Nat.reduceSub, Array.replicate_succ, Array.replicate_zero, List.push_toArray, List.append_toArray, List.nil_append, List.cons_append]
 refine loneB_seq ?_
 go_wp2
 refine loneB_seq ?_
 go_wp2
 have ew : ((w.alloc (.chan 16 #[] false 0 0 false)).setCell ⟨B, 0, none⟩ (.chan (some w.heap.size))) = wCh w B := rfl
 rw [ew]
 clear ew c0 z0 c0' z0' en mk
 obtain ⟨c, ecc⟩ : ∃ c, c = w.heap.size := ⟨_, rfl⟩
 rw [← ecc] at hU hc ⊢
 generalize wCh w B = w2 at hU hc ⊢
 clear ecc
 have c0 := hU.out.c0
 have c4 := hU.out.c4
 have HT : Hid _ := there_any hU.out
 rw [et] at HT
 rw [eo] at c4
 have hc := hc.out
 clear hU
 refine loneB_seq ?_
 go_wp2_with fail
 refine Calls.mono HT.out ?_; rintro e w1 ⟨rfl, hw⟩; replace hw := hw.symm; subst hw
 go_wp2
 refine loneB_seq ?_
 go_wp2
 refine loneB_sel (.tuple #[goInt 0, .bool false]) (w2.setChan c 16 (([] ++ [b]).map (Value.int .u8)).toArray false 1 0 false) (fun k cs => ?_) ?_
 ·refine Eq.trans (step_lone_select_send_room (c := c) (cap := 16) (buf := (([] : List Int).map (Value.int .u8)).toArray) (s := 0) (r := 0) (tm := false) (v := .int .u8 b) (z' := .int .u8 0) (w₁ := w2) (stepG_comm (cases := #[scase c (.int .u8 b) (.int .u8 0)]) (blocking := false) (shape := .select) (w' := w2) rfl rfl (by decide) (by simp [go_sem, execOp, scase, Act.eval])) hc (by simp)) ?_
  simp
 go_wp2
 refine loneB_end Tryz.func83 ?_
 go_wp2
 go_end0
 exact ⟨⟨rfl, rfl⟩, by simp⟩
theorem push_ok (h : UAt w B cv sv u) (k : u.Ok) (b : Int) : Calls Tryz.prog 83 #[.pointer (some ⟨B, 0, none⟩), .int .u8 b] w fun e w' => e = .returned (.tuple #[]) ∧ UPush w B cv sv (u.push b) w' := by
 have hc := h.chn
 have hf := k.few
 unfold U.room at hf
 have hkp : ∀ c s r (l : List Int), cv = some c → Kp (fun k => k = B ∨ cv = some k) w (w.setChan c 16 (l.map (Value.int .u8)).toArray false s r false) := fun c s r l e => (kpChan w c 16 _ false s r false).mono fun j _ (ej : j = c) => .inr (by rw [ej]; exact e)
 have hlost : UAt (w.setCell ⟨B, 1, none⟩ (.bool true)) B cv sv { u with lost := true } := h.set _ rfl rfl rfl
 have hkl : Kp (fun k => k = B ∨ cv = some k) w (w.setCell ⟨B, 1, none⟩ (.bool true)) := (kpB B w 1 _).mono fun j _ (ej : j = B) => .inl ej
 cases cv with
 | none =>
  have el : u.came = [] := by
   generalize u.came = l at hc
   cases hc
   rfl
  have ep : u.push b = { u with came := [] ++ [b] } := by
   have hr : u.came.length < u.room := by
    rw [el]
    unfold U.room
    split <;> decide
   unfold U.push
   rw [if_pos hr, el]
  obtain ⟨hU, hc'⟩ := wCh_at h
  have fin : UPush w B none sv (u.push b) ((wCh w B).setChan w.heap.size 16 (([] ++ [b]).map (Value.int .u8)).toArray false 1 0 false) := by
   rw [ep]
   refine ⟨_, hU.chan ([] ++ [b]) (by simp) 1 0, .inr ⟨_, rfl, Nat.le_refl _⟩, ?_⟩
   exact Kp.over ((wCh_kp w B).mono fun j _ (e : j = B) => .inl e) (kpChan _ w.heap.size _ _ _ _ _ _) (fun j hj (e : j = w.heap.size) => by omega)
  cases eo : u.on
  ·exact (push_new_off h eo b).mono fun e w' ⟨a, g⟩ => ⟨a, g ▸ fin⟩
  ·exact (push_new_on h eo b).mono fun e w' ⟨a, g⟩ => ⟨a, g ▸ fin⟩
 | some c =>
  obtain ⟨s, r, g⟩ := hc.lt
  cases eo : u.on
  ·rw [eo] at hf
   cases et : u.there
   ·have e0 : u.came.length = 0 := by unfold U.there at et; simp only [decide_eq_false_iff_not] at et; omega
    have ep : u.push b = { u with came := u.came ++ [b] } := by
     have hr : u.came.length < u.room := by unfold U.room; rw [eo, if_neg (by decide)]; omega
     unfold U.push
     rw [if_pos hr]
    rw [ep]
    refine (push_room_off h eo et b g (by omega)).mono fun e w' ⟨a, gw⟩ => ⟨a, gw ▸ ⟨_, h.chan (u.came ++ [b]) (by simp; omega) (s + 1) r, .inl rfl, hkp c _ _ _ rfl⟩⟩
   ·have ep : u.push b = { u with lost := true } := by
     unfold U.there at et
     simp only [decide_eq_true_eq] at et
     have hr : ¬ u.came.length < u.room := by unfold U.room; rw [eo, if_neg (by decide)]; omega
     unfold U.push
     rw [if_neg hr]
    rw [ep]
    exact (push_off h eo et b).mono fun e w' ⟨a, gw⟩ => ⟨a, gw ▸ ⟨_, hlost, .inl rfl, hkl⟩⟩
  ·rw [eo] at hf
   by_cases hr : u.came.length < 16
   ·have ep : u.push b = { u with came := u.came ++ [b] } := by
     unfold U.push U.room
     rw [if_pos (by rw [eo]; simpa using hr)]
    rw [ep]
    refine (push_room_on h eo b g hr).mono fun e w' ⟨a, gw⟩ => ⟨a, gw ▸ ⟨_, h.chan (u.came ++ [b]) (by simp; omega) (s + 1) r, .inl rfl, hkp c _ _ _ rfl⟩⟩
   ·have ep : u.push b = { u with lost := true } := by
     unfold U.push U.room
     rw [if_neg (by rw [eo]; simpa using hr)]
    rw [ep]
    exact (push_full_on h eo b g (by omega)).mono fun e w' ⟨a, gw⟩ => ⟨a, gw ▸ ⟨_, hlost, .inl rfl, hkl⟩⟩
end
end Go.Proofs.YtonfjhbfkichkaaGreat.Ut
namespace Go.Proofs.YtonfjhbfkichkaaGreat.Ut
open Go.ChangeShapes Go.WideShapes Go.ChangeAt Go.RowKit
set_option linter.unusedVariables false
set_option maxRecDepth 20000
structure Nxt (w : World) (S : Nat → Prop) (w' : World) (S' : Nat → Prop) : Prop where
 sub : ∀ k, S' k → S k ∨ w.heap.size ≤ k
 kp : Kp S w w'
def UNx (w : World) (S : Nat → Prop) (B : Nat) (u : U) (w' : World) : Prop := ∃ S', UW w' S' B u ∧ Nxt w S w' S'
structure Aside (w : World) (S : Nat → Prop) (v : Value) (l : List Int) : Prop where
 own : OwnB w v l
 out : ∀ g, v.ownBlock = some g → ¬ S g
section
variable {w : World} {S : Nat → Prop} {B : Nat} {u : U}
theorem foot_lt {w : World} {cv : Option Nat} {sv : Value} (h : UAt w B cv sv u) {k : Nat} (g : foot B cv sv k) : k < w.heap.size := by
 rcases g with rfl | rfl | g
 ·exact h.lt
 ·obtain ⟨s, r, e⟩ := h.chn.lt
  exact heap_lt e
 ·obtain ⟨cur, e⟩ := h.snt.lt g
  exact heap_lt e
theorem UNx.mk {w' : World} {cv' : Option Nat} {sv' : Value} {u' : U} (h' : UAt w' B cv' sv' u') (hf : ∀ k, foot B cv' sv' k → S k ∨ w.heap.size ≤ k) (kp : Kp S w w') : UNx w S B u' w' :=
 ⟨fun k => k < w'.heap.size ∧ (S k ∨ w.heap.size ≤ k), ⟨⟨cv', sv', h', fun k g => ⟨foot_lt h' g, hf k g⟩⟩, fun k g => g.1⟩, ⟨fun k g => g.2, kp⟩⟩
theorem UNx.same {w' : World} (h : UW w S B u) (e : w' = w) : UNx w S B u w' := by
 subst e
 exact ⟨S, h, fun _ f => .inl f, Kp.refl _ _⟩
theorem wOut (h : UW w S B u) (k : u.Ok) (n v : Int) (hv : By v) (hs : u.sent.length < 140737488355328) : Calls Tryz.prog 64 #[.pointer (some ⟨B, 0, none⟩), .int .i64 n, .int .u8 v] w fun e w' => e = .returned (.int .i64 (if 0 ≤ n ∧ n < 8 then 0 else 1)) ∧ UNx w S B (if 0 ≤ n ∧ n < 8 then u.out n v else u) w' := by
 obtain ⟨cv, sv, h1, h2⟩ := h.ex
 by_cases g : 0 ≤ n ∧ n < 8
 ·rw [if_pos g, if_pos g]
  refine (out_ok h1 k n v g.1 g.2 hv hs).mono fun e w' ⟨a, cv', sv', b1, b2, b3⟩ => ⟨a, UNx.mk b1 (fun j hj => ?_) (b3.mono fun j _ hj => h2 j hj)⟩
  rcases b2 j hj with f | f
  ·exact .inl (h2 j f)
  ·exact .inr f
 ·rw [if_neg g, if_neg g]
  exact (out_no w _ n v (.inr (by omega))).mono fun e w' ⟨a, b⟩ => ⟨a, .same h b⟩
theorem wIn (h : UW w S B u) (k : u.Ok) (n : Int) : Calls Tryz.prog 65 #[.pointer (some ⟨B, 0, none⟩), .int .i64 n] w fun e w' => e = .returned (.tuple #[.int .u8 (if 0 ≤ n ∧ n < 8 then u.inV n else 0), .int .i64 (if 0 ≤ n ∧ n < 8 then 0 else 1)]) ∧ UNx w S B (if 0 ≤ n ∧ n < 8 then u.inn n else u) w' := by
 obtain ⟨cv, sv, h1, h2⟩ := h.ex
 by_cases g : 0 ≤ n ∧ n < 8
 ·rw [if_pos g, if_pos g, if_pos g]
  refine (in_ok h1 k n g.1 g.2).mono fun e w' ⟨a, b1, b3⟩ => ⟨a, UNx.mk b1 (fun j hj => .inl (h2 j hj)) (b3.mono fun j _ hj => h2 j ?_)⟩
  rcases hj with f | f
  ·exact .inl f
  ·exact .inr (.inl f)
 ·rw [if_neg g, if_neg g, if_neg g]
  exact (in_no w _ n (.inr (by omega))).mono fun e w' ⟨a, b⟩ => ⟨a, .same h b⟩
theorem wPush (h : UW w S B u) (k : u.Ok) (b : Int) : Calls Tryz.prog 83 #[.pointer (some ⟨B, 0, none⟩), .int .u8 b] w fun e w' => e = .returned (.tuple #[]) ∧ UNx w S B (u.push b) w' := by
 obtain ⟨cv, sv, h1, h2⟩ := h.ex
 refine (push_ok h1 k b).mono fun e w' ⟨a, cv', b1, b2, b3⟩ => ⟨a, UNx.mk b1 (fun j hj => ?_) (b3.mono fun j _ hj => h2 j ?_)⟩
 ·rcases hj with f | f | f
  ·exact .inl (h2 j (.inl f))
  ·rcases b2 with rfl | ⟨c, rfl, g⟩
   ·exact .inl (h2 j (.inr (.inl f)))
   ·injection f with f
    subst f
    exact .inr g
  ·exact .inl (h2 j (.inr (.inr f)))
 ·rcases hj with f | f
  ·exact .inl f
  ·exact .inr (.inl f)
def USent (w : World) (S : Nat → Prop) (B : Nat) (u : U) (v : Value) (w' : World) : Prop := ∃ S', UW w' S' B u.hush ∧ Nxt w S w' S' ∧ Aside w' S' v u.sent ∧ (∀ g, v.ownBlock = some g → S g)
theorem wSent (h : UW w S B u) : Calls Tryz.prog 54 #[.pointer (some ⟨B, 0, none⟩)] w fun e w' => ∃ p c, e = .returned (.slice p u.sent.length c) ∧ USent w S B u (.slice p u.sent.length c) w' := by
 obtain ⟨cv, sv, h1, h2⟩ := h.ex
 obtain ⟨p, c, es⟩ := h1.snt.sl
 subst es
 refine (sent_ok h1).mono fun e w' ⟨a, b1, b3⟩ => ⟨p, c, a, fun k => S k ∧ (Value.slice p u.sent.length c).ownBlock ≠ some k, ?_, ?_, ?_, ?_⟩
 ·refine ⟨⟨cv, _, b1, fun k g => ?_⟩, fun k g => Nat.lt_of_lt_of_le (h.lt k g.1) b3.size⟩
  rcases g with rfl | rfl | g
  ·refine ⟨h2 _ (.inl rfl), fun e => ?_⟩
   obtain ⟨cur, g⟩ := h1.snt.lt e
   rw [h1.blk] at g
   simp at g
  ·refine ⟨h2 _ (.inr (.inl rfl)), fun e => ?_⟩
   obtain ⟨cur, g⟩ := h1.snt.lt e
   obtain ⟨s, r, g'⟩ := h1.chn.lt
   rw [g] at g'
   cases g'
  ·cases g
 ·exact ⟨fun k g => .inl g.1, b3.mono fun j _ hj => h2 j (.inl hj)⟩
 ·refine ⟨h1.snt.kept b3 ?_, fun g e f => f.2 e⟩
  rintro g e (rfl : g = B)
  obtain ⟨cur, g⟩ := h1.snt.lt e
  rw [h1.blk] at g
  simp at g
 ·exact fun g e => h2 g (.inr (.inr e))
theorem wLine (h : UW w S B u) (k : u.Ok) : Calls Tryz.prog 72 #[.pointer (some ⟨B, 0, none⟩)] w fun e w' => e = .returned (.bool u.ln) ∧ w' = w := by
 obtain ⟨cv, sv, h1, h2⟩ := h.ex
 exact line_ok h1 k
end
theorem wNew (w : World) : Calls Tryz.prog 26 #[] w fun e w' => ∃ B S, e = .returned (.pointer (some ⟨B, 0, none⟩)) ∧ UW w' S B u0 ∧ (∀ k, S k → w.heap.size ≤ k) ∧ Kp noB w w' := by
 refine (new_ok w).mono fun e w' ⟨a, b1, b3⟩ => ⟨w.heap.size, fun k => k = w.heap.size, a, ⟨⟨_, _, b1, fun k g => ?_⟩, fun k g => ?_⟩, fun k g => by omega, b3⟩
 ·rcases g with g | g | g
  ·exact g
  ·cases g
  ·cases g
 ·have := b1.lt
  omega
theorem OwnB.at {w : World} {p : Option Addr} {n c : Nat} {l : List Int} (h : OwnB w (.slice p n c) l) {i : Nat} (hi : i < l.length) : ∃ g, p = some ⟨g, 0, none⟩ ∧ w.cell? ⟨g, i, none⟩ = some (.int .u8 (l.getD i 0)) ∧ w.frozen? ⟨g, i, none⟩ = false := by
 rcases h.2 with ⟨e, h2⟩ | ⟨g, cap, cur, e, hb, hg, hc, hm, hsz, ht⟩
 ·omega
 ·injection e with e1 e2 e3
  subst e1
  refine ⟨g, rfl, ?_, by simp [World.frozen?, hg]⟩
  rw [cell_of_row _ _ _ _ _ _ hg]
  have e := congrArg (fun L : List Value => L[i]?) ht
  simp only [Nat.mul_one] at e
  rw [List.getElem?_take_of_lt hi, List.getElem?_map, List.getElem?_eq_getElem hi] at e
  rw [← Array.getElem?_toList, e, List.getD_eq_getElem?_getD, List.getElem?_eq_getElem hi]
  rfl
theorem add_plain (blk off n : Nat) : (⟨blk, off, none⟩ : Addr).add n = ⟨blk, off + n, none⟩ := by
 unfold Addr.add
 split
 ·rename_i hz
  rw [hz]
  rfl
 ·rfl
section
variable (lo hi x y : Int)
def v1 : U := ⟨[], false, false, false, 0, 0, 0, 131, 0, 0, []⟩
end
def StrAt (w : World) (v : Value) (l : List Int) : Prop := (convert 22 9 v).run Tryz.prog w = .ok (.string (strOfNums l)) w
theorem OwnB.str {w : World} {v : Value} {l : List Int} (h : OwnB w v l) : StrAt w v l := by
 unfold StrAt
 rcases h.2 with ⟨rfl, h2⟩ | ⟨g, cap, cur, rfl, hb, hg, r⟩
 ·have e : l = [] := List.length_eq_zero_iff.1 h2
  subst e
  exact run_convert_bytes_nil w _ 5 Tryz.underlying22 Tryz.underlying5 0 0 _ Tryz.underlying9
 ·refine run_convert_bytes_arg w _ 5 Tryz.underlying22 Tryz.underlying5 g 0 l.length cap l rfl (fun i hi => ?_) _ Tryz.underlying9
  obtain ⟨g', e, hc, _⟩ := h.at hi
  injection e with e
  injection e with e
  subst e
  rw [Nat.zero_add]
  exact hc
inductive CqAt (w : World) : Value → List Int → Prop
 | no : CqAt w (.slice none 0 0) []
 | on (g o cap : Nat) (cur : Array Value) (l : List Int) (hg : w.heap[g]? = some (.cells cur 5 (0, 0))) (hn : l.length ≤ cap) (hc : o + cap ≤ cur.size) (hm : cap ≤ maxLen) (hx : ∀ j, j < l.length → cur[o + j]? = some (.int .u8 (l.getD j 0))) : CqAt w (.slice (some ⟨g, o, none⟩) l.length cap) l
theorem CqAt.kept {S : Nat → Prop} {w w' : World} {v : Value} {l : List Int} (h : CqAt w v l) (k : Kp S w w') (hS : ∀ g, v.ownBlock = some g → ¬ S g) : CqAt w' v l := by
 cases h with
 | no => exact .no
 | on g o cap cur l hg hn hc hm hx => exact .on g o cap cur l (heap_kept hg k (hS g rfl)) hn hc hm hx
theorem CqAt.lt {w : World} {v : Value} {l : List Int} (h : CqAt w v l) {g : Nat} (e : v.ownBlock = some g) : ∃ cur, w.heap[g]? = some (.cells cur 5 (0, 0)) := by
 cases h with
 | no => cases e
 | on g' o cap cur l hg hn hc hm hx =>
  simp only [Value.ownBlock, Option.some.injEq] at e
  subst e
  exact ⟨cur, hg⟩
theorem CqAt.sl {w : World} {v : Value} {l : List Int} (h : CqAt w v l) : ∃ p c, v = .slice p l.length c := by
 cases h with
 | no => exact ⟨_, _, rfl⟩
 | on g o cap cur l hg hn hc hm hx => exact ⟨_, _, rfl⟩
def rC (cq sv : Value) (u : U) : Array Value := #[cq, .bool u.lost, .int .u8 u.d0, .int .u8 u.d1, .int .u8 u.line, .int .u8 u.modem, .int .u8 u.jot, .int .u8 u.want, .bool u.on, .bool u.tell, sv]
structure RAt (w : World) (R : Nat) (cq sv : Value) (u : U) : Prop where
 blk : w.heap[R]? = some (.cells (rC cq sv u) 149 (0, 0))
 chn : CqAt w cq u.came
 snt : OwnB w sv u.sent
 apart : ∀ g, cq.ownBlock = some g → sv.ownBlock ≠ some g
section
variable {w : World} {R : Nat} {cq sv : Value} {u : U}
theorem RAt.kept {S : Nat → Prop} {w' : World} (h : RAt w R cq sv u) (k : Kp S w w') (hB : ¬ S R) (hc : ∀ g, cq.ownBlock = some g → ¬ S g) (hs : ∀ g, sv.ownBlock = some g → ¬ S g) : RAt w' R cq sv u :=
 ⟨heap_kept h.blk k hB, h.chn.kept k hc, h.snt.kept k hs, h.apart⟩
theorem RAt.cell (h : RAt w R cq sv u) {k : Nat} {v : Value} (e : (rC cq sv u)[k]? = some v) : w.cell? ⟨R, k, none⟩ = some v := by
 simp [World.cell?, h.blk, e]
theorem RAt.c0 (h : RAt w R cq sv u) : w.cell? ⟨R, 0, none⟩ = some cq := h.cell rfl
theorem RAt.c1 (h : RAt w R cq sv u) : w.cell? ⟨R, 1, none⟩ = some (.bool u.lost) := h.cell rfl
theorem RAt.c2 (h : RAt w R cq sv u) : w.cell? ⟨R, 2, none⟩ = some (.int .u8 u.d0) := h.cell rfl
theorem RAt.c3 (h : RAt w R cq sv u) : w.cell? ⟨R, 3, none⟩ = some (.int .u8 u.d1) := h.cell rfl
theorem RAt.c4 (h : RAt w R cq sv u) : w.cell? ⟨R, 4, none⟩ = some (.int .u8 u.line) := h.cell rfl
theorem RAt.c5 (h : RAt w R cq sv u) : w.cell? ⟨R, 5, none⟩ = some (.int .u8 u.modem) := h.cell rfl
theorem RAt.c6 (h : RAt w R cq sv u) : w.cell? ⟨R, 6, none⟩ = some (.int .u8 u.jot) := h.cell rfl
theorem RAt.c7 (h : RAt w R cq sv u) : w.cell? ⟨R, 7, none⟩ = some (.int .u8 u.want) := h.cell rfl
theorem RAt.c8 (h : RAt w R cq sv u) : w.cell? ⟨R, 8, none⟩ = some (.bool u.on) := h.cell rfl
theorem RAt.c9 (h : RAt w R cq sv u) : w.cell? ⟨R, 9, none⟩ = some (.bool u.tell) := h.cell rfl
theorem RAt.c10 (h : RAt w R cq sv u) : w.cell? ⟨R, 10, none⟩ = some sv := h.cell rfl
theorem RAt.fz (h : RAt w R cq sv u) (j : Nat) : w.frozen? ⟨R, j, none⟩ = false := by simp [World.frozen?, h.blk]
theorem RAt.lt (h : RAt w R cq sv u) : R < w.heap.size := heap_lt h.blk
theorem off_row {w : World} {cs : Array Value} (hb : w.heap[R]? = some (.cells cs 149 (0, 0))) {g : Nat} (h : ∃ cur, w.heap[g]? = some (.cells cur 5 (0, 0))) : ¬ isB R g := by
 rintro (rfl : g = R)
 obtain ⟨cur, hc⟩ := h
 rw [hb] at hc
 simp at hc
theorem RAt.put (h : RAt w R cq sv u) {k : Nat} {v : Value} (cq' sv' : Value) (u' : U) (e : (rC cq sv u).setIfInBounds k v = rC cq' sv' u') (hc : CqAt w cq' u'.came) (hs : OwnB w sv' u'.sent) (ha : ∀ g, cq'.ownBlock = some g → sv'.ownBlock ≠ some g) : RAt (w.setCell ⟨R, k, none⟩ v) R cq' sv' u' := by
 have hk := kpB R w k v
 exact ⟨by rw [heap_set h.blk, e], hc.kept hk (fun g eg => off_row h.blk (hc.lt eg)), hs.kept hk (fun g eg => off_row h.blk (hs.lt eg)), ha⟩
theorem RAt.set (h : RAt w R cq sv u) {k : Nat} {v : Value} (u' : U) (e : (rC cq sv u).setIfInBounds k v = rC cq sv u') (hc : u'.came = u.came) (hs : u'.sent = u.sent) : RAt (w.setCell ⟨R, k, none⟩ v) R cq sv u' :=
 h.put cq sv u' e (hc ▸ h.chn) (hs ▸ h.snt) h.apart
end
def rfoot (R : Nat) (cq sv : Value) (k : Nat) : Prop := k = R ∨ cq.ownBlock = some k ∨ sv.ownBlock = some k
structure RW (w : World) (S : Nat → Prop) (R : Nat) (u : U) : Prop where
 ex : ∃ cq sv, RAt w R cq sv u ∧ ∀ k, rfoot R cq sv k → S k
 lt : ∀ k, S k → k < w.heap.size
theorem RW.kept {w w' : World} {S T : Nat → Prop} {R : Nat} {u : U} (h : RW w S R u) (k : Kp T w w') (hS : ∀ k, S k → ¬ T k) : RW w' S R u := by
 obtain ⟨cv, sv, h1, h2⟩ := h.ex
 exact ⟨⟨cv, sv, h1.kept k (hS _ (h2 _ (.inl rfl))) (fun c e => hS _ (h2 _ (.inr (.inl e)))) (fun g e => hS _ (h2 _ (.inr (.inr e)))), h2⟩, fun j hj => Nat.lt_of_lt_of_le (h.lt j hj) k.size⟩
theorem kp_row (w : World) (g : Nat) (row : Array Value) : Kp (isB g) w (w.setRow g row) := ⟨rfl, rfl, rfl, by simp, fun k hk hs => setRow_other w g k _ (fun e => hs e)⟩
theorem appQ {w : World} {v : Value} {l : List Int} (h : CqAt w v l) (b : Int) (hl : l.length < 16) :
  ∃ v' w', (Builtin.append_ #[22, 22] 22 #[v, .slice (some ⟨w.heap.size, 0, none⟩) 1 1]).run Tryz.prog (wB w b) = .ok v' w' ∧ CqAt w' v' (l ++ [b]) ∧ Kp (isO v) w w' ∧ (∀ g, v'.ownBlock = some g → v.ownBlock = some g ∨ w.heap.size ≤ g) := by
 have hnew : ∀ j x, [Value.int .u8 b][j]? = some x → (wB w b).cell? ((⟨w.heap.size, 0, none⟩ : Addr).add j) = some x := cell_one_new w (.int .u8 b) 5
 have one : ∀ x ∈ [Value.int .u8 b], x.oneCell' = true := by simp [Value.oneCell']
 cases h with
 | no =>
  obtain ⟨v', w', hr, h2, h3, h4⟩ := appB (OwnB.nil w) b (by decide)
  refine ⟨v', w', hr, ?_, h3, h4⟩
  rcases h2.2 with ⟨e, h2'⟩ | ⟨g, cap, cur, rfl, hb, hg, hc, hm, hsz, ht⟩
  ·simp at h2'
  ·refine .on g 0 cap cur _ hg hc (by omega) hm (fun j hj => ?_)
   obtain ⟨g', e, hcell, _⟩ := h2.at hj
   injection e with e
   injection e with e
   subst e
   rw [cell_of_row _ _ _ _ _ _ hg] at hcell
   rw [Nat.zero_add]
   exact hcell
 | on g o cap cur l hg hn hc hm hx =>
  have hgB : (wB w b).heap[g]? = some (.cells cur 5 (0, 0)) := heap_kept hg (Kp.alloc noB _ _) id
  obtain ⟨i, hi, hi1, hi2⟩ : ∃ i, Tryz.prog.info? 5 = some i ∧ i.size = 1 ∧ i.bytes = 1 ∧ i.zero = some (.int .u8 0) := ⟨_, show Tryz.prog.info? 5 = some _ from Tryz.type5, by kernel_rfl, by kernel_rfl, by kernel_rfl⟩
  obtain ⟨hi2, hi3⟩ := hi2
  by_cases hroom : l.length + 1 ≤ cap
  ·have hf := run_firstCells_some (P := Tryz.prog) (wB w b) i.size 1 ⟨w.heap.size, 0, none⟩ 1 1 [.int .u8 b] (by simp [hi1]) hnew
   have hst := run_storeCells_at Tryz.prog g (o + l.length) 5 [.int .u8 b] 0 cur (wB w b) hgB (by simp; omega) one
   simp only [Nat.add_zero] at hst
   rw [hi1] at hf
   refine ⟨.slice (some ⟨g, o, none⟩) (l.length + 1) cap, (wB w b).setRow g (cur.toList.take (o + l.length) ++ [Value.int .u8 b] ++ cur.toList.drop (o + l.length + 1)).toArray, ?_, ?_, ?_, ?_⟩
   ·have ea : (⟨g, o, none⟩ : Addr).add l.length = ⟨g, o + l.length, none⟩ := add_plain _ _ _
    simp [Builtin.append_, run_underlying Tryz.underlying22, sizeOf, typeInfo, hi, Builtin.lenOf, hroom, hf, hi1, ea, hst]
   ·have := CqAt.on (w := (wB w b).setRow g (cur.toList.take (o + l.length) ++ [Value.int .u8 b] ++ cur.toList.drop (o + l.length + 1)).toArray) g o cap (cur.toList.take (o + l.length) ++ [Value.int .u8 b] ++ cur.toList.drop (o + l.length + 1)).toArray (l ++ [b]) (setRow_heap _ g cur _ _ _ hgB) (by simp; omega) (by simp; omega) hm (fun j hj => ?_)
    ·simpa using this
    ·rw [List.length_append, List.length_singleton] at hj
     rcases (by omega : j < l.length ∨ j = l.length) with g1 | rfl
     ·have := hx j g1
      rw [List.getElem?_toArray, List.append_assoc, List.getElem?_append_left (by simp; omega), List.getElem?_take_of_lt (by omega), Array.getElem?_toList, this]
      simp [List.getD_eq_getElem?_getD, List.getElem?_append_left g1]
     ·rw [List.getElem?_toArray, List.append_assoc, List.getElem?_append_right (by simp; omega)]
      have e : o + l.length - (List.take (o + l.length) cur.toList).length = 0 := by simp; omega
      rw [e]
      simp [List.getD_eq_getElem?_getD]
   ·exact (Kp.alloc _ _ _).trans ((kp_row _ g _).mono fun k _ (e : k = g) => by rw [e]; rfl)
   ·intro k e
    exact .inl e
  ·have ha : ∀ j x, (l.map (Value.int .u8))[j]? = some x → (wB w b).cell? ((⟨g, o, none⟩ : Addr).add j) = some x := fun j x hj => by
    rw [List.getElem?_map] at hj
    obtain ⟨y, hy, rfl⟩ := Option.map_eq_some_iff.1 hj
    have hjl : j < l.length := (List.getElem?_eq_some_iff.1 hy).1
    rw [add_plain, cell_of_row _ _ _ _ _ _ hgB, hx j hjl, List.getD_eq_getElem?_getD, hy]
    rfl
   have hr := run_append_grow (P := Tryz.prog) (wB w b) 22 22 5 i (.int .u8 0) Tryz.underlying22 hi hi3 ⟨g, o, none⟩ l.length cap (l.map (Value.int .u8)) (by simp [hi1]) ha ⟨w.heap.size, 0, none⟩ 1 1 [.int .u8 b] (by simp [hi1]) hnew (by omega) (by omega) (growslice_fits (by omega) (by rw [hi2]; omega))
   have hge := grownCap_ge (wB w b) (l.length + 1) cap 5
   have hcm := grownCap_le_maxLen (wB w b) (l.length + 1) cap 5 (by unfold maxLen; omega)
   refine ⟨_, _, hr, ?_, (Kp.alloc _ _ _).trans ((Kp.refl _ _).drew.trans (Kp.alloc _ _ _)), ?_⟩
   ·have := CqAt.on (w := (wB w b).drew.alloc (.cells ((l.map (Value.int .u8)).toArray ++ [Value.int .u8 b].toArray ++ Builtin.zeroCells (Value.int .u8 0).cells (grownCap (wB w b) (l.length + 1) cap 5 - (l.length + 1))) 5)) (wB w b).heap.size 0 (grownCap (wB w b) (l.length + 1) cap 5) _ (l ++ [b]) (heap_alloc_new (wB w b).drew _) (by simp; omega) (by simp [size_zeroCells, Value.cells]; omega) hcm (fun j hj => ?_)
    ·simpa using this
    ·rw [Nat.zero_add]
     rw [List.length_append, List.length_singleton] at hj
     have e1 : (l.map (Value.int .u8)).toArray ++ [Value.int .u8 b].toArray = ((l ++ [b]).map (Value.int .u8)).toArray := by simp
     rw [e1, Array.getElem?_append_left (by simp; omega), List.getElem?_toArray, List.getElem?_map, List.getD_eq_getElem?_getD, List.getElem?_eq_getElem (by simp; omega)]
     rfl
   ·intro k e
    right
    simp only [Value.ownBlock, Option.some.injEq] at e
    subst e
    simp [wB]
theorem by_tm {v m : Int} (h : 0 ≤ v) : Int.tmod v m = v % m := Int.tmod_eq_emod_of_nonneg h
theorem by_td {v m : Int} (h : 0 ≤ v) : Int.tdiv v m = v / m := Int.tdiv_eq_ediv_of_nonneg h
section
variable {w : World} {R : Nat} {cq sv : Value} {u : U}
theorem rwhy_any (h : RAt w R cq sv u) (k : u.Ok) : Calls Tryz.prog 121 #[.pointer (some ⟨R, 0, none⟩)] w fun e w' => e = .returned (.int .u8 u.why) ∧ w' = w := by
 have c0 := h.c0
 have c7 := h.c7
 have c9 := h.c9
 obtain ⟨p, c, rfl⟩ := h.chn.sl
 obtain ⟨w0, w1⟩ := k.want
 have wm : Int.tmod u.want 2 = u.want % 2 := by_tm w0
 have wd : Int.tdiv u.want 2 = u.want / 2 := by_td w0
 have wdm : Int.tmod (u.want / 2) 2 = u.want / 2 % 2 := by_tm (by omega)
 have e0 : (u.want % 2 == 1) = b0 u.want := rfl
 have e1 : (u.want / 2 % 2 == 1) = b1 u.want := rfl
 have et : decide (0 < u.came.length) = u.there := rfl
 unfold U.why
 clear h k
 generalize u.there = ut at et ⊢
 generalize b0 u.want = x0 at e0 ⊢
 generalize b1 u.want = x1 at e1 ⊢
 cases ut <;> cases x0 <;> cases el : u.tell <;> rw [el] at c9 <;> cases x1 <;> (
  go_enter Tryz.func121, Tryz.ntmps121
  go_wp2
  go_ret
  exact ⟨rfl, rfl⟩)
theorem rline_any (h : RAt w R cq sv u) (k : u.Ok) : Calls Tryz.prog 77 #[.pointer (some ⟨R, 0, none⟩)] w fun e w' => e = .returned (.bool u.ln) ∧ w' = w := by
 have HT : Hid _ := rwhy_any h k
 unfold U.ln
 clear h k
 go_enter Tryz.func77, Tryz.ntmps77
 go_wp2_with fail
 refine Calls.mono HT.out ?_; rintro e w1 ⟨rfl, hw⟩; replace hw := hw.symm; subst hw
 go_wp2
 go_ret
 exact ⟨rfl, rfl⟩
theorem rsent_ok (h : RAt w R cq sv u) : Calls Tryz.prog 49 #[.pointer (some ⟨R, 0, none⟩)] w fun e w' => e = .returned sv ∧ RAt w' R cq (.slice none 0 0) u.hush ∧ Kp (isB R) w w' := by
 have c10 := h.c10
 have z10 := h.fz 10
 have hC : Hid (RAt w R cq sv u) := h
 clear h
 go_enter Tryz.func49, Tryz.ntmps49
 go_wp2
 go_ret
 exact ⟨rfl, hC.out.put cq (.slice none 0 0) u.hush rfl hC.out.chn (OwnB.nil _) (fun g _ e => by cases e), kpB R _ _ _⟩
end
theorem rnew_ok (w : World) : Calls Tryz.prog 33 #[] w fun e w' => e = .returned (.pointer (some ⟨w.heap.size, 0, none⟩)) ∧ RAt w' w.heap.size (.slice none 0 0) (.slice none 0 0) u0 ∧ Kp noB w w' := by
 have h0 : Hid (RAt (w.alloc (.cells (rC (.slice none 0 0) (.slice none 0 0) u0) 149)) w.heap.size (.slice none 0 0) (.slice none 0 0) u0) := ⟨heap_new _ _, .no, OwnB.nil _, fun g e => by cases e⟩
 have k0 : Hid (Kp noB w (w.alloc (.cells (rC (.slice none 0 0) (.slice none 0 0) u0) 149))) := Kp.alloc _ _ _
 go_enter Tryz.func33, Tryz.ntmps33
 go_wp2
 go_ret
 exact ⟨rfl, h0.out, k0.out⟩
end Go.Proofs.YtonfjhbfkichkaaGreat.Ut
