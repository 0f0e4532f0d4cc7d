/- The contract of Push: a send that never waits. -/
import Derived.Test.YtafnlaamfpjolaaUtTake
namespace Go.Proofs.Ytafnlaamfpjolaa
open Go.ChangeShapes Go.WideShapes Go.ChangeAt Go.RowKit Go.Conc
set_option linter.unusedVariables false

theorem mk16 (w : World) : (Instr.makeChan 41 (.int .i64 16)).run Try.prog w = .ok (.chan (some w.heap.size)) (w.alloc (.chan 16 #[] false 0 0 false)) := by
  have h : (Try.prog.info? 5).map (·.bytes) = some 1 := by kernel_rfl
  obtain ⟨i, hi, hb⟩ := Option.map_eq_some_iff.1 h
  simpa using run_makeChan (P := Try.prog) (w := w) Try.underlying41 hi .i64 16 (by omega) (by rw [hb]; omega)

theorem eqC (w : World) (x : Nat) : (binOp .eql 41 (.chan (some x)) (.chan none)).run Try.prog w = .ok (.bool false) w := by kernel_rfl
theorem eqN (w : World) : (binOp .eql 41 (.chan none) (.chan none)).run Try.prog w = .ok (.bool true) w := by kernel_rfl

section
variable {w : World} {B : Nat} {cv : Option Nat} {sv : Value} {u : U}

/-- Behind a byte that came. -/
def UPush (w : World) (B : Nat) (cv : Option Nat) (sv : Value) (u : U) (w' : World) : Prop :=
  ∃ cv', UAt w' B cv' sv u ∧ (cv' = cv ∨ ∃ c, cv' = some c ∧ w.heap.size ≤ c) ∧ Kp (fun k => k = B ∨ cv = some k) w w'

set_option maxRecDepth 20000 in
theorem push_none (w : World) (b : Int) : Calls Try.prog 15 #[.pointer none, .int .u8 b] w fun e w' => e = .returned (.tuple #[]) ∧ w' = w := by
  go_enter Try.func15, Try.ntmps15
  go_wp2
  refine bodyPost_ret (results_none rfl _ _ _) rfl ?_
  exact ⟨rfl, rfl⟩

set_option maxRecDepth 20000 in
theorem push_off {c : Nat} (h : UAt w B (some c) sv u) (eo : u.on = false) (et : u.there = true) (b : Int) : Calls Try.prog 15 #[.pointer (some ⟨B, 0, none⟩), .int .u8 b] w fun e w' => e = .returned (.tuple #[]) ∧ w' = w.setCell ⟨B, 1, none⟩ (.bool true) := by
  have c0 := h.c0
  have c1 := h.c1
  have ec := fun w => eqC w c
  have z1 := h.fz 1
  have c4 := h.c4
  have HT : Hid _ := there_any h
  rw [eo] at c4
  rw [et] at HT
  clear h
  go_enter Try.func15, Try.ntmps15
  go_wp2_with fail
  refine Calls.mono HT.out ?_; rintro e w1 ⟨rfl, hw⟩; replace hw := hw.symm; subst hw
  go_wp2
  refine bodyPost_ret (results_none rfl _ _ _) rfl ?_
  exact ⟨rfl, rfl⟩

set_option maxRecDepth 20000 in
theorem push_room_on {c : Nat} (h : UAt w B (some c) sv u) (eo : u.on = true) (b : Int) {l : List Int} {s r : Nat} (hc : w.heap[c]? = some (.chan 16 (l.map (Value.int .u8)).toArray false s r false)) (hl : l.length < 16) : Calls Try.prog 15 #[.pointer (some ⟨B, 0, none⟩), .int .u8 b] w fun e w' => e = .returned (.tuple #[]) ∧ w' = w.setChan c 16 ((l ++ [b]).map (Value.int .u8)).toArray false (s + 1) r false := by
  have c0 := h.c0
  have c1 := h.c1
  have ec := fun w => eqC w c
  have z1 := h.fz 1
  have c4 := h.c4
  rw [eo] at c4
  clear h
  refine calls_of_loneB Try.func15 rfl ?_
  simp only [Try.ntmps15, List.size_toArray, List.length_cons, List.length_nil, Nat.reduceAdd, Nat.reduceSub, Array.replicate_succ, Array.replicate_zero, List.push_toArray, List.append_toArray, List.nil_append, List.cons_append]
  refine loneB_seq ?_
  go_wp2
  refine loneB_seq ?_
  go_wp2
  refine loneB_seq ?_
  go_wp2
  refine loneB_seq ?_
  go_wp2
  refine loneB_sel (.tuple #[goInt 0, .bool false]) (w.setChan c 16 ((l ++ [b]).map (Value.int .u8)).toArray false (s + 1) r false) (fun k cs => ?_) ?_
  · refine Eq.trans (step_lone_select_send_room (c := c) (cap := 16) (buf := (l.map (Value.int .u8)).toArray) (s := s) (r := r) (tm := false) (v := .int .u8 b) (z' := .int .u8 0) (w₁ := w) (stepG_comm (cases := #[scase c (.int .u8 b) (.int .u8 0)]) (blocking := false) (shape := .select) (w' := w) rfl rfl (by decide) (by simp [go_sem, execOp, scase, Act.eval])) hc (by simpa using hl)) ?_
    simp
  go_wp2
  refine loneB_end Try.func15 ?_
  go_wp2
  go_end0
  exact ⟨⟨rfl, rfl⟩, by simp⟩

set_option maxRecDepth 20000 in
theorem push_room_off {c : Nat} (h : UAt w B (some c) sv u) (eo : u.on = false) (et : u.there = false) (b : Int) {l : List Int} {s r : Nat} (hc : w.heap[c]? = some (.chan 16 (l.map (Value.int .u8)).toArray false s r false)) (hl : l.length < 16) : Calls Try.prog 15 #[.pointer (some ⟨B, 0, none⟩), .int .u8 b] w fun e w' => e = .returned (.tuple #[]) ∧ w' = w.setChan c 16 ((l ++ [b]).map (Value.int .u8)).toArray false (s + 1) r false := by
  have c0 := h.c0
  have c1 := h.c1
  have ec := fun w => eqC w c
  have z1 := h.fz 1
  have c4 := h.c4
  have HT : Hid _ := there_any h
  rw [et] at HT
  rw [eo] at c4
  clear h
  refine calls_of_loneB Try.func15 rfl ?_
  simp only [Try.ntmps15, List.size_toArray, List.length_cons, List.length_nil, Nat.reduceAdd, Nat.reduceSub, Array.replicate_succ, Array.replicate_zero, List.push_toArray, List.append_toArray, List.nil_append, List.cons_append]
  refine loneB_seq ?_
  go_wp2
  refine loneB_seq ?_
  go_wp2
  refine loneB_seq ?_
  go_wp2_with fail
  refine Calls.mono HT.out ?_; rintro e w1 ⟨rfl, hw⟩; replace hw := hw.symm; subst hw
  go_wp2
  refine loneB_seq ?_
  go_wp2
  refine loneB_sel (.tuple #[goInt 0, .bool false]) (w.setChan c 16 ((l ++ [b]).map (Value.int .u8)).toArray false (s + 1) r false) (fun k cs => ?_) ?_
  · refine Eq.trans (step_lone_select_send_room (c := c) (cap := 16) (buf := (l.map (Value.int .u8)).toArray) (s := s) (r := r) (tm := false) (v := .int .u8 b) (z' := .int .u8 0) (w₁ := w) (stepG_comm (cases := #[scase c (.int .u8 b) (.int .u8 0)]) (blocking := false) (shape := .select) (w' := w) rfl rfl (by decide) (by simp [go_sem, execOp, scase, Act.eval])) hc (by simpa using hl)) ?_
    simp
  go_wp2
  refine loneB_end Try.func15 ?_
  go_wp2
  go_end0
  exact ⟨⟨rfl, rfl⟩, by simp⟩

set_option maxRecDepth 20000 in
theorem push_full_on {c : Nat} (h : UAt w B (some c) sv u) (eo : u.on = true) (b : Int) {l : List Int} {s r : Nat} (hc : w.heap[c]? = some (.chan 16 (l.map (Value.int .u8)).toArray false s r false)) (hl : 16 ≤ l.length) : Calls Try.prog 15 #[.pointer (some ⟨B, 0, none⟩), .int .u8 b] w fun e w' => e = .returned (.tuple #[]) ∧ w' = w.setCell ⟨B, 1, none⟩ (.bool true) := by
  have c0 := h.c0
  have c1 := h.c1
  have ec := fun w => eqC w c
  have z1 := h.fz 1
  have c4 := h.c4
  rw [eo] at c4
  clear h
  refine calls_of_loneB Try.func15 rfl ?_
  simp only [Try.ntmps15, List.size_toArray, List.length_cons, List.length_nil, Nat.reduceAdd, Nat.reduceSub, Array.replicate_succ, Array.replicate_zero, List.push_toArray, List.append_toArray, List.nil_append, List.cons_append]
  refine loneB_seq ?_
  go_wp2
  refine loneB_seq ?_
  go_wp2
  refine loneB_seq ?_
  go_wp2
  refine loneB_seq ?_
  go_wp2
  refine loneB_sel (.tuple #[goInt (-1), .bool false]) w (fun k cs => ?_) ?_
  · exact step_lone_select_send_full (c := c) (cap := 16) (buf := (l.map (Value.int .u8)).toArray) (s := s) (r := r) (tm := false) (v := .int .u8 b) (z' := .int .u8 0) (w₁ := w) (stepG_comm (cases := #[scase c (.int .u8 b) (.int .u8 0)]) (blocking := false) (shape := .select) (w' := w) rfl rfl (by decide) (by simp [go_sem, execOp, scase, Act.eval])) hc (by simpa using hl)
  go_wp2
  refine loneB_end Try.func15 ?_
  go_wp2
  go_end0
  exact ⟨⟨rfl, rfl⟩, by simp⟩

/-- The world behind the channel's making. -/
def wCh (w : World) (B : Nat) : World := (w.alloc (.chan 16 #[] false 0 0 false)).setCell ⟨B, 0, none⟩ (.chan (some w.heap.size))

theorem wCh_at (h : UAt w B none sv u) : UAt (wCh w B) B (some w.heap.size) sv u ∧ (wCh w B).heap[w.heap.size]? = some (.chan 16 (([] : List Int).map (Value.int .u8)).toArray false 0 0 false) := by
  have hn := heap_new w (.chan 16 #[] false 0 0 false)
  have hB := h.lt
  have e : u.came = [] := by
    have := h.chn
    generalize u.came = l at this
    cases this
    rfl
  refine ⟨(h.alloc _).put _ _ _ rfl (e ▸ .on _ 0 0 [] hn (by decide)) (h.alloc _).snt, ?_⟩
  exact heap_kept hn (kpB B _ 0 _) (fun g => by unfold isB at g; omega)

theorem wCh_kp (w : World) (B : Nat) : Kp (isB B) w (wCh w B) := (Kp.alloc _ _ _).trans (kpB B _ _ _)

set_option maxRecDepth 20000 in
theorem push_new_on (h : UAt w B none sv u) (eo : u.on = true) (b : Int) : Calls Try.prog 15 #[.pointer (some ⟨B, 0, none⟩), .int .u8 b] w fun e w' => e = .returned (.tuple #[]) ∧ w' = (wCh w B).setChan w.heap.size 16 (([] ++ [b]).map (Value.int .u8)).toArray false 1 0 false := by
  have c0 := h.c0
  have z0 := h.fz 0
  have c0' := (h.alloc (.chan 16 #[] false 0 0 false)).c0
  have z0' := (h.alloc (.chan 16 #[] false 0 0 false)).fz 0
  have en := eqN
  have mk := mk16
  have et : u.there = false := by
    have := h.chn
    unfold U.there
    generalize u.came = l at this
    cases this
    rfl
  obtain ⟨hU0, hc0⟩ := wCh_at h
  have hU : Hid (UAt (wCh w B) B (some w.heap.size) sv u) := hU0
  have hc : Hid ((wCh w B).heap[w.heap.size]? = some (.chan 16 (([] : List Int).map (Value.int .u8)).toArray false 0 0 false)) := hc0
  clear hU0 hc0 h
  refine calls_of_loneB Try.func15 rfl ?_
  simp only [Try.ntmps15, List.size_toArray, List.length_cons, List.length_nil, Nat.reduceAdd, Nat.reduceSub, Array.replicate_succ, Array.replicate_zero, List.push_toArray, List.append_toArray, List.nil_append, List.cons_append]
  refine loneB_seq ?_
  go_wp2
  refine loneB_seq ?_
  go_wp2
  have ew : ((w.alloc (.chan 16 #[] false 0 0 false)).setCell ⟨B, 0, none⟩ (.chan (some w.heap.size))) = wCh w B := rfl
  rw [ew]
  clear ew c0 z0 c0' z0' en mk
  obtain ⟨c, ecc⟩ : ∃ c, c = w.heap.size := ⟨_, rfl⟩
  rw [← ecc] at hU hc ⊢
  generalize wCh w B = w2 at hU hc ⊢
  clear ecc
  have c0 := hU.out.c0
  have c4 := hU.out.c4
  rw [eo] at c4
  have hc := hc.out
  clear hU
  refine loneB_seq ?_
  go_wp2
  refine loneB_seq ?_
  go_wp2
  refine loneB_sel (.tuple #[goInt 0, .bool false]) (w2.setChan c 16 (([] ++ [b]).map (Value.int .u8)).toArray false 1 0 false) (fun k cs => ?_) ?_
  · refine Eq.trans (step_lone_select_send_room (c := c) (cap := 16) (buf := (([] : List Int).map (Value.int .u8)).toArray) (s := 0) (r := 0) (tm := false) (v := .int .u8 b) (z' := .int .u8 0) (w₁ := w2) (stepG_comm (cases := #[scase c (.int .u8 b) (.int .u8 0)]) (blocking := false) (shape := .select) (w' := w2) rfl rfl (by decide) (by simp [go_sem, execOp, scase, Act.eval])) hc (by simp)) ?_
    simp
  go_wp2
  refine loneB_end Try.func15 ?_
  go_wp2
  go_end0
  exact ⟨⟨rfl, rfl⟩, by simp⟩

set_option maxRecDepth 20000 in
theorem push_new_off (h : UAt w B none sv u) (eo : u.on = false) (b : Int) : Calls Try.prog 15 #[.pointer (some ⟨B, 0, none⟩), .int .u8 b] w fun e w' => e = .returned (.tuple #[]) ∧ w' = (wCh w B).setChan w.heap.size 16 (([] ++ [b]).map (Value.int .u8)).toArray false 1 0 false := by
  have c0 := h.c0
  have z0 := h.fz 0
  have c0' := (h.alloc (.chan 16 #[] false 0 0 false)).c0
  have z0' := (h.alloc (.chan 16 #[] false 0 0 false)).fz 0
  have en := eqN
  have mk := mk16
  have et : u.there = false := by
    have := h.chn
    unfold U.there
    generalize u.came = l at this
    cases this
    rfl
  obtain ⟨hU0, hc0⟩ := wCh_at h
  have hU : Hid (UAt (wCh w B) B (some w.heap.size) sv u) := hU0
  have hc : Hid ((wCh w B).heap[w.heap.size]? = some (.chan 16 (([] : List Int).map (Value.int .u8)).toArray false 0 0 false)) := hc0
  clear hU0 hc0 h
  refine calls_of_loneB Try.func15 rfl ?_
  simp only [Try.ntmps15, List.size_toArray, List.length_cons, List.length_nil, Nat.reduceAdd, Nat.reduceSub, Array.replicate_succ, Array.replicate_zero, List.push_toArray, List.append_toArray, List.nil_append, List.cons_append]
  refine loneB_seq ?_
  go_wp2
  refine loneB_seq ?_
  go_wp2
  have ew : ((w.alloc (.chan 16 #[] false 0 0 false)).setCell ⟨B, 0, none⟩ (.chan (some w.heap.size))) = wCh w B := rfl
  rw [ew]
  clear ew c0 z0 c0' z0' en mk
  obtain ⟨c, ecc⟩ : ∃ c, c = w.heap.size := ⟨_, rfl⟩
  rw [← ecc] at hU hc ⊢
  generalize wCh w B = w2 at hU hc ⊢
  clear ecc
  have c0 := hU.out.c0
  have c4 := hU.out.c4
  have HT : Hid _ := there_any hU.out
  rw [et] at HT
  rw [eo] at c4
  have hc := hc.out
  clear hU
  refine loneB_seq ?_
  go_wp2_with fail
  refine Calls.mono HT.out ?_; rintro e w1 ⟨rfl, hw⟩; replace hw := hw.symm; subst hw
  go_wp2
  refine loneB_seq ?_
  go_wp2
  refine loneB_sel (.tuple #[goInt 0, .bool false]) (w2.setChan c 16 (([] ++ [b]).map (Value.int .u8)).toArray false 1 0 false) (fun k cs => ?_) ?_
  · refine Eq.trans (step_lone_select_send_room (c := c) (cap := 16) (buf := (([] : List Int).map (Value.int .u8)).toArray) (s := 0) (r := 0) (tm := false) (v := .int .u8 b) (z' := .int .u8 0) (w₁ := w2) (stepG_comm (cases := #[scase c (.int .u8 b) (.int .u8 0)]) (blocking := false) (shape := .select) (w' := w2) rfl rfl (by decide) (by simp [go_sem, execOp, scase, Act.eval])) hc (by simp)) ?_
    simp
  go_wp2
  refine loneB_end Try.func15 ?_
  go_wp2
  go_end0
  exact ⟨⟨rfl, rfl⟩, by simp⟩

/-- A byte that comes. -/
theorem push_ok (h : UAt w B cv sv u) (k : u.Ok) (b : Int) : Calls Try.prog 15 #[.pointer (some ⟨B, 0, none⟩), .int .u8 b] w fun e w' => e = .returned (.tuple #[]) ∧ UPush w B cv sv (u.push b) w' := by
  have hc := h.chn
  have hf := k.few
  unfold U.room at hf
  have hkp : ∀ c s r (l : List Int), cv = some c → Kp (fun k => k = B ∨ cv = some k) w (w.setChan c 16 (l.map (Value.int .u8)).toArray false s r false) := fun c s r l e => (kpChan w c 16 _ false s r false).mono fun j _ (ej : j = c) => .inr (by rw [ej]; exact e)
  have hlost : UAt (w.setCell ⟨B, 1, none⟩ (.bool true)) B cv sv { u with lost := true } := h.set _ rfl rfl rfl
  have hkl : Kp (fun k => k = B ∨ cv = some k) w (w.setCell ⟨B, 1, none⟩ (.bool true)) := (kpB B w 1 _).mono fun j _ (ej : j = B) => .inl ej
  cases cv with
  | none =>
    have el : u.came = [] := by
      generalize u.came = l at hc
      cases hc
      rfl
    have ep : u.push b = { u with came := [] ++ [b] } := by
      have hr : u.came.length < u.room := by
        rw [el]
        unfold U.room
        split <;> decide
      unfold U.push
      rw [if_pos hr, el]
    obtain ⟨hU, hc'⟩ := wCh_at h
    have fin : UPush w B none sv (u.push b) ((wCh w B).setChan w.heap.size 16 (([] ++ [b]).map (Value.int .u8)).toArray false 1 0 false) := by
      rw [ep]
      refine ⟨_, hU.chan ([] ++ [b]) (by simp) 1 0, .inr ⟨_, rfl, Nat.le_refl _⟩, ?_⟩
      exact Kp.over ((wCh_kp w B).mono fun j _ (e : j = B) => .inl e) (kpChan _ w.heap.size _ _ _ _ _ _) (fun j hj (e : j = w.heap.size) => by omega)
    cases eo : u.on
    · exact (push_new_off h eo b).mono fun e w' ⟨a, g⟩ => ⟨a, g ▸ fin⟩
    · exact (push_new_on h eo b).mono fun e w' ⟨a, g⟩ => ⟨a, g ▸ fin⟩
  | some c =>
    obtain ⟨s, r, g⟩ := hc.lt
    cases eo : u.on
    · rw [eo] at hf
      cases et : u.there
      · have e0 : u.came.length = 0 := by unfold U.there at et; simp only [decide_eq_false_iff_not] at et; omega
        have ep : u.push b = { u with came := u.came ++ [b] } := by
          have hr : u.came.length < u.room := by unfold U.room; rw [eo, if_neg (by decide)]; omega
          unfold U.push
          rw [if_pos hr]
        rw [ep]
        refine (push_room_off h eo et b g (by omega)).mono fun e w' ⟨a, gw⟩ => ⟨a, gw ▸ ⟨_, h.chan (u.came ++ [b]) (by simp; omega) (s + 1) r, .inl rfl, hkp c _ _ _ rfl⟩⟩
      · have ep : u.push b = { u with lost := true } := by
          unfold U.there at et
          simp only [decide_eq_true_eq] at et
          have hr : ¬ u.came.length < u.room := by unfold U.room; rw [eo, if_neg (by decide)]; omega
          unfold U.push
          rw [if_neg hr]
        rw [ep]
        exact (push_off h eo et b).mono fun e w' ⟨a, gw⟩ => ⟨a, gw ▸ ⟨_, hlost, .inl rfl, hkl⟩⟩
    · rw [eo] at hf
      by_cases hr : u.came.length < 16
      · have ep : u.push b = { u with came := u.came ++ [b] } := by
          unfold U.push U.room
          rw [if_pos (by rw [eo]; simpa using hr)]
        rw [ep]
        refine (push_room_on h eo b g hr).mono fun e w' ⟨a, gw⟩ => ⟨a, gw ▸ ⟨_, h.chan (u.came ++ [b]) (by simp; omega) (s + 1) r, .inl rfl, hkp c _ _ _ rfl⟩⟩
      · have ep : u.push b = { u with lost := true } := by
          unfold U.push U.room
          rw [if_neg (by rw [eo]; simpa using hr)]
        rw [ep]
        exact (push_full_on h eo b g (by omega)).mono fun e w' ⟨a, gw⟩ => ⟨a, gw ▸ ⟨_, hlost, .inl rfl, hkl⟩⟩
end
end Go.Proofs.Ytafnlaamfpjolaa
