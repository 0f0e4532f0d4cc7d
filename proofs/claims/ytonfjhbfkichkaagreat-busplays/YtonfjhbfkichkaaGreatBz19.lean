/- The bus and its devices: PtVal. -/
import Derived.Test.YtonfjhbfkichkaaGreatBz10
namespace Go.Proofs.YtonfjhbfkichkaaGreat.Pt
open Go.ChangeShapes Go.WideShapes Go.ChangeAt Go.RowKit
set_option linter.unusedVariables false
theorem wrap16 (n : Int) : IntKind.u16.wrap n = n % 65536 := by simp [IntKind.wrap, IntKind.bits, IntKind.signed]
section
variable {w : World} {B o : Nat} {f : Nat → Cn} {i : Nat} {c : Cn}
set_option maxHeartbeats 1000000 in
theorem value_none (h : CAt w B o f i c) (k : c.Ok) (now : Int) (hm : ¬ c.mode = 0 ∧ ¬ c.mode = 2 ∧ ¬ c.mode = 3) : Calls Tryz.prog 171 #[.pointer (some ⟨B, o, none⟩), .int .u64 now] w fun e w' => e = .returned (.int .u16 (c.whole % 65536)) ∧ Kp noB w w' := by
 have HM : Hid (∀ w, _) := fun w => modes_any w
 have HW : Hid (∀ w, CAt w B o f i c → _) := fun w h => whole_ok (w := w) h k.len
 have L1 := look_w w.drew c.mode
 have L2 := look_wa w.drew c.mode m0
 have L3 := look_w (w.alloc m0).drew c.mode
 have hR : ∀ b, mdR b c.mode = .tuple #[.agg #[.nilFunc, .nilFunc], .bool false] := fun b => by unfold mdR; rw [if_neg hm.1, if_neg hm.2.1, if_neg hm.2.2]
 rw [hR] at L1 L2 L3
 clear hR
 unfold m0 at L2 L3
 simp only [World.size_alloc, World.size_drew] at L1 L2 L3
 have c0 := h.drew.c0
 have d0 := h.drew.md.c0
 have e0 := (h.drew.md.alloc m0).c0
 have f0 := (h.alloc m0).drew.c0
 have g0 := (h.alloc m0).drew.md.c0
 have c4 := h.c4
 have sz : (mdW w.drew).heap.size = w.heap.size + 2 := mdW_size _
 have y0 := m0_c w (k := 0) (by decide)
 have y1 := m0_c w (k := 1) (by decide)
 have u0 := m0_z w 0
 have u1 := m0_z w 1
 unfold m0 at y0 y1 u0 u1 e0 f0 g0
 have TA : Hid (Tl w ((mdW w.drew).alloc (.cells #[.nilFunc, .nilFunc] 182)) (w.heap.size + 2) w.heap.size (.nilFunc) (.nilFunc)) := tlA w _ _
 have TB : Hid (Tl w (((mdW (w.alloc m0).drew).setCell ⟨w.heap.size, 0, none⟩ (.nilFunc)).setCell ⟨w.heap.size, 1, none⟩ (.nilFunc)) w.heap.size (w.heap.size + 1) (.nilFunc) (.nilFunc)) := tlB w _ _
 unfold m0 at TB
 have hC : Hid (CAt w B o f i c) := h
 obtain ⟨md, hmd⟩ : ∃ m, m = c.mode := ⟨_, rfl⟩
 rw [← hmd] at c0 d0 e0 f0 g0 L1 L2 L3
 clear hmd
 go_enter Tryz.func171, Tryz.ntmps171
 go_wp2_with fail
 refine Calls.mono (HW.out w hC.out) ?_; rintro e w1 ⟨rfl, hw⟩; replace hw := hw.symm; subst hw
 go_wp2
 go_region_with (go_at_call 151; refine Calls.mono (HM.out _) ?_; rintro e w1 ⟨rfl, hw⟩; replace hw : w1 = mdW _ := hw; subst hw)
 all_goals clear c0 d0 e0 f0 g0 L1 L2 L3 y0 y1 u0 u1 sz
 all_goals first
  | (with_reducible (show Exit.then _ _ _ _ ((mdW w.drew).alloc _)); have T := TA.out; clear TA TB; generalize (mdW w.drew).alloc _ = W at T ⊢; generalize hq : w.heap.size + 2 = q at T ⊢; clear hq; generalize hb : w.heap.size = b at T ⊢; clear hb)
  | (have T := TB.out; clear TA TB; generalize ((mdW (w.alloc _).drew).setCell _ _).setCell _ _ = W at T ⊢; generalize hb : w.heap.size + 1 = b at T ⊢; clear hb; generalize hq : w.heap.size = q at T ⊢; clear hq)
 all_goals
  have x0 := T.x0
  have x1 := T.x1
  have hD := hC.out.kept T.kp id
  clear c4
  have c3 := hD.c3
  have c4 := hD.c4
  skip
  clear hD
  go_wp2
  go_ret
  exact ⟨rfl, T.kp⟩
set_option maxHeartbeats 1000000 in
theorem value_st (h : CAt w B o f i c) (k : c.Ok) (now : Int) (a d : Nat) (ps : Nat → Array Value) (hR : ∀ b, mdR b c.mode = .tuple #[.agg #[.func (.func a) #[] #[], .func (.func d) #[] (ps b)], .bool true]) (hs : c.st = true) : Calls Tryz.prog 171 #[.pointer (some ⟨B, o, none⟩), .int .u64 now] w fun e w' => e = .returned (.int .u16 (c.whole % 65536)) ∧ Kp noB w w' := by
 have HM : Hid (∀ w, _) := fun w => modes_any w
 have HW : Hid (∀ w, CAt w B o f i c → _) := fun w h => whole_ok (w := w) h k.len
 have L1 := look_w w.drew c.mode
 have L2 := look_wa w.drew c.mode m0
 have L3 := look_w (w.alloc m0).drew c.mode
 rw [hR] at L1 L2 L3
 clear hR
 unfold m0 at L2 L3
 simp only [World.size_alloc, World.size_drew] at L1 L2 L3
 have c0 := h.drew.c0
 have d0 := h.drew.md.c0
 have e0 := (h.drew.md.alloc m0).c0
 have f0 := (h.alloc m0).drew.c0
 have g0 := (h.alloc m0).drew.md.c0
 have c4 := h.c4
 have sz : (mdW w.drew).heap.size = w.heap.size + 2 := mdW_size _
 have y0 := m0_c w (k := 0) (by decide)
 have y1 := m0_c w (k := 1) (by decide)
 have u0 := m0_z w 0
 have u1 := m0_z w 1
 unfold m0 at y0 y1 u0 u1 e0 f0 g0
 have TA : Hid (Tl w ((mdW w.drew).alloc (.cells #[.func (.func a) #[] #[], .func (.func d) #[] (ps w.heap.size)] 182)) (w.heap.size + 2) w.heap.size (.func (.func a) #[] #[]) (.func (.func d) #[] (ps w.heap.size))) := tlA w _ _
 have TB : Hid (Tl w (((mdW (w.alloc m0).drew).setCell ⟨w.heap.size, 0, none⟩ (.func (.func a) #[] #[])).setCell ⟨w.heap.size, 1, none⟩ (.func (.func d) #[] (ps (w.heap.size + 1)))) w.heap.size (w.heap.size + 1) (.func (.func a) #[] #[]) (.func (.func d) #[] (ps (w.heap.size + 1)))) := tlB w _ _
 unfold m0 at TB
 have hC : Hid (CAt w B o f i c) := h
 obtain ⟨md, hmd⟩ : ∃ m, m = c.mode := ⟨_, rfl⟩
 rw [← hmd] at c0 d0 e0 f0 g0 L1 L2 L3
 clear hmd
 go_enter Tryz.func171, Tryz.ntmps171
 go_wp2_with fail
 refine Calls.mono (HW.out w hC.out) ?_; rintro e w1 ⟨rfl, hw⟩; replace hw := hw.symm; subst hw
 go_wp2
 go_region_with (go_at_call 151; refine Calls.mono (HM.out _) ?_; rintro e w1 ⟨rfl, hw⟩; replace hw : w1 = mdW _ := hw; subst hw)
 all_goals clear c0 d0 e0 f0 g0 L1 L2 L3 y0 y1 u0 u1 sz
 all_goals first
  | (with_reducible (show Exit.then _ _ _ _ ((mdW w.drew).alloc _)); have T := TA.out; clear TA TB; generalize (mdW w.drew).alloc _ = W at T ⊢; generalize hq : w.heap.size + 2 = q at T ⊢; clear hq; generalize hb : w.heap.size = b at T ⊢; clear hb)
  | (have T := TB.out; clear TA TB; generalize ((mdW (w.alloc _).drew).setCell _ _).setCell _ _ = W at T ⊢; generalize hb : w.heap.size + 1 = b at T ⊢; clear hb; generalize hq : w.heap.size = q at T ⊢; clear hq)
 all_goals
  have x0 := T.x0
  have x1 := T.x1
  have hD := hC.out.kept T.kp id
  clear c4
  have c3 := hD.c3
  have c4 := hD.c4
  rw [hs] at c4
  clear hD
  go_wp2
  go_ret
  exact ⟨rfl, T.kp⟩
set_option maxHeartbeats 1000000 in
theorem value_0 (h : CAt w B o f i c) (k : c.Ok) (now : Int) (hs : c.st = false) (hm : c.mode = 0) : Calls Tryz.prog 171 #[.pointer (some ⟨B, o, none⟩), .int .u64 now] w fun e w' => e = .returned (.int .u16 ((c.whole - c.steps now) % 65536)) ∧ Kp noB w w' := by
 have HM : Hid (∀ w, _) := fun w => modes_any w
 have HW : Hid (∀ w, CAt w B o f i c → _) := fun w h => whole_ok (w := w) h k.len
 have L1 := look_w w.drew c.mode
 have L2 := look_wa w.drew c.mode m0
 have L3 := look_w (w.alloc m0).drew c.mode
 have hR : ∀ b, mdR b c.mode = .tuple #[.agg #[.func (.func 173) #[] #[], .func (.func 174) #[] #[]], .bool true] := fun b => by rw [hm]; rfl
 rw [hR] at L1 L2 L3
 clear hR
 unfold m0 at L2 L3
 simp only [World.size_alloc, World.size_drew] at L1 L2 L3
 have c0 := h.drew.c0
 have d0 := h.drew.md.c0
 have e0 := (h.drew.md.alloc m0).c0
 have f0 := (h.alloc m0).drew.c0
 have g0 := (h.alloc m0).drew.md.c0
 have c4 := h.c4
 have sz : (mdW w.drew).heap.size = w.heap.size + 2 := mdW_size _
 have y0 := m0_c w (k := 0) (by decide)
 have y1 := m0_c w (k := 1) (by decide)
 have u0 := m0_z w 0
 have u1 := m0_z w 1
 unfold m0 at y0 y1 u0 u1 e0 f0 g0
 have TA : Hid (Tl w ((mdW w.drew).alloc (.cells #[.func (.func 173) #[] #[], .func (.func 174) #[] #[]] 182)) (w.heap.size + 2) w.heap.size (.func (.func 173) #[] #[]) (.func (.func 174) #[] #[])) := tlA w _ _
 have TB : Hid (Tl w (((mdW (w.alloc m0).drew).setCell ⟨w.heap.size, 0, none⟩ (.func (.func 173) #[] #[])).setCell ⟨w.heap.size, 1, none⟩ (.func (.func 174) #[] #[])) w.heap.size (w.heap.size + 1) (.func (.func 173) #[] #[]) (.func (.func 174) #[] #[])) := tlB w _ _
 unfold m0 at TB
 have hC : Hid (CAt w B o f i c) := h
 have HF : Hid (∀ w, _) := fun w => val0_any w c.whole (c.steps now)
 have HS : (now - c.began) % 18446744073709551616 = c.steps now := rfl
 obtain ⟨md, hmd⟩ : ∃ m, m = c.mode := ⟨_, rfl⟩
 rw [← hmd] at c0 d0 e0 f0 g0 L1 L2 L3
 clear hmd
 go_enter Tryz.func171, Tryz.ntmps171
 go_wp2_with fail
 refine Calls.mono (HW.out w hC.out) ?_; rintro e w1 ⟨rfl, hw⟩; replace hw := hw.symm; subst hw
 go_wp2
 go_region_with (go_at_call 151; refine Calls.mono (HM.out _) ?_; rintro e w1 ⟨rfl, hw⟩; replace hw : w1 = mdW _ := hw; subst hw)
 all_goals clear c0 d0 e0 f0 g0 L1 L2 L3 y0 y1 u0 u1 sz
 all_goals first
  | (with_reducible (show Exit.then _ _ _ _ ((mdW w.drew).alloc _)); have T := TA.out; clear TA TB; generalize (mdW w.drew).alloc _ = W at T ⊢; generalize hq : w.heap.size + 2 = q at T ⊢; clear hq; generalize hb : w.heap.size = b at T ⊢; clear hb)
  | (have T := TB.out; clear TA TB; generalize ((mdW (w.alloc _).drew).setCell _ _).setCell _ _ = W at T ⊢; generalize hb : w.heap.size + 1 = b at T ⊢; clear hb; generalize hq : w.heap.size = q at T ⊢; clear hq)
 all_goals
  have x0 := T.x0
  have x1 := T.x1
  have hD := hC.out.kept T.kp id
  clear c4
  have c3 := hD.c3
  have c4 := hD.c4
  rw [hs] at c4
  clear hD x1
  go_wp2
  go_quiet ((go_at_call 173; exact Calls.quiet_of_same (HF.out _)))
  go_wp2
  go_ret
  exact ⟨ret_int (by first | rfl | (rw [wrap16]; omega) | omega), T.kp.drewN _⟩
set_option maxHeartbeats 1000000 in
theorem value_2 (h : CAt w B o f i c) (k : c.Ok) (now : Int) (hs : c.st = false) (hm : c.mode = 2) : Calls Tryz.prog 171 #[.pointer (some ⟨B, o, none⟩), .int .u64 now] w fun e w' => e = .returned (.int .u16 ((c.whole - c.steps now % c.whole) % 65536)) ∧ Kp noB w w' := by
 have HM : Hid (∀ w, _) := fun w => modes_any w
 have HW : Hid (∀ w, CAt w B o f i c → _) := fun w h => whole_ok (w := w) h k.len
 have L1 := look_w w.drew c.mode
 have L2 := look_wa w.drew c.mode m0
 have L3 := look_w (w.alloc m0).drew c.mode
 have hR : ∀ b, mdR b c.mode = .tuple #[.agg #[.func (.func 172) #[] #[], .func (.func 175) #[] #[.pointer (some ⟨b, 0, none⟩)]], .bool true] := fun b => by rw [hm]; rfl
 rw [hR] at L1 L2 L3
 clear hR
 unfold m0 at L2 L3
 simp only [World.size_alloc, World.size_drew] at L1 L2 L3
 have c0 := h.drew.c0
 have d0 := h.drew.md.c0
 have e0 := (h.drew.md.alloc m0).c0
 have f0 := (h.alloc m0).drew.c0
 have g0 := (h.alloc m0).drew.md.c0
 have c4 := h.c4
 have sz : (mdW w.drew).heap.size = w.heap.size + 2 := mdW_size _
 have y0 := m0_c w (k := 0) (by decide)
 have y1 := m0_c w (k := 1) (by decide)
 have u0 := m0_z w 0
 have u1 := m0_z w 1
 unfold m0 at y0 y1 u0 u1 e0 f0 g0
 have TA : Hid (Tl w ((mdW w.drew).alloc (.cells #[.func (.func 172) #[] #[], .func (.func 175) #[] #[.pointer (some ⟨w.heap.size, 0, none⟩)]] 182)) (w.heap.size + 2) w.heap.size (.func (.func 172) #[] #[]) (.func (.func 175) #[] #[.pointer (some ⟨w.heap.size, 0, none⟩)])) := tlA w _ _
 have TB : Hid (Tl w (((mdW (w.alloc m0).drew).setCell ⟨w.heap.size, 0, none⟩ (.func (.func 172) #[] #[])).setCell ⟨w.heap.size, 1, none⟩ (.func (.func 175) #[] #[.pointer (some ⟨(w.heap.size + 1), 0, none⟩)])) w.heap.size (w.heap.size + 1) (.func (.func 172) #[] #[]) (.func (.func 175) #[] #[.pointer (some ⟨(w.heap.size + 1), 0, none⟩)])) := tlB w _ _
 unfold m0 at TB
 have hC : Hid (CAt w B o f i c) := h
 have HF : Hid (∀ w, _) := fun w => left_any w c.whole (c.steps now) k.whole.1 k.whole.2 (c.steps_bd now).1
 have HS : (now - c.began) % 18446744073709551616 = c.steps now := rfl
 obtain ⟨md, hmd⟩ : ∃ m, m = c.mode := ⟨_, rfl⟩
 rw [← hmd] at c0 d0 e0 f0 g0 L1 L2 L3
 clear hmd
 go_enter Tryz.func171, Tryz.ntmps171
 go_wp2_with fail
 refine Calls.mono (HW.out w hC.out) ?_; rintro e w1 ⟨rfl, hw⟩; replace hw := hw.symm; subst hw
 go_wp2
 go_region_with (go_at_call 151; refine Calls.mono (HM.out _) ?_; rintro e w1 ⟨rfl, hw⟩; replace hw : w1 = mdW _ := hw; subst hw)
 all_goals clear c0 d0 e0 f0 g0 L1 L2 L3 y0 y1 u0 u1 sz
 all_goals first
  | (with_reducible (show Exit.then _ _ _ _ ((mdW w.drew).alloc _)); have T := TA.out; clear TA TB; generalize (mdW w.drew).alloc _ = W at T ⊢; generalize hq : w.heap.size + 2 = q at T ⊢; clear hq; generalize hb : w.heap.size = b at T ⊢; clear hb)
  | (have T := TB.out; clear TA TB; generalize ((mdW (w.alloc _).drew).setCell _ _).setCell _ _ = W at T ⊢; generalize hb : w.heap.size + 1 = b at T ⊢; clear hb; generalize hq : w.heap.size = q at T ⊢; clear hq)
 all_goals
  have x0 := T.x0
  have x1 := T.x1
  have hD := hC.out.kept T.kp id
  clear c4
  have c3 := hD.c3
  have c4 := hD.c4
  rw [hs] at c4
  clear hD x1
  go_wp2
  go_quiet ((go_at_call 172; exact Calls.quiet_of_same (HF.out _)))
  go_wp2
  go_ret
  exact ⟨ret_int (by first | rfl | (rw [wrap16]) | (rw [wrap16]; omega) | omega), T.kp.drewN _⟩
set_option maxHeartbeats 1000000 in
theorem value_3 (h : CAt w B o f i c) (k : c.Ok) (now : Int) (hs : c.st = false) (hm : c.mode = 3) : Calls Tryz.prog 171 #[.pointer (some ⟨B, o, none⟩), .int .u64 now] w fun e w' => e = .returned (.int .u16 ((c.whole - c.steps now % c.whole) % 65536)) ∧ Kp noB w w' := by
 have HM : Hid (∀ w, _) := fun w => modes_any w
 have HW : Hid (∀ w, CAt w B o f i c → _) := fun w h => whole_ok (w := w) h k.len
 have L1 := look_w w.drew c.mode
 have L2 := look_wa w.drew c.mode m0
 have L3 := look_w (w.alloc m0).drew c.mode
 have hR : ∀ b, mdR b c.mode = .tuple #[.agg #[.func (.func 172) #[] #[], .func (.func 176) #[] #[]], .bool true] := fun b => by rw [hm]; rfl
 rw [hR] at L1 L2 L3
 clear hR
 unfold m0 at L2 L3
 simp only [World.size_alloc, World.size_drew] at L1 L2 L3
 have c0 := h.drew.c0
 have d0 := h.drew.md.c0
 have e0 := (h.drew.md.alloc m0).c0
 have f0 := (h.alloc m0).drew.c0
 have g0 := (h.alloc m0).drew.md.c0
 have c4 := h.c4
 have sz : (mdW w.drew).heap.size = w.heap.size + 2 := mdW_size _
 have y0 := m0_c w (k := 0) (by decide)
 have y1 := m0_c w (k := 1) (by decide)
 have u0 := m0_z w 0
 have u1 := m0_z w 1
 unfold m0 at y0 y1 u0 u1 e0 f0 g0
 have TA : Hid (Tl w ((mdW w.drew).alloc (.cells #[.func (.func 172) #[] #[], .func (.func 176) #[] #[]] 182)) (w.heap.size + 2) w.heap.size (.func (.func 172) #[] #[]) (.func (.func 176) #[] #[])) := tlA w _ _
 have TB : Hid (Tl w (((mdW (w.alloc m0).drew).setCell ⟨w.heap.size, 0, none⟩ (.func (.func 172) #[] #[])).setCell ⟨w.heap.size, 1, none⟩ (.func (.func 176) #[] #[])) w.heap.size (w.heap.size + 1) (.func (.func 172) #[] #[]) (.func (.func 176) #[] #[])) := tlB w _ _
 unfold m0 at TB
 have hC : Hid (CAt w B o f i c) := h
 have HF : Hid (∀ w, _) := fun w => left_any w c.whole (c.steps now) k.whole.1 k.whole.2 (c.steps_bd now).1
 have HS : (now - c.began) % 18446744073709551616 = c.steps now := rfl
 obtain ⟨md, hmd⟩ : ∃ m, m = c.mode := ⟨_, rfl⟩
 rw [← hmd] at c0 d0 e0 f0 g0 L1 L2 L3
 clear hmd
 go_enter Tryz.func171, Tryz.ntmps171
 go_wp2_with fail
 refine Calls.mono (HW.out w hC.out) ?_; rintro e w1 ⟨rfl, hw⟩; replace hw := hw.symm; subst hw
 go_wp2
 go_region_with (go_at_call 151; refine Calls.mono (HM.out _) ?_; rintro e w1 ⟨rfl, hw⟩; replace hw : w1 = mdW _ := hw; subst hw)
 all_goals clear c0 d0 e0 f0 g0 L1 L2 L3 y0 y1 u0 u1 sz
 all_goals first
  | (with_reducible (show Exit.then _ _ _ _ ((mdW w.drew).alloc _)); have T := TA.out; clear TA TB; generalize (mdW w.drew).alloc _ = W at T ⊢; generalize hq : w.heap.size + 2 = q at T ⊢; clear hq; generalize hb : w.heap.size = b at T ⊢; clear hb)
  | (have T := TB.out; clear TA TB; generalize ((mdW (w.alloc _).drew).setCell _ _).setCell _ _ = W at T ⊢; generalize hb : w.heap.size + 1 = b at T ⊢; clear hb; generalize hq : w.heap.size = q at T ⊢; clear hq)
 all_goals
  have x0 := T.x0
  have x1 := T.x1
  have hD := hC.out.kept T.kp id
  clear c4
  have c3 := hD.c3
  have c4 := hD.c4
  rw [hs] at c4
  clear hD x1
  go_wp2
  go_quiet ((go_at_call 172; exact Calls.quiet_of_same (HF.out _)))
  go_wp2
  go_ret
  exact ⟨ret_int (by first | rfl | (rw [wrap16]) | (rw [wrap16]; omega) | omega), T.kp.drewN _⟩
theorem value_ok (h : CAt w B o f i c) (k : c.Ok) (now : Int) : Calls Tryz.prog 171 #[.pointer (some ⟨B, o, none⟩), .int .u64 now] w fun e w' => e = .returned (.int .u16 (c.value now)) ∧ Kp noB w w' := by
 unfold Cn.value
 by_cases h0 : c.mode = 0
 ·cases hs : c.st
  ·simp only [h0, if_true, Bool.false_eq_true, if_false]
   exact value_0 h k now hs h0
  ·simp only [if_true]
   exact value_st h k now 173 174 (fun _ => #[]) (fun b => by rw [h0]; rfl) hs
 ·by_cases h2 : c.mode = 2
  ·cases hs : c.st
   ·simp only [h2, if_true, Bool.false_eq_true, if_false, show ¬ ((2 : Int) = 0) by decide]
    exact value_2 h k now hs h2
   ·simp only [if_true]
    exact value_st h k now 172 175 (fun b => #[.pointer (some ⟨b, 0, none⟩)]) (fun b => by rw [h2]; rfl) hs
  ·by_cases h3 : c.mode = 3
   ·cases hs : c.st
    ·simp only [h3, if_true, Bool.false_eq_true, if_false, show ¬ ((3 : Int) = 0) by decide, show ¬ ((3 : Int) = 2) by decide]
     exact value_3 h k now hs h3
    ·simp only [if_true]
     exact value_st h k now 172 176 (fun b => #[]) (fun b => by rw [h3]; rfl) hs
   ·simp only [h0, h2, h3, if_false, ite_self]
    exact value_none h k now ⟨h0, h2, h3⟩
end
end Go.Proofs.YtonfjhbfkichkaaGreat.Pt
