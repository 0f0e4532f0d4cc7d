/- The bus and its devices: PtLin. -/
import Derived.Test.YtacgmoikegcopaaGreatDoorEc25
namespace Go.Proofs.YtacgmoikegcopaaGreatDoor.Pt
open Go.ChangeShapes Go.WideShapes Go.ChangeAt Go.RowKit
set_option linter.unusedVariables false
set_option maxRecDepth 20000
theorem lt_of_cell {w:World} {b k:Nat} {v:Value} (h:w.cell? ⟨b,k,none⟩=some v):b < w.heap.size:=by
 by_cases g:b < w.heap.size
 ·exact g
 ·have e:w.heap[b]?=none:=Array.getElem?_eq_none (by omega)
  simp [World.cell?,e] at h
section
variable {w:World} {B o:Nat} {f:Nat→Cn} {i:Nat} {c:Cn}
theorem line_st (h:CAt w B o f i c) (now:Int) (hs:c.st=true):Calls Tryz.prog 186 #[.pointer (some ⟨B,o,none⟩),.int .u64 now] w fun e w'=>e=.returned (.bool (c.mode != 0))∧Kp noB w w':=by
 have c0:=h.c0
 have c4:=h.c4
 rw [hs] at c4
 go_enter Tryz.func186,Tryz.ntmps186
 go_wp2
 go_ret
 exact ⟨rfl,Kp.refl _ _⟩
set_option maxHeartbeats 1000000 in
theorem line_none (h:CAt w B o f i c) (k:c.Ok) (now:Int) (hs:c.st=false) (hm:¬ c.mode=0∧¬ c.mode=2∧¬ c.mode=3):Calls Tryz.prog 186 #[.pointer (some ⟨B,o,none⟩),.int .u64 now] w fun e w'=>e=.returned (.bool true)∧Kp noB w w':=by
 have HM:Hid (∀ w,_):=fun w=>modes_any w
 have HW:Hid (∀ w,CAt w B o f i c→_):=fun w h=>whole_ok (w:=w) h k.len
 have L1:=look_w w.drew c.mode
 have L2:=look_wa w.drew c.mode m0
 have L3:=look_w (w.alloc m0).drew c.mode
 have hR:∀ b,mdR b c.mode=.tuple #[.agg #[.nilFunc,.nilFunc],.bool false]:=fun b=>by unfold mdR;rw [if_neg hm.1,if_neg hm.2.1,if_neg hm.2.2]
 rw [hR] at L1 L2 L3
 clear hR
 unfold m0 at L2 L3
 simp only [World.size_alloc,World.size_drew] at L1 L2 L3
 have c0:=h.drew.c0
 have d0:=h.drew.md.c0
 have e0:=(h.drew.md.alloc m0).c0
 have f0:=(h.alloc m0).drew.c0
 have g0:=(h.alloc m0).drew.md.c0
 have c4:=h.c4
 have sz:(mdW w.drew).heap.size=w.heap.size+2:=mdW_size _
 have y0:=m0_c w (k:=0) (by decide)
 have y1:=m0_c w (k:=1) (by decide)
 have u0:=m0_z w 0
 have u1:=m0_z w 1
 unfold m0 at y0 y1 u0 u1 e0 f0 g0
 have TA:Hid (Tl w ((mdW w.drew).alloc (.cells #[.nilFunc,.nilFunc] 312)) (w.heap.size+2) w.heap.size (.nilFunc) (.nilFunc)):=tlA w _ _
 have TB:Hid (Tl w (((mdW (w.alloc m0).drew).setCell ⟨w.heap.size,0,none⟩ (.nilFunc)).setCell ⟨w.heap.size,1,none⟩ (.nilFunc)) w.heap.size (w.heap.size+1) (.nilFunc) (.nilFunc)):=tlB w _ _
 unfold m0 at TB
 have hC:Hid (CAt w B o f i c):=h
 rw [hs] at c4
 obtain ⟨md,hmd⟩:∃ m,m=c.mode:=⟨_,rfl⟩
 rw [← hmd] at c0 d0 e0 f0 g0 L1 L2 L3
 clear hmd
 go_enter Tryz.func186,Tryz.ntmps186
 go_wp2
 go_region_with (go_at_call 226;refine Calls.mono (HM.out _) ?_;rintro e w1 ⟨rfl,hw⟩;replace hw:w1=mdW _:=hw;subst hw)
 all_goals clear c0 d0 e0 f0 g0 L1 L2 L3 y0 y1 u0 u1 sz
 all_goals first
  | (with_reducible (show Exit.then _ _ _ _ ((mdW w.drew).alloc _));have T:=TA.out;clear TA TB;generalize (mdW w.drew).alloc _=W at T ⊢;generalize hq:w.heap.size+2=q at T ⊢;clear hq;generalize hb:w.heap.size=b at T ⊢;clear hb)
  | (have T:=TB.out;clear TA TB;generalize ((mdW (w.alloc _).drew).setCell _ _).setCell _ _=W at T ⊢;generalize hb:w.heap.size+1=b at T ⊢;clear hb;generalize hq:w.heap.size=q at T ⊢;clear hq)
 all_goals
  have x0:=T.x0
  have x1:=T.x1
  have hD:=hC.out.kept T.kp id
  clear c4
  have c3:=hD.c3
  have c4:=hD.c4
  skip
  clear hD
  go_wp2
  go_ret
  exact ⟨rfl,T.kp⟩
set_option maxHeartbeats 1000000 in
theorem line_0 (h:CAt w B o f i c) (k:c.Ok) (now:Int) (hs:c.st=false) (hm:c.mode=0):Calls Tryz.prog 186 #[.pointer (some ⟨B,o,none⟩),.int .u64 now] w fun e w'=>e=.returned (.bool (decide (c.whole≤c.steps now)))∧Kp noB w w':=by
 have HM:Hid (∀ w,_):=fun w=>modes_any w
 have HW:Hid (∀ w,CAt w B o f i c→_):=fun w h=>whole_ok (w:=w) h k.len
 have L1:=look_w w.drew c.mode
 have L2:=look_wa w.drew c.mode m0
 have L3:=look_w (w.alloc m0).drew c.mode
 have hR:∀ b,mdR b c.mode=.tuple #[.agg #[.func (.func 266) #[] #[],.func (.func 267) #[] #[]],.bool true]:=fun b=>by rw [hm];rfl
 rw [hR] at L1 L2 L3
 clear hR
 unfold m0 at L2 L3
 simp only [World.size_alloc,World.size_drew] at L1 L2 L3
 have c0:=h.drew.c0
 have d0:=h.drew.md.c0
 have e0:=(h.drew.md.alloc m0).c0
 have f0:=(h.alloc m0).drew.c0
 have g0:=(h.alloc m0).drew.md.c0
 have c4:=h.c4
 have sz:(mdW w.drew).heap.size=w.heap.size+2:=mdW_size _
 have y0:=m0_c w (k:=0) (by decide)
 have y1:=m0_c w (k:=1) (by decide)
 have u0:=m0_z w 0
 have u1:=m0_z w 1
 unfold m0 at y0 y1 u0 u1 e0 f0 g0
 have TA:Hid (Tl w ((mdW w.drew).alloc (.cells #[.func (.func 266) #[] #[],.func (.func 267) #[] #[]] 312)) (w.heap.size+2) w.heap.size (.func (.func 266) #[] #[]) (.func (.func 267) #[] #[])):=tlA w _ _
 have TB:Hid (Tl w (((mdW (w.alloc m0).drew).setCell ⟨w.heap.size,0,none⟩ (.func (.func 266) #[] #[])).setCell ⟨w.heap.size,1,none⟩ (.func (.func 267) #[] #[])) w.heap.size (w.heap.size+1) (.func (.func 266) #[] #[]) (.func (.func 267) #[] #[])):=tlB w _ _
 unfold m0 at TB
 have hC:Hid (CAt w B o f i c):=h
 rw [hs] at c4
 have HS:(now - c.began)%18446744073709551616=c.steps now:=rfl
 obtain ⟨md,hmd⟩:∃ m,m=c.mode:=⟨_,rfl⟩
 rw [← hmd] at c0 d0 e0 f0 g0 L1 L2 L3
 clear hmd
 go_enter Tryz.func186,Tryz.ntmps186
 go_wp2
 go_region_with (go_at_call 226;refine Calls.mono (HM.out _) ?_;rintro e w1 ⟨rfl,hw⟩;replace hw:w1=mdW _:=hw;subst hw)
 all_goals clear c0 d0 e0 f0 g0 L1 L2 L3 y0 y1 u0 u1 sz
 all_goals first
  | (with_reducible (show Exit.then _ _ _ _ ((mdW w.drew).alloc _));have T:=TA.out;clear TA TB;generalize (mdW w.drew).alloc _=W at T ⊢;generalize hq:w.heap.size+2=q at T ⊢;clear hq;generalize hb:w.heap.size=b at T ⊢;clear hb)
  | (have T:=TB.out;clear TA TB;generalize ((mdW (w.alloc _).drew).setCell _ _).setCell _ _=W at T ⊢;generalize hb:w.heap.size+1=b at T ⊢;clear hb;generalize hq:w.heap.size=q at T ⊢;clear hq)
 all_goals
  have x0:=T.x0
  have x1:=T.x1
  have hD:=hC.out.kept T.kp id
  clear c4
  have c3:=hD.c3
  have c4:=hD.c4
  skip
  clear x0
  have HF:Hid (∀ w',Kp noB W w'→_):=fun w' g=>line0_any w' c.whole (c.steps now)
  have HG:Hid (∀ w',Kp noB W w'→_):=fun w' g=>HW.out w' (hD.kept g id)
  clear hD
  go_wp2
  go_quiet (first | (go_at_call 227;exact Calls.quiet_of_same (HG.out _ ((Kp.refl noB W).drewN _))) | (go_at_call 267;exact Calls.quiet_of_same (HF.out _ ((Kp.refl noB W).drewN _))))
  go_wp2
  go_ret
  exact ⟨rfl,T.kp.drewN _⟩
set_option maxHeartbeats 1000000 in
theorem line_2 (h:CAt w B o f i c) (k:c.Ok) (now:Int) (hs:c.st=false) (hm:c.mode=2):Calls Tryz.prog 186 #[.pointer (some ⟨B,o,none⟩),.int .u64 now] w fun e w'=>e=.returned (.bool (c.steps now%c.whole != c.whole - 1))∧Kp noB w w':=by
 have HM:Hid (∀ w,_):=fun w=>modes_any w
 have HW:Hid (∀ w,CAt w B o f i c→_):=fun w h=>whole_ok (w:=w) h k.len
 have L1:=look_w w.drew c.mode
 have L2:=look_wa w.drew c.mode m0
 have L3:=look_w (w.alloc m0).drew c.mode
 have hR:∀ b,mdR b c.mode=.tuple #[.agg #[.func (.func 265) #[] #[],.func (.func 268) #[] #[.pointer (some ⟨b,0,none⟩)]],.bool true]:=fun b=>by rw [hm];rfl
 rw [hR] at L1 L2 L3
 clear hR
 unfold m0 at L2 L3
 simp only [World.size_alloc,World.size_drew] at L1 L2 L3
 have c0:=h.drew.c0
 have d0:=h.drew.md.c0
 have e0:=(h.drew.md.alloc m0).c0
 have f0:=(h.alloc m0).drew.c0
 have g0:=(h.alloc m0).drew.md.c0
 have c4:=h.c4
 have sz:(mdW w.drew).heap.size=w.heap.size+2:=mdW_size _
 have y0:=m0_c w (k:=0) (by decide)
 have y1:=m0_c w (k:=1) (by decide)
 have u0:=m0_z w 0
 have u1:=m0_z w 1
 unfold m0 at y0 y1 u0 u1 e0 f0 g0
 have TA:Hid (Tl w ((mdW w.drew).alloc (.cells #[.func (.func 265) #[] #[],.func (.func 268) #[] #[.pointer (some ⟨w.heap.size,0,none⟩)]] 312)) (w.heap.size+2) w.heap.size (.func (.func 265) #[] #[]) (.func (.func 268) #[] #[.pointer (some ⟨w.heap.size,0,none⟩)])):=tlA w _ _
 have TB:Hid (Tl w (((mdW (w.alloc m0).drew).setCell ⟨w.heap.size,0,none⟩ (.func (.func 265) #[] #[])).setCell ⟨w.heap.size,1,none⟩ (.func (.func 268) #[] #[.pointer (some ⟨(w.heap.size+1),0,none⟩)])) w.heap.size (w.heap.size+1) (.func (.func 265) #[] #[]) (.func (.func 268) #[] #[.pointer (some ⟨(w.heap.size+1),0,none⟩)])):=tlB w _ _
 unfold m0 at TB
 have hC:Hid (CAt w B o f i c):=h
 rw [hs] at c4
 have HS:(now - c.began)%18446744073709551616=c.steps now:=rfl
 obtain ⟨md,hmd⟩:∃ m,m=c.mode:=⟨_,rfl⟩
 rw [← hmd] at c0 d0 e0 f0 g0 L1 L2 L3
 clear hmd
 go_enter Tryz.func186,Tryz.ntmps186
 go_wp2
 go_region_with (go_at_call 226;refine Calls.mono (HM.out _) ?_;rintro e w1 ⟨rfl,hw⟩;replace hw:w1=mdW _:=hw;subst hw)
 all_goals clear c0 d0 e0 f0 g0 L1 L2 L3 y0 y1 u0 u1 sz
 all_goals first
  | (with_reducible (show Exit.then _ _ _ _ ((mdW w.drew).alloc _));have T:=TA.out;clear TA TB;generalize (mdW w.drew).alloc _=W at T ⊢;generalize hq:w.heap.size+2=q at T ⊢;clear hq;generalize hb:w.heap.size=b at T ⊢;clear hb)
  | (have T:=TB.out;clear TA TB;generalize ((mdW (w.alloc _).drew).setCell _ _).setCell _ _=W at T ⊢;generalize hb:w.heap.size+1=b at T ⊢;clear hb;generalize hq:w.heap.size=q at T ⊢;clear hq)
 all_goals
  have x0:=T.x0
  have x1:=T.x1
  have hD:=hC.out.kept T.kp id
  clear c4
  have c3:=hD.c3
  have c4:=hD.c4
  skip
  clear x0
  have HF:Hid (∀ w',Kp noB W w'→_):=fun w' g=>line2_any w' c.whole (c.steps now) b ((World.cell?_of_block (w:=W) (g.block b (lt_of_cell T.left) id)).trans T.left) k.whole.1 k.whole.2 (c.steps_bd now).1
  have HG:Hid (∀ w',Kp noB W w'→_):=fun w' g=>HW.out w' (hD.kept g id)
  clear hD
  go_wp2
  go_quiet (first | (go_at_call 227;exact Calls.quiet_of_same (HG.out _ ((Kp.refl noB W).drewN _))) | (go_at_call 268;exact Calls.quiet_of_same (HF.out _ ((Kp.refl noB W).drewN _))))
  go_wp2
  go_ret
  exact ⟨rfl,T.kp.drewN _⟩
set_option maxHeartbeats 1000000 in
theorem line_3 (h:CAt w B o f i c) (k:c.Ok) (now:Int) (hs:c.st=false) (hm:c.mode=3):Calls Tryz.prog 186 #[.pointer (some ⟨B,o,none⟩),.int .u64 now] w fun e w'=>e=.returned (.bool (decide (c.steps now%c.whole < (c.whole+1) / 2)))∧Kp noB w w':=by
 have HM:Hid (∀ w,_):=fun w=>modes_any w
 have HW:Hid (∀ w,CAt w B o f i c→_):=fun w h=>whole_ok (w:=w) h k.len
 have L1:=look_w w.drew c.mode
 have L2:=look_wa w.drew c.mode m0
 have L3:=look_w (w.alloc m0).drew c.mode
 have hR:∀ b,mdR b c.mode=.tuple #[.agg #[.func (.func 265) #[] #[],.func (.func 269) #[] #[]],.bool true]:=fun b=>by rw [hm];rfl
 rw [hR] at L1 L2 L3
 clear hR
 unfold m0 at L2 L3
 simp only [World.size_alloc,World.size_drew] at L1 L2 L3
 have c0:=h.drew.c0
 have d0:=h.drew.md.c0
 have e0:=(h.drew.md.alloc m0).c0
 have f0:=(h.alloc m0).drew.c0
 have g0:=(h.alloc m0).drew.md.c0
 have c4:=h.c4
 have sz:(mdW w.drew).heap.size=w.heap.size+2:=mdW_size _
 have y0:=m0_c w (k:=0) (by decide)
 have y1:=m0_c w (k:=1) (by decide)
 have u0:=m0_z w 0
 have u1:=m0_z w 1
 unfold m0 at y0 y1 u0 u1 e0 f0 g0
 have TA:Hid (Tl w ((mdW w.drew).alloc (.cells #[.func (.func 265) #[] #[],.func (.func 269) #[] #[]] 312)) (w.heap.size+2) w.heap.size (.func (.func 265) #[] #[]) (.func (.func 269) #[] #[])):=tlA w _ _
 have TB:Hid (Tl w (((mdW (w.alloc m0).drew).setCell ⟨w.heap.size,0,none⟩ (.func (.func 265) #[] #[])).setCell ⟨w.heap.size,1,none⟩ (.func (.func 269) #[] #[])) w.heap.size (w.heap.size+1) (.func (.func 265) #[] #[]) (.func (.func 269) #[] #[])):=tlB w _ _
 unfold m0 at TB
 have hC:Hid (CAt w B o f i c):=h
 rw [hs] at c4
 have HS:(now - c.began)%18446744073709551616=c.steps now:=rfl
 obtain ⟨md,hmd⟩:∃ m,m=c.mode:=⟨_,rfl⟩
 rw [← hmd] at c0 d0 e0 f0 g0 L1 L2 L3
 clear hmd
 go_enter Tryz.func186,Tryz.ntmps186
 go_wp2
 go_region_with (go_at_call 226;refine Calls.mono (HM.out _) ?_;rintro e w1 ⟨rfl,hw⟩;replace hw:w1=mdW _:=hw;subst hw)
 all_goals clear c0 d0 e0 f0 g0 L1 L2 L3 y0 y1 u0 u1 sz
 all_goals first
  | (with_reducible (show Exit.then _ _ _ _ ((mdW w.drew).alloc _));have T:=TA.out;clear TA TB;generalize (mdW w.drew).alloc _=W at T ⊢;generalize hq:w.heap.size+2=q at T ⊢;clear hq;generalize hb:w.heap.size=b at T ⊢;clear hb)
  | (have T:=TB.out;clear TA TB;generalize ((mdW (w.alloc _).drew).setCell _ _).setCell _ _=W at T ⊢;generalize hb:w.heap.size+1=b at T ⊢;clear hb;generalize hq:w.heap.size=q at T ⊢;clear hq)
 all_goals
  have x0:=T.x0
  have x1:=T.x1
  have hD:=hC.out.kept T.kp id
  clear c4
  have c3:=hD.c3
  have c4:=hD.c4
  skip
  clear x0
  have HF:Hid (∀ w',Kp noB W w'→_):=fun w' g=>line3_any w' c.whole (c.steps now) k.whole.1 k.whole.2 (c.steps_bd now).1
  have HG:Hid (∀ w',Kp noB W w'→_):=fun w' g=>HW.out w' (hD.kept g id)
  clear hD
  go_wp2
  go_quiet (first | (go_at_call 227;exact Calls.quiet_of_same (HG.out _ ((Kp.refl noB W).drewN _))) | (go_at_call 269;exact Calls.quiet_of_same (HF.out _ ((Kp.refl noB W).drewN _))))
  go_wp2
  go_ret
  exact ⟨rfl,T.kp.drewN _⟩
theorem line_ok (h:CAt w B o f i c) (k:c.Ok) (now:Int):Calls Tryz.prog 186 #[.pointer (some ⟨B,o,none⟩),.int .u64 now] w fun e w'=>e=.returned (.bool (c.line now))∧Kp noB w w':=by
 unfold Cn.line
 cases hs:c.st
 ·simp only [Bool.false_eq_true,if_false]
  by_cases h0:c.mode=0
  ·rw [if_pos h0]
   exact line_0 h k now hs h0
  ·rw [if_neg h0]
   by_cases h2:c.mode=2
   ·rw [if_pos h2]
    exact line_2 h k now hs h2
   ·rw [if_neg h2]
    by_cases h3:c.mode=3
    ·rw [if_pos h3]
     exact line_3 h k now hs h3
    ·rw [if_neg h3]
     exact line_none h k now hs ⟨h0,h2,h3⟩
 ·simp only [if_true]
  exact line_st h now hs
end
end Go.Proofs.YtacgmoikegcopaaGreatDoor.Pt
