/- The bus and its devices: VmCalls, TlRead, TlRange, VmAll. -/
import Derived.Test.YtacgmoikegcopaaGreatDoorEc08
import Derived.Test.YtacgmoikegcopaaGreatDoorEc04
import Derived.Deep.RegionHeld3
import Derived.LoopTactic
namespace Go.Proofs.YtacgmoikegcopaaGreatDoor.Rm
open Go.ChangeShapes Go.WideShapes Go.ChangeAt Go.RowKit Go.Maps
set_option linter.unusedVariables false
set_option maxRecDepth 20000
theorem hmf:∀ (fn:Fn) (first cap:Array Value) (w:World),(Instr.makeFunc fn first cap).run Tryz.prog w=.ok (.func fn first cap) w:=fun _ _ _ _=>rfl
theorem Ft.val_is (f:Ft):f.val=.agg #[.int .i64 f.vec,.int .i64 f.code,.int .u32 f.cr2]:=rfl
theorem load_no (w:World) (pm pc:Option Addr) (k off z:Int) (f:Ft) (S:Nat→Prop) (P:World→Prop) (hS:∀ j,S j→j < w.heap.size) (hP:∀ W W',P W→Kp (fun j=>w.heap.size≤j) W W'→P W')
  (H:Hid (∀ W,Kp noB w W→Calls Tryz.prog 203 #[.pointer pm,.pointer pc,.int .i64 k,.int .u32 off,.int .i64 z,.bool false] W fun e w'=>e=.panicked (pan f)∧Kp S W w'∧P w')):
  Calls Tryz.prog 153 #[.pointer pm,.pointer pc,.int .i64 k,.int .u32 off,.int .i64 z] w fun e w'=>e=.returned (.tuple #[.int .u32 0,f.val])∧Kp S w w'∧P w':=by
 have hmf:=hmf
 obtain ⟨X,hX⟩:∃ X,w.heap.size=X:=⟨_,rfl⟩
 obtain ⟨W0,hW0⟩:∃ W,W=(((((((w.alloc (.cells #[.pointer pm] 51)).alloc (.cells #[.pointer pc] 170)).alloc (.cells #[.int .i64 k] 3)).alloc (.cells #[.int .u32 off] 22)).alloc (.cells #[.int .i64 z] 3)).alloc (.cells #[.int .i64 0,.int .i64 0,.int .u32 0] 44)).alloc (.cells #[.int .u32 0] 22)):=⟨_,rfl⟩
 have HX:Hid (w.heap.size=X):=hX
 have hs0:W0.heap.size=X+7:=by rw [hW0];simp [hX]
 have k0:Kp noB w W0:=by
  rw [hW0]
  exact ((((((Kp.alloc noB w _).trans (Kp.alloc noB _ _)).trans (Kp.alloc noB _ _)).trans (Kp.alloc noB _ _)).trans (Kp.alloc noB _ _)).trans (Kp.alloc noB _ _)).trans (Kp.alloc noB _ _)
 have hb:BxLoad X (.pointer pm) (.pointer pc) k off z W0:=by
  rw [hW0,← hX]
  refine ⟨?_,?_,?_,?_,?_⟩<;>simp [go_sem]
 have rF:RowT W0 (X+5) ⟨0,0,0⟩:=by
  have:=(MapKept.heap_alloc (((((w.alloc (.cells #[.pointer pm] 51)).alloc (.cells #[.pointer pc] 170)).alloc (.cells #[.int .i64 k] 3)).alloc (.cells #[.int .u32 off] 22)).alloc (.cells #[.int .i64 z] 3)) (.cells #[.int .i64 0,.int .i64 0,.int .u32 0] 44)).1
  rw [show ((((((w.alloc (.cells #[.pointer pm] 51)).alloc (.cells #[.pointer pc] 170)).alloc (.cells #[.int .i64 k] 3)).alloc (.cells #[.int .u32 off] 22)).alloc (.cells #[.int .i64 z] 3))).heap.size=X+5 by simp [hX]] at this
  rw [hW0]
  exact RowT.kp (f:=⟨0,0,0⟩) this (Kp.alloc noB _ _) (fun f=>f)
 have rY:RowV W0 (X+6) 0:=by
  have:=(MapKept.heap_alloc ((((((w.alloc (.cells #[.pointer pm] 51)).alloc (.cells #[.pointer pc] 170)).alloc (.cells #[.int .i64 k] 3)).alloc (.cells #[.int .u32 off] 22)).alloc (.cells #[.int .i64 z] 3)).alloc (.cells #[.int .i64 0,.int .i64 0,.int .u32 0] 44)) (.cells #[.int .u32 0] 22)).1
  rw [show ((((((w.alloc (.cells #[.pointer pm] 51)).alloc (.cells #[.pointer pc] 170)).alloc (.cells #[.int .i64 k] 3)).alloc (.cells #[.int .u32 off] 22)).alloc (.cells #[.int .i64 z] 3)).alloc (.cells #[.int .i64 0,.int .i64 0,.int .u32 0] 44)).heap.size=X+6 by simp [hX]] at this
  rw [hW0]
  exact this
 have hSn:∀ j,X≤j→¬ S j:=fun j hj f=>by have:=hS j f;omega
 have HC:Hid _:=faultOf_no W0 201 #[.pointer (some ⟨X,0,none⟩),.pointer (some ⟨X+1,0,none⟩),.pointer (some ⟨X+2,0,none⟩),.pointer (some ⟨X+3,0,none⟩),.pointer (some ⟨X+4,0,none⟩),.pointer (some ⟨X+6,0,none⟩)] f S (fun w'=>P w'∧RowT w' (X+5) ⟨0,0,0⟩∧RowV w' (X+6) 0) (fun j hj=>by have:=hS j hj;omega) (fun W W' ⟨p,a,b⟩ k=>⟨hP W W' p (k.mono (fun j _ hj=>by omega)),a.kp k (by omega),b.kp k (by omega)⟩) (fun W=>rfl)
  (fun W kq=>(load1_no W X (X+6) (.pointer pm) (.pointer pc) k off z f S P (BxLoad.kp hb kq (fun j f=>f.elim)) (fun W' kr=>H.out W' ((k0.trans kq).trans kr))).mono (fun e w' ⟨h1,h2,h3⟩=>⟨h1,h2,h3,(rF.kp kq (fun f=>f)).kp h2 (hSn _ (by omega)),(rY.kp kq (fun f=>f)).kp h2 (hSn _ (by omega))⟩))
 rw [Ft.val_is] at HC
 go_enter Tryz.func153,Tryz.ntmps153
 go_wp2_with fail
 rw [← hW0]
 refine Calls.mono HC.out ?_
 rintro e w2 ⟨rfl,k2,p2,r2,y2⟩
 have kA:=Kp.alloc noB w2 (.cells #[.int .i64 f.vec,.int .i64 f.code,.int .u32 f.cr2] 44)
 have rA:RowT (w2.alloc (.cells #[.int .i64 f.vec,.int .i64 f.code,.int .u32 f.cr2] 44)) w2.heap.size f:=(MapKept.heap_alloc w2 _).1
 have hl2:=y2.lt
 replace r2:=r2.kp kA (fun f=>f)
 replace y2:=y2.kp kA (fun f=>f)
 replace p2:=hP _ _ p2 (kA.mono (fun _ _ f=>f.elim))
 obtain ⟨W3,hW3⟩:∃ W,W=w2.alloc (.cells #[.int .i64 f.vec,.int .i64 f.code,.int .u32 f.cr2] 44):=⟨_,rfl⟩
 obtain ⟨T,hT⟩:∃ T,T=w2.heap.size:=⟨_,rfl⟩
 have hTX:X+6 < T:=by rw [hT];exact hl2
 rw [← hW3] at kA rA r2 y2 p2
 rw [← hT] at rA
 have kS:=k2.trans (kA.mono (fun _ _ f=>f.elim))
 clear HC k2 kA hl2 hb rF rY
 go_wp2_with fail
 rw [← hW3,← hT]
 clear hW3 hT hW0 hX
 have yc:=y2.c
 have a0:=rA.c0;have a1:=rA.c1;have a2:=rA.c2
 have c0:=r2.c0;have c1:=r2.c1;have c2:=r2.c2
 have f0:=r2.fz 0;have f1:=r2.fz 1;have f2:=r2.fz 2
 go_region
 have rE:=r2.set f
 have kE:=kp_setFt W3 (X+5) f
 unfold setFt at rE kE
 have d0:=rE.c0;have d1:=rE.c1;have d2:=rE.c2
 go_wp2
 have pE:=hP _ _ p2 (kE.mono (fun j _ e=>by have:=HX.out;omega))
 have kW:Kp S w _:=((k0.mono (fun _ _ f=>f.elim)).trans kS).over kE (fun j hj e=>absurd hj (by have:=HX.out;omega))
 have pD:=hP _ _ pE (Kp.refl (fun j=>w.heap.size≤j) _).drew
 refine bodyPost_ret (v:=.tuple #[.int .u32 0,.agg #[.int .i64 f.vec,.int .i64 f.code,.int .u32 f.cr2]]) ?_ rfl ⟨rfl,?_⟩
 ·simp [results,Tryz.results153,go_sem,d0,d1,d2]
 ·exact ⟨kW.drew,pD⟩
theorem load_ok (w:World) (V K B pl tn:Nat) (pc:Option Addr) (k off z:Int) (q:Qy) (hq:q.s.Ok) (hm:∀ j,modVm K B q.m.n j→j < w.heap.size) (hV:V < w.heap.size)
  (H:Hid (∀ W,Kp noB w W→Calls Tryz.prog 203 #[.pointer (some ⟨V,0,none⟩),.pointer pc,.int .i64 k,.int .u32 off,.int .i64 z,.bool false] W fun e w'=>e=.returned q.s.val∧VmP W V K B pl tn q.m 2 w')):
  Calls Tryz.prog 153 #[.pointer (some ⟨V,0,none⟩),.pointer pc,.int .i64 k,.int .u32 off,.int .i64 z] w fun e w'=>e=.returned (.tuple #[.int .u32 (q.m.rdS q.s),noFt.val])∧VmP w V K B pl tn q.m 2 w':=by
 have hmf:=hmf
 obtain ⟨X,hX⟩:∃ X,w.heap.size=X:=⟨_,rfl⟩
 obtain ⟨W0,hW0⟩:∃ W,W=(((((((w.alloc (.cells #[.pointer (some ⟨V,0,none⟩)] 51)).alloc (.cells #[.pointer pc] 170)).alloc (.cells #[.int .i64 k] 3)).alloc (.cells #[.int .u32 off] 22)).alloc (.cells #[.int .i64 z] 3)).alloc (.cells #[.int .i64 0,.int .i64 0,.int .u32 0] 44)).alloc (.cells #[.int .u32 0] 22)):=⟨_,rfl⟩
 have HX:Hid (w.heap.size=X):=hX
 have hs0:W0.heap.size=X+7:=by rw [hW0];simp [hX]
 have k0:Kp noB w W0:=by
  rw [hW0]
  exact ((((((Kp.alloc noB w _).trans (Kp.alloc noB _ _)).trans (Kp.alloc noB _ _)).trans (Kp.alloc noB _ _)).trans (Kp.alloc noB _ _)).trans (Kp.alloc noB _ _)).trans (Kp.alloc noB _ _)
 have hb:BxLoad X (.pointer (some ⟨V,0,none⟩)) (.pointer pc) k off z W0:=by
  rw [hW0,← hX]
  refine ⟨?_,?_,?_,?_,?_⟩<;>simp [go_sem]
 have rF:RowT W0 (X+5) ⟨0,0,0⟩:=by
  have:=(MapKept.heap_alloc (((((w.alloc (.cells #[.pointer (some ⟨V,0,none⟩)] 51)).alloc (.cells #[.pointer pc] 170)).alloc (.cells #[.int .i64 k] 3)).alloc (.cells #[.int .u32 off] 22)).alloc (.cells #[.int .i64 z] 3)) (.cells #[.int .i64 0,.int .i64 0,.int .u32 0] 44)).1
  rw [show ((((((w.alloc (.cells #[.pointer (some ⟨V,0,none⟩)] 51)).alloc (.cells #[.pointer pc] 170)).alloc (.cells #[.int .i64 k] 3)).alloc (.cells #[.int .u32 off] 22)).alloc (.cells #[.int .i64 z] 3))).heap.size=X+5 by simp [hX]] at this
  rw [hW0]
  exact RowT.kp (f:=⟨0,0,0⟩) this (Kp.alloc noB _ _) (fun f=>f)
 have rY:RowV W0 (X+6) 0:=by
  have:=(MapKept.heap_alloc ((((((w.alloc (.cells #[.pointer (some ⟨V,0,none⟩)] 51)).alloc (.cells #[.pointer pc] 170)).alloc (.cells #[.int .i64 k] 3)).alloc (.cells #[.int .u32 off] 22)).alloc (.cells #[.int .i64 z] 3)).alloc (.cells #[.int .i64 0,.int .i64 0,.int .u32 0] 44)) (.cells #[.int .u32 0] 22)).1
  rw [show ((((((w.alloc (.cells #[.pointer (some ⟨V,0,none⟩)] 51)).alloc (.cells #[.pointer pc] 170)).alloc (.cells #[.int .i64 k] 3)).alloc (.cells #[.int .u32 off] 22)).alloc (.cells #[.int .i64 z] 3)).alloc (.cells #[.int .i64 0,.int .i64 0,.int .u32 0] 44)).heap.size=X+6 by simp [hX]] at this
  rw [hW0]
  exact this
 have HC:Hid _:=faultOf_ok W0 201 #[.pointer (some ⟨X,0,none⟩),.pointer (some ⟨X+1,0,none⟩),.pointer (some ⟨X+2,0,none⟩),.pointer (some ⟨X+3,0,none⟩),.pointer (some ⟨X+4,0,none⟩),.pointer (some ⟨X+6,0,none⟩)] (fun j=>modVm K B q.m.n j∨j=X+6) (fun w'=>(∃ tn',tn'≤tn+2∧VmAt w' V K B pl tn' q.m)∧RowV w' (X+6) (q.m.rdS q.s)) (fun j hj=>by
   rcases hj with f | f
   ·have:=hm j f;omega
   ·omega) (fun W W' ⟨⟨tn',a,b⟩,c⟩ k=>⟨⟨tn',a,b.kp k (fun j hj=>by
   rcases hj with f | f
   ·have:=HX.out;omega
   ·have:=hm j f;have:=HX.out;omega)⟩,c.kp k (by omega)⟩) (fun W=>rfl)
  (fun W kq=>(load1_ok W X (X+6) V K B pl tn (.pointer pc) k off z 0 (rY.kp kq (fun f=>f)) (by omega) q hq (BxLoad.kp hb kq (fun j f=>f.elim)) (fun j hj=>by have:=hm j hj;omega) (by omega) (fun W' kr=>H.out W' ((k0.trans kq).trans kr))).mono (fun e w' ⟨h1,h2,h3,h4⟩=>⟨h1,h2,h3,h4⟩))
 have e0:noFt.val=.agg #[.int .i64 (-1),.int .i64 (-1),.int .u32 0]:=rfl
 rw [e0] at HC
 go_enter Tryz.func153,Tryz.ntmps153
 go_wp2_with fail
 rw [← hW0]
 refine Calls.mono HC.out ?_
 rintro e w2 ⟨rfl,k2,p2,y2⟩
 have r2:RowT w2 (X+5) ⟨0,0,0⟩:=(rF.kp k2 (fun f=>by
   rcases f with f | f
   ·have:=hm _ f;omega
   ·omega))
 have kA:=Kp.alloc noB w2 (.cells #[.int .i64 (-1),.int .i64 (-1),.int .u32 0] 44)
 have rA:RowT (w2.alloc (.cells #[.int .i64 (-1),.int .i64 (-1),.int .u32 0] 44)) w2.heap.size (⟨-1,-1,0⟩:Ft):=(MapKept.heap_alloc w2 _).1
 have hl2:=y2.lt
 replace r2:=r2.kp kA (fun f=>f)
 replace y2:=y2.kp kA (fun f=>f)
 obtain ⟨tn2,ht2,v2⟩:=p2
 replace v2:=v2.kp0 kA
 obtain ⟨W3,hW3⟩:∃ W,W=w2.alloc (.cells #[.int .i64 (-1),.int .i64 (-1),.int .u32 0] 44):=⟨_,rfl⟩
 obtain ⟨T,hT⟩:∃ T,T=w2.heap.size:=⟨_,rfl⟩
 have hTX:X+6 < T:=by rw [hT];exact hl2
 rw [← hW3] at kA rA r2 y2 v2
 rw [← hT] at rA
 have kS:=k2.trans (kA.mono (fun _ _ f=>f.elim))
 clear HC k2 kA hl2 hb rF rY
 go_wp2_with fail
 rw [← hW3,← hT]
 clear hW3 hT hW0 hX
 have yc:=y2.c
 have a0:=rA.c0;have a1:=rA.c1;have a2:=rA.c2
 have c0:=r2.c0;have c1:=r2.c1;have c2:=r2.c2
 have f0:=r2.fz 0;have f1:=r2.fz 1;have f2:=r2.fz 2
 go_region
 have rE:=r2.set (⟨-1,-1,0⟩:Ft)
 have kE:=kp_setFt W3 (X+5) (⟨-1,-1,0⟩:Ft)
 unfold setFt at rE kE
 have d0:=rE.c0;have d1:=rE.c1;have d2:=rE.c2
 simp only at d0 d1 d2
 go_wp2
 have vE:=v2.kp kE (fun j hj e=>by
   rcases hj with f | f
   ·have:=HX.out;omega
   ·have:=hm j f;have:=HX.out;omega)
 have kW:Kp (modVm K B q.m.n) w _:=((k0.mono (fun _ _ f=>f.elim)).over kS (fun j hj f=>by
   rcases f with f | f
   ·exact f
   ·have:=HX.out;omega)).over kE (fun j hj e=>absurd hj (by have:=HX.out;omega))
 refine bodyPost_ret (v:=.tuple #[.int .u32 (q.m.rdS q.s),.agg #[.int .i64 (-1),.int .i64 (-1),.int .u32 0]]) ?_ rfl ⟨rfl,?_⟩
 ·simp [results,Tryz.results153,go_sem,d0,d1,d2]
 ·exact ⟨⟨tn2,ht2,vE.kp0 (Kp.refl noB _).drew⟩,kW.drew⟩
theorem store_no (w:World) (pm pc:Option Addr) (k off z v:Int) (f:Ft) (S:Nat→Prop) (P:World→Prop) (hS:∀ j,S j→j < w.heap.size) (hP:∀ W W',P W→Kp (fun j=>w.heap.size≤j) W W'→P W')
  (H:Hid (∀ W,Kp noB w W→Calls Tryz.prog 203 #[.pointer pm,.pointer pc,.int .i64 k,.int .u32 off,.int .i64 z,.bool true] W fun e w'=>e=.panicked (pan f)∧Kp S W w'∧P w')):
  Calls Tryz.prog 197 #[.pointer pm,.pointer pc,.int .i64 k,.int .u32 off,.int .i64 z,.int .u32 v] w fun e w'=>e=.returned f.val∧Kp S w w'∧P w':=by
 have hmf:=hmf
 obtain ⟨X,hX⟩:∃ X,w.heap.size=X:=⟨_,rfl⟩
 obtain ⟨W0,hW0⟩:∃ W,W=(((((((w.alloc (.cells #[.pointer pm] 51)).alloc (.cells #[.pointer pc] 170)).alloc (.cells #[.int .i64 k] 3)).alloc (.cells #[.int .u32 off] 22)).alloc (.cells #[.int .i64 z] 3)).alloc (.cells #[.int .u32 v] 22)).alloc (.cells #[.int .i64 0,.int .i64 0,.int .u32 0] 44)):=⟨_,rfl⟩
 have HX:Hid (w.heap.size=X):=hX
 have hs0:W0.heap.size=X+7:=by rw [hW0];simp [hX]
 have k0:Kp noB w W0:=by
  rw [hW0]
  exact ((((((Kp.alloc noB w _).trans (Kp.alloc noB _ _)).trans (Kp.alloc noB _ _)).trans (Kp.alloc noB _ _)).trans (Kp.alloc noB _ _)).trans (Kp.alloc noB _ _)).trans (Kp.alloc noB _ _)
 have hb:BxStore X (.pointer pm) (.pointer pc) k off z v W0:=by
  rw [hW0,← hX]
  refine ⟨?_,?_,?_,?_,?_,?_⟩<;>simp [go_sem]
 have rF:RowT W0 (X+6) ⟨0,0,0⟩:=by
  have:=(MapKept.heap_alloc ((((((w.alloc (.cells #[.pointer pm] 51)).alloc (.cells #[.pointer pc] 170)).alloc (.cells #[.int .i64 k] 3)).alloc (.cells #[.int .u32 off] 22)).alloc (.cells #[.int .i64 z] 3)).alloc (.cells #[.int .u32 v] 22)) (.cells #[.int .i64 0,.int .i64 0,.int .u32 0] 44)).1
  rw [show (((((((w.alloc (.cells #[.pointer pm] 51)).alloc (.cells #[.pointer pc] 170)).alloc (.cells #[.int .i64 k] 3)).alloc (.cells #[.int .u32 off] 22)).alloc (.cells #[.int .i64 z] 3)).alloc (.cells #[.int .u32 v] 22))).heap.size=X+6 by simp [hX]] at this
  rw [hW0]
  exact this
 have hSn:∀ j,X≤j→¬ S j:=fun j hj f=>by have:=hS j f;omega
 have HC:Hid _:=faultOf_no W0 238 #[.pointer (some ⟨X,0,none⟩),.pointer (some ⟨X+1,0,none⟩),.pointer (some ⟨X+2,0,none⟩),.pointer (some ⟨X+3,0,none⟩),.pointer (some ⟨X+4,0,none⟩),.pointer (some ⟨X+5,0,none⟩)] f S (fun w'=>P w'∧RowT w' (X+6) ⟨0,0,0⟩) (fun j hj=>by have:=hS j hj;omega) (fun W W' ⟨p,a⟩ k=>⟨hP W W' p (k.mono (fun j _ hj=>by omega)),a.kp k (by omega)⟩) (fun W=>rfl)
  (fun W kq=>(store1_no W X (.pointer pm) (.pointer pc) k off z v f S P (BxStore.kp hb kq (fun j f=>f.elim)) (fun W' kr=>H.out W' ((k0.trans kq).trans kr))).mono (fun e w' ⟨h1,h2,h3⟩=>⟨h1,h2,h3,(rF.kp kq (fun f=>f)).kp h2 (hSn _ (by omega))⟩))
 rw [Ft.val_is] at HC
 go_enter Tryz.func197,Tryz.ntmps197
 go_wp2_with fail
 rw [← hW0]
 refine Calls.mono HC.out ?_
 rintro e w2 ⟨rfl,k2,p2,r2⟩
 have c0:=r2.c0;have c1:=r2.c1;have c2:=r2.c2
 have f0:=r2.fz 0;have f1:=r2.fz 1;have f2:=r2.fz 2
 have rE:=r2.set f
 have kE:=kp_setFt w2 (X+6) f
 unfold setFt at rE kE
 have d0:=rE.c0;have d1:=rE.c1;have d2:=rE.c2
 clear HC hb rF hW0
 go_wp2
 have pE:=hP _ _ p2 (kE.mono (fun j _ e=>by have:=HX.out;omega))
 have kW:Kp S w _:=((k0.mono (fun _ _ f=>f.elim)).trans k2).over kE (fun j hj e=>absurd hj (by have:=HX.out;omega))
 refine bodyPost_ret (v:=.agg #[.int .i64 f.vec,.int .i64 f.code,.int .u32 f.cr2]) ?_ rfl ⟨rfl,?_⟩
 ·simp [results,Tryz.results197,go_sem,d0,d1,d2]
 ·exact ⟨kW,pE⟩
theorem store_ok (w:World) (V K B pl tn:Nat) (pc:Option Addr) (k off z v:Int) (v0:0≤v) (v1:v < 4294967296) (q:Qy) (hq:q.s.Ok) (hm:∀ j,modVm K B q.m.n j→j < w.heap.size) (hV:V < w.heap.size)
  (H:Hid (∀ W,Kp noB w W→Calls Tryz.prog 203 #[.pointer (some ⟨V,0,none⟩),.pointer pc,.int .i64 k,.int .u32 off,.int .i64 z,.bool true] W fun e w'=>e=.returned q.s.val∧VmP W V K B pl tn q.m 2 w')):
  Calls Tryz.prog 197 #[.pointer (some ⟨V,0,none⟩),.pointer pc,.int .i64 k,.int .u32 off,.int .i64 z,.int .u32 v] w fun e w'=>e=.returned noFt.val∧VmP w V K B pl tn (q.m.wrS q.s v) 2 w':=by
 have hmf:=hmf
 obtain ⟨X,hX⟩:∃ X,w.heap.size=X:=⟨_,rfl⟩
 obtain ⟨W0,hW0⟩:∃ W,W=(((((((w.alloc (.cells #[.pointer (some ⟨V,0,none⟩)] 51)).alloc (.cells #[.pointer pc] 170)).alloc (.cells #[.int .i64 k] 3)).alloc (.cells #[.int .u32 off] 22)).alloc (.cells #[.int .i64 z] 3)).alloc (.cells #[.int .u32 v] 22)).alloc (.cells #[.int .i64 0,.int .i64 0,.int .u32 0] 44)):=⟨_,rfl⟩
 have HX:Hid (w.heap.size=X):=hX
 have hs0:W0.heap.size=X+7:=by rw [hW0];simp [hX]
 have k0:Kp noB w W0:=by
  rw [hW0]
  exact ((((((Kp.alloc noB w _).trans (Kp.alloc noB _ _)).trans (Kp.alloc noB _ _)).trans (Kp.alloc noB _ _)).trans (Kp.alloc noB _ _)).trans (Kp.alloc noB _ _)).trans (Kp.alloc noB _ _)
 have hb:BxStore X (.pointer (some ⟨V,0,none⟩)) (.pointer pc) k off z v W0:=by
  rw [hW0,← hX]
  refine ⟨?_,?_,?_,?_,?_,?_⟩<;>simp [go_sem]
 have rF:RowT W0 (X+6) ⟨0,0,0⟩:=by
  have:=(MapKept.heap_alloc ((((((w.alloc (.cells #[.pointer (some ⟨V,0,none⟩)] 51)).alloc (.cells #[.pointer pc] 170)).alloc (.cells #[.int .i64 k] 3)).alloc (.cells #[.int .u32 off] 22)).alloc (.cells #[.int .i64 z] 3)).alloc (.cells #[.int .u32 v] 22)) (.cells #[.int .i64 0,.int .i64 0,.int .u32 0] 44)).1
  rw [show (((((((w.alloc (.cells #[.pointer (some ⟨V,0,none⟩)] 51)).alloc (.cells #[.pointer pc] 170)).alloc (.cells #[.int .i64 k] 3)).alloc (.cells #[.int .u32 off] 22)).alloc (.cells #[.int .i64 z] 3)).alloc (.cells #[.int .u32 v] 22))).heap.size=X+6 by simp [hX]] at this
  rw [hW0]
  exact this
 have hn2:(q.m.wrS q.s v).n=q.m.n:=(wrK_same q.m q.s v q.s.n).1
 have HC:Hid _:=faultOf_ok W0 238 #[.pointer (some ⟨X,0,none⟩),.pointer (some ⟨X+1,0,none⟩),.pointer (some ⟨X+2,0,none⟩),.pointer (some ⟨X+3,0,none⟩),.pointer (some ⟨X+4,0,none⟩),.pointer (some ⟨X+5,0,none⟩)] (modVm K B q.m.n) (fun w'=>∃ tn',tn'≤tn+2∧VmAt w' V K B pl tn' (q.m.wrS q.s v)) (fun j hj=>by have:=hm j hj;omega) (fun W W' ⟨tn',a,b⟩ k=>⟨tn',a,b.kp k (fun j hj=>by
   rcases hj with f | f
   ·have:=HX.out;omega
   ·rw [hn2] at f;have:=hm j f;have:=HX.out;omega)⟩) (fun W=>rfl)
  (fun W kq=>(store1_ok W X V K B pl tn (.pointer pc) k off z v v0 v1 q hq (BxStore.kp hb kq (fun j f=>f.elim)) (fun j hj=>by have:=hm j hj;omega) (by omega) (fun W' kr=>H.out W' ((k0.trans kq).trans kr))).mono (fun e w' ⟨h1,h2,h3⟩=>⟨h1,by rw [hn2] at h3;exact h3,h2⟩))
 have e0:noFt.val=.agg #[.int .i64 (-1),.int .i64 (-1),.int .u32 0]:=rfl
 rw [e0] at HC
 go_enter Tryz.func197,Tryz.ntmps197
 go_wp2_with fail
 rw [← hW0]
 refine Calls.mono HC.out ?_
 rintro e w2 ⟨rfl,k2,p2⟩
 have r2:RowT w2 (X+6) ⟨0,0,0⟩:=(rF.kp k2 (fun f=>by have:=hm _ f;omega))
 have c0:=r2.c0;have c1:=r2.c1;have c2:=r2.c2
 have f0:=r2.fz 0;have f1:=r2.fz 1;have f2:=r2.fz 2
 have rE:=r2.set (⟨-1,-1,0⟩:Ft)
 have kE:=kp_setFt w2 (X+6) (⟨-1,-1,0⟩:Ft)
 unfold setFt at rE kE
 have d0:=rE.c0;have d1:=rE.c1;have d2:=rE.c2
 simp only at d0 d1 d2
 clear HC hb rF hW0
 go_wp2
 obtain ⟨tn2,ht2,v2⟩:=p2
 have vE:=v2.kp kE (fun j hj e=>by
   rcases hj with f | f
   ·have:=HX.out;omega
   ·rw [hn2] at f;have:=hm j f;have:=HX.out;omega)
 have kW:Kp (modVm K B q.m.n) w _:=((k0.mono (fun _ _ f=>f.elim)).trans k2).over kE (fun j hj e=>absurd hj (by have:=HX.out;omega))
 refine bodyPost_ret (v:=.agg #[.int .i64 (-1),.int .i64 (-1),.int .u32 0]) ?_ rfl ⟨rfl,?_⟩
 ·simp [results,Tryz.results197,go_sem,d0,d1,d2]
 ·exact ⟨⟨tn2,ht2,vE⟩,by rw [hn2];exact kW⟩
theorem sys_no (w:World) (pm pc:Option Addr) (off z:Int) (f:Ft) (S:Nat→Prop) (P:World→Prop) (hS:∀ j,S j→j < w.heap.size) (hP:∀ W W',P W→Kp (fun j=>w.heap.size≤j) W W'→P W')
  (H:Hid (∀ W,Kp noB w W→Calls Tryz.prog 230 #[.pointer pm,.pointer pc,.int .u32 off,.int .i64 z,.bool false] W fun e w'=>e=.panicked (pan f)∧Kp S W w'∧P w')):
  Calls Tryz.prog 189 #[.pointer pm,.pointer pc,.int .u32 off,.int .i64 z] w fun e w'=>e=.returned (.tuple #[.int .u32 0,f.val])∧Kp S w w'∧P w':=by
 have hmf:=hmf
 obtain ⟨X,hX⟩:∃ X,w.heap.size=X:=⟨_,rfl⟩
 obtain ⟨W0,hW0⟩:∃ W,W=((((((w.alloc (.cells #[.pointer pm] 51)).alloc (.cells #[.pointer pc] 170)).alloc (.cells #[.int .u32 off] 22)).alloc (.cells #[.int .i64 z] 3)).alloc (.cells #[.int .i64 0,.int .i64 0,.int .u32 0] 44)).alloc (.cells #[.int .u32 0] 22)):=⟨_,rfl⟩
 have HX:Hid (w.heap.size=X):=hX
 have hs0:W0.heap.size=X+6:=by rw [hW0];simp [hX]
 have k0:Kp noB w W0:=by
  rw [hW0]
  exact (((((Kp.alloc noB w _).trans (Kp.alloc noB _ _)).trans (Kp.alloc noB _ _)).trans (Kp.alloc noB _ _)).trans (Kp.alloc noB _ _)).trans (Kp.alloc noB _ _)
 have hb:BxSys X (.pointer pm) (.pointer pc) off z W0:=by
  rw [hW0,← hX]
  refine ⟨?_,?_,?_,?_⟩<;>simp [go_sem]
 have rF:RowT W0 (X+4) ⟨0,0,0⟩:=by
  have:=(MapKept.heap_alloc ((((w.alloc (.cells #[.pointer pm] 51)).alloc (.cells #[.pointer pc] 170)).alloc (.cells #[.int .u32 off] 22)).alloc (.cells #[.int .i64 z] 3)) (.cells #[.int .i64 0,.int .i64 0,.int .u32 0] 44)).1
  rw [show (((((w.alloc (.cells #[.pointer pm] 51)).alloc (.cells #[.pointer pc] 170)).alloc (.cells #[.int .u32 off] 22)).alloc (.cells #[.int .i64 z] 3))).heap.size=X+4 by simp [hX]] at this
  rw [hW0]
  exact RowT.kp (f:=⟨0,0,0⟩) this (Kp.alloc noB _ _) (fun f=>f)
 have rY:RowV W0 (X+5) 0:=by
  have:=(MapKept.heap_alloc (((((w.alloc (.cells #[.pointer pm] 51)).alloc (.cells #[.pointer pc] 170)).alloc (.cells #[.int .u32 off] 22)).alloc (.cells #[.int .i64 z] 3)).alloc (.cells #[.int .i64 0,.int .i64 0,.int .u32 0] 44)) (.cells #[.int .u32 0] 22)).1
  rw [show (((((w.alloc (.cells #[.pointer pm] 51)).alloc (.cells #[.pointer pc] 170)).alloc (.cells #[.int .u32 off] 22)).alloc (.cells #[.int .i64 z] 3)).alloc (.cells #[.int .i64 0,.int .i64 0,.int .u32 0] 44)).heap.size=X+5 by simp [hX]] at this
  rw [hW0]
  exact this
 have hSn:∀ j,X≤j→¬ S j:=fun j hj f=>by have:=hS j f;omega
 have HC:Hid _:=faultOf_no W0 229 #[.pointer (some ⟨X,0,none⟩),.pointer (some ⟨X+1,0,none⟩),.pointer (some ⟨X+2,0,none⟩),.pointer (some ⟨X+3,0,none⟩),.pointer (some ⟨X+5,0,none⟩)] f S (fun w'=>P w'∧RowT w' (X+4) ⟨0,0,0⟩∧RowV w' (X+5) 0) (fun j hj=>by have:=hS j hj;omega) (fun W W' ⟨p,a,b⟩ k=>⟨hP W W' p (k.mono (fun j _ hj=>by omega)),a.kp k (by omega),b.kp k (by omega)⟩) (fun W=>rfl)
  (fun W kq=>(sys1_no W X (X+5) (.pointer pm) (.pointer pc) off z f S P (BxSys.kp hb kq (fun j f=>f.elim)) (fun W' kr=>H.out W' ((k0.trans kq).trans kr))).mono (fun e w' ⟨h1,h2,h3⟩=>⟨h1,h2,h3,(rF.kp kq (fun f=>f)).kp h2 (hSn _ (by omega)),(rY.kp kq (fun f=>f)).kp h2 (hSn _ (by omega))⟩))
 rw [Ft.val_is] at HC
 go_enter Tryz.func189,Tryz.ntmps189
 go_wp2_with fail
 rw [← hW0]
 refine Calls.mono HC.out ?_
 rintro e w2 ⟨rfl,k2,p2,r2,y2⟩
 have kA:=Kp.alloc noB w2 (.cells #[.int .i64 f.vec,.int .i64 f.code,.int .u32 f.cr2] 44)
 have rA:RowT (w2.alloc (.cells #[.int .i64 f.vec,.int .i64 f.code,.int .u32 f.cr2] 44)) w2.heap.size f:=(MapKept.heap_alloc w2 _).1
 have hl2:=y2.lt
 replace r2:=r2.kp kA (fun f=>f)
 replace y2:=y2.kp kA (fun f=>f)
 replace p2:=hP _ _ p2 (kA.mono (fun _ _ f=>f.elim))
 obtain ⟨W3,hW3⟩:∃ W,W=w2.alloc (.cells #[.int .i64 f.vec,.int .i64 f.code,.int .u32 f.cr2] 44):=⟨_,rfl⟩
 obtain ⟨T,hT⟩:∃ T,T=w2.heap.size:=⟨_,rfl⟩
 have hTX:X+5 < T:=by rw [hT];exact hl2
 rw [← hW3] at kA rA r2 y2 p2
 rw [← hT] at rA
 have kS:=k2.trans (kA.mono (fun _ _ f=>f.elim))
 clear HC k2 kA hl2 hb rF rY
 go_wp2_with fail
 rw [← hW3,← hT]
 clear hW3 hT hW0 hX
 have yc:=y2.c
 have a0:=rA.c0;have a1:=rA.c1;have a2:=rA.c2
 have c0:=r2.c0;have c1:=r2.c1;have c2:=r2.c2
 have f0:=r2.fz 0;have f1:=r2.fz 1;have f2:=r2.fz 2
 go_region
 have rE:=r2.set f
 have kE:=kp_setFt W3 (X+4) f
 unfold setFt at rE kE
 have d0:=rE.c0;have d1:=rE.c1;have d2:=rE.c2
 go_wp2
 have pE:=hP _ _ p2 (kE.mono (fun j _ e=>by have:=HX.out;omega))
 have kW:Kp S w _:=((k0.mono (fun _ _ f=>f.elim)).trans kS).over kE (fun j hj e=>absurd hj (by have:=HX.out;omega))
 have pD:=hP _ _ pE (Kp.refl (fun j=>w.heap.size≤j) _).drew
 refine bodyPost_ret (v:=.tuple #[.int .u32 0,.agg #[.int .i64 f.vec,.int .i64 f.code,.int .u32 f.cr2]]) ?_ rfl ⟨rfl,?_⟩
 ·simp [results,Tryz.results189,go_sem,d0,d1,d2]
 ·exact ⟨kW.drew,pD⟩
theorem sys_ok (w:World) (V K B pl tn:Nat) (pc:Option Addr) (off z:Int) (q:Qy) (hq:q.s.Ok) (hm:∀ j,modVm K B q.m.n j→j < w.heap.size) (hV:V < w.heap.size)
  (H:Hid (∀ W,Kp noB w W→Calls Tryz.prog 230 #[.pointer (some ⟨V,0,none⟩),.pointer pc,.int .u32 off,.int .i64 z,.bool false] W fun e w'=>e=.returned q.s.val∧VmP W V K B pl tn q.m 2 w')):
  Calls Tryz.prog 189 #[.pointer (some ⟨V,0,none⟩),.pointer pc,.int .u32 off,.int .i64 z] w fun e w'=>e=.returned (.tuple #[.int .u32 (q.m.rdS q.s),noFt.val])∧VmP w V K B pl tn q.m 2 w':=by
 have hmf:=hmf
 obtain ⟨X,hX⟩:∃ X,w.heap.size=X:=⟨_,rfl⟩
 obtain ⟨W0,hW0⟩:∃ W,W=((((((w.alloc (.cells #[.pointer (some ⟨V,0,none⟩)] 51)).alloc (.cells #[.pointer pc] 170)).alloc (.cells #[.int .u32 off] 22)).alloc (.cells #[.int .i64 z] 3)).alloc (.cells #[.int .i64 0,.int .i64 0,.int .u32 0] 44)).alloc (.cells #[.int .u32 0] 22)):=⟨_,rfl⟩
 have HX:Hid (w.heap.size=X):=hX
 have hs0:W0.heap.size=X+6:=by rw [hW0];simp [hX]
 have k0:Kp noB w W0:=by
  rw [hW0]
  exact (((((Kp.alloc noB w _).trans (Kp.alloc noB _ _)).trans (Kp.alloc noB _ _)).trans (Kp.alloc noB _ _)).trans (Kp.alloc noB _ _)).trans (Kp.alloc noB _ _)
 have hb:BxSys X (.pointer (some ⟨V,0,none⟩)) (.pointer pc) off z W0:=by
  rw [hW0,← hX]
  refine ⟨?_,?_,?_,?_⟩<;>simp [go_sem]
 have rF:RowT W0 (X+4) ⟨0,0,0⟩:=by
  have:=(MapKept.heap_alloc ((((w.alloc (.cells #[.pointer (some ⟨V,0,none⟩)] 51)).alloc (.cells #[.pointer pc] 170)).alloc (.cells #[.int .u32 off] 22)).alloc (.cells #[.int .i64 z] 3)) (.cells #[.int .i64 0,.int .i64 0,.int .u32 0] 44)).1
  rw [show (((((w.alloc (.cells #[.pointer (some ⟨V,0,none⟩)] 51)).alloc (.cells #[.pointer pc] 170)).alloc (.cells #[.int .u32 off] 22)).alloc (.cells #[.int .i64 z] 3))).heap.size=X+4 by simp [hX]] at this
  rw [hW0]
  exact RowT.kp (f:=⟨0,0,0⟩) this (Kp.alloc noB _ _) (fun f=>f)
 have rY:RowV W0 (X+5) 0:=by
  have:=(MapKept.heap_alloc (((((w.alloc (.cells #[.pointer (some ⟨V,0,none⟩)] 51)).alloc (.cells #[.pointer pc] 170)).alloc (.cells #[.int .u32 off] 22)).alloc (.cells #[.int .i64 z] 3)).alloc (.cells #[.int .i64 0,.int .i64 0,.int .u32 0] 44)) (.cells #[.int .u32 0] 22)).1
  rw [show (((((w.alloc (.cells #[.pointer (some ⟨V,0,none⟩)] 51)).alloc (.cells #[.pointer pc] 170)).alloc (.cells #[.int .u32 off] 22)).alloc (.cells #[.int .i64 z] 3)).alloc (.cells #[.int .i64 0,.int .i64 0,.int .u32 0] 44)).heap.size=X+5 by simp [hX]] at this
  rw [hW0]
  exact this
 have HC:Hid _:=faultOf_ok W0 229 #[.pointer (some ⟨X,0,none⟩),.pointer (some ⟨X+1,0,none⟩),.pointer (some ⟨X+2,0,none⟩),.pointer (some ⟨X+3,0,none⟩),.pointer (some ⟨X+5,0,none⟩)] (fun j=>modVm K B q.m.n j∨j=X+5) (fun w'=>(∃ tn',tn'≤tn+2∧VmAt w' V K B pl tn' q.m)∧RowV w' (X+5) (q.m.rdS q.s)) (fun j hj=>by
   rcases hj with f | f
   ·have:=hm j f;omega
   ·omega) (fun W W' ⟨⟨tn',a,b⟩,c⟩ k=>⟨⟨tn',a,b.kp k (fun j hj=>by
   rcases hj with f | f
   ·have:=HX.out;omega
   ·have:=hm j f;have:=HX.out;omega)⟩,c.kp k (by omega)⟩) (fun W=>rfl)
  (fun W kq=>(sys1_ok W X (X+5) V K B pl tn (.pointer pc) off z 0 (rY.kp kq (fun f=>f)) (by omega) q hq (BxSys.kp hb kq (fun j f=>f.elim)) (fun j hj=>by have:=hm j hj;omega) (by omega) (fun W' kr=>H.out W' ((k0.trans kq).trans kr))).mono (fun e w' ⟨h1,h2,h3,h4⟩=>⟨h1,h2,h3,h4⟩))
 have e0:noFt.val=.agg #[.int .i64 (-1),.int .i64 (-1),.int .u32 0]:=rfl
 rw [e0] at HC
 go_enter Tryz.func189,Tryz.ntmps189
 go_wp2_with fail
 rw [← hW0]
 refine Calls.mono HC.out ?_
 rintro e w2 ⟨rfl,k2,p2,y2⟩
 have r2:RowT w2 (X+4) ⟨0,0,0⟩:=(rF.kp k2 (fun f=>by
   rcases f with f | f
   ·have:=hm _ f;omega
   ·omega))
 have kA:=Kp.alloc noB w2 (.cells #[.int .i64 (-1),.int .i64 (-1),.int .u32 0] 44)
 have rA:RowT (w2.alloc (.cells #[.int .i64 (-1),.int .i64 (-1),.int .u32 0] 44)) w2.heap.size (⟨-1,-1,0⟩:Ft):=(MapKept.heap_alloc w2 _).1
 have hl2:=y2.lt
 replace r2:=r2.kp kA (fun f=>f)
 replace y2:=y2.kp kA (fun f=>f)
 obtain ⟨tn2,ht2,v2⟩:=p2
 replace v2:=v2.kp0 kA
 obtain ⟨W3,hW3⟩:∃ W,W=w2.alloc (.cells #[.int .i64 (-1),.int .i64 (-1),.int .u32 0] 44):=⟨_,rfl⟩
 obtain ⟨T,hT⟩:∃ T,T=w2.heap.size:=⟨_,rfl⟩
 have hTX:X+5 < T:=by rw [hT];exact hl2
 rw [← hW3] at kA rA r2 y2 v2
 rw [← hT] at rA
 have kS:=k2.trans (kA.mono (fun _ _ f=>f.elim))
 clear HC k2 kA hl2 hb rF rY
 go_wp2_with fail
 rw [← hW3,← hT]
 clear hW3 hT hW0 hX
 have yc:=y2.c
 have a0:=rA.c0;have a1:=rA.c1;have a2:=rA.c2
 have c0:=r2.c0;have c1:=r2.c1;have c2:=r2.c2
 have f0:=r2.fz 0;have f1:=r2.fz 1;have f2:=r2.fz 2
 go_region
 have rE:=r2.set (⟨-1,-1,0⟩:Ft)
 have kE:=kp_setFt W3 (X+4) (⟨-1,-1,0⟩:Ft)
 unfold setFt at rE kE
 have d0:=rE.c0;have d1:=rE.c1;have d2:=rE.c2
 simp only at d0 d1 d2
 go_wp2
 have vE:=v2.kp kE (fun j hj e=>by
   rcases hj with f | f
   ·have:=HX.out;omega
   ·have:=hm j f;have:=HX.out;omega)
 have kW:Kp (modVm K B q.m.n) w _:=((k0.mono (fun _ _ f=>f.elim)).over kS (fun j hj f=>by
   rcases f with f | f
   ·exact f
   ·have:=HX.out;omega)).over kE (fun j hj e=>absurd hj (by have:=HX.out;omega))
 refine bodyPost_ret (v:=.tuple #[.int .u32 (q.m.rdS q.s),.agg #[.int .i64 (-1),.int .i64 (-1),.int .u32 0]]) ?_ rfl ⟨rfl,?_⟩
 ·simp [results,Tryz.results189,go_sem,d0,d1,d2]
 ·exact ⟨⟨tn2,ht2,vE.kp0 (Kp.refl noB _).drew⟩,kW.drew⟩
def RowT2 (W:World) (X:Nat) (p q:Int):Prop:=W.heap[X]?=some (.cells #[.int .u32 p,.int .u32 q] 353 (0,0))
theorem RowT2.lt {W:World} {X:Nat} {p q:Int} (h:RowT2 W X p q):X < W.heap.size:=(Array.getElem?_eq_some_iff.1 h).1
theorem RowT2.kp {S:Nat→Prop} {W W':World} {X:Nat} {p q:Int} (h:RowT2 W X p q) (k:Kp S W W') (hS:¬ S X):RowT2 W' X p q:=(k.block X h.lt hS).trans h
def RowKy (W:World) (X:Nat) (a b:Int):Prop:=W.heap[X]?=some (.cells #[.int .u32 a,.int .u32 b] 351 (0,0))
theorem RowKy.lt {W:World} {X:Nat} {p q:Int} (h:RowKy W X p q):X < W.heap.size:=(Array.getElem?_eq_some_iff.1 h).1
theorem RowKy.kp {S:Nat→Prop} {W W':World} {X:Nat} {p q:Int} (h:RowKy W X p q) (k:Kp S W W') (hS:¬ S X):RowKy W' X p q:=(k.block X h.lt hS).trans h
theorem RdB.find {M:Mem} (h:RdB M) (c l:Int) (wr us wp:Bool):RdB (fMem M c l wr us wp):=by
 unfold fMem
 split
 ·exact (h.mark _ _).mark _ _
 ·exact h
theorem plF_bd {M:Mem} (h:RdB M) (c l:Int) (wr us wp:Bool) (l0:0≤l):0≤plF M c l wr us wp∧plF M c l wr us wp < 4294967296:=by
 unfold plF fFr
 have:=fTwo_bd h c l
 omega
theorem findQ_s {M:Mem} (h:RdB M) (pg:Bool) (c l:Int) (n:Nat) (wr us wp:Bool) (l0:0≤l) (l1:l < 4294967296) (hn:n=1∨n=2∨n=4) (hf:(findQ M pg c l n wr us wp).f=none):(findQ M pg c l n wr us wp).s.Ok∧(findQ M pg c l n wr us wp).s.n=n:=by
 have b1:=plF_bd h c l wr us wp l0
 have b2:=plF_bd (h.find c l wr us wp) c (nxt l n) wr us wp (by unfold nxt;omega)
 have ha:1≤ahd l n∧ahd l n≤n:=by unfold ahd;omega
 unfold findQ at hf ⊢
 split at hf
 ·rename_i e;rw [if_pos e]
  exact ⟨⟨l0,l1,by show (0:Int)≤0;omega,by show (0:Int) < 4294967296;omega,by show 1≤n;omega,Nat.le_refl _,hn⟩,rfl⟩
 ·rename_i e;rw [if_neg e]
  split at hf
  ·simp at hf
  ·rename_i e2;rw [if_neg e2]
   split at hf
   ·rename_i e3;rw [if_pos e3]
    exact ⟨⟨b1.1,b1.2,by show (0:Int)≤0;omega,by show (0:Int) < 4294967296;omega,ha.1,ha.2,hn⟩,rfl⟩
   ·rename_i e3;rw [if_neg e3]
    split at hf
    ·simp at hf
    ·rename_i e4;rw [if_neg e4]
     exact ⟨⟨b1.1,b1.2,b2.1,b2.2,ha.1,ha.2,hn⟩,rfl⟩
theorem linB_bd (b off:Int):0≤linB b off∧linB b off < 4294967296:=by unfold linB;omega
theorem okS_n {z:Int} (h:okS z=true):z.toNat=1∨z.toNat=2∨z.toNat=4:=by
 have:z=1∨z=2∨z=4:=of_decide_eq_true h
 omega
theorem segQ_s {M:Mem} (h:RdB M) (c:Cp) (k off z:Int) (wr:Bool) (hf:(segQ M c k off z wr).f=none):(segQ M c k off z wr).s.Ok∧(segQ M c k off z wr).s.n=z.toNat:=by
 unfold segQ at hf ⊢
 split at hf
 ·simp at hf
 ·rename_i e;rw [if_neg e]
  split at hf
  ·simp at hf
  ·rename_i e2;rw [if_neg e2]
   have hz:okS z=true:=by cases hz:okS z<;>simp_all
   exact findQ_s h _ _ _ _ _ _ _ (linB_bd _ _).1 (linB_bd _ _).2 (okS_n hz) hf
theorem sysQ_s {M:Mem} (h:RdB M) (c:Cp) (l z:Int) (wr:Bool) (l0:0≤l) (l1:l < 4294967296) (hf:(sysQ M c l z wr).f=none):(sysQ M c l z wr).s.Ok∧(sysQ M c l z wr).s.n=z.toNat:=by
 unfold sysQ at hf ⊢
 split at hf
 ·simp at hf
 ·rename_i e;rw [if_neg e]
  have hz:okS z=true:=by cases hz:okS z<;>simp_all
  exact findQ_s h _ _ _ _ _ _ _ l0 l1 (okS_n hz) hf
theorem segQ_n (M:Mem) (c:Cp) (k off z:Int) (wr:Bool):(segQ M c k off z wr).m.n=M.n:=by
 unfold segQ
 split
 ·rfl
 split
 ·rfl
 ·exact findQ_n _ _ _ _ _ _ _ _
theorem sysQ_n (M:Mem) (c:Cp) (l z:Int) (wr:Bool):(sysQ M c l z wr).m.n=M.n:=by
 unfold sysQ
 split
 ·rfl
 ·exact findQ_n _ _ _ _ _ _ _ _
theorem VmAt.in_all {w:World} {V K B pl tn:Nat} {M:Mem} (h:VmAt w V K B pl tn M) {j:Nat} (hj:inVm V K B M.n j):j < w.heap.size:=by
 rcases hj with e | e
 ·rw [e];exact h.lt
 ·exact h.in_lt e
theorem load_any (w:World) (V K B pl tn C:Nat) (M:Mem) (h:VmAt w V K B pl tn M) (c:Cp) (hc:CpAt w C c) (hC:¬ modVm K B M.n C) (k off z:Int) (o0:0≤off) (o1:off < 4294967296) (htn:tn < 18446744073709551613):
  Calls Tryz.prog 153 #[.pointer (some ⟨V,0,none⟩),.pointer (some ⟨C,0,none⟩),.int .i64 k,.int .u32 off,.int .i64 z] w fun e w'=>e=.returned (.tuple #[.int .u32 (segQ M c k off z false).val,(segQ M c k off z false).ft.val])∧VmP w V K B pl tn (segQ M c k off z false).m 2 w':=by
 have hn:=segQ_n M c k off z false
 have hs:=segQ_s h.ram.rdB c k off z false
 have H:Hid (∀ W,Kp noB w W→Calls Tryz.prog 203 #[.pointer (some ⟨V,0,none⟩),.pointer (some ⟨C,0,none⟩),.int .i64 k,.int .u32 off,.int .i64 z,.bool false] W fun e w'=>e=QE (segQ M c k off z false)∧VmP W V K B pl tn (segQ M c k off z false).m 2 w'):=fun W kw=>inSeg_any W V K B pl tn C M (h.kp0 kw) c (hc.kp0 kw) hC k off z false o0 o1 htn
 obtain ⟨q,hq⟩:∃ q,q=(segQ M c k off z false):=⟨_,rfl⟩
 rw [← hq] at hn hs H ⊢
 have hm:∀ j,modVm K B q.m.n j→j < w.heap.size:=fun j hj=>h.in_lt (by rw [← hn];exact hj)
 have hI:∀ j,inVm V K B q.m.n j→j < w.heap.size:=fun j hj=>h.in_all (by rw [← hn];exact hj)
 clear hq
 cases hf:q.f with
 | some f=>
  have e1:q.ft=f:=by unfold Qy.ft;rw [hf]
  unfold QE at H
  rw [hf] at H
  rw [e1]
  rw [show q.val=0 by unfold Qy.val;rw [hf]]
  refine (load_no w (some ⟨V,0,none⟩) (some ⟨C,0,none⟩) k off z f (modVm K B q.m.n) (fun w'=>∃ tn',tn'≤tn+2∧VmAt w' V K B pl tn' q.m) hm (fun W W' ⟨t,a,b⟩ k=>⟨t,a,b.kp k (fun j hj e=>by have:=hI j hj;omega)⟩) (fun W kw=>(H.out W kw).mono (fun e w' ⟨a,b,c⟩=>⟨a,c,b⟩))).mono ?_
  rintro e w' ⟨rfl,k,p⟩
  exact ⟨rfl,p,k⟩
 | none=>
  have e1:q.ft=noFt:=by unfold Qy.ft;rw [hf]
  unfold QE at H
  rw [hf] at H
  rw [e1]
  rw [show q.val=q.m.rdS q.s by unfold Qy.val;rw [hf]]
  exact load_ok w V K B pl tn (some ⟨C,0,none⟩) k off z q (hs hf).1 hm h.lt H
theorem store_any (w:World) (V K B pl tn C:Nat) (M:Mem) (h:VmAt w V K B pl tn M) (c:Cp) (hc:CpAt w C c) (hC:¬ modVm K B M.n C) (k off z v:Int) (o0:0≤off) (o1:off < 4294967296) (v0:0≤v) (v1:v < 4294967296) (htn:tn < 18446744073709551613):
  Calls Tryz.prog 197 #[.pointer (some ⟨V,0,none⟩),.pointer (some ⟨C,0,none⟩),.int .i64 k,.int .u32 off,.int .i64 z,.int .u32 v] w fun e w'=>e=.returned ((segQ M c k off z true).ft.val)∧VmP w V K B pl tn ((segQ M c k off z true).put v) 2 w':=by
 have hn:=segQ_n M c k off z true
 have hs:=segQ_s h.ram.rdB c k off z true
 have H:Hid (∀ W,Kp noB w W→Calls Tryz.prog 203 #[.pointer (some ⟨V,0,none⟩),.pointer (some ⟨C,0,none⟩),.int .i64 k,.int .u32 off,.int .i64 z,.bool true] W fun e w'=>e=QE (segQ M c k off z true)∧VmP W V K B pl tn (segQ M c k off z true).m 2 w'):=fun W kw=>inSeg_any W V K B pl tn C M (h.kp0 kw) c (hc.kp0 kw) hC k off z true o0 o1 htn
 obtain ⟨q,hq⟩:∃ q,q=(segQ M c k off z true):=⟨_,rfl⟩
 rw [← hq] at hn hs H ⊢
 have hm:∀ j,modVm K B q.m.n j→j < w.heap.size:=fun j hj=>h.in_lt (by rw [← hn];exact hj)
 have hI:∀ j,inVm V K B q.m.n j→j < w.heap.size:=fun j hj=>h.in_all (by rw [← hn];exact hj)
 clear hq
 cases hf:q.f with
 | some f=>
  have e1:q.ft=f:=by unfold Qy.ft;rw [hf]
  unfold QE at H
  rw [hf] at H
  rw [e1]
  rw [show q.put v=q.m by unfold Qy.put;rw [hf]]
  refine (store_no w (some ⟨V,0,none⟩) (some ⟨C,0,none⟩) k off z v f (modVm K B q.m.n) (fun w'=>∃ tn',tn'≤tn+2∧VmAt w' V K B pl tn' q.m) hm (fun W W' ⟨t,a,b⟩ k=>⟨t,a,b.kp k (fun j hj e=>by have:=hI j hj;omega)⟩) (fun W kw=>(H.out W kw).mono (fun e w' ⟨a,b,c⟩=>⟨a,c,b⟩))).mono ?_
  rintro e w' ⟨rfl,k,p⟩
  exact ⟨rfl,p,k⟩
 | none=>
  have e1:q.ft=noFt:=by unfold Qy.ft;rw [hf]
  unfold QE at H
  rw [hf] at H
  rw [e1]
  rw [show q.put v=q.m.wrS q.s v by unfold Qy.put;rw [hf]]
  exact store_ok w V K B pl tn (some ⟨C,0,none⟩) k off z v v0 v1 q (hs hf).1 hm h.lt H
theorem sys_any (w:World) (V K B pl tn C:Nat) (M:Mem) (h:VmAt w V K B pl tn M) (c:Cp) (hc:CpAt w C c) (hC:¬ modVm K B M.n C) (off z:Int) (o0:0≤off) (o1:off < 4294967296) (htn:tn < 18446744073709551613):
  Calls Tryz.prog 189 #[.pointer (some ⟨V,0,none⟩),.pointer (some ⟨C,0,none⟩),.int .u32 off,.int .i64 z] w fun e w'=>e=.returned (.tuple #[.int .u32 (sysQ M c off z false).val,(sysQ M c off z false).ft.val])∧VmP w V K B pl tn (sysQ M c off z false).m 2 w':=by
 have hn:=sysQ_n M c off z false
 have hs:=sysQ_s h.ram.rdB c off z false o0 o1
 have H:Hid (∀ W,Kp noB w W→Calls Tryz.prog 230 #[.pointer (some ⟨V,0,none⟩),.pointer (some ⟨C,0,none⟩),.int .u32 off,.int .i64 z,.bool false] W fun e w'=>e=QE (sysQ M c off z false)∧VmP W V K B pl tn (sysQ M c off z false).m 2 w'):=fun W kw=>ofPro_any W V K B pl tn C M (h.kp0 kw) c (hc.kp0 kw) hC off z false o0 o1 htn
 obtain ⟨q,hq⟩:∃ q,q=(sysQ M c off z false):=⟨_,rfl⟩
 rw [← hq] at hn hs H ⊢
 have hm:∀ j,modVm K B q.m.n j→j < w.heap.size:=fun j hj=>h.in_lt (by rw [← hn];exact hj)
 have hI:∀ j,inVm V K B q.m.n j→j < w.heap.size:=fun j hj=>h.in_all (by rw [← hn];exact hj)
 clear hq
 cases hf:q.f with
 | some f=>
  have e1:q.ft=f:=by unfold Qy.ft;rw [hf]
  unfold QE at H
  rw [hf] at H
  rw [e1]
  rw [show q.val=0 by unfold Qy.val;rw [hf]]
  refine (sys_no w (some ⟨V,0,none⟩) (some ⟨C,0,none⟩) off z f (modVm K B q.m.n) (fun w'=>∃ tn',tn'≤tn+2∧VmAt w' V K B pl tn' q.m) hm (fun W W' ⟨t,a,b⟩ k=>⟨t,a,b.kp k (fun j hj e=>by have:=hI j hj;omega)⟩) (fun W kw=>(H.out W kw).mono (fun e w' ⟨a,b,c⟩=>⟨a,c,b⟩))).mono ?_
  rintro e w' ⟨rfl,k,p⟩
  exact ⟨rfl,p,k⟩
 | none=>
  have e1:q.ft=noFt:=by unfold Qy.ft;rw [hf]
  unfold QE at H
  rw [hf] at H
  rw [e1]
  rw [show q.val=q.m.rdS q.s by unfold Qy.val;rw [hf]]
  exact sys_ok w V K B pl tn (some ⟨C,0,none⟩) off z q (hs hf).1 hm h.lt H
end Go.Proofs.YtacgmoikegcopaaGreatDoor.Rm
