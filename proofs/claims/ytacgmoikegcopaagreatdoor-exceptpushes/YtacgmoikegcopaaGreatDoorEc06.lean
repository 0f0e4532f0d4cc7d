/- The bus and its devices: VmFault, XcBase, XcTurn, XeFault, XcLeaf, XcExec, VmNeed, VmPlaceN. -/
import Derived.Test.YtacgmoikegcopaaGreatDoorEc05
import Derived.Test.YtacgmoikegcopaaGreatDoorEc04
import Derived.Laws.BitsAllLaws
namespace Go.Proofs.YtacgmoikegcopaaGreatDoor.Rm
open Go.ChangeShapes Go.WideShapes Go.ChangeAt Go.RowKit Go.Maps
set_option linter.unusedVariables false
set_option maxRecDepth 20000
def RowT (W:World) (X:Nat) (f:Ft):Prop:=W.heap[X]?=some (.cells #[.int .i64 f.vec,.int .i64 f.code,.int .u32 f.cr2] 44 (0,0))
theorem RowT.lt {W:World} {X:Nat} {f:Ft} (r:RowT W X f):X < W.heap.size:=(Array.getElem?_eq_some_iff.1 r).1
theorem RowT.kp {S:Nat→Prop} {W W':World} {X:Nat} {f:Ft} (r:RowT W X f) (k:Kp S W W') (hS:¬ S X):RowT W' X f:=(k.block X r.lt hS).trans r
theorem RowT.c0 {W:World} {X:Nat} {f:Ft} (r:RowT W X f):W.cell? ⟨X,0,none⟩=some (.int .i64 f.vec):=by rw [cell_at r];rfl
theorem RowT.c1 {W:World} {X:Nat} {f:Ft} (r:RowT W X f):W.cell? ⟨X,1,none⟩=some (.int .i64 f.code):=by rw [cell_at r];rfl
theorem RowT.c2 {W:World} {X:Nat} {f:Ft} (r:RowT W X f):W.cell? ⟨X,2,none⟩=some (.int .u32 f.cr2):=by rw [cell_at r];rfl
theorem RowT.fz {W:World} {X:Nat} {f:Ft} (r:RowT W X f) (j:Nat):W.frozen? ⟨X,j,none⟩=false:=frozen_at r
def setFt (W:World) (X:Nat) (f:Ft):World:=((W.setCell ⟨X,0,none⟩ (.int .i64 f.vec)).setCell ⟨X,1,none⟩ (.int .i64 f.code)).setCell ⟨X,2,none⟩ (.int .u32 f.cr2)
theorem RowT.set {W:World} {X:Nat} {f:Ft} (r:RowT W X f) (g:Ft):RowT (setFt W X g) X g:=heap_setCell_at (heap_setCell_at (heap_setCell_at r _) _) _
theorem kp_setFt (W:World) (X:Nat) (f:Ft):Kp (fun j=>j=X) W (setFt W X f):=
 ((Kp.setCell (S:=fun j=>j=X) W (p:=⟨X,0,none⟩) rfl _).trans (Kp.setCell (S:=fun j=>j=X) _ (p:=⟨X,1,none⟩) rfl _)).trans (Kp.setCell (S:=fun j=>j=X) _ (p:=⟨X,2,none⟩) rfl _)
theorem none_any (w:World):Calls Tryz.prog 69 #[] w fun e w'=>e=.returned (.agg #[.int .i64 (-1),.int .i64 (-1),.int .u32 0])∧Kp noB w w':=by
 go_enter Tryz.func69,Tryz.ntmps69
 go_wp2
 refine bodyPost_ret (v:=.agg #[.int .i64 (-1),.int .i64 (-1),.int .u32 0]) (by simp [results,Tryz.results69,go_sem]) rfl ⟨rfl,?_⟩
 exact Kp.alloc noB w _
theorem catch_pan (X:Nat) (g f:Ft) (older:List PanicEntry) (w:World) (h:RowT w X g):
  CallsD Tryz.prog 243 #[.pointer (some ⟨X,0,none⟩)] (.panicking ({ v:=.iface 44 f.val,recovered:=false }::older)) w fun e u' w'=>
   e=.returned (.tuple #[])∧u'=.panicking ({ v:=.iface 44 f.val,recovered:=true }::older)∧w'=setFt w X f:=by
 have c0:=h.c0;have c1:=h.c1;have c2:=h.c2
 have f0:=h.fz 0;have f1:=h.fz 1;have f2:=h.fz 2
 unfold Ft.val setFt
 refine callsD_of_wpS Tryz.func243 rfl fun c₀ cs hu=>?_
 apply wpS_seq
 apply wpS_region
 simp [wpOpsS,go_sem,recoverD,hu,Tryz.ntmps243,Exit.thenS]
 obtain ⟨v,hv⟩:∃ v:Value,v=.agg #[.int .i64 f.vec,.int .i64 f.code,.int .u32 f.cr2]:=⟨_,rfl⟩
 rw [← hv]
 change Code.wpS _ _ _ { tmps:=#[.pointer (some ⟨X,0,none⟩),.iface 44 v,.iface 44 v,undef,undef,undef,undef],defers:=[] } _ _
 refine wpS_of_wp ?_
 rw [hv]
 have hta:∀ (x:Value) (w:World),(Instr.typeAssert (.iface 44 x) 20 44 false).run Tryz.prog w=.ok x w:=fun _ _=>by kernel_rfl
 go_wp2
 simp [bodyPostS,results,Tryz.results243]
theorem catch_idle (X:Nat) (w:World):
  CallsD Tryz.prog 243 #[.pointer (some ⟨X,0,none⟩)] .returning w fun e u' w'=>e=.returned (.tuple #[])∧u'=.returning∧w'=w:=by
 refine callsD_of_wpS Tryz.func243 rfl fun c₀ cs hu=>?_
 apply wpS_seq
 apply wpS_region
 simp [wpOpsS,go_sem,recoverD,hu,Tryz.ntmps243,Exit.thenS]
 change Code.wpS _ _ _ { tmps:=#[.pointer (some ⟨X,0,none⟩),.nilIface,.nilIface,undef,undef,undef,undef],defers:=[] } _ _
 refine wpS_of_wp ?_
 go_wp2
 cases c₀
 simp_all [bodyPostS,results,Tryz.results243]
theorem faultOf_ok (w:World) (k:Nat) (cap:Array Value) (S:Nat→Prop) (P:World→Prop) (hS:∀ j,S j→j < w.heap.size) (hP:∀ W W',P W→Kp (fun j=>w.heap.size≤j) W W'→P W')
  (hk:∀ W,(callFunc k cap).run Tryz.prog W=.ok (.enter k cap) W)
  (H:Hid (∀ W,Kp noB w W→Calls Tryz.prog k cap W fun e w'=>e=.returned (.tuple #[])∧Kp S W w'∧P w')):
  Calls Tryz.prog 200 #[.func (.func k) #[] cap] w fun e w'=>e=.returned noFt.val∧Kp S w w'∧P w':=by
 have hmf:∀ (fn:Fn) (first cap:Array Value) (w:World),(Instr.makeFunc fn first cap).run Tryz.prog w=.ok (.func fn first cap) w:=fun _ _ _ _=>rfl
 obtain ⟨W0,hW0⟩:∃ W,W=w.alloc (.cells #[.int .i64 0,.int .i64 0,.int .u32 0] 44):=⟨_,rfl⟩
 obtain ⟨X,hX⟩:∃ X,w.heap.size=X:=⟨_,rfl⟩
 have k0:Kp noB w W0:=by rw [hW0];exact Kp.alloc _ _ _
 have rX:RowT W0 X ⟨0,0,0⟩:=by rw [hW0,← hX];exact (MapKept.heap_alloc w _).1
 go_enter_defers Tryz.func200,Tryz.ntmps200
 go_wp2_with fail
 rw [← hW0]
 refine (none_any _).mono ?_;rintro e w2 ⟨rfl,k2⟩
 have r2:=rX.kp k2 (fun f=>f)
 have c0:=r2.c0;have c1:=r2.c1;have c2:=r2.c2
 have f0:=r2.fz 0;have f1:=r2.fz 1;have f2:=r2.fz 2
 clear hW0
 go_wp2_with fail
 have k3:Kp noB w (setFt w2 X noFt):=by
  have:=k0.trans k2
  exact (((this.own' (i:=0) (by omega) _).own' (i:=1) (by omega) _).own' (i:=2) (by omega) _)
 have r3:=r2.set noFt
 change Calls Tryz.prog k cap (setFt w2 X noFt) _
 refine Calls.mono (H.out _ k3) ?_;rintro e w4 ⟨rfl,k4,p4⟩
 have nX:¬ S X:=fun f=>by have:=hS _ f;omega
 have r4:=r3.kp k4 nX
 clear c0 c1 c2 f0 f1 f2
 have c0:=r4.c0;have c1:=r4.c1;have c2:=r4.c2
 have f0:=r4.fz 0;have f1:=r4.fz 1;have f2:=r4.fz 2
 have r5:=r4.set noFt
 have p5:=hP _ _ p4 ((kp_setFt w4 X noFt).mono (fun j _ e=>by omega))
 have k5:Kp S w (setFt w4 X noFt):=((k3.mono (fun _ _ f=>f.elim)).trans k4).over (kp_setFt w4 X noFt) (fun j hj e=>absurd hj (by omega))
 clear r2 r3 k2 k0 rX k3 k4 p4
 have e0:noFt.vec=-1:=rfl
 have e1:noFt.code=-1:=rfl
 have e2:noFt.cr2=0:=rfl
 go_wp2
 refine leaves_cons (f:=243) (args:=#[.pointer (some ⟨X,0,none⟩)]) (by simp) (by simp [go_sem]) ?_
 refine (catch_idle X _).mono ?_
 rintro e u' w'' ⟨rfl,rfl,rfl⟩
 have d0:=r5.c0;have d1:=r5.c1;have d2:=r5.c2
 unfold setFt at d0 d1 d2 k5 p5
 simp only [e0,e1,e2] at d0 d1 d2 k5 p5
 simp [Leaves,settle,results,Tryz.results200,go_sem,d0,d1,d2]
 exact ⟨rfl,k5,p5⟩
theorem faultOf_no (w:World) (k:Nat) (cap:Array Value) (f:Ft) (S:Nat→Prop) (P:World→Prop) (hS:∀ j,S j→j < w.heap.size) (hP:∀ W W',P W→Kp (fun j=>w.heap.size≤j) W W'→P W')
  (hk:∀ W,(callFunc k cap).run Tryz.prog W=.ok (.enter k cap) W)
  (H:Hid (∀ W,Kp noB w W→Calls Tryz.prog k cap W fun e w'=>e=.panicked (pan f)∧Kp S W w'∧P w')):
  Calls Tryz.prog 200 #[.func (.func k) #[] cap] w fun e w'=>e=.returned f.val∧Kp S w w'∧P w':=by
 have hmf:∀ (fn:Fn) (first cap:Array Value) (w:World),(Instr.makeFunc fn first cap).run Tryz.prog w=.ok (.func fn first cap) w:=fun _ _ _ _=>rfl
 obtain ⟨W0,hW0⟩:∃ W,W=w.alloc (.cells #[.int .i64 0,.int .i64 0,.int .u32 0] 44):=⟨_,rfl⟩
 obtain ⟨X,hX⟩:∃ X,w.heap.size=X:=⟨_,rfl⟩
 have k0:Kp noB w W0:=by rw [hW0];exact Kp.alloc _ _ _
 have rX:RowT W0 X ⟨0,0,0⟩:=by rw [hW0,← hX];exact (MapKept.heap_alloc w _).1
 go_enter_defers Tryz.func200,Tryz.ntmps200
 go_wp2_with fail
 rw [← hW0]
 refine (none_any _).mono ?_;rintro e w2 ⟨rfl,k2⟩
 have r2:=rX.kp k2 (fun f=>f)
 have c0:=r2.c0;have c1:=r2.c1;have c2:=r2.c2
 have f0:=r2.fz 0;have f1:=r2.fz 1;have f2:=r2.fz 2
 clear hW0
 go_wp2_with fail
 have k3:Kp noB w (setFt w2 X noFt):=by
  have:=k0.trans k2
  exact (((this.own' (i:=0) (by omega) _).own' (i:=1) (by omega) _).own' (i:=2) (by omega) _)
 have r3:=r2.set noFt
 change Calls Tryz.prog k cap (setFt w2 X noFt) _
 refine Calls.mono (H.out _ k3) ?_;rintro e w4 ⟨rfl,k4,p4⟩
 have nX:¬ S X:=fun f=>by have:=hS _ f;omega
 have r4:=r3.kp k4 nX
 have r5:=r4.set f
 have p5:=hP _ _ p4 ((kp_setFt w4 X f).mono (fun j _ e=>by omega))
 have k5:Kp S w (setFt w4 X f):=((k3.mono (fun _ _ f=>f.elim)).trans k4).over (kp_setFt w4 X f) (fun j hj e=>absurd hj (by omega))
 refine leaves_cons (f:=243) (args:=#[.pointer (some ⟨X,0,none⟩)]) (by simp) (by simp [go_sem]) ?_
 refine (catch_pan X noFt f [] _ r4).mono ?_
 rintro e u' w'' ⟨rfl,rfl,rfl⟩
 have d0:=r5.c0;have d1:=r5.c1;have d2:=r5.c2
 simp [Leaves,settle,results,Tryz.results200,go_sem,d0,d1,d2]
 exact ⟨rfl,k5,p5⟩
def ptr (b:Nat):Value:=.pointer (some ⟨b,0,none⟩)
def EAt (w:World) (E:Nat) (cs:Array Value) (mp bp:Value):Prop:=w.heap[E]?=some (.cells (cs++#[mp,bp]) 54 (0,0))∧WfC cs
section
variable {w w':World} {E:Nat} {cs:Array Value} {pm pb:Value}
theorem EAt.lt (h:EAt w E cs pm pb):E < w.heap.size:=(Array.getElem?_eq_some_iff.1 h.1).1
theorem EAt.kp {S:Nat→Prop} (h:EAt w E cs pm pb) (k:Kp S w w') (hS:¬ S E):EAt w' E cs pm pb:=⟨(k.block E h.lt hS).trans h.1,h.2⟩
theorem EAt.kp0 (h:EAt w E cs pm pb) (k:Kp noB w w'):EAt w' E cs pm pb:=h.kp k (fun f=>f)
theorem EAt.cell (h:EAt w E cs pm pb) {k:Nat} {v:Value} (hv:cs[k]?=some v):w.cell? ⟨E,k,none⟩=some v:=by
 rw [cell_at h.1,Array.getElem?_append_left (Array.getElem?_eq_some_iff.1 hv).1];exact hv
theorem EAt.mp (h:EAt w E cs pm pb):w.cell? ⟨E,83,none⟩=some pm:=by
 rw [cell_at h.1,Array.getElem?_append_right (by rw [h.2.s];decide),h.2.s];rfl
theorem EAt.bp (h:EAt w E cs pm pb):w.cell? ⟨E,84,none⟩=some pb:=by
 rw [cell_at h.1,Array.getElem?_append_right (by rw [h.2.s];decide),h.2.s];rfl
theorem EAt.fz (h:EAt w E cs pm pb) (j:Nat):w.frozen? ⟨E,j,none⟩=false:=frozen_at h.1
theorem app_set {cs:Array Value} {k:Nat} (hk:k < cs.size) (b:Array Value) (v:Value):(cs++b).setIfInBounds k v=cs.setIfInBounds k v++b:=by
 apply Array.ext_getElem?
 intro i
 by_cases h:i < cs.size
 ·rw [Array.getElem?_append_left (by simpa using h),Array.getElem?_setIfInBounds,Array.getElem?_setIfInBounds,Array.size_append]
  by_cases e:k=i
  ·subst e
   rw [if_pos rfl,if_pos rfl,if_pos h,if_pos (by omega)]
  ·rw [if_neg e,if_neg e,Array.getElem?_append_left h]
 ·rw [Array.getElem?_append_right (by simp;omega),Array.getElem?_setIfInBounds_ne (by omega),Array.getElem?_append_right (by omega),Array.size_setIfInBounds]
theorem EAt.set (h:EAt w E cs pm pb) {k:Nat} (hk:k < 83) {v:Value} (hv:v.oneCell'=true):EAt (w.setCell ⟨E,k,none⟩ v) E (cs.setIfInBounds k v) pm pb:=by
 refine ⟨?_,h.2.set k hv⟩
 rw [← app_set (by rw [h.2.s];exact hk)]
 exact heap_setCell_at h.1 _
theorem EAt.get {T:TypeId} {n:Nat} {Z:Array Value} (hv:VlP T n Z) (h:EAt w E cs pm pb):(loadCellsFrom ⟨E,0,none⟩ 0 n #[]).run Tryz.prog w=.ok cs w:=by
 have e:=run_loadCells_list (P:=Tryz.prog) w ⟨E,0,none⟩ cs.toList (fun j v hv=>by
  rw [Addr.add_mid,Nat.zero_add]
  exact h.cell (by rw [← Array.getElem?_toList];exact hv))
 rw [hv.s]
 have:cs.toList.length=83:=h.2.s
 rw [this] at e
 exact e
theorem EAt.lay (h:EAt w E cs pm pb) {c:Array Value} (wf:WfC c):(storeCells ⟨E,0,none⟩ c.toList).run Tryz.prog w=.ok () (w.setRow E (c++#[pm,pb])):=by
 have e:=run_storeCells_at Tryz.prog E 0 54 c.toList 0 (cs++#[pm,pb]) w h.1 (by simp [h.2.s,wf.s]) wf.o
 rw [e]
 have e2:(List.take (0+0) (cs++#[pm,pb]).toList++c.toList++List.drop (0+0+c.toList.length) (cs++#[pm,pb]).toList).toArray=c++#[pm,pb]:=by
  have h1:c.toList.length=cs.toList.length:=by simp [h.2.s,wf.s]
  rw [Nat.zero_add,Nat.zero_add,h1,Array.toList_append,List.drop_left]
  simp
 rw [e2]
theorem EAt.laid (h:EAt w E cs pm pb) {c:Array Value} (wf:WfC c):EAt (w.setRow E (c++#[pm,pb])) E c pm pb:=⟨setRow_heap w E _ _ _ _ h.1,wf⟩
end
def Cu.list (x:Cu):List Value:=[.int .u32 (x.r 0),.int .u32 (x.r 1),.int .u32 (x.r 2),.int .u32 (x.r 3),.int .u32 (x.r 4),.int .u32 (x.r 5),.int .u32 (x.r 6),.int .u32 (x.r 7),.int .u32 x.ip,.int .u32 x.fl,.int .u16 (x.sg 0).sel,.bool (x.sg 0).nl,.int .u32 (x.sg 0).b,.int .u32 (x.sg 0).l,.int .i64 (x.sg 0).t,.bool (x.sg 0).s,.int .i64 (x.sg 0).d,.bool (x.sg 0).p,.bool (x.sg 0).g,.int .u16 (x.sg 1).sel,.bool (x.sg 1).nl,.int .u32 (x.sg 1).b,.int .u32 (x.sg 1).l,.int .i64 (x.sg 1).t,.bool (x.sg 1).s,.int .i64 (x.sg 1).d,.bool (x.sg 1).p,.bool (x.sg 1).g,.int .u16 (x.sg 2).sel,.bool (x.sg 2).nl,.int .u32 (x.sg 2).b,.int .u32 (x.sg 2).l,.int .i64 (x.sg 2).t,.bool (x.sg 2).s,.int .i64 (x.sg 2).d,.bool (x.sg 2).p,.bool (x.sg 2).g,.int .u16 (x.sg 3).sel,.bool (x.sg 3).nl,.int .u32 (x.sg 3).b,.int .u32 (x.sg 3).l,.int .i64 (x.sg 3).t,.bool (x.sg 3).s,.int .i64 (x.sg 3).d,.bool (x.sg 3).p,.bool (x.sg 3).g,.int .u16 (x.sg 4).sel,.bool (x.sg 4).nl,.int .u32 (x.sg 4).b,.int .u32 (x.sg 4).l,.int .i64 (x.sg 4).t,.bool (x.sg 4).s,.int .i64 (x.sg 4).d,.bool (x.sg 4).p,.bool (x.sg 4).g,.int .u16 (x.sg 5).sel,.bool (x.sg 5).nl,.int .u32 (x.sg 5).b,.int .u32 (x.sg 5).l,.int .i64 (x.sg 5).t,.bool (x.sg 5).s,.int .i64 (x.sg 5).d,.bool (x.sg 5).p,.bool (x.sg 5).g,.int .u32 x.z0,.int .u32 x.z2,.int .u32 x.z3,.int .u32 x.gb,.int .u16 x.gl,.int .u32 x.ib,.int .u16 x.il,.int .u16 x.tr.sel,.bool x.tr.nl,.int .u32 x.tr.b,.int .u32 x.tr.l,.int .i64 x.tr.t,.bool x.tr.s,.int .i64 x.tr.d,.bool x.tr.p,.bool x.tr.g,.bool x.sh,.bool x.ha,.bool x.de]
def Cu.cs (x:Cu):Array Value:=x.list.toArray
theorem cu_wf (x:Cu):WfC x.cs where
 s:=by kernel_rfl
 o:=by
  have:x.list.all (fun v=>v.oneCell')=true:=by kernel_rfl
  exact fun v hv=>List.all_eq_true.1 this v hv
structure Ev where
 E:Nat
 V:Nat
 K:Nat
 B:Nat
 pl:Nat
 nn:Nat
 bp:Nat
def Ev.md (c:Ev) (j:Nat):Prop:=modVm c.K c.B c.nn j
def Ev.all (c:Ev) (j:Nat):Prop:=inVm c.V c.K c.B c.nn j
def Ev.mdT (c:Ev) (T j:Nat):Prop:=c.md j∨j=T
structure XAt (w:World) (c:Ev) (tn:Nat) (x:Cu) (M:Mem):Prop where
 e:EAt w c.E x.cs (.pointer (some ⟨c.V,0,none⟩)) (.pointer (some ⟨c.bp,0,none⟩))
 v:VmAt w c.V c.K c.B c.pl tn M
 s:M.n=c.nn
 n:¬ c.all c.E
 ok:x.Ok
def TAt (w:World) (T E:Nat) (x:Cu):Prop:=w.heap[T]?=some (.cells (ptr E::x.list).toArray 154 (0,0))
section
variable {w w':World} {q:Ev} {tn T E:Nat} {x n:Cu} {M:Mem}
theorem TAt.lt (h:TAt w T E n):T < w.heap.size:=(Array.getElem?_eq_some_iff.1 h).1
theorem TAt.kp {S:Nat→Prop} (h:TAt w T E n) (k:Kp S w w') (hS:¬ S T):TAt w' T E n:=(k.block T h.lt hS).trans h
theorem TAt.kp0 (h:TAt w T E n) (k:Kp noB w w'):TAt w' T E n:=h.kp k (fun f=>f)
theorem TAt.c (h:TAt w T E n) {k:Nat} {v:Value} (hv:(ptr E::n.list)[k]?=some v):w.cell? ⟨T,k,none⟩=some v:=by rw [cell_at h];simpa using hv
theorem TAt.fz (h:TAt w T E n) (j:Nat):w.frozen? ⟨T,j,none⟩=false:=frozen_at h
theorem TAt.e (h:TAt w T E n):w.cell? ⟨T,0,none⟩=some (ptr E):=h.c rfl
theorem XAt.lt (h:XAt w q tn x M):q.E < w.heap.size:=h.e.lt
theorem XAt.c (h:XAt w q tn x M) {k:Nat} {v:Value} (hv:x.list[k]?=some v):w.cell? ⟨q.E,k,none⟩=some v:=h.e.cell (by unfold Cu.cs;simpa using hv)
theorem XAt.mp (h:XAt w q tn x M):w.cell? ⟨q.E,83,none⟩=some (.pointer (some ⟨q.V,0,none⟩)):=h.e.mp
theorem XAt.in_md (h:XAt w q tn x M) {j:Nat} (hj:q.md j):j < w.heap.size:=h.v.in_lt (by rw [h.s];exact hj)
theorem XAt.in_all (h:XAt w q tn x M) {j:Nat} (hj:q.all j):j < w.heap.size:=by
 rcases hj with e | e
 ·rw [e];exact h.v.lt
 ·exact h.in_md e
theorem XAt.nm (h:XAt w q tn x M):¬ q.md q.E:=fun f=>h.n (.inr f)
theorem XAt.kp {S:Nat→Prop} (h:XAt w q tn x M) (k:Kp S w w') (hE:¬ S q.E) (hS:∀ j,q.all j→¬ S j):XAt w' q tn x M:=⟨h.e.kp k hE,h.v.kp k (by rw [h.s];exact hS),h.s,h.n,h.ok⟩
theorem XAt.kp0 (h:XAt w q tn x M) (k:Kp noB w w'):XAt w' q tn x M:=h.kp k (fun f=>f) (fun _ _ f=>f)
structure Tn (w:World) (c:Ev) (tn T:Nat) (x n:Cu) (M:Mem):Prop where
 a:XAt w c tn x M
 t:TAt w T c.E n
 nE:T≠c.E
 nV:¬ c.all T
 ok:n.Ok
theorem Tn.kp {S:Nat→Prop} (h:Tn w q tn T x n M) (k:Kp S w w') (hE:¬ S q.E) (hT:¬ S T) (hS:∀ j,q.all j→¬ S j):Tn w' q tn T x n M:=⟨h.a.kp k hE hS,h.t.kp k hT,h.nE,h.nV,h.ok⟩
theorem Tn.kp0 (h:Tn w q tn T x n M) (k:Kp noB w w'):Tn w' q tn T x n M:=h.kp k (fun f=>f) (fun f=>f) (fun _ _ f=>f)
theorem Tn.ne (h:Tn w q tn T x n M) {j:Nat} (hj:q.mdT T j):j < w.heap.size:=by
 rcases hj with e | e
 ·exact h.a.in_md e
 ·rw [e];exact h.t.lt
def OE {α:Type} (f:α→Value) (o:Ou α):Ending:=match o.r with | .inl f=>.panicked (pan f) | .inr a=>.returned (f a)
def vI32 (v:Int):Value:=.int .u32 v
def vC (_:Cu):Value:=.tuple #[]
def Px (w:World) (c:Ev) (tn T:Nat) (x n:Cu) (M:Mem) (k:Nat) (w':World):Prop:=(∃ tn',tn'≤tn+k∧Tn w' c tn' T x n M)∧Kp c.md w w'
def Py (w:World) (c:Ev) (tn T:Nat) (x:Cu) (o:Ou Cu) (k:Nat) (w':World):Prop:=
 (∃ tn',tn'≤tn+k∧XAt w' c tn' x o.m∧∀ n,o.r=.inr n→Tn w' c tn' T x n o.m)∧Kp (c.mdT T) w w'
theorem cells_cp {w:World} {C o:Nat} (x:Cu) (h:∀ (k:Nat) (v:Value),x.list[k]?=some v→w.cell? ⟨C,o+k,none⟩=some v):
  (∀ i,i < 6→SgAt w C (o+(10+i*9)) (x.sg i))∧w.cell? ⟨C,o+64,none⟩=some (.int .u32 x.z0)∧w.cell? ⟨C,o+66,none⟩=some (.int .u32 x.z3):=by
 refine ⟨fun i hi=>?_,h 64 _ rfl,h 66 _ rfl⟩
 match i with
 | 0=>exact ⟨h 10 _ rfl,h 11 _ rfl,h 12 _ rfl,h 13 _ rfl,h 14 _ rfl,h 15 _ rfl,h 16 _ rfl,h 17 _ rfl,h 18 _ rfl⟩
 | 1=>exact ⟨h 19 _ rfl,h 20 _ rfl,h 21 _ rfl,h 22 _ rfl,h 23 _ rfl,h 24 _ rfl,h 25 _ rfl,h 26 _ rfl,h 27 _ rfl⟩
 | 2=>exact ⟨h 28 _ rfl,h 29 _ rfl,h 30 _ rfl,h 31 _ rfl,h 32 _ rfl,h 33 _ rfl,h 34 _ rfl,h 35 _ rfl,h 36 _ rfl⟩
 | 3=>exact ⟨h 37 _ rfl,h 38 _ rfl,h 39 _ rfl,h 40 _ rfl,h 41 _ rfl,h 42 _ rfl,h 43 _ rfl,h 44 _ rfl,h 45 _ rfl⟩
 | 4=>exact ⟨h 46 _ rfl,h 47 _ rfl,h 48 _ rfl,h 49 _ rfl,h 50 _ rfl,h 51 _ rfl,h 52 _ rfl,h 53 _ rfl,h 54 _ rfl⟩
 | 5=>exact ⟨h 55 _ rfl,h 56 _ rfl,h 57 _ rfl,h 58 _ rfl,h 59 _ rfl,h 60 _ rfl,h 61 _ rfl,h 62 _ rfl,h 63 _ rfl⟩
 | n+6=>omega
theorem XAt.cp (h:XAt w q tn x M):CpAt w q.E x.cp:=by
 obtain ⟨a,b,d⟩:=cells_cp (o:=0) x (fun k v hv=>by rw [Nat.zero_add];exact h.c hv)
 simp only [Nat.zero_add] at a b d
 exact ⟨a,b,d,h.ok.cp⟩
theorem TAt.setR (h:TAt w T E n) (v:Int):TAt (w.setCell ⟨T,5,none⟩ (.int .u32 v)) T E (n.setR 4 v):=heap_setCell_at h _
theorem TAt.setIp (h:TAt w T E n) (v:Int):TAt (w.setCell ⟨T,9,none⟩ (.int .u32 v)) T E { n with ip:=v }:=heap_setCell_at h _
theorem TAt.setFl (h:TAt w T E n) (v:Int):TAt (w.setCell ⟨T,10,none⟩ (.int .u32 v)) T E { n with fl:=v }:=heap_setCell_at h _
theorem TAt.setSh (h:TAt w T E n) (v:Bool):TAt (w.setCell ⟨T,81,none⟩ (.bool v)) T E { n with sh:=v }:=heap_setCell_at h _
theorem TAt.setHa (h:TAt w T E n) (v:Bool):TAt (w.setCell ⟨T,82,none⟩ (.bool v)) T E { n with ha:=v }:=heap_setCell_at h _
end
theorem heap_nine {w:World} {T:Nat} {a:Array Value} {t:TypeId} (h:w.heap[T]?=some (.cells a t (0,0))) (o0 o1 o2 o3 o4 o5 o6 o7 o8:Nat) (v0 v1 v2 v3 v4 v5 v6 v7 v8:Value):
  (((((((((w.setCell ⟨T,o0,none⟩ v0).setCell ⟨T,o1,none⟩ v1).setCell ⟨T,o2,none⟩ v2).setCell ⟨T,o3,none⟩ v3).setCell ⟨T,o4,none⟩ v4).setCell ⟨T,o5,none⟩ v5).setCell ⟨T,o6,none⟩ v6).setCell ⟨T,o7,none⟩ v7).setCell ⟨T,o8,none⟩ v8).heap[T]? =
   some (.cells (((((((((a.setIfInBounds o0 v0).setIfInBounds o1 v1).setIfInBounds o2 v2).setIfInBounds o3 v3).setIfInBounds o4 v4).setIfInBounds o5 v5).setIfInBounds o6 v6).setIfInBounds o7 v7).setIfInBounds o8 v8) t (0,0)):=
 heap_setCell_at (heap_setCell_at (heap_setCell_at (heap_setCell_at (heap_setCell_at (heap_setCell_at (heap_setCell_at (heap_setCell_at (heap_setCell_at h _) _) _) _) _) _) _) _) _
def putCs (w:World) (T:Nat) (s:SgR):World:=((((((((w.setCell ⟨T,20,none⟩ (.int .u16 s.sel)).setCell ⟨T,21,none⟩ (.bool s.nl)).setCell ⟨T,22,none⟩ (.int .u32 s.b)).setCell ⟨T,23,none⟩ (.int .u32 s.l)).setCell ⟨T,24,none⟩ (.int .i64 s.t)).setCell ⟨T,25,none⟩ (.bool s.s)).setCell ⟨T,26,none⟩ (.int .i64 s.d)).setCell ⟨T,27,none⟩ (.bool s.p)).setCell ⟨T,28,none⟩ (.bool s.g)
theorem TAt.setCs {w:World} {T E:Nat} {n:Cu} (h:TAt w T E n) (s:SgR):TAt (putCs w T s) T E (n.setS 1 s):=by
 have e:(((((((((ptr E::n.list).toArray.setIfInBounds 20 (.int .u16 s.sel)).setIfInBounds 21 (.bool s.nl)).setIfInBounds 22 (.int .u32 s.b)).setIfInBounds 23 (.int .u32 s.l)).setIfInBounds 24 (.int .i64 s.t)).setIfInBounds 25 (.bool s.s)).setIfInBounds 26 (.int .i64 s.d)).setIfInBounds 27 (.bool s.p)).setIfInBounds 28 (.bool s.g)=(ptr E::(n.setS 1 s).list).toArray:=by kernel_rfl
 unfold TAt
 rw [← e]
 exact heap_nine h _ _ _ _ _ _ _ _ _ _ _ _ _ _ _ _ _ _
theorem kp_putCs (w:World) (T:Nat) (s:SgR):Kp (fun j=>j=T) w (putCs w T s):=by
 have k:∀ (W:World) (o:Nat) (v:Value),Kp (fun j=>j=T) W (W.setCell ⟨T,o,none⟩ v):=fun W o v=>Kp.setCell (S:=fun j=>j=T) W (p:=⟨T,o,none⟩) rfl v
 exact (((((((((k _ _ _).trans (k _ _ _)).trans (k _ _ _)).trans (k _ _ _)).trans (k _ _ _)).trans (k _ _ _)).trans (k _ _ _)).trans (k _ _ _)).trans (k _ _ _))
def putSs (w:World) (T:Nat) (s:SgR):World:=((((((((w.setCell ⟨T,29,none⟩ (.int .u16 s.sel)).setCell ⟨T,30,none⟩ (.bool s.nl)).setCell ⟨T,31,none⟩ (.int .u32 s.b)).setCell ⟨T,32,none⟩ (.int .u32 s.l)).setCell ⟨T,33,none⟩ (.int .i64 s.t)).setCell ⟨T,34,none⟩ (.bool s.s)).setCell ⟨T,35,none⟩ (.int .i64 s.d)).setCell ⟨T,36,none⟩ (.bool s.p)).setCell ⟨T,37,none⟩ (.bool s.g)
theorem TAt.setSs {w:World} {T E:Nat} {n:Cu} (h:TAt w T E n) (s:SgR):TAt (putSs w T s) T E (n.setS 2 s):=by
 have e:(((((((((ptr E::n.list).toArray.setIfInBounds 29 (.int .u16 s.sel)).setIfInBounds 30 (.bool s.nl)).setIfInBounds 31 (.int .u32 s.b)).setIfInBounds 32 (.int .u32 s.l)).setIfInBounds 33 (.int .i64 s.t)).setIfInBounds 34 (.bool s.s)).setIfInBounds 35 (.int .i64 s.d)).setIfInBounds 36 (.bool s.p)).setIfInBounds 37 (.bool s.g)=(ptr E::(n.setS 2 s).list).toArray:=by kernel_rfl
 unfold TAt
 rw [← e]
 exact heap_nine h _ _ _ _ _ _ _ _ _ _ _ _ _ _ _ _ _ _
theorem kp_putSs (w:World) (T:Nat) (s:SgR):Kp (fun j=>j=T) w (putSs w T s):=by
 have k:∀ (W:World) (o:Nat) (v:Value),Kp (fun j=>j=T) W (W.setCell ⟨T,o,none⟩ v):=fun W o v=>Kp.setCell (S:=fun j=>j=T) W (p:=⟨T,o,none⟩) rfl v
 exact (((((((((k _ _ _).trans (k _ _ _)).trans (k _ _ _)).trans (k _ _ _)).trans (k _ _ _)).trans (k _ _ _)).trans (k _ _ _)).trans (k _ _ _)).trans (k _ _ _))
def putEs (w:World) (T:Nat) (s:SgR):World:=((((((((w.setCell ⟨T,11,none⟩ (.int .u16 s.sel)).setCell ⟨T,12,none⟩ (.bool s.nl)).setCell ⟨T,13,none⟩ (.int .u32 s.b)).setCell ⟨T,14,none⟩ (.int .u32 s.l)).setCell ⟨T,15,none⟩ (.int .i64 s.t)).setCell ⟨T,16,none⟩ (.bool s.s)).setCell ⟨T,17,none⟩ (.int .i64 s.d)).setCell ⟨T,18,none⟩ (.bool s.p)).setCell ⟨T,19,none⟩ (.bool s.g)
theorem TAt.setEs {w:World} {T E:Nat} {n:Cu} (h:TAt w T E n) (s:SgR):TAt (putEs w T s) T E (n.setS 0 s):=by
 have e:(((((((((ptr E::n.list).toArray.setIfInBounds 11 (.int .u16 s.sel)).setIfInBounds 12 (.bool s.nl)).setIfInBounds 13 (.int .u32 s.b)).setIfInBounds 14 (.int .u32 s.l)).setIfInBounds 15 (.int .i64 s.t)).setIfInBounds 16 (.bool s.s)).setIfInBounds 17 (.int .i64 s.d)).setIfInBounds 18 (.bool s.p)).setIfInBounds 19 (.bool s.g)=(ptr E::(n.setS 0 s).list).toArray:=by kernel_rfl
 unfold TAt
 rw [← e]
 exact heap_nine h _ _ _ _ _ _ _ _ _ _ _ _ _ _ _ _ _ _
theorem kp_putEs (w:World) (T:Nat) (s:SgR):Kp (fun j=>j=T) w (putEs w T s):=by
 have k:∀ (W:World) (o:Nat) (v:Value),Kp (fun j=>j=T) W (W.setCell ⟨T,o,none⟩ v):=fun W o v=>Kp.setCell (S:=fun j=>j=T) W (p:=⟨T,o,none⟩) rfl v
 exact (((((((((k _ _ _).trans (k _ _ _)).trans (k _ _ _)).trans (k _ _ _)).trans (k _ _ _)).trans (k _ _ _)).trans (k _ _ _)).trans (k _ _ _)).trans (k _ _ _))
def putDs (w:World) (T:Nat) (s:SgR):World:=((((((((w.setCell ⟨T,38,none⟩ (.int .u16 s.sel)).setCell ⟨T,39,none⟩ (.bool s.nl)).setCell ⟨T,40,none⟩ (.int .u32 s.b)).setCell ⟨T,41,none⟩ (.int .u32 s.l)).setCell ⟨T,42,none⟩ (.int .i64 s.t)).setCell ⟨T,43,none⟩ (.bool s.s)).setCell ⟨T,44,none⟩ (.int .i64 s.d)).setCell ⟨T,45,none⟩ (.bool s.p)).setCell ⟨T,46,none⟩ (.bool s.g)
theorem TAt.setDs {w:World} {T E:Nat} {n:Cu} (h:TAt w T E n) (s:SgR):TAt (putDs w T s) T E (n.setS 3 s):=by
 have e:(((((((((ptr E::n.list).toArray.setIfInBounds 38 (.int .u16 s.sel)).setIfInBounds 39 (.bool s.nl)).setIfInBounds 40 (.int .u32 s.b)).setIfInBounds 41 (.int .u32 s.l)).setIfInBounds 42 (.int .i64 s.t)).setIfInBounds 43 (.bool s.s)).setIfInBounds 44 (.int .i64 s.d)).setIfInBounds 45 (.bool s.p)).setIfInBounds 46 (.bool s.g)=(ptr E::(n.setS 3 s).list).toArray:=by kernel_rfl
 unfold TAt
 rw [← e]
 exact heap_nine h _ _ _ _ _ _ _ _ _ _ _ _ _ _ _ _ _ _
theorem kp_putDs (w:World) (T:Nat) (s:SgR):Kp (fun j=>j=T) w (putDs w T s):=by
 have k:∀ (W:World) (o:Nat) (v:Value),Kp (fun j=>j=T) W (W.setCell ⟨T,o,none⟩ v):=fun W o v=>Kp.setCell (S:=fun j=>j=T) W (p:=⟨T,o,none⟩) rfl v
 exact (((((((((k _ _ _).trans (k _ _ _)).trans (k _ _ _)).trans (k _ _ _)).trans (k _ _ _)).trans (k _ _ _)).trans (k _ _ _)).trans (k _ _ _)).trans (k _ _ _))
def putFs (w:World) (T:Nat) (s:SgR):World:=((((((((w.setCell ⟨T,47,none⟩ (.int .u16 s.sel)).setCell ⟨T,48,none⟩ (.bool s.nl)).setCell ⟨T,49,none⟩ (.int .u32 s.b)).setCell ⟨T,50,none⟩ (.int .u32 s.l)).setCell ⟨T,51,none⟩ (.int .i64 s.t)).setCell ⟨T,52,none⟩ (.bool s.s)).setCell ⟨T,53,none⟩ (.int .i64 s.d)).setCell ⟨T,54,none⟩ (.bool s.p)).setCell ⟨T,55,none⟩ (.bool s.g)
theorem TAt.setFs {w:World} {T E:Nat} {n:Cu} (h:TAt w T E n) (s:SgR):TAt (putFs w T s) T E (n.setS 4 s):=by
 have e:(((((((((ptr E::n.list).toArray.setIfInBounds 47 (.int .u16 s.sel)).setIfInBounds 48 (.bool s.nl)).setIfInBounds 49 (.int .u32 s.b)).setIfInBounds 50 (.int .u32 s.l)).setIfInBounds 51 (.int .i64 s.t)).setIfInBounds 52 (.bool s.s)).setIfInBounds 53 (.int .i64 s.d)).setIfInBounds 54 (.bool s.p)).setIfInBounds 55 (.bool s.g)=(ptr E::(n.setS 4 s).list).toArray:=by kernel_rfl
 unfold TAt
 rw [← e]
 exact heap_nine h _ _ _ _ _ _ _ _ _ _ _ _ _ _ _ _ _ _
theorem kp_putFs (w:World) (T:Nat) (s:SgR):Kp (fun j=>j=T) w (putFs w T s):=by
 have k:∀ (W:World) (o:Nat) (v:Value),Kp (fun j=>j=T) W (W.setCell ⟨T,o,none⟩ v):=fun W o v=>Kp.setCell (S:=fun j=>j=T) W (p:=⟨T,o,none⟩) rfl v
 exact (((((((((k _ _ _).trans (k _ _ _)).trans (k _ _ _)).trans (k _ _ _)).trans (k _ _ _)).trans (k _ _ _)).trans (k _ _ _)).trans (k _ _ _)).trans (k _ _ _))
def putGs (w:World) (T:Nat) (s:SgR):World:=((((((((w.setCell ⟨T,56,none⟩ (.int .u16 s.sel)).setCell ⟨T,57,none⟩ (.bool s.nl)).setCell ⟨T,58,none⟩ (.int .u32 s.b)).setCell ⟨T,59,none⟩ (.int .u32 s.l)).setCell ⟨T,60,none⟩ (.int .i64 s.t)).setCell ⟨T,61,none⟩ (.bool s.s)).setCell ⟨T,62,none⟩ (.int .i64 s.d)).setCell ⟨T,63,none⟩ (.bool s.p)).setCell ⟨T,64,none⟩ (.bool s.g)
theorem TAt.setGs {w:World} {T E:Nat} {n:Cu} (h:TAt w T E n) (s:SgR):TAt (putGs w T s) T E (n.setS 5 s):=by
 have e:(((((((((ptr E::n.list).toArray.setIfInBounds 56 (.int .u16 s.sel)).setIfInBounds 57 (.bool s.nl)).setIfInBounds 58 (.int .u32 s.b)).setIfInBounds 59 (.int .u32 s.l)).setIfInBounds 60 (.int .i64 s.t)).setIfInBounds 61 (.bool s.s)).setIfInBounds 62 (.int .i64 s.d)).setIfInBounds 63 (.bool s.p)).setIfInBounds 64 (.bool s.g)=(ptr E::(n.setS 5 s).list).toArray:=by kernel_rfl
 unfold TAt
 rw [← e]
 exact heap_nine h _ _ _ _ _ _ _ _ _ _ _ _ _ _ _ _ _ _
theorem kp_putGs (w:World) (T:Nat) (s:SgR):Kp (fun j=>j=T) w (putGs w T s):=by
 have k:∀ (W:World) (o:Nat) (v:Value),Kp (fun j=>j=T) W (W.setCell ⟨T,o,none⟩ v):=fun W o v=>Kp.setCell (S:=fun j=>j=T) W (p:=⟨T,o,none⟩) rfl v
 exact (((((((((k _ _ _).trans (k _ _ _)).trans (k _ _ _)).trans (k _ _ _)).trans (k _ _ _)).trans (k _ _ _)).trans (k _ _ _)).trans (k _ _ _)).trans (k _ _ _))
theorem told_any (w:World) (f:Ft):Calls Tryz.prog 273 #[.iface 44 f.val] w fun e w'=>e=.returned f.val∧Kp noB w w':=by
 unfold Ft.val
 have hta:∀ (x:Value) (w:World),(Instr.typeAssert (.iface 44 x) 20 44 true).run Tryz.prog w=.ok (.tuple #[x,.bool true]) w:=fun _ _=>by kernel_rfl
 go_enter Tryz.func273,Tryz.ntmps273
 go_wp2
 refine bodyPost_ret (v:=.agg #[.int .i64 f.vec,.int .i64 f.code,.int .u32 f.cr2]) (by simp [results,Tryz.results273,go_sem]) rfl ⟨rfl,?_⟩
 exact (Kp.alloc noB w _).trans (Kp.alloc noB _ _)
theorem xcatch_pan (X:Nat) (g f:Ft) (older:List PanicEntry) (w:World) (h:RowT w X g):
  CallsD Tryz.prog 272 #[.pointer (some ⟨X,0,none⟩)] (.panicking ({ v:=.iface 44 f.val,recovered:=false }::older)) w fun e u' w'=>
   e=.returned (.tuple #[])∧u'=.panicking ({ v:=.iface 44 f.val,recovered:=true }::older)∧∃ w1,Kp noB w w1∧w'=setFt w1 X f:=by
 have HT:Hid _:=told_any w f
 unfold Ft.val at HT
 unfold setFt
 refine callsD_of_wpS Tryz.func272 rfl fun c₀ cs hu=>?_
 apply wpS_seq
 apply wpS_region
 simp [wpOpsS,go_sem,recoverD,hu,Tryz.ntmps272,Exit.thenS]
 obtain ⟨v,hv⟩:∃ v:Value,v=.agg #[.int .i64 f.vec,.int .i64 f.code,.int .u32 f.cr2]:=⟨_,rfl⟩
 have hv':f.val=v:=hv.symm
 rw [hv']
 change Code.wpS _ _ _ { tmps:=#[.pointer (some ⟨X,0,none⟩),.iface 44 v,.iface 44 v,undef,undef,undef,undef],defers:=[] } _ _
 refine wpS_of_wp ?_
 rw [hv]
 clear hv hv'
 go_wp2_with fail
 refine Calls.mono HT.out ?_;rintro e w1 ⟨rfl,k1⟩
 have r1:=h.kp k1 (fun f=>f)
 have c0:=r1.c0;have c1:=r1.c1;have c2:=r1.c2
 have f0:=r1.fz 0;have f1:=r1.fz 1;have f2:=r1.fz 2
 have HK:Hid (Kp noB w w1):=k1
 clear k1 r1 HT
 go_wp2
 simp [bodyPostS,results,Tryz.results272]
 exact ⟨w1,HK.out,rfl⟩
theorem xcatch_idle (X:Nat) (w:World):
  CallsD Tryz.prog 272 #[.pointer (some ⟨X,0,none⟩)] .returning w fun e u' w'=>e=.returned (.tuple #[])∧u'=.returning∧w'=w:=by
 refine callsD_of_wpS Tryz.func272 rfl fun c₀ cs hu=>?_
 apply wpS_seq
 apply wpS_region
 simp [wpOpsS,go_sem,recoverD,hu,Tryz.ntmps272,Exit.thenS]
 change Code.wpS _ _ _ { tmps:=#[.pointer (some ⟨X,0,none⟩),.nilIface,.nilIface,undef,undef,undef,undef],defers:=[] } _ _
 refine wpS_of_wp ?_
 go_wp2
 cases c₀
 simp_all [bodyPostS,results,Tryz.results272]
theorem s_and3 {x:Int} (h:U16 x):bits .and .u16 x 3=x%4:=by
 have q:=Nat.and_two_pow_sub_one_eq_mod x.toNat 2
 have e:(3:Int).toNat=2 ^ 2 - 1:=by decide
 rw [u16_and x 3 h.1 h.2 (by decide) (by decide),e,q]
 have:=h.1
 omega
theorem nat_not (n k m:Nat) (hm:65536=2 ^ k*2 ^ m) (hn:n < 65536):n &&& (2 ^ k*(2 ^ m - 1))=n - n%2 ^ k:=by
 rw [Sg.nat_hi,Nat.and_two_pow_sub_one_eq_mod,Nat.mod_eq_of_lt (Nat.div_lt_of_lt_mul (by rw [← hm];exact hn))]
 have:=Nat.div_add_mod n (2 ^ k)
 omega
theorem s_not3 {x:Int} (h:U16 x):bits .andNot .u16 x 3=x - x%4:=by
 have q:=nat_not x.toNat 2 14 (by decide) (by have:=h.2;omega)
 have e:65535 - (3:Int).toNat=2 ^ 2*(2 ^ 14 - 1):=by decide
 rw [u16_andNot x 3 h.1 h.2 (by decide) (by decide),e,q]
 have:=h.1
 omega
theorem s_not7 {x:Int} (h:U16 x):bits .andNot .u16 x 7=x - x%8:=by
 have q:=nat_not x.toNat 3 13 (by decide) (by have:=h.2;omega)
 have e:65535 - (7:Int).toNat=2 ^ 3*(2 ^ 13 - 1):=by decide
 rw [u16_andNot x 7 h.1 h.2 (by decide) (by decide),e,q]
 have:=h.1
 omega
theorem nat_or7 (n:Nat):n ||| 7=n - n%8+7:=by
 have e:n - n%8+7=2 ^ 3*(n / 8)+7:=by omega
 rw [e]
 apply Nat.eq_of_testBit_eq
 intro i
 rw [Nat.testBit_or,Nat.testBit_two_pow_mul_add _ (by decide:7 < 2 ^ 3)]
 have e7:Nat.testBit 7 i=decide (i < 3):=Nat.testBit_two_pow_sub_one (n:=3) (i:=i)
 have ed:n / 8=n / 2 ^ 3:=rfl
 by_cases hi:i < 3
 ·rw [if_pos hi,e7];simp [hi]
 ·rw [if_neg hi,e7,ed,Nat.testBit_div_two_pow]
  have:i - 3+3=i:=by omega
  rw [this];simp [hi]
theorem s_or7 {x:Int} (h:U16 x):bits .or .u16 x 7=x - x%8+7:=by
 rw [u16_or x 7 h.1 h.2 (by decide) (by decide),show (7:Int).toNat=7 from rfl,nat_or7]
 have:=h.1
 omega
theorem s_and4 {x:Int} (h:U16 x):(bits .and .u16 x 4 != 0)=decide (x / 4%2=1):=by
 have e:(4:Int).toNat=2 ^ 2*(2 ^ 1 - 1):=by decide
 rw [u16_and x 4 h.1 h.2 (by decide) (by decide),e,Sg.nat_hi,Nat.and_two_pow_sub_one_eq_mod]
 have:=h.1
 rw [Bool.eq_iff_iff,bne_iff_ne,decide_eq_true_iff]
 omega
theorem s_or {x r:Int} (h:U16 x) (hr:0≤r∧r < 4):bits .or .u16 (x - x%4) r=x - x%4+r:=by
 have h0:=h.1;have h1:=h.2
 obtain ⟨n,rfl⟩:=Int.eq_ofNat_of_zero_le h0
 obtain ⟨q,rfl⟩:=Int.eq_ofNat_of_zero_le hr.1
 have e:((n:Int) - n%4)=((2 ^ 2*(n / 4):Nat):Int):=by omega
 rw [e,u16_or _ _ (by omega) (by omega) (by omega) (by omega),Int.toNat_natCast,Int.toNat_natCast,Nat.or_comm,Sg.nat_or_at q (n / 4) 2 (by omega)]
 omega
theorem cFault_any (w:World) (v c:Int):Calls Tryz.prog 143 #[.int .i64 v,.int .i64 c] w fun e w'=>e=.returned (.agg #[.int .i64 v,.int .i64 c,.int .u32 0])∧Kp noB w w':=by
 go_enter Tryz.func143,Tryz.ntmps143
 go_wp2
 refine bodyPost_ret (v:=.agg #[.int .i64 v,.int .i64 c,.int .u32 0]) (by simp [results,Tryz.results143,go_sem]) rfl ⟨rfl,?_⟩
 exact Kp.alloc noB w _
theorem cProt_any (w:World):Calls Tryz.prog 68 #[] w fun e w'=>e=.returned (.agg #[.int .i64 13,.int .i64 0,.int .u32 0])∧Kp noB w w':=by
 obtain ⟨W0,hW0⟩:∃ W,W=w.alloc (.cells #[.int .i64 0,.int .i64 0,.int .u32 0] 44):=⟨_,rfl⟩
 obtain ⟨X,hX⟩:∃ X,w.heap.size=X:=⟨_,rfl⟩
 have k0:Kp noB w W0:=by rw [hW0];exact Kp.alloc _ _ _
 have rX:RowT W0 X ⟨0,0,0⟩:=by rw [hW0,← hX];exact (MapKept.heap_alloc w _).1
 go_enter Tryz.func68,Tryz.ntmps68
 go_wp2_with fail
 rw [← hW0]
 refine (cFault_any _ _ _).mono ?_;rintro e w2 ⟨rfl,k2⟩
 have r2:=rX.kp k2 (fun f=>f)
 have f0:=r2.fz 0;have f1:=r2.fz 1;have f2:=r2.fz 2
 have c0:=r2.c0;have c1:=r2.c1;have c2:=r2.c2
 have r3:=r2.set ⟨13,0,0⟩
 have k3:Kp noB w (setFt w2 X ⟨13,0,0⟩):=((((k0.trans k2).own' (i:=0) (by omega) _).own' (i:=1) (by omega) _).own' (i:=2) (by omega) _)
 have d0:=r3.c0;have d1:=r3.c1;have d2:=r3.c2
 unfold setFt at d0 d1 d2 k3
 simp only at d0 d1 d2 k3
 clear r2 r3 rX k0 k2 hW0
 go_wp2
 refine bodyPost_ret (v:=.agg #[.int .i64 13,.int .i64 0,.int .u32 0]) (by simp [results,Tryz.results68,go_sem,d0,d1,d2]) rfl ⟨rfl,k3⟩
theorem cDbl_any (w:World):Calls Tryz.prog 84 #[] w fun e w'=>e=.returned (.agg #[.int .i64 8,.int .i64 0,.int .u32 0])∧Kp noB w w':=by
 obtain ⟨W0,hW0⟩:∃ W,W=w.alloc (.cells #[.int .i64 0,.int .i64 0,.int .u32 0] 44):=⟨_,rfl⟩
 obtain ⟨X,hX⟩:∃ X,w.heap.size=X:=⟨_,rfl⟩
 have k0:Kp noB w W0:=by rw [hW0];exact Kp.alloc _ _ _
 have rX:RowT W0 X ⟨0,0,0⟩:=by rw [hW0,← hX];exact (MapKept.heap_alloc w _).1
 go_enter Tryz.func84,Tryz.ntmps84
 go_wp2_with fail
 rw [← hW0]
 refine (cFault_any _ _ _).mono ?_;rintro e w2 ⟨rfl,k2⟩
 have r2:=rX.kp k2 (fun f=>f)
 have f0:=r2.fz 0;have f1:=r2.fz 1;have f2:=r2.fz 2
 have c0:=r2.c0;have c1:=r2.c1;have c2:=r2.c2
 have r3:=r2.set ⟨8,0,0⟩
 have k3:Kp noB w (setFt w2 X ⟨8,0,0⟩):=((((k0.trans k2).own' (i:=0) (by omega) _).own' (i:=1) (by omega) _).own' (i:=2) (by omega) _)
 have d0:=r3.c0;have d1:=r3.c1;have d2:=r3.c2
 unfold setFt at d0 d1 d2 k3
 simp only at d0 d1 d2 k3
 clear r2 r3 rX k0 k2 hW0
 go_wp2
 refine bodyPost_ret (v:=.agg #[.int .i64 8,.int .i64 0,.int .u32 0]) (by simp [results,Tryz.results84,go_sem,d0,d1,d2]) rfl ⟨rfl,k3⟩
theorem cLacks_no (w:World) (E V B:Nat) (cs:Array Value) (h:EAt w E cs (.pointer (some ⟨V,0,none⟩)) (.pointer (some ⟨B,0,none⟩))):Calls Tryz.prog 32 #[.pointer (some ⟨E,0,none⟩)] w fun e w'=>e=.returned (.bool false)∧w'=w:=by
 have a:=h.mp
 have b:=h.bp
 go_enter Tryz.func32,Tryz.ntmps32
 go_wp2
 go_ret
 exact ⟨rfl,rfl⟩
theorem cLacks_nil (w:World):Calls Tryz.prog 32 #[.pointer none] w fun e w'=>e=.returned (.bool true)∧w'=w:=by
 go_enter Tryz.func32,Tryz.ntmps32
 go_wp2
 go_ret
 exact ⟨rfl,rfl⟩
theorem cLacks_mem (w:World) (E:Nat) (cs:Array Value) (bp:Value) (h:EAt w E cs (.pointer none) bp):Calls Tryz.prog 32 #[.pointer (some ⟨E,0,none⟩)] w fun e w'=>e=.returned (.bool true)∧w'=w:=by
 have a:=h.mp
 go_enter Tryz.func32,Tryz.ntmps32
 go_wp2
 go_ret
 exact ⟨rfl,rfl⟩
theorem cRaise_ok (w:World):Calls Tryz.prog 154 #[noFt.val] w fun e w'=>e=.returned (.tuple #[])∧Kp noB w w':=by
 unfold noFt Ft.val
 obtain ⟨X,hX⟩:∃ X,w.heap.size=X:=⟨_,rfl⟩
 obtain ⟨W0,hW0⟩:∃ W,W=w.alloc (.cells #[.int .i64 (-1),.int .i64 (-1),.int .u32 0] 44):=⟨_,rfl⟩
 have k0:Kp noB w W0:=by rw [hW0];exact Kp.alloc _ _ _
 have rX:RowT W0.drew X ⟨(-1),(-1),0⟩:=by rw [hW0,← hX];exact (MapKept.heap_alloc w _).1
 have HS0:Hid (W0.drew.cell? ⟨X,0,none⟩=some (.int .i64 (-1))∧W0.drew.cell? ⟨X,1,none⟩=some (.int .i64 (-1))∧W0.drew.cell? ⟨X,2,none⟩=some (.int .u32 0)):=⟨rX.c0,rX.c1,rX.c2⟩
 have HSK:Hid (∀ W',Kp noB W0.drew W'→W'.cell? ⟨X,0,none⟩=some (.int .i64 (-1))∧W'.cell? ⟨X,1,none⟩=some (.int .i64 (-1))∧W'.cell? ⟨X,2,none⟩=some (.int .u32 0)):=fun W' k=>by have r:=rX.kp k (fun f=>f);exact ⟨r.c0,r.c1,r.c2⟩
 have HN:Hid _:=none_any W0.drew
 go_enter Tryz.func154,Tryz.ntmps154
 go_upto_region 1 with fail
 rw [← hW0]
 clear hW0 rX
 go_region_held3 (fun W=>(W.cell? ⟨X,0,none⟩=some (.int .i64 (-1))∧W.cell? ⟨X,1,none⟩=some (.int .i64 (-1))∧W.cell? ⟨X,2,none⟩=some (.int .u32 0)))
  (first | with_reducible exact HS0.out | with_reducible exact HSK.out _ k2)
  (first | (go_at_call 69;refine Calls.mono HN.out ?_;rintro e w2 ⟨rfl,k2⟩))
 have k3:Kp noB w w2:=k0.trans ⟨k2.os,k2.tape,k2.output,k2.size,k2.block⟩
 clear HSK HS0 HN k2 k0
 go_wp2
 go_end0
 exact ⟨rfl,k3⟩
theorem cRaise_no (w:World) (f:Ft) (hf:f.vec≠-1):Calls Tryz.prog 154 #[f.val] w fun e w'=>e=.panicked (pan f)∧Kp noB w w':=by
 obtain ⟨v,c,r⟩:=f
 have hb:decide (v=-1)=false:=decide_eq_false hf
 unfold pan Ft.val
 simp only
 obtain ⟨X,hX⟩:∃ X,w.heap.size=X:=⟨_,rfl⟩
 obtain ⟨W0,hW0⟩:∃ W,W=w.alloc (.cells #[.int .i64 v,.int .i64 c,.int .u32 r] 44):=⟨_,rfl⟩
 have k0:Kp noB w W0:=by rw [hW0];exact Kp.alloc _ _ _
 have rX:RowT W0.drew X ⟨v,c,r⟩:=by rw [hW0,← hX];exact (MapKept.heap_alloc w _).1
 have HS0:Hid (W0.drew.cell? ⟨X,0,none⟩=some (.int .i64 v)∧W0.drew.cell? ⟨X,1,none⟩=some (.int .i64 c)∧W0.drew.cell? ⟨X,2,none⟩=some (.int .u32 r)):=⟨rX.c0,rX.c1,rX.c2⟩
 have HSK:Hid (∀ W',Kp noB W0.drew W'→W'.cell? ⟨X,0,none⟩=some (.int .i64 v)∧W'.cell? ⟨X,1,none⟩=some (.int .i64 c)∧W'.cell? ⟨X,2,none⟩=some (.int .u32 r)):=fun W' k=>by have r:=rX.kp k (fun f=>f);exact ⟨r.c0,r.c1,r.c2⟩
 have HN:Hid _:=none_any W0.drew
 go_enter Tryz.func154,Tryz.ntmps154
 go_upto_region 1 with fail
 rw [← hW0]
 clear hW0 rX
 go_region_held3 (fun W=>(W.cell? ⟨X,0,none⟩=some (.int .i64 v)∧W.cell? ⟨X,1,none⟩=some (.int .i64 c)∧W.cell? ⟨X,2,none⟩=some (.int .u32 r)))
  (first | with_reducible exact HS0.out | with_reducible exact HSK.out _ k2)
  (first | (go_at_call 69;refine Calls.mono HN.out ?_;rintro e w2 ⟨rfl,k2⟩))
 have k3:Kp noB w w2:=k0.trans ⟨k2.os,k2.tape,k2.output,k2.size,k2.block⟩
 obtain ⟨z0,z1,z2⟩:=HSK.out _ k2
 clear HSK HS0 HN k2 k0
 go_wp2
 exact ⟨rfl,rfl,k3⟩
theorem cCode_any (x:Int) (w:World) (h:U16 x):Calls Tryz.prog 145 #[.int .u16 x] w fun e w'=>e=.returned (.int .i64 (cdO x))∧w'=w:=by
 have q:=s_not3 h
 have h0:=h.1;have h1:=h.2
 have ew:IntKind.i64.wrap (x - x%4)=x - x%4:=by have:=IntKind.wrap_i64 (x - x%4);omega
 go_enter Tryz.func145,Tryz.ntmps145
 go_wp2
 go_ret
 exact ⟨rfl,rfl⟩
theorem cRing_any (x:Int) (w:World) (h:U16 x):Calls Tryz.prog 88 #[.int .u16 x] w fun e w'=>e=.returned (.int .i64 (x%4))∧w'=w:=by
 have q:=s_and3 h
 go_enter Tryz.func88,Tryz.ntmps88
 go_wp2
 go_ret
 exact ⟨rfl,rfl⟩
theorem cNull_any (x:Int) (w:World) (h:U16 x):Calls Tryz.prog 190 #[.int .u16 x] w fun e w'=>e=.returned (.bool (decide (cdO x=0)))∧w'=w:=by
 have HC:Hid _:=cCode_any x w h
 go_enter Tryz.func190,Tryz.ntmps190
 go_wp2_with fail
 refine Calls.mono HC.out ?_;rintro e w' ⟨rfl,hw⟩;replace hw:=hw.symm;subst hw
 go_wp2
 go_ret
 exact ⟨ret_bool (by first | rfl | simp),rfl⟩
theorem cWas_any (w:World) (T E:Nat) (h:w.cell? ⟨T,0,none⟩=some (ptr E)) (hE:E < w.heap.size):Calls Tryz.prog 85 #[.pointer (some ⟨T,0,none⟩)] w fun e w'=>e=.returned (ptr E)∧w'=w:=by
 unfold ptr at *
 go_enter Tryz.func85,Tryz.ntmps85
 go_wp2
 go_ret
 exact ⟨rfl,rfl⟩
theorem cRg_any (w:World) (T E:Nat) (s:Int) (hs:U16 s) (h:w.cell? ⟨T,0,none⟩=some (ptr E)) (h2:w.cell? ⟨E,19,none⟩=some (.int .u16 s)) (hE:E < w.heap.size):Calls Tryz.prog 73 #[.pointer (some ⟨T,0,none⟩)] w fun e w'=>e=.returned (.int .i64 (s%4))∧w'=w:=by
 have HW:Hid _:=cWas_any w T E h hE
 have HR:Hid _:=cRing_any s w hs
 unfold ptr at *
 go_enter Tryz.func73,Tryz.ntmps73
 go_wp2_with fail
 refine Calls.mono HW.out ?_;rintro e w' ⟨rfl,hw⟩;replace hw:=hw.symm;subst hw
 go_wp2_with fail
 refine Calls.mono HR.out ?_;rintro e w' ⟨rfl,hw⟩;replace hw:=hw.symm;subst hw
 go_wp2
 go_ret
 exact ⟨rfl,rfl⟩
theorem xFault_any (w:World) (v c:Int):Calls Tryz.prog 271 #[.int .i64 v,.int .i64 c] w fun e w'=>e=.returned (.agg #[.int .i64 v,.int .i64 c,.int .u32 0])∧Kp noB w w':=by
 go_enter Tryz.func271,Tryz.ntmps271
 go_wp2
 refine bodyPost_ret (v:=.agg #[.int .i64 v,.int .i64 c,.int .u32 0]) (by simp [results,Tryz.results271,go_sem]) rfl ⟨rfl,?_⟩
 exact Kp.alloc noB w _
theorem xLacks_no (w:World) (E V B:Nat) (cs:Array Value) (h:EAt w E cs (.pointer (some ⟨V,0,none⟩)) (.pointer (some ⟨B,0,none⟩))):Calls Tryz.prog 231 #[.pointer (some ⟨E,0,none⟩)] w fun e w'=>e=.returned (.bool false)∧w'=w:=by
 have a:=h.mp
 have b:=h.bp
 go_enter Tryz.func231,Tryz.ntmps231
 go_wp2
 go_ret
 exact ⟨rfl,rfl⟩
theorem xRaise_ok (w:World):Calls Tryz.prog 275 #[noFt.val] w fun e w'=>e=.returned (.tuple #[])∧Kp noB w w':=by
 unfold noFt Ft.val
 obtain ⟨X,hX⟩:∃ X,w.heap.size=X:=⟨_,rfl⟩
 obtain ⟨W0,hW0⟩:∃ W,W=w.alloc (.cells #[.int .i64 (-1),.int .i64 (-1),.int .u32 0] 44):=⟨_,rfl⟩
 have k0:Kp noB w W0:=by rw [hW0];exact Kp.alloc _ _ _
 have rX:RowT W0.drew X ⟨(-1),(-1),0⟩:=by rw [hW0,← hX];exact (MapKept.heap_alloc w _).1
 have HS0:Hid (W0.drew.cell? ⟨X,0,none⟩=some (.int .i64 (-1))∧W0.drew.cell? ⟨X,1,none⟩=some (.int .i64 (-1))∧W0.drew.cell? ⟨X,2,none⟩=some (.int .u32 0)):=⟨rX.c0,rX.c1,rX.c2⟩
 have HSK:Hid (∀ W',Kp noB W0.drew W'→W'.cell? ⟨X,0,none⟩=some (.int .i64 (-1))∧W'.cell? ⟨X,1,none⟩=some (.int .i64 (-1))∧W'.cell? ⟨X,2,none⟩=some (.int .u32 0)):=fun W' k=>by have r:=rX.kp k (fun f=>f);exact ⟨r.c0,r.c1,r.c2⟩
 have HN:Hid _:=none_any W0.drew
 go_enter Tryz.func275,Tryz.ntmps275
 go_upto_region 1 with fail
 rw [← hW0]
 clear hW0 rX
 go_region_held3 (fun W=>(W.cell? ⟨X,0,none⟩=some (.int .i64 (-1))∧W.cell? ⟨X,1,none⟩=some (.int .i64 (-1))∧W.cell? ⟨X,2,none⟩=some (.int .u32 0)))
  (first | with_reducible exact HS0.out | with_reducible exact HSK.out _ k2)
  (first | (go_at_call 69;refine Calls.mono HN.out ?_;rintro e w2 ⟨rfl,k2⟩))
 have k3:Kp noB w w2:=k0.trans ⟨k2.os,k2.tape,k2.output,k2.size,k2.block⟩
 clear HSK HS0 HN k2 k0
 go_wp2
 go_end0
 exact ⟨rfl,k3⟩
theorem xRaise_no (w:World) (f:Ft) (hf:f.vec≠-1):Calls Tryz.prog 275 #[f.val] w fun e w'=>e=.panicked (pan f)∧Kp noB w w':=by
 obtain ⟨v,c,r⟩:=f
 have hb:decide (v=-1)=false:=decide_eq_false hf
 unfold pan Ft.val
 simp only
 obtain ⟨X,hX⟩:∃ X,w.heap.size=X:=⟨_,rfl⟩
 obtain ⟨W0,hW0⟩:∃ W,W=w.alloc (.cells #[.int .i64 v,.int .i64 c,.int .u32 r] 44):=⟨_,rfl⟩
 have k0:Kp noB w W0:=by rw [hW0];exact Kp.alloc _ _ _
 have rX:RowT W0.drew X ⟨v,c,r⟩:=by rw [hW0,← hX];exact (MapKept.heap_alloc w _).1
 have HS0:Hid (W0.drew.cell? ⟨X,0,none⟩=some (.int .i64 v)∧W0.drew.cell? ⟨X,1,none⟩=some (.int .i64 c)∧W0.drew.cell? ⟨X,2,none⟩=some (.int .u32 r)):=⟨rX.c0,rX.c1,rX.c2⟩
 have HSK:Hid (∀ W',Kp noB W0.drew W'→W'.cell? ⟨X,0,none⟩=some (.int .i64 v)∧W'.cell? ⟨X,1,none⟩=some (.int .i64 c)∧W'.cell? ⟨X,2,none⟩=some (.int .u32 r)):=fun W' k=>by have r:=rX.kp k (fun f=>f);exact ⟨r.c0,r.c1,r.c2⟩
 have HN:Hid _:=none_any W0.drew
 go_enter Tryz.func275,Tryz.ntmps275
 go_upto_region 1 with fail
 rw [← hW0]
 clear hW0 rX
 go_region_held3 (fun W=>(W.cell? ⟨X,0,none⟩=some (.int .i64 v)∧W.cell? ⟨X,1,none⟩=some (.int .i64 c)∧W.cell? ⟨X,2,none⟩=some (.int .u32 r)))
  (first | with_reducible exact HS0.out | with_reducible exact HSK.out _ k2)
  (first | (go_at_call 69;refine Calls.mono HN.out ?_;rintro e w2 ⟨rfl,k2⟩))
 have k3:Kp noB w w2:=k0.trans ⟨k2.os,k2.tape,k2.output,k2.size,k2.block⟩
 obtain ⟨z0,z1,z2⟩:=HSK.out _ k2
 clear HSK HS0 HN k2 k0
 go_wp2
 exact ⟨rfl,rfl,k3⟩
theorem xCode_any (x:Int) (w:World) (h:U16 x):Calls Tryz.prog 274 #[.int .u16 x] w fun e w'=>e=.returned (.int .i64 (cdO x))∧w'=w:=by
 have q:=s_not3 h
 have h0:=h.1;have h1:=h.2
 have ew:IntKind.i64.wrap (x - x%4)=x - x%4:=by have:=IntKind.wrap_i64 (x - x%4);omega
 go_enter Tryz.func274,Tryz.ntmps274
 go_wp2
 go_ret
 exact ⟨rfl,rfl⟩
theorem need_ok (w:World) (V B C:Nat) (h:w.cell? ⟨V,0,none⟩=some (.pointer (some ⟨B+3,0,none⟩))):Calls Tryz.prog 245 #[.pointer (some ⟨V,0,none⟩),.pointer (some ⟨C,0,none⟩)] w fun e w'=>e=.returned (.tuple #[])∧w'=w:=by
 go_enter Tryz.func245,Tryz.ntmps245
 go_wp2_with (go_at_call 19;refine (vRam_ok _ V B 0 h).mono ?_;rintro e w' ⟨rfl,hw⟩;replace hw:=hw.symm;subst hw)
 go_end0
 exact ⟨rfl,rfl⟩
theorem spAt_any (w:World) (s:Sp) (hs:s.Ok) (j:Nat) (hj:j < s.n):Calls Tryz.prog 244 #[s.val,.int .i64 j] w fun e w'=>e=.returned (.int .u32 (s.at j))∧Kp noB w w':=by
 obtain ⟨a,b,h,n⟩:=s
 have a0:=hs.a0;have a1:=hs.a1;have b0:=hs.b0;have b1:=hs.b1
 have hn:=hs.h1
 have hn4:n≤4:=by rcases hs.n1 with e | e | e<;>simp only at e<;>omega
 simp only at a0 a1 b0 b1 hn hj
 clear hs
 unfold Sp.val Sp.at
 simp only
 by_cases hlt:j < h
 ·rw [if_pos hlt]
  have hi:(j:Int) < h:=by omega
  have ew:IntKind.u32.wrap (j:Int)=j:=by have:=IntKind.wrap_u32 (j:Int);omega
  go_enter Tryz.func244,Tryz.ntmps244
  go_wp2
  go_ret
  exact ⟨ret_int (by omega),Kp.alloc noB w _⟩
 ·rw [if_neg hlt]
  have hi:¬ (j:Int) < h:=by omega
  have ew:IntKind.i64.wrap ((j:Int) - h)=(j:Int) - h:=by have:=IntKind.wrap_i64 ((j:Int) - h);omega
  go_enter Tryz.func244,Tryz.ntmps244
  go_wp2
  go_ret
  exact ⟨ret_int (by omega),Kp.alloc noB w _⟩
def VmP (w:World) (V K B pl tn:Nat) (M:Mem) (n:Nat) (w':World):Prop:=(∃ tn',tn'≤tn+n∧VmAt w' V K B pl tn' M)∧Kp (modVm K B M.n) w w'
theorem VmAt.to {w w':World} {V K B pl tn:Nat} {M M':Mem} (h:VmAt w V K B pl tn M) (k:Kp (modVm K B M.n) w w') {tn':Nat} {D:DataW Unit} (t:TlbD w' K B pl tn' D) (r:RamAt w' B M') (hn:M'.n=M.n) (hc:M'.closed=M.closed):VmAt w' V K B pl tn' M' where
 c:=(k.block V h.lt h.apV).trans h.c
 tl:=⟨D,t⟩
 ram:=r
 cl:=hc.trans h.cl
 apT:=by rw [hn];exact h.apT
 apV:=by rw [hn];exact h.apV
end Go.Proofs.YtacgmoikegcopaaGreatDoor.Rm
