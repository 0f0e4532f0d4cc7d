/- The bus and its devices: PtWrt, PtNew, IdDisk, BsBase, RcBase, PcAwake, RcLeaf, RcTake, PcMask. -/
import Derived.Test.YtacgmoikegcopaaGreatDoorEc25
import Derived.Test.YtacgmoikegcopaaGreatDoorEc26
import Derived.Test.YtacgmoikegcopaaGreatDoorEc24
import Derived.Test.YtacgmoikegcopaaGreatDoorEc20
import Derived.Laws.CopyRow
import Derived.Deep.MidRow
import Derived.LoopTactic
namespace Go.Proofs.YtacgmoikegcopaaGreatDoor.Pt
open Go.ChangeShapes Go.WideShapes Go.ChangeAt Go.RowKit
set_option linter.unusedVariables false
set_option maxRecDepth 20000
section
variable {w:World} {B o:Nat} {f:Nat→Cn} {i:Nat} {c:Cn}
theorem row10 (h:CAt w B o f i c) (c':Cn) (W:World) (hW:W=((((((((((w.setCell ⟨B,o,none⟩ (.int .u8 c'.mode)).setCell ⟨B,o+1,none⟩ (.int .u8 c'.how)).setCell ⟨B,o+2,none⟩ (.int .u16 c'.len)).setCell ⟨B,o+3,none⟩ (.int .u64 c'.began)).setCell ⟨B,o+4,none⟩ (.bool c'.st)).setCell ⟨B,o+5,none⟩ (.int .u8 c'.fst)).setCell ⟨B,o+6,none⟩ (.bool c'.wants)).setCell ⟨B,o+7,none⟩ (.bool c'.upper)).setCell ⟨B,o+8,none⟩ (.int .u16 c'.held)).setCell ⟨B,o+9,none⟩ (.bool c'.holds))):CAt W B o f i c'∧Kp (isB B) w W:=by
 subst hW
 refine ⟨(((((((((h.set0 _ ⟨c'.mode,c.how,c.len,c.began,c.st,c.fst,c.wants,c.upper,c.held,c.holds⟩ rfl).set (k:=1) (by decide) _ ⟨c'.mode,c'.how,c.len,c.began,c.st,c.fst,c.wants,c.upper,c.held,c.holds⟩ rfl).set (k:=2) (by decide) _ ⟨c'.mode,c'.how,c'.len,c.began,c.st,c.fst,c.wants,c.upper,c.held,c.holds⟩ rfl).set (k:=3) (by decide) _ ⟨c'.mode,c'.how,c'.len,c'.began,c.st,c.fst,c.wants,c.upper,c.held,c.holds⟩ rfl).set (k:=4) (by decide) _ ⟨c'.mode,c'.how,c'.len,c'.began,c'.st,c.fst,c.wants,c.upper,c.held,c.holds⟩ rfl).set (k:=5) (by decide) _ ⟨c'.mode,c'.how,c'.len,c'.began,c'.st,c'.fst,c.wants,c.upper,c.held,c.holds⟩ rfl).set (k:=6) (by decide) _ ⟨c'.mode,c'.how,c'.len,c'.began,c'.st,c'.fst,c'.wants,c.upper,c.held,c.holds⟩ rfl).set (k:=7) (by decide) _ ⟨c'.mode,c'.how,c'.len,c'.began,c'.st,c'.fst,c'.wants,c'.upper,c.held,c.holds⟩ rfl).set (k:=8) (by decide) _ ⟨c'.mode,c'.how,c'.len,c'.began,c'.st,c'.fst,c'.wants,c'.upper,c'.held,c.holds⟩ rfl).set (k:=9) (by decide) _ c' rfl,?_⟩
 exact (((((((((kpB B w _ _).trans (kpB B _ _ _)).trans (kpB B _ _ _)).trans (kpB B _ _ _)).trans (kpB B _ _ _)).trans (kpB B _ _ _)).trans (kpB B _ _ _)).trans (kpB B _ _ _)).trans (kpB B _ _ _)).trans (kpB B _ _ _)
end
theorem line_any {w:World} {B:Nat} {f:Nat→Cn} (h:PAt w B f) (k:Oks f) (now:Int):Calls Tryz.prog 135 #[.pointer (some ⟨B,0,none⟩),.int .u64 now] w fun e w'=>e=.returned (.bool ((f 0).line now))∧Kp noB w w':=by
 have H:Hid (Calls _ _ #[.pointer (some ⟨B,0,none⟩),.int .u64 now] w _):=line_ok (f:=f) (i:=0) (c:=f 0) ⟨by rw [upd_self];exact h,by decide,rfl⟩ (k 0) now
 go_enter Tryz.func135,Tryz.ntmps135
 go_wp2_with fail
 refine Calls.mono H.out ?_;rintro e w1 ⟨rfl,k1⟩
 go_wp2
 go_ret
 exact ⟨rfl,k1⟩
def z0:Cn:=⟨0,0,0,0,false,0,false,false,0,false⟩
def laid (k:Nat) (j:Nat):Cn:=if j < k then cn0 else z0
theorem laid_upd (k:Nat):upd (laid k) k cn0=laid (k+1):=by
 funext j
 unfold upd laid
 by_cases e:j=k
 ·subst e;simp
 ·rw [if_neg e]
  by_cases g:j < k
  ·rw [if_pos g,if_pos (by omega)]
  ·rw [if_neg g,if_neg (by omega)]
theorem laid_self (k:Nat):laid k k=z0:=by unfold laid;rw [if_neg (by omega)]
def zrow:Array Value:=cnC z0++cnC z0++cnC z0
theorem PAt.new (w:World):PAt (w.alloc (.cells zrow 226)) w.heap.size (laid 0):=by
 refine ⟨zrow,heap_new _ _,rfl,?_⟩
 intro i k hi hk
 have e:laid 0 i=z0:=by unfold laid;rw [if_neg (by omega)]
 rw [e]
 rcases (by omega:i=0∨i=1∨i=2) with rfl | rfl | rfl <;>
  rcases (by omega:k=0∨k=1∨k=2∨k=3∨k=4∨k=5∨k=6∨k=7∨k=8∨k=9) with rfl | rfl | rfl | rfl | rfl | rfl | rfl | rfl | rfl | rfl<;>rfl
theorem PAt.all {w:World} {B:Nat} (h:PAt w B (laid 3)):PAt w B (fun _=>cn0):=by
 obtain ⟨cs,a,b,d⟩:=h.blk
 refine ⟨cs,a,b,fun i k hi hk=>?_⟩
 rw [d i k hi hk]
 unfold laid
 rw [if_pos hi]
set_option maxRecDepth 20000 in
set_option maxHeartbeats 1000000 in
theorem new_ok (w:World):Calls Tryz.prog 58 #[] w fun e w'=>∃ B,e=.returned (.pointer (some ⟨B,0,none⟩))∧w.heap.size≤B∧PAt w' B (fun _=>cn0)∧Kp noB w w':=by
 have h0:Hid (PAt (w.alloc (.cells zrow 226)) w.heap.size (laid 0)):=PAt.new w
 have k0:Hid (Kp noB w (w.alloc (.cells zrow 226))):=Kp.alloc _ _ _
 unfold zrow cnC z0 at h0 k0
 simp only [List.append_toArray,List.cons_append,List.nil_append] at h0 k0
 go_enter Tryz.func58,Tryz.ntmps58
 go_wp2
 obtain ⟨B,hB⟩:∃ B,B=w.heap.size:=⟨_,rfl⟩
 rw [← hB] at h0 ⊢
 generalize w.alloc _=w0 at h0 k0 ⊢
 have lB:w.heap.size≤B:=by omega
 clear hB
 go_loopw [5] (fun s5 wr=>∃ k:Nat,s5=.int .i64 k∧k≤3∧PAt wr B (laid k)∧Kp noB w wr) (fun s5 _=>(3 - intOf s5).toNat)
 case atStart=>exact ⟨0,rfl,by omega,h0.out,k0.out⟩
 case round=>
  clear h0 k0
  obtain ⟨k,rfl,hk,hP,kr⟩:=hrel
  rcases (by omega:k=0∨k=1∨k=2∨k=3) with rfl | rfl | rfl | rfl
  ·have h:=(⟨by rw [← laid_self 0,upd_self];exact hP,by decide,rfl⟩:CAt wr B 0 (laid 0) 0 z0)
   have HR:Hid _:=row10 h cn0
   have c0:=h.c0
   have y0:=h.fz 0
   have c1:=h.c1
   have y1:=h.fz 1
   have c2:=h.c2
   have y2:=h.fz 2
   have c3:=h.c3
   have y3:=h.fz 3
   have c4:=h.c4
   have y4:=h.fz 4
   have c5:=h.c5
   have y5:=h.fz 5
   have c6:=h.c6
   have y6:=h.fz 6
   have c7:=h.c7
   have y7:=h.fz 7
   have c8:=h.c8
   have y8:=h.fz 8
   have c9:=h.c9
   have y9:=h.fz 9
   simp only [Nat.reduceAdd] at c1 c2 c3 c4 c5 c6 c7 c8 c9
   clear h hP
   go_wp2
   go_roundw
   case rel=>
    have r:=HR.out _ rfl
    have hL:upd (laid 0) 0 cn0=laid (0+1):=laid_upd 0
    refine ⟨1,rfl,by omega,hL ▸ r.1.pit,kr.over r.2 (fun j hj e=>by unfold isB at e;omega)⟩
   case measure=>simp [intOf]
  ·have h:=(⟨by rw [← laid_self 1,upd_self];exact hP,by decide,rfl⟩:CAt wr B 10 (laid 1) 1 z0)
   have HR:Hid _:=row10 h cn0
   have c0:=h.c0
   have y0:=h.fz 10
   have c1:=h.c1
   have y1:=h.fz 11
   have c2:=h.c2
   have y2:=h.fz 12
   have c3:=h.c3
   have y3:=h.fz 13
   have c4:=h.c4
   have y4:=h.fz 14
   have c5:=h.c5
   have y5:=h.fz 15
   have c6:=h.c6
   have y6:=h.fz 16
   have c7:=h.c7
   have y7:=h.fz 17
   have c8:=h.c8
   have y8:=h.fz 18
   have c9:=h.c9
   have y9:=h.fz 19
   simp only [Nat.reduceAdd] at c1 c2 c3 c4 c5 c6 c7 c8 c9
   clear h hP
   go_wp2
   go_roundw
   case rel=>
    have r:=HR.out _ rfl
    have hL:upd (laid 1) 1 cn0=laid (1+1):=laid_upd 1
    refine ⟨2,rfl,by omega,hL ▸ r.1.pit,kr.over r.2 (fun j hj e=>by unfold isB at e;omega)⟩
   case measure=>simp [intOf]
  ·have h:=(⟨by rw [← laid_self 2,upd_self];exact hP,by decide,rfl⟩:CAt wr B 20 (laid 2) 2 z0)
   have HR:Hid _:=row10 h cn0
   have c0:=h.c0
   have y0:=h.fz 20
   have c1:=h.c1
   have y1:=h.fz 21
   have c2:=h.c2
   have y2:=h.fz 22
   have c3:=h.c3
   have y3:=h.fz 23
   have c4:=h.c4
   have y4:=h.fz 24
   have c5:=h.c5
   have y5:=h.fz 25
   have c6:=h.c6
   have y6:=h.fz 26
   have c7:=h.c7
   have y7:=h.fz 27
   have c8:=h.c8
   have y8:=h.fz 28
   have c9:=h.c9
   have y9:=h.fz 29
   simp only [Nat.reduceAdd] at c1 c2 c3 c4 c5 c6 c7 c8 c9
   clear h hP
   go_wp2
   go_roundw
   case rel=>
    have r:=HR.out _ rfl
    have hL:upd (laid 2) 2 cn0=laid (2+1):=laid_upd 2
    refine ⟨3,rfl,by omega,hL ▸ r.1.pit,kr.over r.2 (fun j hj e=>by unfold isB at e;omega)⟩
   case measure=>simp [intOf]
  ·go_wp2
   go_ret
   exact ⟨B,rfl,lB,hP.all,kr⟩
end Go.Proofs.YtacgmoikegcopaaGreatDoor.Pt
namespace Go.Proofs.YtacgmoikegcopaaGreatDoor.Dk
open Go.ChangeShapes Go.WideShapes Go.ChangeAt Go.RowKit
set_option linter.unusedVariables false
set_option maxRecDepth 20000
def foldN (s:Int):Int:=if s < 0 then -(s+1) else s
def secN (s:Int):Nat:=(foldN s%5).toNat
theorem secN_lt (s:Int):secN s < 5:=by unfold secN;omega
def dskS (seed:Int) (i:Nat):Int:=(((i:Int) / 512+1)*16+(i:Int)%7+seed)%256
theorem dskS_byt (seed:Int) (i:Nat):byt (dskS seed i):=byt_m
structure RowB (w:World) (g L:Nat) (bt:Nat→Int):Prop where
 ex:∃ cur,w.heap[g]?=some (.cells cur 5 (0,0))∧cur.size=L∧∀ j,j < L→cur[j]?=some (.int .u8 (bt j))
theorem RowB.at {w:World} {g L:Nat} {bt:Nat→Int} (h:RowB w g L bt):BytAt w (some ⟨g,0,none⟩) L bt:=fun j hj=>by
 obtain ⟨cur,h1,h2,h3⟩:=h.ex
 exact ⟨g,0,rfl,heap_lt h1,by rw [cell_at h1,Nat.zero_add];exact h3 j hj⟩
theorem RowB.cell {w:World} {g L:Nat} {bt:Nat→Int} (h:RowB w g L bt) {j:Nat} (hj:j < L):w.cell? ⟨g,j,none⟩=some (.int .u8 (bt j)):=by
 obtain ⟨cur,h1,h2,h3⟩:=h.ex
 rw [cell_at h1]
 exact h3 j hj
theorem RowB.fz {w:World} {g L:Nat} {bt:Nat→Int} (h:RowB w g L bt) (j:Nat):w.frozen? ⟨g,j,none⟩=false:=by
 obtain ⟨cur,h1,h2,h3⟩:=h.ex
 exact frozen_at h1
theorem RowB.set {w:World} {g L:Nat} {bt:Nat→Int} (h:RowB w g L bt) (k:Nat) (x:Int):RowB (w.setCell ⟨g,k,none⟩ (.int .u8 x)) g L (setB bt k x):=by
 obtain ⟨cur,h1,h2,h3⟩:=h.ex
 refine ⟨_,heap_set h1,by rw [Array.size_setIfInBounds];exact h2,fun j hj=>?_⟩
 rw [Array.getElem?_setIfInBounds]
 unfold setB
 by_cases e:k=j
 ·subst e
  rw [if_pos rfl,if_pos (by omega),if_pos rfl]
 ·rw [if_neg e,if_neg (by omega)]
  exact h3 j hj
theorem RowB.of {w:World} {g L:Nat} {bt bt':Nat→Int} (h:RowB w g L bt) (e:∀ j,j < L→bt j=bt' j):RowB w g L bt':=by
 obtain ⟨cur,h1,h2,h3⟩:=h.ex
 exact ⟨cur,h1,h2,fun j hj=>by rw [h3 j hj,e j hj]⟩
theorem made_row (w:World) (n:Nat):RowB (w.alloc (.cells (made8 n) 5)) w.heap.size n (fun _=>0):=
 ⟨_,heap_new _ _,(made8_at n).1,(made8_at n).2⟩
set_option maxHeartbeats 1000000 in
theorem lDisk_any (w:World) (s seed:Int) (s0:-9223372036854775808≤s) (s1:s≤9223372036854775807) (hs:byt seed):Calls Tryz.prog 24 #[.int .i64 s,.int .u8 seed] w fun e w'=>e=.returned (.slice (some ⟨w.heap.size,0,none⟩) (512*secN s) (512*secN s))∧RowB w' w.heap.size (512*secN s) (dskS seed)∧Kp noB w w':=by
 obtain ⟨m,hm⟩:∃ m,m=secN s:=⟨_,rfl⟩
 have m5:=secN_lt s
 rw [← hm] at m5 ⊢
 have hmk:∀ w,_:=fun w=>make8 w (512*m) (by omega)
 have em:((512*m:Nat):Int)=(m:Int)*512:=by omega
 rw [em] at hmk
 have hw:IntKind.i64.wrap ((m:Int)*512)=(m:Int)*512:=by rw [IntKind.wrap_i64];omega
 have r0:Hid (RowB (w.alloc (.cells (made8 (512*m)) 5)) w.heap.size (512*m) (fun _=>0)):=made_row w (512*m)
 have k0:Hid (Kp noB w (w.alloc (.cells (made8 (512*m)) 5))):=Kp.alloc _ _ _
 obtain ⟨h0,h1⟩:=hs
 have hq:foldN s%5=m:=by rw [hm];unfold secN foldN;split<;>omega
 clear hm
 have hw2:wrap64 ((m:Int)*512)=(m:Int)*512:=IntWalk.wrap64_in _ ⟨by omega,by omega⟩
 by_cases neg:s < 0
 ·have hf:-((s+1).tmod 5)=m:=by
   unfold foldN at hq
   rw [if_pos neg] at hq
   rw [← Int.neg_tmod,Int.tmod_eq_emod_of_nonneg (by omega)]
   exact hq
  clear hq
  go_enter Tryz.func24,Tryz.ntmps24
  go_wp2
  generalize w.alloc (.cells (made8 (512*m)) 5)=w0 at r0 k0 ⊢
  clear hmk
  go_loopw [6] (fun s6 wr=>∃ i:Nat,i≤512*m∧s6=.int .i64 i∧RowB wr w.heap.size (512*m) (fun j=>if j < i then dskS seed j else 0)∧Kp noB w wr) (fun s6 _=>512*m - (intOf s6).toNat)
  case atStart=>exact ⟨0,by omega,rfl,r0.out.of (fun j hj=>by rw [if_neg (by omega)]),k0.out⟩
  case round=>
   clear r0 k0
   obtain ⟨i,hi,rfl,hr,kr⟩:=hrel
   by_cases hiL:i < 512*m
   ·have c1:=hr.cell hiL
    have z1:=hr.fz i
    have hlt:(i:Int) < ((512*m:Nat):Int):=by omega
    have H:Hid (RowB (wr.setCell ⟨w.heap.size,i,none⟩ (.int .u8 (dskS seed i))) w.heap.size (512*m) (fun j=>if j < i+1 then dskS seed j else 0)∧Kp noB w (wr.setCell ⟨w.heap.size,i,none⟩ (.int .u8 (dskS seed i)))):=by
     refine ⟨(hr.set i (dskS seed i)).of (fun j hj=>?_),kr.over (kpB w.heap.size _ _ _) (fun j hj (e:j=_)=>by omega)⟩
     unfold setB
     by_cases e:j=i
     ·subst e
      rw [if_pos rfl,if_pos (by omega)]
     ·rw [if_neg e]
      show (if j < i then dskS seed j else 0)=_
      by_cases e2:j < i
      ·rw [if_pos e2,if_pos (by omega)]
      ·rw [if_neg e2,if_neg (by omega)]
    clear hr kr
    go_wp2
    go_roundw
    case rel=>exact ⟨i+1,by omega,by go_num,H.out.1,H.out.2⟩
    case measure=>simp [intOf];omega
   ·have e:i=512*m:=by omega
    subst e
    have H:Hid (RowB wr w.heap.size (512*m) (dskS seed)∧Kp noB w wr):=⟨hr.of (fun j hj=>by rw [if_pos hj]),kr⟩
    clear hr kr
    go_wp2
    go_ret
    exact ⟨rfl,H.out⟩
 ·have hf:s%5=m:=by unfold foldN at hq;rw [if_neg neg] at hq;exact hq
  clear hq
  go_enter Tryz.func24,Tryz.ntmps24
  go_wp2
  generalize w.alloc (.cells (made8 (512*m)) 5)=w0 at r0 k0 ⊢
  clear hmk
  go_loopw [6] (fun s6 wr=>∃ i:Nat,i≤512*m∧s6=.int .i64 i∧RowB wr w.heap.size (512*m) (fun j=>if j < i then dskS seed j else 0)∧Kp noB w wr) (fun s6 _=>512*m - (intOf s6).toNat)
  case atStart=>exact ⟨0,by omega,rfl,r0.out.of (fun j hj=>by rw [if_neg (by omega)]),k0.out⟩
  case round=>
   clear r0 k0
   obtain ⟨i,hi,rfl,hr,kr⟩:=hrel
   by_cases hiL:i < 512*m
   ·have c1:=hr.cell hiL
    have z1:=hr.fz i
    have hlt:(i:Int) < ((512*m:Nat):Int):=by omega
    have H:Hid (RowB (wr.setCell ⟨w.heap.size,i,none⟩ (.int .u8 (dskS seed i))) w.heap.size (512*m) (fun j=>if j < i+1 then dskS seed j else 0)∧Kp noB w (wr.setCell ⟨w.heap.size,i,none⟩ (.int .u8 (dskS seed i)))):=by
     refine ⟨(hr.set i (dskS seed i)).of (fun j hj=>?_),kr.over (kpB w.heap.size _ _ _) (fun j hj (e:j=_)=>by omega)⟩
     unfold setB
     by_cases e:j=i
     ·subst e
      rw [if_pos rfl,if_pos (by omega)]
     ·rw [if_neg e]
      show (if j < i then dskS seed j else 0)=_
      by_cases e2:j < i
      ·rw [if_pos e2,if_pos (by omega)]
      ·rw [if_neg e2,if_neg (by omega)]
    clear hr kr
    go_wp2
    go_roundw
    case rel=>exact ⟨i+1,by omega,by go_num,H.out.1,H.out.2⟩
    case measure=>simp [intOf];omega
   ·have e:i=512*m:=by omega
    subst e
    have H:Hid (RowB wr w.heap.size (512*m) (dskS seed)∧Kp noB w wr):=⟨hr.of (fun j hj=>by rw [if_pos hj]),kr⟩
    clear hr kr
    go_wp2
    go_ret
    exact ⟨rfl,H.out⟩
end Go.Proofs.YtacgmoikegcopaaGreatDoor.Dk
namespace Go.Proofs.YtacgmoikegcopaaGreatDoor.Bs
open Go.ChangeShapes Go.WideShapes Go.ChangeAt Go.RowKit
open Go.Proofs.YtacgmoikegcopaaGreatDoor.Ut (Kp heap_lt heap_kept heap_set heap_new noB isB kpB)
set_option linter.unusedVariables false
set_option maxRecDepth 20000
theorem kPc {S:Nat→Prop} {w w':World} (h:Pc.Kp S w w'):Kp S w w':=⟨h.os,h.tape,h.output,h.size,h.block⟩
theorem kPt {S:Nat→Prop} {w w':World} (h:Pt.Kp S w w'):Kp S w w':=⟨h.os,h.tape,h.output,h.size,h.block⟩
theorem kDk {S:Nat→Prop} {w w':World} (h:Dk.Kp S w w'):Kp S w w':=⟨h.os,h.tape,h.output,h.size,h.block⟩
theorem kRm {S:Nat→Prop} {w w':World} (h:Rm.Kp S w w'):Kp S w w':=⟨h.os,h.tape,h.output,h.size,h.block⟩
theorem pcK {S:Nat→Prop} {w w':World} (h:Kp S w w'):Pc.Kp S w w':=⟨h.os,h.tape,h.output,h.size,h.block⟩
theorem ptK {S:Nat→Prop} {w w':World} (h:Kp S w w'):Pt.Kp S w w':=⟨h.os,h.tape,h.output,h.size,h.block⟩
theorem dkK {S:Nat→Prop} {w w':World} (h:Kp S w w'):Dk.Kp S w w':=⟨h.os,h.tape,h.output,h.size,h.block⟩
theorem rmK {S:Nat→Prop} {w w':World} (h:Kp S w w'):Rm.Kp S w w':=⟨h.os,h.tape,h.output,h.size,h.block⟩
def picR (P:Nat) (m:Pc.M2):Res:=⟨fun w S=>S P∧Pc.PAt w P m,fun h k d=>⟨h.1,h.2.kept (pcK k) (d _ h.1)⟩⟩
def pitR (T:Nat) (f:Nat→Pt.Cn):Res:=⟨fun w S=>S T∧Pt.PAt w T f,fun h k d=>⟨h.1,h.2.kept (ptK k) (d _ h.1)⟩⟩
def uartR (U:Nat) (u:Ut.U):Res:=⟨fun w S=>Ut.UW w S U u,fun h k d=>h.kept k d⟩
def ideR (I:Nat) (d:Dk.Id):Res:=⟨fun w S=>Dk.IW w S I d,fun h k e=>h.kept (dkK k) e⟩
def ramR (M:Nat) (m:Rm.Mem):Res:=⟨fun w S=>Rm.RamAt w M m∧∀ k,Rm.inRam M m.n k→S k,fun h k d=>⟨h.1.kp (rmK k) (fun j hj=>d j (h.2 j hj)),h.2⟩⟩
structure Loc where
 B:Nat
 Q:Nat
 P:Nat
 T:Nat
 U:Nat
 I:Nat
 M:Nat
def ptr (b:Nat):Value:=.pointer (some ⟨b,0,none⟩)
def entV (at_:Int) (o i:Nat) (b:Nat):Value:=.agg #[.int .i64 at_,.func (.func o) #[ptr b] #[],.func (.func i) #[ptr b] #[]]
def portV (L:Loc):Dv × Int→Value
 | (.pic,a)=>entV a 124 125 L.P
 | (.pit,a)=>entV a 126 127 L.B
 | (.uart,a)=>entV a 128 129 L.U
 | (.ide,a)=>entV a 130 131 L.B
 | (.gate,a)=>entV a 132 133 L.B
def ports : List (Int × (Dv × Int)) :=
  [(32, (.pic, 0)), (33, (.pic, 1)), (160, (.pic, 2)), (161, (.pic, 3)), (64, (.pit, 0)), (65, (.pit, 1)), (66, (.pit, 2)), (67, (.pit, 3)),
   (1016, (.uart, 0)), (1017, (.uart, 1)), (1018, (.uart, 2)), (1019, (.uart, 3)), (1020, (.uart, 4)), (1021, (.uart, 5)), (1022, (.uart, 6)), (1023, (.uart, 7)),
   (496, (.ide, 0)), (497, (.ide, 1)), (498, (.ide, 2)), (499, (.ide, 3)), (500, (.ide, 4)), (501, (.ide, 5)), (502, (.ide, 6)), (503, (.ide, 7)), (1014, (.ide, 8)), (146, (.gate, 0))]
def esFrom (L:Loc):List (Int × (Dv × Int))→Nat→List MapEntry
 | [],_=>[]
 | e::es,n=>⟨.int .u16 e.1,portV L e.2,n⟩::esFrom L es (n+1)
def mapO (L:Loc) (l:List (Int × (Dv × Int))):Obj:=.map (esFrom L l 0).toArray l.length
def busC (L:Loc) (cl:Bool) (now:Int):Array Value:=#[ptr L.P,ptr L.T,ptr L.U,ptr L.I,.pointer (some ⟨L.M+3,0,none⟩),.bool cl,.int .u64 now,.map (some L.Q)]
def busO (L:Loc) (cl:Bool) (now:Int):Obj:=.cells (busC L cl now) 136 (0,0)
def busRs (L:Loc) (x:Bm):Nat→Res
 | 0=>.blk L.B (busO L x.cl x.now)
 | 1=>.blk L.Q (mapO L ports)
 | 2=>picR L.P x.p
 | 3=>pitR L.T x.f
 | 4=>uartR L.U x.u
 | 5=>ideR L.I x.d
 | 6=>ramR L.M x.m
 | _=>.none
def BW (w:World) (S:Nat→Prop) (L:Loc) (x:Bm):Prop:=Sys w S (busRs L x)
def BNx (w:World) (S:Nat→Prop) (L:Loc) (x:Bm) (w':World):Prop:=∃ S',BW w' S' L x∧Nx w S w' S'
theorem up2 (L:Loc) (x:Bm) (m:Pc.M2):updR (busRs L x) 2 (picR L.P m)=busRs L { x with p:=m }:=by
 funext j
 match j with
 | 0 | 1 | 2 | 3 | 4 | 5 | 6=>rfl
 | n+7=>rfl
theorem up4 (L:Loc) (x:Bm) (m:Ut.U):updR (busRs L x) 4 (uartR L.U m)=busRs L { x with u:=m }:=by
 funext j
 match j with
 | 0 | 1 | 2 | 3 | 4 | 5 | 6=>rfl
 | n+7=>rfl
theorem up5 (L:Loc) (x:Bm) (m:Dk.Id):updR (busRs L x) 5 (ideR L.I m)=busRs L { x with d:=m }:=by
 funext j
 match j with
 | 0 | 1 | 2 | 3 | 4 | 5 | 6=>rfl
 | n+7=>rfl
theorem up6 (L:Loc) (x:Bm) (m:Rm.Mem):updR (busRs L x) 6 (ramR L.M m)=busRs L { x with m:=m }:=by
 funext j
 match j with
 | 0 | 1 | 2 | 3 | 4 | 5 | 6=>rfl
 | n+7=>rfl
section
variable {w:World} {S:Nat→Prop} {L:Loc} {x:Bm}
theorem BW.blk (h:BW w S L x):w.heap[L.B]?=some (busO L x.cl x.now):=by
 obtain ⟨T,a,b⟩:=h.at 0
 exact a.2
theorem BW.map (h:BW w S L x):w.heap[L.Q]?=some (mapO L ports):=by
 obtain ⟨T,a,b⟩:=h.at 1
 exact a.2
theorem BW.cell (h:BW w S L x) {k:Nat} {v:Value} (e:(busC L x.cl x.now)[k]?=some v):w.cell? ⟨L.B,k,none⟩=some v:=by
 simp [World.cell?,h.blk,busO,e]
theorem BW.c0 (h:BW w S L x):w.cell? ⟨L.B,0,none⟩=some (.pointer (some ⟨L.P,0,none⟩)):=h.cell rfl
theorem BW.c1 (h:BW w S L x):w.cell? ⟨L.B,1,none⟩=some (.pointer (some ⟨L.T,0,none⟩)):=h.cell rfl
theorem BW.c2 (h:BW w S L x):w.cell? ⟨L.B,2,none⟩=some (.pointer (some ⟨L.U,0,none⟩)):=h.cell rfl
theorem BW.c3 (h:BW w S L x):w.cell? ⟨L.B,3,none⟩=some (.pointer (some ⟨L.I,0,none⟩)):=h.cell rfl
theorem BW.c6 (h:BW w S L x):w.cell? ⟨L.B,6,none⟩=some (.int .u64 x.now):=h.cell rfl
theorem BW.c7 (h:BW w S L x):w.cell? ⟨L.B,7,none⟩=some (.map (some L.Q)):=h.cell rfl
theorem BW.drew (h:BW w S L x):BW w.drew S L x:=Sys.drew h
theorem BW.keep {w':World} (h:BW w S L x) (k:Kp noB w w'):BW w' S L x:=Sys.keep h k
theorem BNx.keep {w':World} (h:BW w S L x) (k:Kp noB w w'):BNx w S L x w':=⟨S,h.keep k,Nx.keep k⟩
theorem BW.lt (h:BW w S L x):BW w (fun k=>S k∧k < w.heap.size) L x:=Sys.lt h
theorem bPic {f:FuncId} {args:Array Value} {E:Ending→Prop} {m:Pc.M2} (h:BW w S L x) (hc:Pc.PAt w L.P x.p→Calls Tryz.prog f args w fun e w'=>E e∧Pc.PAt w' L.P m∧Pc.Kp (Pc.isB L.P) w w'):Calls Tryz.prog f args w fun e w'=>E e∧BNx w S L { x with p:=m } w':=by
 unfold BNx BW
 rw [← up2]
 refine Sys.call h 2 _ fun T a b=>(hc a.2).mono fun e w' ⟨q,p1,k⟩=>⟨q,T,⟨a.1,p1⟩,⟨fun _ f=>.inl f,(kPc k).mono fun j _ (g:j=L.P)=>g ▸ a.1⟩,fun j g=>Nat.lt_of_lt_of_le (b j g) k.size⟩
theorem bPitK {f:FuncId} {args:Array Value} {E:Ending→Prop} (h:BW w S L x) (hc:Pt.PAt w L.T x.f→Calls Tryz.prog f args w fun e w'=>E e∧Pt.Kp Pt.noB w w'):Calls Tryz.prog f args w fun e w'=>E e∧BNx w S L x w':=by
 obtain ⟨T,a,b⟩:=Sys.at h 3
 exact (hc a.2).mono fun e w' ⟨q,k⟩=>⟨q,.keep h (kPt k)⟩
theorem bUart {f:FuncId} {args:Array Value} {E:Ending→Prop} {m:Ut.U} (h:BW w S L x) (hc:∀ T,Ut.UW w T L.U x.u→Calls Tryz.prog f args w fun e w'=>E e∧Ut.UNx w T L.U m w'):Calls Tryz.prog f args w fun e w'=>E e∧BNx w S L { x with u:=m } w':=by
 unfold BNx BW
 rw [← up4]
 exact Sys.call h 4 _ fun T a b=>(hc T a).mono fun e w' ⟨q,T',p1,k⟩=>⟨q,T',p1,⟨k.sub,k.kp⟩,p1.lt⟩
theorem bIde {f:FuncId} {args:Array Value} {E:Ending→Prop} {m:Dk.Id} (h:BW w S L x) (hc:∀ T,Dk.IW w T L.I x.d→Calls Tryz.prog f args w fun e w'=>E e∧Dk.INx w T L.I m w'):Calls Tryz.prog f args w fun e w'=>E e∧BNx w S L { x with d:=m } w':=by
 unfold BNx BW
 rw [← up5]
 exact Sys.call h 5 _ fun T a b=>(hc T a).mono fun e w' ⟨q,T',p1,k⟩=>⟨q,T',p1,⟨k.sub,kDk k.kp⟩,p1.lt⟩
theorem bRam {f:FuncId} {args:Array Value} {E:Ending→Prop} {m:Rm.Mem} (h:BW w S L x) (hn:m.n=x.m.n) (hc:Rm.RamAt w L.M x.m→Calls Tryz.prog f args w fun e w'=>E e∧Rm.RamAt w' L.M m∧Rm.Kp (Rm.inRam L.M x.m.n) w w'):Calls Tryz.prog f args w fun e w'=>E e∧BNx w S L { x with m:=m } w':=by
 unfold BNx BW
 rw [← up6]
 exact Sys.call h 6 _ fun T a b=>(hc a.1).mono fun e w' ⟨q,p1,k⟩=>⟨q,T,⟨p1,fun j hj=>a.2 j (hn ▸ hj)⟩,⟨fun _ f=>.inl f,(kRm k).mono fun j _ g=>a.2 j g⟩,fun j g=>Nat.lt_of_lt_of_le (b j g) k.size⟩
end
end Go.Proofs.YtacgmoikegcopaaGreatDoor.Bs
namespace Go.Proofs.YtacgmoikegcopaaGreatDoor.Pc
open Go.ChangeShapes Go.WideShapes Go.ChangeAt Go.RowKit
set_option linter.unusedVariables false
set_option maxRecDepth 20000
structure RC where
 asks:Nat→Bool
 srv:Nat→Bool
 msk:Nat→Bool
 up:Nat→Bool
 base:Int
 told:Bool
 ends : Bool
 wp:Option Addr
 wl:Nat
 wc:Nat
def chV (r:RC):Array Value:=#[.bool (r.asks 0),.bool (r.asks 1),.bool (r.asks 2),.bool (r.asks 3),.bool (r.asks 4),.bool (r.asks 5),.bool (r.asks 6),.bool (r.asks 7),.bool (r.srv 0),.bool (r.srv 1),.bool (r.srv 2),.bool (r.srv 3),.bool (r.srv 4),.bool (r.srv 5),.bool (r.srv 6),.bool (r.srv 7),.bool (r.msk 0),.bool (r.msk 1),.bool (r.msk 2),.bool (r.msk 3),.bool (r.msk 4),.bool (r.msk 5),.bool (r.msk 6),.bool (r.msk 7),.bool (r.up 0),.bool (r.up 1),.bool (r.up 2),.bool (r.up 3),.bool (r.up 4),.bool (r.up 5),.bool (r.up 6),.bool (r.up 7),.int .i64 r.base,.bool r.told,.bool r.ends,.slice r.wp r.wl r.wc]
def RC.zero:RC:=⟨fun _=>false,fun _=>false,fun _=>false,fun _=>false,0,false,false,none,0,0⟩
theorem chV_size (r:RC):(chV r).size=36:=rfl
theorem one_chV (r:RC):∀ v ∈ (chV r).toList,v.oneCell'=true:=by
 intro v hv
 simp only [chV,List.mem_cons,List.not_mem_nil,or_false] at hv
 rcases hv with rfl | rfl | rfl | rfl | rfl | rfl | rfl | rfl | rfl | rfl | rfl | rfl | rfl | rfl | rfl | rfl | rfl | rfl | rfl | rfl | rfl | rfl | rfl | rfl | rfl | rfl | rfl | rfl | rfl | rfl | rfl | rfl | rfl | rfl | rfl | rfl<;>rfl
structure VlC (T:TypeId) (n:Nat) (Z:Array Value) (fs:Array Field) (ps:Array (Nat × Nat)):Prop where
 t:T=239
 s:n=36
 z:Z=chV RC.zero
 agg:∀ w,(isAgg T).run Tryz.prog w=.ok true w
 size:∀ w,(sizeOf T).run Tryz.prog w=.ok n w
 zero:∀ w,(zeroValue T).run Tryz.prog w=.ok (.agg Z) w
 under:∀ w,(underlying T).run Tryz.prog w=.ok (.struct fs) w
 map:∀ w,(Array.mapM (fun f:Field=>Prod.mk f.offset <$> sizeOf f.type) fs).run Tryz.prog w=.ok ps w
 zs:Z.size=n
theorem vlC:∃ T n Z fs ps,VlC T n Z fs ps:=
 ⟨_,_,_,(match Tryz.prog.underlying 239 with | some (.struct f)=>f | _=>#[]),#[(0,8),(8,8),(16,8),(24,8),(32,1),(33,1),(34,1),(35,1)],rfl,rfl,rfl,fun w=>by kernel_rfl,fun w=>by kernel_rfl,fun w=>by kernel_rfl,fun w=>by kernel_rfl,fun w=>by kernel_rfl,rfl⟩
theorem VlC.ops {T:TypeId} {n:Nat} {Z:Array Value} {fs:Array Field} {ps:Array (Nat × Nat)} (h:VlC T n Z fs ps):
  (∀ x,Op.load 239 x=Op.load T x)∧(∀ x y,Op.store 239 x y=Op.store T x y)∧Op.alloc 239=Op.alloc T∧∀ x,Op.box 239 x=Op.box T x:=by
 rw [h.t]
 exact ⟨fun _=>rfl,fun _ _=>rfl,rfl,fun _=>rfl⟩
def CAt (w:World) (q:Nat) (r:RC):Prop:=w.heap[q]?=some (.cells (chV r) 239 (0,0))
structure RAt (w:World) (R:Nat) (a b:RC):Prop where
 blk:w.heap[R]?=some (.cells (chV a++chV b) 242 (0,0))
theorem CAt.kept {S:Nat→Prop} {w w':World} {q:Nat} {r:RC} (h:CAt w q r) (k:Kp S w w') (hS:¬ S q):CAt w' q r:=heap_kept h k hS
theorem RAt.kept {S:Nat→Prop} {w w':World} {R:Nat} {a b:RC} (h:RAt w R a b) (k:Kp S w w') (hS:¬ S R):RAt w' R a b:=⟨heap_kept h.blk k hS⟩
theorem RAt.lt {w:World} {R:Nat} {a b:RC} (h:RAt w R a b):R < w.heap.size:=heap_lt h.blk
theorem Kp.setRow {S:Nat→Prop} (w:World) {g:Nat} (hp:S g) (cs:Array Value):Kp S w (w.setRow g cs):=
 ⟨rfl,rfl,rfl,by simp [World.setRow],fun k hk hs=>setRow_other w g k cs (fun e=>hs (e ▸ hp))⟩
section
variable {T:TypeId} {n:Nat} {Z:Array Value} {fs:Array Field} {ps:Array (Nat × Nat)}
theorem VlC.load (h:VlC T n Z fs ps) {w:World} {q o:Nat} {r:RC} (hr:w.rangeAt q o (chV r).toList):(loadCellsFrom ⟨q,o,none⟩ 0 n #[]).run Tryz.prog w=.ok (chV r) w:=by
 have e:=run_loadCells_list (P:=Tryz.prog) w ⟨q,o,none⟩ (chV r).toList (fun j v hv=>by rw [Addr.add_mid];exact hr j v hv)
 rw [h.s]
 exact e
theorem VlC.get (h:VlC T n Z fs ps) {w:World} {q:Nat} {r:RC} (hq:CAt w q r):(loadCellsFrom ⟨q,0,none⟩ 0 n #[]).run Tryz.prog w=.ok (chV r) w:=
 h.load (fun j v hv=>by
  rw [cell_of_row w q (0+j) _ _ _ hq,Nat.zero_add,← Array.getElem?_toList]
  exact hv)
theorem VlC.getA (h:VlC T n Z fs ps) {w:World} {R:Nat} {a b:RC} (hq:RAt w R a b):(loadCellsFrom ⟨R,0,none⟩ 0 n #[]).run Tryz.prog w=.ok (chV a) w:=
 h.load (fun j v hv=>by
  rw [cell_of_row w R (0+j) _ _ _ hq.blk,Nat.zero_add,← Array.getElem?_toList,Array.toList_append,List.getElem?_append_left (List.getElem?_eq_some_iff.1 hv).1]
  exact hv)
theorem VlC.getB (h:VlC T n Z fs ps) {w:World} {R:Nat} {a b:RC} (hq:RAt w R a b):(loadCellsFrom ⟨R,36,none⟩ 0 n #[]).run Tryz.prog w=.ok (chV b) w:=
 h.load (fun j v hv=>by
  rw [cell_of_row w R (36+j) _ _ _ hq.blk,← Array.getElem?_toList,Array.toList_append,List.getElem?_append_right (by show 36≤36+j;omega),show 36+j - (chV a).toList.length=j by show 36+j - 36=j;omega]
  exact hv)
theorem put_ch {w:World} {q:Nat} {c:Array Value} {T:TypeId} (h:w.heap[q]?=some (.cells c T (0,0))) (hc:c.size=36) (r:RC):(storeCells ⟨q,0,none⟩ (chV r).toList).run Tryz.prog w=.ok () (w.setRow q (chV r)):=by
 have e:=run_storeCells_at Tryz.prog q 0 T (chV r).toList 0 c w h (by simp [hc,chV_size]) (one_chV r)
 rw [e]
 have e2:(List.take (0+0) c.toList++(chV r).toList++List.drop (0+0+(chV r).toList.length) c.toList).toArray=chV r:=by
  have h1:List.drop (0+0+(chV r).toList.length) c.toList=[]:=List.drop_eq_nil_of_le (by simp [hc,chV_size])
  rw [h1]
  simp
 rw [e2]
theorem put_A {w:World} {R:Nat} {a b:RC} (h:RAt w R a b) (r:RC):(storeCells ⟨R,0,none⟩ (chV r).toList).run Tryz.prog w=.ok () (w.setRow R (chV r++chV b)):=by
 have e:=run_storeCells_at Tryz.prog R 0 _ (chV r).toList 0 _ w h.blk (by simp [chV_size]) (one_chV r)
 rw [e]
 have e2:(List.take (0+0) (chV a++chV b).toList++(chV r).toList++List.drop (0+0+(chV r).toList.length) (chV a++chV b).toList).toArray=chV r++chV b:=by
  apply Array.ext'
  rw [Array.toList_append,Array.toList_append,Nat.add_zero,List.take_zero,List.nil_append,Nat.zero_add,show (chV r).toList.length=(chV a).toList.length from rfl,List.drop_left]
 rw [e2]
theorem put_B {w:World} {R:Nat} {a b:RC} (h:RAt w R a b) (r:RC):(storeCells ⟨R,36,none⟩ (chV r).toList).run Tryz.prog w=.ok () (w.setRow R (chV a++chV r)):=by
 have e:=run_storeCells_at Tryz.prog R 36 _ (chV r).toList 0 _ w h.blk (by simp [chV_size]) (one_chV r)
 rw [e]
 have e2:(List.take (36+0) (chV a++chV b).toList++(chV r).toList++List.drop (36+0+(chV r).toList.length) (chV a++chV b).toList).toArray=chV a++chV r:=by
  apply Array.ext'
  rw [Array.toList_append,Array.toList_append,Nat.add_zero,show List.drop (36+(chV r).toList.length) ((chV a).toList++(chV b).toList)=[] from List.drop_eq_nil_of_le (by rw [List.length_append];exact Nat.le_refl 72),show (36:Nat)=(chV a).toList.length from rfl,List.take_left,List.append_nil]
 rw [e2]
theorem RAt.putA {w:World} {R:Nat} {a b:RC} (h:RAt w R a b) (r:RC):RAt (w.setRow R (chV r++chV b)) R r b:=⟨setRow_heap w R _ _ _ _ h.blk⟩
theorem RAt.putB {w:World} {R:Nat} {a b:RC} (h:RAt w R a b) (r:RC):RAt (w.setRow R (chV a++chV r)) R a r:=⟨setRow_heap w R _ _ _ _ h.blk⟩
theorem setRow_alloc (W:World) (c A:Array Value) (T:TypeId):(W.alloc (.cells c T)).setRow W.heap.size A=W.alloc (.cells A T):=by
 unfold World.setRow World.alloc
 congr 1
 apply Array.ext_getElem?
 intro i
 rw [Array.getElem?_modify]
 by_cases h:W.heap.size=i
 ·subst h;simp
 ·simp only [h,if_false]
  by_cases h2:i < W.heap.size
  ·rw [Array.getElem?_push_lt h2,Array.getElem?_push_lt h2]
  ·rw [Array.getElem?_eq_none (by simp;omega),Array.getElem?_eq_none (by simp;omega)]
theorem VlC.new (h:VlC T n Z fs ps) (r:RC) (W:World):(storeCells ⟨W.heap.size,0,none⟩ (chV r).toList).run Tryz.prog (W.alloc (.cells Z T))=.ok () (W.alloc (.cells (chV r) T)):=by
 rw [← setRow_alloc W Z (chV r) T,h.t]
 exact put_ch (heap_new W (.cells Z 239)) (by rw [h.z];rfl) r
theorem VlC.at (h:VlC T n Z fs ps) (r:RC) (W:World):CAt (W.alloc (.cells (chV r) T)) W.heap.size r:=by
 rw [h.t];exact heap_new _ _
end
theorem ch_asks (r:RC) {k:Nat} (h:k < 8):(chV r)[k]?=some (.bool (r.asks k)):=by
 rcases (by omega:k=0∨k=1∨k=2∨k=3∨k=4∨k=5∨k=6∨k=7) with rfl | rfl | rfl | rfl | rfl | rfl | rfl | rfl<;>rfl
theorem ch_up (r:RC) {k:Nat} (h:k < 8):(chV r)[24+k]?=some (.bool (r.up k)):=by
 rcases (by omega:k=0∨k=1∨k=2∨k=3∨k=4∨k=5∨k=6∨k=7) with rfl | rfl | rfl | rfl | rfl | rfl | rfl | rfl<;>rfl
def upd (f:Nat→Bool) (k:Nat) (b:Bool):Nat→Bool:=fun j=>if j=k then b else f j
theorem set_asks (r:RC) {k:Nat} (h:k < 8) (b:Bool):(chV r).setIfInBounds k (.bool b)=chV { r with asks:=upd r.asks k b }:=by
 rcases (by omega:k=0∨k=1∨k=2∨k=3∨k=4∨k=5∨k=6∨k=7) with rfl | rfl | rfl | rfl | rfl | rfl | rfl | rfl<;>rfl
theorem set_up (r:RC) {k:Nat} (h:k < 8) (b:Bool):(chV r).setIfInBounds (24+k) (.bool b)=chV { r with up:=upd r.up k b }:=by
 rcases (by omega:k=0∨k=1∨k=2∨k=3∨k=4∨k=5∨k=6∨k=7) with rfl | rfl | rfl | rfl | rfl | rfl | rfl | rfl<;>rfl
def m00:M2:=⟨ch0,ch0⟩
theorem by0:By 0:=⟨by decide,by decide⟩
theorem ch0_ok:ch0.Ok:=⟨by0,by0,by0,by0,by0,by decide,⟨by decide,by decide⟩⟩
theorem m00_ok:m00.Ok:=⟨ch0_ok,ch0_ok⟩
structure Rel (r:RC) (c:Ch) (s:Bool):Prop where
 asks:∀ k,k < 8→(s=true→k≠2)→r.asks k=tb c.asks k
 srv:∀ k,k < 8→r.srv k=tb c.srv k
 msk:∀ k,k < 8→r.msk k=tb c.msk k
 up:∀ k,k < 8→(s=true→k≠2)→r.up k=tb c.up k
 base:r.base=c.base
 told:r.told=c.sh
 ends : r.ends = c.ends
theorem Rel.settle {r:RC} {m:M2} (h:Rel r m.a true) (k:m.Ok):Rel r m.settle.a true:=
 ⟨fun j hj f=>by rw [settle_asks k,if_neg (f rfl)];exact h.asks j hj f,h.srv,h.msk,h.up,h.base,h.told,h.ends⟩
def St2 (m:M2):Prop:=tb m.a.asks 2=(m.b.next != -1)
structure RM (w:World) (R:Nat) (m:M2) (a b:RC):Prop where
 at_:RAt w R a b
 ra:Rel a m.a true
 rb:Rel b m.b false
 ok:m.Ok
 st:St2 m
open Go.RowKit
theorem line_keep (c:Ch) (k:Int) (u:Bool):(c.line k u).srv=c.srv∧(c.line k u).msk=c.msk∧(c.line k u).base=c.base∧(c.line k u).due=c.due∧(c.line k u).sh=c.sh∧(c.line k u).ends=c.ends:=by
 unfold Ch.line
 cases u
 ·exact ⟨rfl,rfl,rfl,rfl,rfl,rfl⟩
 ·rw [if_pos rfl]
  split<;>exact ⟨rfl,rfl,rfl,rfl,rfl,rfl⟩
theorem line_asks {c:Ch} (h:c.Ok) {k:Nat} (hk:k < 8) (u:Bool) (j:Nat):tb (c.line (k:Int) u).asks j=if j=k then (u&&(tb c.asks k||!tb c.up k)) else tb c.asks j:=by
 have p:=by_pw (n:=(k:Int)) (by omega) (by omega)
 unfold Ch.line
 cases u
 ·show tb (bits .andNot .u8 c.asks (pw (k:Int))) j=_
  rw [tb8_andNot h.asks p,tb_pw]
  by_cases e:j=k<;>simp [e]
 ·rw [if_pos rfl,bt_pw h.up hk]
  cases eu:tb c.up k
  ·show tb (bits .or .u8 c.asks (pw (k:Int))) j=_
   rw [tb8_or h.asks p,tb_pw]
   by_cases e:j=k<;>simp [e]
  ·show tb c.asks j=_
   by_cases e:j=k<;>simp [e]
theorem line_up {c:Ch} (h:c.Ok) {k:Nat} (hk:k < 8) (u:Bool) (j:Nat):tb (c.line (k:Int) u).up j=if j=k then u else tb c.up j:=by
 have p:=by_pw (n:=(k:Int)) (by omega) (by omega)
 unfold Ch.line
 cases u
 ·show tb (bits .andNot .u8 c.up (pw (k:Int))) j=_
  rw [tb8_andNot h.up p,tb_pw]
  by_cases e:j=k<;>simp [e]
 ·rw [if_pos rfl,bt_pw h.up hk]
  cases eu:tb c.up k
  ·show tb (bits .or .u8 c.up (pw (k:Int))) j=_
   rw [tb8_or h.up p,tb_pw]
   by_cases e:j=k<;>simp [e]
  ·show tb c.up j=_
   by_cases e:j=k<;>simp [e,eu]
end Go.Proofs.YtacgmoikegcopaaGreatDoor.Pc
