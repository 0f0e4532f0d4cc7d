/- The bus and its devices: RtNew, RtRel, RtAll, RtAll2, UrBase, UrLeaf, UrAll, IxBase, IxLeaf, IxOut, IxNew, IxAll, BrBase, BsTell. -/
import Derived.Test.YtacgmoikegcopaaGreatDoorEc28
import Derived.Test.YtacgmoikegcopaaGreatDoorRows
import Derived.Test.YtacgmoikegcopaaGreatDoorEc20
import Derived.WalkKit
import Derived.ProofKit
import Derived.OpenShut
import Derived.Carry
import Derived.Deep.Slices
import Derived.Below
import Derived.SizedLaws
import Derived.Laws.BytesArg
import Derived.Test.YtacgmoikegcopaaGreatDoorEc19
import Derived.Test.YtacgmoikegcopaaGreatDoorEc27
import Derived.Test.YtacgmoikegcopaaGreatDoorEc24
import Derived.Deep.Cut
namespace Go.Proofs.YtacgmoikegcopaaGreatDoor.Pt
open Go.ChangeShapes Go.WideShapes Go.ChangeAt Go.RowKit
set_option linter.unusedVariables false
set_option maxRecDepth 20000
def r00:RC:=⟨3,3,65536,0,false,false,0,false,false,0⟩
def laidR (k:Nat) (j:Nat):RC:=if j < k then r00 else RC.zero
theorem laidR_upd (k:Nat):updR (laidR k) k r00=laidR (k+1):=by
 funext j
 unfold updR laidR
 by_cases e:j=k
 ·subst e;simp
 ·rw [if_neg e]
  by_cases g:j < k
  ·rw [if_pos g,if_pos (by omega)]
  ·rw [if_neg g,if_neg (by omega)]
theorem row_at (g:Nat→RC) {i j:Nat} (hi:i < 3) (hj:j < 10):(rowR g)[10*i+j]?=(chV (g i))[j]?:=by
 have hl:j < (chV (g i)).toList.length:=hj
 have e:(chV (g i))[j]?=some ((chV (g i)).toList[j]):=by
  rw [← Array.getElem?_toList,List.getElem?_eq_getElem hl]
 rw [e]
 exact row_get g hi (List.getElem?_eq_getElem hl)
theorem row_size (g:Nat→RC):(rowR g).size=30:=by simp [rowR,chL_len]
theorem RAt.set {w:World} {R:Nat} {g:Nat→RC} {i:Nat} {r:RC} (h:RAt w R (updR g i r)) (hi:i < 3) (k o:Nat) (hk:k < 10) (ho:o=10*i+k) (v:Value) (r':RC) (e:(chV r).setIfInBounds k v=chV r'):RAt (w.setCell ⟨R,o,none⟩ v) R (updR g i r'):=by
 refine ⟨?_⟩
 rw [heap_set h.blk]
 congr 2
 apply Array.ext_getElem?
 intro j
 by_cases hj:j < 30
 ·obtain ⟨a,b,ha,hb,rfl⟩:∃ a b,a < 3∧b < 10∧j=10*a+b:=⟨j / 10,j%10,by omega,by omega,by omega⟩
  rw [row_at _ ha hb]
  by_cases ea:a=i
  ·subst ea
   rw [updR_at,← e]
   by_cases eb:b=k
   ·subst eb
    rw [ho,Array.getElem?_setIfInBounds_self,Array.getElem?_setIfInBounds_self,if_pos (by rw [row_size];omega),if_pos (by rw [chV_size];omega)]
   ·rw [Array.getElem?_setIfInBounds_ne (by omega),Array.getElem?_setIfInBounds_ne (by omega),row_at _ ha hb,updR_at]
  ·rw [updR_ne _ _ ea,Array.getElem?_setIfInBounds_ne (by omega),row_at _ ha hb,updR_ne _ _ ea]
 ·rw [Array.getElem?_eq_none (by rw [Array.size_setIfInBounds,row_size];omega),Array.getElem?_eq_none (by rw [row_size];omega)]
theorem RAt.cell {w:World} {R:Nat} {g:Nat→RC} (h:RAt w R g) {i k o:Nat} (hi:i < 3) (hk:k < 10) (ho:o=10*i+k) {v:Value} (e:(chV (g i))[k]?=some v):w.cell? ⟨R,o,none⟩=some v:=by
 rw [cell_of_row w R o _ _ _ h.blk,ho,row_at _ hi hk]
 exact e
theorem laidR_self (k:Nat):laidR k k=RC.zero:=by unfold laidR;rw [if_neg (by omega)]
theorem rowR_all:rowR (laidR 3)=rowR (fun _=>r00):=rfl
def zrowR:Array Value:=#[.int .i64 0,.int .i64 0,.int .u64 0,.int .u64 0,.bool false,.bool false,.int .u8 0,.bool false,.bool false,.int .u64 0,.int .i64 0,.int .i64 0,.int .u64 0,.int .u64 0,.bool false,.bool false,.int .u8 0,.bool false,.bool false,.int .u64 0,.int .i64 0,.int .i64 0,.int .u64 0,.int .u64 0,.bool false,.bool false,.int .u8 0,.bool false,.bool false,.int .u64 0]
theorem zrowR_is:zrowR=rowR (laidR 0):=rfl
set_option maxRecDepth 20000 in
set_option maxHeartbeats 1000000 in
theorem rnew_ok (w:World):Calls Tryz.prog 65 #[] w fun e w'=>∃ R,e=.returned (.pointer (some ⟨R,0,none⟩))∧w.heap.size≤R∧RAt w' R (fun _=>r00)∧Kp noB w w':=by
 have h0:Hid (RAt (w.alloc (.cells zrowR 247)) w.heap.size (laidR 0)):=⟨by rw [zrowR_is];exact heap_new _ _⟩
 have k0:Hid (Kp noB w (w.alloc (.cells zrowR 247))):=Kp.alloc _ _ _
 unfold zrowR at h0 k0
 go_enter Tryz.func65,Tryz.ntmps65
 go_wp2
 obtain ⟨R,hR⟩:∃ B,B=w.heap.size:=⟨_,rfl⟩
 rw [← hR] at h0 ⊢
 generalize w.alloc _=w0 at h0 k0 ⊢
 have lR:w.heap.size≤R:=by omega
 clear hR
 go_loopw [2] (fun s2 wr=>∃ k:Nat,s2=.int .i64 k∧k≤3∧RAt wr R (laidR k)∧Kp noB w wr) (fun s2 _=>(3 - intOf s2).toNat)
 case atStart=>exact ⟨0,rfl,by omega,h0.out,k0.out⟩
 case round=>
  clear h0 k0
  obtain ⟨k,rfl,hk,hP,kr⟩:=hrel
  rcases (by omega:k=0∨k=1∨k=2∨k=3) with rfl | rfl | rfl | rfl
  ·have h:RAt wr R (updR (laidR 0) 0 RC.zero):=by
    have:updR (laidR 0) 0 RC.zero=laidR 0:=by rw [← laidR_self 0];funext j;unfold updR;split;(rename_i e;rw [e]);rfl
    rw [this];exact hP
   have c0:wr.cell? ⟨R,0,none⟩=some (.int .i64 0):=h.cell (i:=0) (k:=0) (by decide) (by decide) rfl (by rw [updR_at];rfl)
   have y0:=hP.fz 0
   have c1:wr.cell? ⟨R,1,none⟩=some (.int .i64 0):=h.cell (i:=0) (k:=1) (by decide) (by decide) rfl (by rw [updR_at];rfl)
   have y1:=hP.fz 1
   have c2:wr.cell? ⟨R,2,none⟩=some (.int .u64 0):=h.cell (i:=0) (k:=2) (by decide) (by decide) rfl (by rw [updR_at];rfl)
   have y2:=hP.fz 2
   have c3:wr.cell? ⟨R,3,none⟩=some (.int .u64 0):=h.cell (i:=0) (k:=3) (by decide) (by decide) rfl (by rw [updR_at];rfl)
   have y3:=hP.fz 3
   have c4:wr.cell? ⟨R,4,none⟩=some (.bool false):=h.cell (i:=0) (k:=4) (by decide) (by decide) rfl (by rw [updR_at];rfl)
   have y4:=hP.fz 4
   have c5:wr.cell? ⟨R,5,none⟩=some (.bool false):=h.cell (i:=0) (k:=5) (by decide) (by decide) rfl (by rw [updR_at];rfl)
   have y5:=hP.fz 5
   have c6:wr.cell? ⟨R,6,none⟩=some (.int .u8 0):=h.cell (i:=0) (k:=6) (by decide) (by decide) rfl (by rw [updR_at];rfl)
   have y6:=hP.fz 6
   have c7:wr.cell? ⟨R,7,none⟩=some (.bool false):=h.cell (i:=0) (k:=7) (by decide) (by decide) rfl (by rw [updR_at];rfl)
   have y7:=hP.fz 7
   have c8:wr.cell? ⟨R,8,none⟩=some (.bool false):=h.cell (i:=0) (k:=8) (by decide) (by decide) rfl (by rw [updR_at];rfl)
   have y8:=hP.fz 8
   have c9:wr.cell? ⟨R,9,none⟩=some (.int .u64 0):=h.cell (i:=0) (k:=9) (by decide) (by decide) rfl (by rw [updR_at];rfl)
   have y9:=hP.fz 9
   have E1:Hid (RAt ((((((((((wr.setCell ⟨R,0,none⟩ (.int .i64 3)).setCell ⟨R,1,none⟩ (.int .i64 3)).setCell ⟨R,2,none⟩ (.int .u64 65536)).setCell ⟨R,3,none⟩ (.int .u64 0)).setCell ⟨R,4,none⟩ (.bool false)).setCell ⟨R,5,none⟩ (.bool false)).setCell ⟨R,6,none⟩ (.int .u8 0)).setCell ⟨R,7,none⟩ (.bool false)).setCell ⟨R,8,none⟩ (.bool false)).setCell ⟨R,9,none⟩ (.int .u64 0)) R (updR (laidR 0) 0 r00)):=((((((((((h.set (by decide) 0 0 (by decide) rfl _ ⟨3,0,0,0,false,false,0,false,false,0⟩ rfl).set (by decide) 1 1 (by decide) rfl _ ⟨3,3,0,0,false,false,0,false,false,0⟩ rfl).set (by decide) 2 2 (by decide) rfl _ ⟨3,3,65536,0,false,false,0,false,false,0⟩ rfl).set (by decide) 3 3 (by decide) rfl _ ⟨3,3,65536,0,false,false,0,false,false,0⟩ rfl).set (by decide) 4 4 (by decide) rfl _ ⟨3,3,65536,0,false,false,0,false,false,0⟩ rfl).set (by decide) 5 5 (by decide) rfl _ ⟨3,3,65536,0,false,false,0,false,false,0⟩ rfl).set (by decide) 6 6 (by decide) rfl _ ⟨3,3,65536,0,false,false,0,false,false,0⟩ rfl).set (by decide) 7 7 (by decide) rfl _ ⟨3,3,65536,0,false,false,0,false,false,0⟩ rfl).set (by decide) 8 8 (by decide) rfl _ ⟨3,3,65536,0,false,false,0,false,false,0⟩ rfl).set (by decide) 9 9 (by decide) rfl _ ⟨3,3,65536,0,false,false,0,false,false,0⟩ rfl)
   have K1:Hid (Kp noB w ((((((((((wr.setCell ⟨R,0,none⟩ (.int .i64 3)).setCell ⟨R,1,none⟩ (.int .i64 3)).setCell ⟨R,2,none⟩ (.int .u64 65536)).setCell ⟨R,3,none⟩ (.int .u64 0)).setCell ⟨R,4,none⟩ (.bool false)).setCell ⟨R,5,none⟩ (.bool false)).setCell ⟨R,6,none⟩ (.int .u8 0)).setCell ⟨R,7,none⟩ (.bool false)).setCell ⟨R,8,none⟩ (.bool false)).setCell ⟨R,9,none⟩ (.int .u64 0))):=kr.own ((((((((((kpB R wr _ _).trans (kpB R _ _ _)).trans (kpB R _ _ _)).trans (kpB R _ _ _)).trans (kpB R _ _ _)).trans (kpB R _ _ _)).trans (kpB R _ _ _)).trans (kpB R _ _ _)).trans (kpB R _ _ _)).trans (kpB R _ _ _)) lR
   rw [laidR_upd] at E1
   clear h hP kr
   go_wp2
   go_roundw
   case rel=>exact ⟨1,rfl,by omega,E1.out,K1.out⟩
   case measure=>simp [intOf]
  ·have h:RAt wr R (updR (laidR 1) 1 RC.zero):=by
    have:updR (laidR 1) 1 RC.zero=laidR 1:=by rw [← laidR_self 1];funext j;unfold updR;split;(rename_i e;rw [e]);rfl
    rw [this];exact hP
   have c0:wr.cell? ⟨R,10,none⟩=some (.int .i64 0):=h.cell (i:=1) (k:=0) (by decide) (by decide) rfl (by rw [updR_at];rfl)
   have y0:=hP.fz 10
   have c1:wr.cell? ⟨R,11,none⟩=some (.int .i64 0):=h.cell (i:=1) (k:=1) (by decide) (by decide) rfl (by rw [updR_at];rfl)
   have y1:=hP.fz 11
   have c2:wr.cell? ⟨R,12,none⟩=some (.int .u64 0):=h.cell (i:=1) (k:=2) (by decide) (by decide) rfl (by rw [updR_at];rfl)
   have y2:=hP.fz 12
   have c3:wr.cell? ⟨R,13,none⟩=some (.int .u64 0):=h.cell (i:=1) (k:=3) (by decide) (by decide) rfl (by rw [updR_at];rfl)
   have y3:=hP.fz 13
   have c4:wr.cell? ⟨R,14,none⟩=some (.bool false):=h.cell (i:=1) (k:=4) (by decide) (by decide) rfl (by rw [updR_at];rfl)
   have y4:=hP.fz 14
   have c5:wr.cell? ⟨R,15,none⟩=some (.bool false):=h.cell (i:=1) (k:=5) (by decide) (by decide) rfl (by rw [updR_at];rfl)
   have y5:=hP.fz 15
   have c6:wr.cell? ⟨R,16,none⟩=some (.int .u8 0):=h.cell (i:=1) (k:=6) (by decide) (by decide) rfl (by rw [updR_at];rfl)
   have y6:=hP.fz 16
   have c7:wr.cell? ⟨R,17,none⟩=some (.bool false):=h.cell (i:=1) (k:=7) (by decide) (by decide) rfl (by rw [updR_at];rfl)
   have y7:=hP.fz 17
   have c8:wr.cell? ⟨R,18,none⟩=some (.bool false):=h.cell (i:=1) (k:=8) (by decide) (by decide) rfl (by rw [updR_at];rfl)
   have y8:=hP.fz 18
   have c9:wr.cell? ⟨R,19,none⟩=some (.int .u64 0):=h.cell (i:=1) (k:=9) (by decide) (by decide) rfl (by rw [updR_at];rfl)
   have y9:=hP.fz 19
   have E1:Hid (RAt ((((((((((wr.setCell ⟨R,10,none⟩ (.int .i64 3)).setCell ⟨R,11,none⟩ (.int .i64 3)).setCell ⟨R,12,none⟩ (.int .u64 65536)).setCell ⟨R,13,none⟩ (.int .u64 0)).setCell ⟨R,14,none⟩ (.bool false)).setCell ⟨R,15,none⟩ (.bool false)).setCell ⟨R,16,none⟩ (.int .u8 0)).setCell ⟨R,17,none⟩ (.bool false)).setCell ⟨R,18,none⟩ (.bool false)).setCell ⟨R,19,none⟩ (.int .u64 0)) R (updR (laidR 1) 1 r00)):=((((((((((h.set (by decide) 0 10 (by decide) rfl _ ⟨3,0,0,0,false,false,0,false,false,0⟩ rfl).set (by decide) 1 11 (by decide) rfl _ ⟨3,3,0,0,false,false,0,false,false,0⟩ rfl).set (by decide) 2 12 (by decide) rfl _ ⟨3,3,65536,0,false,false,0,false,false,0⟩ rfl).set (by decide) 3 13 (by decide) rfl _ ⟨3,3,65536,0,false,false,0,false,false,0⟩ rfl).set (by decide) 4 14 (by decide) rfl _ ⟨3,3,65536,0,false,false,0,false,false,0⟩ rfl).set (by decide) 5 15 (by decide) rfl _ ⟨3,3,65536,0,false,false,0,false,false,0⟩ rfl).set (by decide) 6 16 (by decide) rfl _ ⟨3,3,65536,0,false,false,0,false,false,0⟩ rfl).set (by decide) 7 17 (by decide) rfl _ ⟨3,3,65536,0,false,false,0,false,false,0⟩ rfl).set (by decide) 8 18 (by decide) rfl _ ⟨3,3,65536,0,false,false,0,false,false,0⟩ rfl).set (by decide) 9 19 (by decide) rfl _ ⟨3,3,65536,0,false,false,0,false,false,0⟩ rfl)
   have K1:Hid (Kp noB w ((((((((((wr.setCell ⟨R,10,none⟩ (.int .i64 3)).setCell ⟨R,11,none⟩ (.int .i64 3)).setCell ⟨R,12,none⟩ (.int .u64 65536)).setCell ⟨R,13,none⟩ (.int .u64 0)).setCell ⟨R,14,none⟩ (.bool false)).setCell ⟨R,15,none⟩ (.bool false)).setCell ⟨R,16,none⟩ (.int .u8 0)).setCell ⟨R,17,none⟩ (.bool false)).setCell ⟨R,18,none⟩ (.bool false)).setCell ⟨R,19,none⟩ (.int .u64 0))):=kr.own ((((((((((kpB R wr _ _).trans (kpB R _ _ _)).trans (kpB R _ _ _)).trans (kpB R _ _ _)).trans (kpB R _ _ _)).trans (kpB R _ _ _)).trans (kpB R _ _ _)).trans (kpB R _ _ _)).trans (kpB R _ _ _)).trans (kpB R _ _ _)) lR
   rw [laidR_upd] at E1
   clear h hP kr
   go_wp2
   go_roundw
   case rel=>exact ⟨2,rfl,by omega,E1.out,K1.out⟩
   case measure=>simp [intOf]
  ·have h:RAt wr R (updR (laidR 2) 2 RC.zero):=by
    have:updR (laidR 2) 2 RC.zero=laidR 2:=by rw [← laidR_self 2];funext j;unfold updR;split;(rename_i e;rw [e]);rfl
    rw [this];exact hP
   have c0:wr.cell? ⟨R,20,none⟩=some (.int .i64 0):=h.cell (i:=2) (k:=0) (by decide) (by decide) rfl (by rw [updR_at];rfl)
   have y0:=hP.fz 20
   have c1:wr.cell? ⟨R,21,none⟩=some (.int .i64 0):=h.cell (i:=2) (k:=1) (by decide) (by decide) rfl (by rw [updR_at];rfl)
   have y1:=hP.fz 21
   have c2:wr.cell? ⟨R,22,none⟩=some (.int .u64 0):=h.cell (i:=2) (k:=2) (by decide) (by decide) rfl (by rw [updR_at];rfl)
   have y2:=hP.fz 22
   have c3:wr.cell? ⟨R,23,none⟩=some (.int .u64 0):=h.cell (i:=2) (k:=3) (by decide) (by decide) rfl (by rw [updR_at];rfl)
   have y3:=hP.fz 23
   have c4:wr.cell? ⟨R,24,none⟩=some (.bool false):=h.cell (i:=2) (k:=4) (by decide) (by decide) rfl (by rw [updR_at];rfl)
   have y4:=hP.fz 24
   have c5:wr.cell? ⟨R,25,none⟩=some (.bool false):=h.cell (i:=2) (k:=5) (by decide) (by decide) rfl (by rw [updR_at];rfl)
   have y5:=hP.fz 25
   have c6:wr.cell? ⟨R,26,none⟩=some (.int .u8 0):=h.cell (i:=2) (k:=6) (by decide) (by decide) rfl (by rw [updR_at];rfl)
   have y6:=hP.fz 26
   have c7:wr.cell? ⟨R,27,none⟩=some (.bool false):=h.cell (i:=2) (k:=7) (by decide) (by decide) rfl (by rw [updR_at];rfl)
   have y7:=hP.fz 27
   have c8:wr.cell? ⟨R,28,none⟩=some (.bool false):=h.cell (i:=2) (k:=8) (by decide) (by decide) rfl (by rw [updR_at];rfl)
   have y8:=hP.fz 28
   have c9:wr.cell? ⟨R,29,none⟩=some (.int .u64 0):=h.cell (i:=2) (k:=9) (by decide) (by decide) rfl (by rw [updR_at];rfl)
   have y9:=hP.fz 29
   have E1:Hid (RAt ((((((((((wr.setCell ⟨R,20,none⟩ (.int .i64 3)).setCell ⟨R,21,none⟩ (.int .i64 3)).setCell ⟨R,22,none⟩ (.int .u64 65536)).setCell ⟨R,23,none⟩ (.int .u64 0)).setCell ⟨R,24,none⟩ (.bool false)).setCell ⟨R,25,none⟩ (.bool false)).setCell ⟨R,26,none⟩ (.int .u8 0)).setCell ⟨R,27,none⟩ (.bool false)).setCell ⟨R,28,none⟩ (.bool false)).setCell ⟨R,29,none⟩ (.int .u64 0)) R (updR (laidR 2) 2 r00)):=((((((((((h.set (by decide) 0 20 (by decide) rfl _ ⟨3,0,0,0,false,false,0,false,false,0⟩ rfl).set (by decide) 1 21 (by decide) rfl _ ⟨3,3,0,0,false,false,0,false,false,0⟩ rfl).set (by decide) 2 22 (by decide) rfl _ ⟨3,3,65536,0,false,false,0,false,false,0⟩ rfl).set (by decide) 3 23 (by decide) rfl _ ⟨3,3,65536,0,false,false,0,false,false,0⟩ rfl).set (by decide) 4 24 (by decide) rfl _ ⟨3,3,65536,0,false,false,0,false,false,0⟩ rfl).set (by decide) 5 25 (by decide) rfl _ ⟨3,3,65536,0,false,false,0,false,false,0⟩ rfl).set (by decide) 6 26 (by decide) rfl _ ⟨3,3,65536,0,false,false,0,false,false,0⟩ rfl).set (by decide) 7 27 (by decide) rfl _ ⟨3,3,65536,0,false,false,0,false,false,0⟩ rfl).set (by decide) 8 28 (by decide) rfl _ ⟨3,3,65536,0,false,false,0,false,false,0⟩ rfl).set (by decide) 9 29 (by decide) rfl _ ⟨3,3,65536,0,false,false,0,false,false,0⟩ rfl)
   have K1:Hid (Kp noB w ((((((((((wr.setCell ⟨R,20,none⟩ (.int .i64 3)).setCell ⟨R,21,none⟩ (.int .i64 3)).setCell ⟨R,22,none⟩ (.int .u64 65536)).setCell ⟨R,23,none⟩ (.int .u64 0)).setCell ⟨R,24,none⟩ (.bool false)).setCell ⟨R,25,none⟩ (.bool false)).setCell ⟨R,26,none⟩ (.int .u8 0)).setCell ⟨R,27,none⟩ (.bool false)).setCell ⟨R,28,none⟩ (.bool false)).setCell ⟨R,29,none⟩ (.int .u64 0))):=kr.own ((((((((((kpB R wr _ _).trans (kpB R _ _ _)).trans (kpB R _ _ _)).trans (kpB R _ _ _)).trans (kpB R _ _ _)).trans (kpB R _ _ _)).trans (kpB R _ _ _)).trans (kpB R _ _ _)).trans (kpB R _ _ _)).trans (kpB R _ _ _)) lR
   rw [laidR_upd] at E1
   clear h hP kr
   go_wp2
   go_roundw
   case rel=>exact ⟨3,rfl,by omega,E1.out,K1.out⟩
   case measure=>simp [intOf]
  ·go_wp2
   go_ret
   exact ⟨R,rfl,lR,⟨rowR_all ▸ hP.blk⟩,kr⟩
open Go.RowKit
structure Rel (r:RC) (c:Cn):Prop where
 mode:r.mode=c.mode
 how:r.how=c.how
 len:r.len=c.whole
 began:c.st=false→r.began=c.began
 st:r.st=c.st
 wants:r.wants=c.wants
 fst:c.wants=true→r.fst=c.fst
 upper:r.upper=c.upper
 held:r.held=c.holds
 value:c.holds=true→r.value=c.held
 only:c.how≠3→c.wants=false
theorem Rel.line {r:RC} {c:Cn} (h:Rel r c) (now:Int):r.line now=c.line now:=by
 have e:c.st=false→r.steps now=c.steps now:=fun s=>by unfold RC.steps Cn.steps;rw [h.began s]
 unfold RC.line Cn.line
 rw [h.st,h.mode,h.len]
 cases s:c.st
 ·rw [e s]
 ·rfl
theorem Rel.new:Rel ⟨3,3,65536,0,false,false,0,false,false,0⟩ cn0:=
 ⟨rfl,rfl,rfl,fun _=>rfl,rfl,rfl,fun _=>rfl,rfl,rfl,fun _=>rfl,fun _=>rfl⟩
structure RW (w:World) (R:Nat) (f:Nat→Cn):Prop where
 ex:∃ g,RAt w R g∧∀ j,j < 3→Rel (g j) (f j)
 ok:Oks f
theorem RW.kept {S:Nat→Prop} {w w':World} {R:Nat} {f:Nat→Cn} (h:RW w R f) (k:Kp S w w') (hS:¬ S R):RW w' R f:=by
 obtain ⟨g,a,b⟩:=h.ex
 exact ⟨⟨g,a.kept k hS,b⟩,h.ok⟩
theorem RW.lt {w:World} {R:Nat} {f:Nat→Cn} (h:RW w R f):R < w.heap.size:=by
 obtain ⟨g,a,b⟩:=h.ex
 exact a.lt
theorem rel_len {r:RC} {c:Cn} (h:Rel r c) (k:c.Ok):1≤r.len∧r.len≤65536:=by rw [h.len];exact k.whole
theorem xLine (w:World) (R:Nat) (f:Nat→Cn) (h:RW w R f) (now:Int):Calls Tryz.prog 140 #[.pointer (some ⟨R,0,none⟩),.int .u64 now] w fun e w'=>e=.returned (.bool ((f 0).line now))∧Kp noB w w':=by
 obtain ⟨g,hA,hr⟩:=h.ex
 have rl:=hr 0 (by decide)
 have ll:=rel_len rl (h.ok 0)
 rw [← rl.line now]
 exact rlin_ok w R g hA now ll.1 ll.2
theorem xNew (w:World):Calls Tryz.prog 65 #[] w fun e w'=>∃ R,e=.returned (.pointer (some ⟨R,0,none⟩))∧w.heap.size≤R∧RW w' R f00∧Kp noB w w':=
 (rnew_ok w).mono fun e w' ⟨R,a,b,c,d⟩=>⟨R,a,b,⟨⟨_,c,fun j hj=>Rel.new⟩,f00_ok⟩,d⟩
end Go.Proofs.YtacgmoikegcopaaGreatDoor.Pt
namespace Go.Proofs.YtacgmoikegcopaaGreatDoor.Ut
open Go.ChangeShapes Go.WideShapes Go.ChangeAt Go.RowKit
set_option linter.unusedVariables false
set_option maxRecDepth 20000
inductive CqAt (w:World):Value→List Int→Prop
 | no:CqAt w (.slice none 0 0) []
 | on (g o cap:Nat) (cur:Array Value) (l:List Int) (hg:w.heap[g]?=some (.cells cur 5 (0,0))) (hn:l.length≤cap) (hc:o+cap≤cur.size) (hm:cap≤maxLen) (hx:∀ j,j < l.length→cur[o+j]?=some (.int .u8 (l.getD j 0))):CqAt w (.slice (some ⟨g,o,none⟩) l.length cap) l
theorem CqAt.kept {S:Nat→Prop} {w w':World} {v:Value} {l:List Int} (h:CqAt w v l) (k:Kp S w w') (hS:∀ g,v.ownBlock=some g→¬ S g):CqAt w' v l:=by
 cases h with
 | no=>exact .no
 | on g o cap cur l hg hn hc hm hx=>exact .on g o cap cur l (heap_kept hg k (hS g rfl)) hn hc hm hx
theorem CqAt.sl {w:World} {v:Value} {l:List Int} (h:CqAt w v l):∃ p c,v=.slice p l.length c:=by
 cases h with
 | no=>exact ⟨_,_,rfl⟩
 | on g o cap cur l hg hn hc hm hx=>exact ⟨_,_,rfl⟩
def rC (cq sv:Value) (u:U):Array Value:=#[cq,.bool u.lost,.int .u8 u.d0,.int .u8 u.d1,.int .u8 u.line,.int .u8 u.modem,.int .u8 u.jot,.int .u8 u.want,.bool u.on,.bool u.tell,sv]
structure RAt (w:World) (R:Nat) (cq sv:Value) (u:U):Prop where
 blk:w.heap[R]?=some (.cells (rC cq sv u) 249 (0,0))
 chn:CqAt w cq u.came
 snt:OwnB w sv u.sent
 apart:∀ g,cq.ownBlock=some g→sv.ownBlock≠some g
section
variable {w:World} {R:Nat} {cq sv:Value} {u:U}
theorem RAt.kept {S:Nat→Prop} {w':World} (h:RAt w R cq sv u) (k:Kp S w w') (hB:¬ S R) (hc:∀ g,cq.ownBlock=some g→¬ S g) (hs:∀ g,sv.ownBlock=some g→¬ S g):RAt w' R cq sv u:=
 ⟨heap_kept h.blk k hB,h.chn.kept k hc,h.snt.kept k hs,h.apart⟩
theorem RAt.cell (h:RAt w R cq sv u) {k:Nat} {v:Value} (e:(rC cq sv u)[k]?=some v):w.cell? ⟨R,k,none⟩=some v:=by
 simp [World.cell?,h.blk,e]
theorem RAt.c0 (h:RAt w R cq sv u):w.cell? ⟨R,0,none⟩=some cq:=h.cell rfl
theorem RAt.c7 (h:RAt w R cq sv u):w.cell? ⟨R,7,none⟩=some (.int .u8 u.want):=h.cell rfl
theorem RAt.c9 (h:RAt w R cq sv u):w.cell? ⟨R,9,none⟩=some (.bool u.tell):=h.cell rfl
theorem RAt.lt (h:RAt w R cq sv u):R < w.heap.size:=heap_lt h.blk
end
def rfoot (R:Nat) (cq sv:Value) (k:Nat):Prop:=k=R∨cq.ownBlock=some k∨sv.ownBlock=some k
structure RW (w:World) (S:Nat→Prop) (R:Nat) (u:U):Prop where
 ex:∃ cq sv,RAt w R cq sv u∧∀ k,rfoot R cq sv k→S k
 lt:∀ k,S k→k < w.heap.size
theorem RW.kept {w w':World} {S T:Nat→Prop} {R:Nat} {u:U} (h:RW w S R u) (k:Kp T w w') (hS:∀ k,S k→¬ T k):RW w' S R u:=by
 obtain ⟨cv,sv,h1,h2⟩:=h.ex
 exact ⟨⟨cv,sv,h1.kept k (hS _ (h2 _ (.inl rfl))) (fun c e=>hS _ (h2 _ (.inr (.inl e)))) (fun g e=>hS _ (h2 _ (.inr (.inr e)))),h2⟩,fun j hj=>Nat.lt_of_lt_of_le (h.lt j hj) k.size⟩
theorem by_tm {v m:Int} (h:0≤v):Int.tmod v m=v%m:=Int.tmod_eq_emod_of_nonneg h
theorem by_td {v m:Int} (h:0≤v):Int.tdiv v m=v / m:=Int.tdiv_eq_ediv_of_nonneg h
section
variable {w:World} {R:Nat} {cq sv:Value} {u:U}
theorem rwhy_any (h:RAt w R cq sv u) (k:u.Ok):Calls Tryz.prog 188 #[.pointer (some ⟨R,0,none⟩)] w fun e w'=>e=.returned (.int .u8 u.why)∧w'=w:=by
 have c0:=h.c0
 have c7:=h.c7
 have c9:=h.c9
 obtain ⟨p,c,rfl⟩:=h.chn.sl
 obtain ⟨w0,w1⟩:=k.want
 have wm:Int.tmod u.want 2=u.want%2:=by_tm w0
 have wd:Int.tdiv u.want 2=u.want / 2:=by_td w0
 have wdm:Int.tmod (u.want / 2) 2=u.want / 2%2:=by_tm (by omega)
 have e0:(u.want%2==1)=b0 u.want:=rfl
 have e1:(u.want / 2%2==1)=b1 u.want:=rfl
 have et:decide (0 < u.came.length)=u.there:=rfl
 unfold U.why
 clear h k
 generalize u.there=ut at et ⊢
 generalize b0 u.want=x0 at e0 ⊢
 generalize b1 u.want=x1 at e1 ⊢
 cases ut<;>cases x0<;>cases el:u.tell<;>rw [el] at c9<;>cases x1<;>(
  go_enter Tryz.func188,Tryz.ntmps188
  go_wp2
  go_ret
  exact ⟨rfl,rfl⟩)
theorem rline_any (h:RAt w R cq sv u) (k:u.Ok):Calls Tryz.prog 141 #[.pointer (some ⟨R,0,none⟩)] w fun e w'=>e=.returned (.bool u.ln)∧w'=w:=by
 have HT:Hid _:=rwhy_any h k
 unfold U.ln
 clear h k
 go_enter Tryz.func141,Tryz.ntmps141
 go_wp2_with fail
 refine Calls.mono HT.out ?_;rintro e w1 ⟨rfl,hw⟩;replace hw:=hw.symm;subst hw
 go_wp2
 go_ret
 exact ⟨rfl,rfl⟩
end
theorem rnew_ok (w:World):Calls Tryz.prog 66 #[] w fun e w'=>e=.returned (.pointer (some ⟨w.heap.size,0,none⟩))∧RAt w' w.heap.size (.slice none 0 0) (.slice none 0 0) u0∧Kp noB w w':=by
 have h0:Hid (RAt (w.alloc (.cells (rC (.slice none 0 0) (.slice none 0 0) u0) 249)) w.heap.size (.slice none 0 0) (.slice none 0 0) u0):=⟨heap_new _ _,.no,OwnB.nil _,fun g e=>by cases e⟩
 have k0:Hid (Kp noB w (w.alloc (.cells (rC (.slice none 0 0) (.slice none 0 0) u0) 249))):=Kp.alloc _ _ _
 go_enter Tryz.func66,Tryz.ntmps66
 go_wp2
 go_ret
 exact ⟨rfl,h0.out,k0.out⟩
section
variable {w:World} {R:Nat} {cq sv:Value} {u:U}
end
section
variable {w:World} {S:Nat→Prop} {R:Nat} {u:U}
def RNx (w:World) (S:Nat→Prop) (R:Nat) (u:U) (w':World):Prop:=∃ S',RW w' S' R u∧Nxt w S w' S'
theorem RNx.same {w':World} (h:RW w S R u) (e:w'=w):RNx w S R u w':=by
 subst e
 exact ⟨S,h,fun _ f=>.inl f,Kp.refl _ _⟩
theorem xLine (h:RW w S R u) (k:u.Ok):Calls Tryz.prog 141 #[.pointer (some ⟨R,0,none⟩)] w fun e w'=>e=.returned (.bool u.ln)∧w'=w:=by
 obtain ⟨cv,sv,h1,h2⟩:=h.ex
 exact rline_any h1 k
end
theorem xNew (w:World):Calls Tryz.prog 66 #[] w fun e w'=>∃ R S,e=.returned (.pointer (some ⟨R,0,none⟩))∧RW w' S R u0∧(∀ k,S k→w.heap.size≤k)∧Kp noB w w':=by
 refine (rnew_ok w).mono fun e w' ⟨a,b1,b3⟩=>⟨w.heap.size,fun k=>k=w.heap.size,a,⟨⟨_,_,b1,fun k g=>?_⟩,fun k g=>?_⟩,fun k g=>by omega,b3⟩
 ·rcases g with g | g | g
  ·exact g
  ·cases g
  ·cases g
 ·have:=b1.lt
  omega
end Go.Proofs.YtacgmoikegcopaaGreatDoor.Ut
namespace Go.Proofs.YtacgmoikegcopaaGreatDoor.Dk
open Go.ChangeShapes Go.WideShapes Go.ChangeAt Go.RowKit
set_option linter.unusedVariables false
set_option maxRecDepth 20000
def xC (Dv:Value) (R:Nat→Int) (c:Int) (buf:Nat→Int) (dn mo:Int) (mk fl:Bool) (sv:Value) (k:Nat):Value:=
 if k=0 then Dv else if k < 8 then .int .u8 (R (k - 1)) else if k=8 then .int .u8 c else if k < 521 then .int .u8 (buf (k - 9)) else if k=521 then .int .i64 dn else if k=522 then .int .i64 mo else if k=523 then .bool mk else if k=524 then .bool fl else sv
def YAt (w:World) (B:Nat) (f:Nat→Value):Prop:=∃ cur:Array Value,w.heap[B]?=some (.cells cur 191 (0,0))∧cur.size=526∧∀ k,k < 526→cur[k]?=some (f k)
section
variable {w w':World} {B:Nat} {f:Nat→Value}
theorem YAt.kept {S:Nat→Prop} (h:YAt w B f) (k:Kp S w w') (hS:¬ S B):YAt w' B f:=by
 obtain ⟨cur,h1,h2⟩:=h
 exact ⟨cur,heap_kept h1 k hS,h2⟩
theorem YAt.lt (h:YAt w B f):B < w.heap.size:=by
 obtain ⟨cur,h1,h2⟩:=h
 exact heap_lt h1
theorem YAt.cell (h:YAt w B f) (k:Nat) (hk:k < 526):w.cell? ⟨B,k,none⟩=some (f k):=by
 obtain ⟨cur,h1,h2,h3⟩:=h
 rw [cell_at h1]
 exact h3 k hk
theorem YAt.fz (h:YAt w B f) (k:Nat):w.frozen? ⟨B,k,none⟩=false:=by
 obtain ⟨cur,h1,h2,h3⟩:=h
 exact frozen_at h1
theorem YAt.of (h:YAt w B f) {g:Nat→Value} (e:∀ k,k < 526→f k=g k):YAt w B g:=by
 obtain ⟨cur,h1,h2,h3⟩:=h
 exact ⟨cur,h1,h2,fun k hk=>by rw [h3 k hk,e k hk]⟩
theorem YAt.set (h:YAt w B f) (k:Nat) (hk:k < 526) (v:Value):YAt (w.setCell ⟨B,k,none⟩ v) B (fun j=>if j=k then v else f j):=by
 obtain ⟨cur,h1,h2,h3⟩:=h
 refine ⟨_,heap_set h1,by rw [Array.size_setIfInBounds];exact h2,fun j hj=>?_⟩
 rw [Array.getElem?_setIfInBounds]
 by_cases e:k=j
 ·subst e
  rw [if_pos rfl,if_pos (by omega)]
  show some v=some (if k=k then v else f k)
  rw [if_pos rfl]
 ·rw [if_neg e]
  show cur[j]?=some (if j=k then v else f j)
  rw [if_neg (by omega)]
  exact h3 j hj
end
section
variable {Dv:Value} {R buf:Nat→Int} {c dn mo:Int} {mk fl:Bool} {sv:Value}
theorem xC_R {j:Nat} (h:j < 7):xC Dv R c buf dn mo mk fl sv (1+j)=.int .u8 (R j):=by
 unfold xC
 rw [if_neg (by omega),if_pos (by omega),show 1+j - 1=j by omega]
theorem xC_setR {j:Nat} (h:j < 7) (x:Int) (k:Nat):(if k=1+j then Value.int .u8 x else xC Dv R c buf dn mo mk fl sv k)=xC Dv (setB R j x) c buf dn mo mk fl sv k:=by
 by_cases e:k=1+j
 ·subst e
  rw [if_pos rfl,xC_R h]
  unfold setB
  rw [if_pos rfl]
 ·rw [if_neg e]
  unfold xC setB
  repeat' split
  all_goals first | rfl | omega
theorem xC_setdn (x:Int) (k:Nat):(if k=521 then Value.int .i64 x else xC Dv R c buf dn mo mk fl sv k)=xC Dv R c buf x mo mk fl sv k:=by
 by_cases e:k=521
 ·subst e;rfl
 ·rw [if_neg e];unfold xC;rw [if_neg e,if_neg e]
theorem xC_setmo (x:Int) (k:Nat):(if k=522 then Value.int .i64 x else xC Dv R c buf dn mo mk fl sv k)=xC Dv R c buf dn x mk fl sv k:=by
 by_cases e:k=522
 ·subst e;rfl
 ·rw [if_neg e];unfold xC;rw [if_neg e,if_neg e]
theorem xC_setmk (x:Bool) (k:Nat):(if k=523 then Value.bool x else xC Dv R c buf dn mo mk fl sv k)=xC Dv R c buf dn mo x fl sv k:=by
 by_cases e:k=523
 ·subst e;rfl
 ·rw [if_neg e];unfold xC;rw [if_neg e,if_neg e]
theorem xC_setfl (x:Bool) (k:Nat):(if k=524 then Value.bool x else xC Dv R c buf dn mo mk fl sv k)=xC Dv R c buf dn mo mk x sv k:=by
 by_cases e:k=524
 ·subst e;rfl
 ·rw [if_neg e];unfold xC;rw [if_neg e,if_neg e]
end
def DRow (w:World) (gD cap n:Nat) (D:Nat→Int):Prop:=∃ cur,w.heap[gD]?=some (.cells cur 5 (0,0))∧512*n≤cur.size∧∀ j,j < 512*n→cur[j]?=some (.int .u8 (D j))
theorem DRow.kept {S:Nat→Prop} {w w':World} {gD cap n:Nat} {D:Nat→Int} (h:DRow w gD cap n D) (k:Kp S w w') (hS:¬ S gD):DRow w' gD cap n D:=by
 obtain ⟨cur,h1,h2⟩:=h
 exact ⟨cur,heap_kept h1 k hS,h2⟩
structure XAt (w:World) (B gD cap:Nat) (dn:Int) (sv:Value) (d:Id):Prop where
 blk:YAt w B (xC (.slice (some ⟨gD,0,none⟩) (512*d.n) cap) d.reg d.c d.buf dn d.mode d.mark d.failed sv)
 row:DRow w gD cap d.n d.D
 le:512*d.n≤cap
 log:OwnI w sv d.log
structure XRaw (w:World) (B gD cap n:Nat) (sv:Value) (l:List Int) (D R buf:Nat→Int) (c dn mo:Int) (mk fl:Bool):Prop where
 blk:YAt w B (xC (.slice (some ⟨gD,0,none⟩) (512*n) cap) R c buf dn mo mk fl sv)
 row:DRow w gD cap n D
 le:512*n≤cap
 log:OwnI w sv l
section
variable {w:World} {B gD cap n:Nat} {sv:Value} {l:List Int} {D R buf:Nat→Int} {c dn mo:Int} {mk fl:Bool}
theorem XRaw.notB (h:XRaw w B gD cap n sv l D R buf c dn mo mk fl) {g:Nat} (e:sv.ownBlock=some g):¬ isB B g:=by
 rintro (rfl:g=B)
 obtain ⟨cur,h1⟩:=h.log.lt e
 obtain ⟨c,h2,_⟩:=h.blk
 rw [h1] at h2
 simp at h2
theorem XRaw.notD (h:XRaw w B gD cap n sv l D R buf c dn mo mk fl):¬ isB B gD:=by
 rintro (e:gD=B)
 obtain ⟨cur,h1,_⟩:=h.row
 obtain ⟨c,h2,_⟩:=h.blk
 rw [e,h2] at h1
 simp at h1
theorem XRaw.own {w':World} {f:Nat→Value} (h:XRaw w B gD cap n sv l D R buf c dn mo mk fl) (hb:YAt w' B f) (k:Kp (isB B) w w') {R' buf':Nat→Int} {c' dn' mo':Int} {mk' fl':Bool} (e:∀ k,k < 526→f k=xC (.slice (some ⟨gD,0,none⟩) (512*n) cap) R' c' buf' dn' mo' mk' fl' sv k):XRaw w' B gD cap n sv l D R' buf' c' dn' mo' mk' fl':=
 ⟨hb.of e,h.row.kept k h.notD,h.le,h.log.kept k (fun g e=>h.notB e)⟩
theorem XRaw.setR (h:XRaw w B gD cap n sv l D R buf c dn mo mk fl) (j:Nat) (hj:j < 7) (k:Nat) (hk:k=1+j) (x:Int):XRaw (w.setCell ⟨B,k,none⟩ (.int .u8 x)) B gD cap n sv l D (setB R j x) buf c dn mo mk fl:=by
 subst hk
 exact h.own (h.blk.set _ (by omega) _) (kpB B _ _ _) (fun i hi=>xC_setR hj x i)
theorem XRaw.setdn (h:XRaw w B gD cap n sv l D R buf c dn mo mk fl) (x:Int):XRaw (w.setCell ⟨B,521,none⟩ (.int .i64 x)) B gD cap n sv l D R buf c x mo mk fl:=
 h.own (h.blk.set _ (by decide) _) (kpB B _ _ _) (fun i hi=>xC_setdn x i)
theorem XRaw.setmo (h:XRaw w B gD cap n sv l D R buf c dn mo mk fl) (x:Int):XRaw (w.setCell ⟨B,522,none⟩ (.int .i64 x)) B gD cap n sv l D R buf c dn x mk fl:=
 h.own (h.blk.set _ (by decide) _) (kpB B _ _ _) (fun i hi=>xC_setmo x i)
theorem XRaw.setmk (h:XRaw w B gD cap n sv l D R buf c dn mo mk fl) (x:Bool):XRaw (w.setCell ⟨B,523,none⟩ (.bool x)) B gD cap n sv l D R buf c dn mo x fl:=
 h.own (h.blk.set _ (by decide) _) (kpB B _ _ _) (fun i hi=>xC_setmk x i)
theorem XRaw.setfl (h:XRaw w B gD cap n sv l D R buf c dn mo mk fl) (x:Bool):XRaw (w.setCell ⟨B,524,none⟩ (.bool x)) B gD cap n sv l D R buf c dn mo mk x:=
 h.own (h.blk.set _ (by decide) _) (kpB B _ _ _) (fun i hi=>xC_setfl x i)
end
section
variable {w:World} {B gD cap:Nat} {dn:Int} {sv:Value} {d:Id}
theorem XAt.raw (h:XAt w B gD cap dn sv d):XRaw w B gD cap d.n sv d.log d.D d.reg d.buf d.c dn d.mode d.mark d.failed:=⟨h.blk,h.row,h.le,h.log⟩
theorem XRaw.id {n:Nat} {l:List Int} {D R buf:Nat→Int} {c mo:Int} {mk fl:Bool} (h:XRaw w B gD cap n sv l D R buf c dn mo mk fl) (d:Id) (hl:l=d.log) (hD:D=d.D) (hn:n=d.n) (hR:∀ j,j < 7→R j=d.reg j) (hb:buf=d.buf) (hc:c=d.c) (hg:mo=d.mode) (hm:mk=d.mark) (hf:fl=d.failed):XAt w B gD cap dn sv d:=by
 subst hl;subst hD;subst hn;subst hb;subst hc;subst hg;subst hm;subst hf
 refine ⟨h.blk.of fun k hk=>?_,h.row,h.le,h.log⟩
 by_cases q:1≤k∧k < 8
 ·obtain ⟨j,rfl⟩:∃ j,k=1+j:=⟨k - 1,by omega⟩
  rw [xC_R (by omega),xC_R (by omega),hR j (by omega)]
 ·unfold xC
  repeat' split
  all_goals first | rfl | omega
theorem XAt.lt (h:XAt w B gD cap dn sv d):B < w.heap.size:=h.blk.lt
theorem XAt.fz (h:XAt w B gD cap dn sv d) (k:Nat):w.frozen? ⟨B,k,none⟩=false:=h.blk.fz k
theorem XAt.cr (h:XAt w B gD cap dn sv d) (j:Nat) (hj:j < 7):w.cell? ⟨B,1+j,none⟩=some (.int .u8 (d.reg j)):=by rw [h.blk.cell _ (by omega),xC_R hj]
theorem XAt.r0 (h:XAt w B gD cap dn sv d):w.cell? ⟨B,1,none⟩=some (.int .u8 0):=h.cr 0 (by decide)
theorem XAt.r1 (h:XAt w B gD cap dn sv d):w.cell? ⟨B,2,none⟩=some (.int .u8 d.r1):=h.cr 1 (by decide)
theorem XAt.r2 (h:XAt w B gD cap dn sv d):w.cell? ⟨B,3,none⟩=some (.int .u8 d.r2):=h.cr 2 (by decide)
theorem XAt.r3 (h:XAt w B gD cap dn sv d):w.cell? ⟨B,4,none⟩=some (.int .u8 d.r3):=h.cr 3 (by decide)
theorem XAt.r4 (h:XAt w B gD cap dn sv d):w.cell? ⟨B,5,none⟩=some (.int .u8 d.r4):=h.cr 4 (by decide)
theorem XAt.r5 (h:XAt w B gD cap dn sv d):w.cell? ⟨B,6,none⟩=some (.int .u8 d.r5):=h.cr 5 (by decide)
theorem XAt.r6 (h:XAt w B gD cap dn sv d):w.cell? ⟨B,7,none⟩=some (.int .u8 d.r6):=h.cr 6 (by decide)
theorem XAt.cc (h:XAt w B gD cap dn sv d):w.cell? ⟨B,8,none⟩=some (.int .u8 d.c):=h.blk.cell 8 (by decide)
theorem XAt.cdn (h:XAt w B gD cap dn sv d):w.cell? ⟨B,521,none⟩=some (.int .i64 dn):=h.blk.cell 521 (by decide)
theorem XAt.cmo (h:XAt w B gD cap dn sv d):w.cell? ⟨B,522,none⟩=some (.int .i64 d.mode):=h.blk.cell 522 (by decide)
theorem XAt.cmk (h:XAt w B gD cap dn sv d):w.cell? ⟨B,523,none⟩=some (.bool d.mark):=h.blk.cell 523 (by decide)
theorem XAt.cfl (h:XAt w B gD cap dn sv d):w.cell? ⟨B,524,none⟩=some (.bool d.failed):=h.blk.cell 524 (by decide)
end
def XOk (w:World) (B gD cap:Nat) (sv:Value) (d:Id) (w':World):Prop:=∃ dn',XAt w' B gD cap dn' sv d∧Dn d dn'∧Kp (isB B) w w'
def footX (B gD:Nat) (sv:Value) (k:Nat):Prop:=k=B∨k=gD∨sv.ownBlock=some k
section
variable {w:World} {B gD cap:Nat} {dn:Int} {sv:Value} {d:Id}
theorem xfresh_ok (h:XAt w B gD cap dn sv d):Calls Tryz.prog 138 #[.pointer (some ⟨B,0,none⟩)] w fun e w'=>e=.returned (.tuple #[])∧XOk w B gD cap sv d.fresh w':=by
 have c0:=h.r0
 have c1:=h.r1
 have c2:=h.r2
 have c3:=h.r3
 have c4:=h.r4
 have c5:=h.r5
 have c6:=h.r6
 have cd:=h.cdn
 have cf:=h.cfl
 have cg:=h.cmo
 have cm:=h.cmk
 have y0:=h.fz 1
 have y1:=h.fz 2
 have y2:=h.fz 3
 have y3:=h.fz 4
 have y4:=h.fz 5
 have y5:=h.fz 6
 have y6:=h.fz 7
 have y7:=h.fz 521
 have y8:=h.fz 522
 have y9:=h.fz 523
 have ya:=h.fz 524
 have hC:Hid (XAt w B gD cap dn sv d):=h
 clear h
 go_enter Tryz.func138,Tryz.ntmps138
 go_wp2
 go_end0
 refine ⟨rfl,0,?_,Dn.none rfl,?_⟩
 ·refine (((((((((((hC.out.raw.setR 0 (by decide) 1 rfl 0).setR 1 (by decide) 2 rfl 1).setR 2 (by decide) 3 rfl 1).setR 3 (by decide) 4 rfl 1).setR 4 (by decide) 5 rfl 0).setR 5 (by decide) 6 rfl 0).setR 6 (by decide) 7 rfl 0).setmo 0).setdn 0).setmk false).setfl false).id _ rfl rfl rfl (fun j hj=>?_) rfl rfl rfl rfl rfl
  rcases (by omega:j=0∨j=1∨j=2∨j=3∨j=4∨j=5∨j=6) with rfl | rfl | rfl | rfl | rfl | rfl | rfl<;>rfl
 ·exact (((((((((((kpB B _ _ _).trans (kpB B _ _ _)).trans (kpB B _ _ _)).trans (kpB B _ _ _)).trans (kpB B _ _ _)).trans (kpB B _ _ _)).trans (kpB B _ _ _)).trans (kpB B _ _ _)).trans (kpB B _ _ _)).trans (kpB B _ _ _)).trans (kpB B _ _ _))
end
section
variable {w:World} {B gD cap:Nat} {dn:Int} {sv:Value} {d:Id}
theorem xline_ok (h:XAt w B gD cap dn sv d) (k:d.Ok):Calls Tryz.prog 142 #[.pointer (some ⟨B,0,none⟩)] w fun e w'=>e=.returned (.bool d.line)∧w'=w:=by
 have cm:=h.cmk
 have c8:=h.cc
 obtain ⟨c0,c1⟩:=k.c
 clear h k
 unfold Id.line
 generalize d.c=c at *
 cases q:d.mark
 ·rw [q] at cm
  clear q
  go_enter Tryz.func142,Tryz.ntmps142
  go_wp2
  go_ret
  exact ⟨rfl,rfl⟩
 ·rw [q] at cm
  clear q
  have e:(true&&!(c / 2%2==1))=(c / 2%2==0):=by
   rcases (by omega:c / 2%2=0∨c / 2%2=1) with a | a<;>rw [a]<;>rfl
  rw [e]
  clear e
  go_enter Tryz.func142,Tryz.ntmps142
  go_wp2
  go_ret
  exact ⟨rfl,rfl⟩
end
theorem app_new {w:World} (g0:Nat) {a:Option Addr} {L:Nat} (c:Nat) {bt:Nat→Int} (h0:w.heap[g0]?=some (.cells #[] 5 (0,0))) (hB:BytAt w a L bt) (hL:L≤140737488355328):
  ∃ g cap w',(Builtin.append_ #[79,79] 79 #[.slice (some ⟨g0,0,none⟩) 0 0,.slice a L c]).run Tryz.prog w=.ok (.slice (some ⟨g,0,none⟩) L cap) w'∧L≤cap∧(∃ cur,w'.heap[g]?=some (.cells cur 5 (0,0))∧L≤cur.size∧∀ j,j < L→cur[j]?=some (.int .u8 (bt j)))∧Kp noB w w'∧(g=g0∨w.heap.size≤g):=by
 have u:∀ w,(underlying 79).run Tryz.prog w=.ok (.slice 5) w:=fun w=>by kernel_rfl
 have s:∀ w,(sizeOf 5).run Tryz.prog w=.ok 1 w:=fun w=>by kernel_rfl
 rcases Nat.eq_zero_or_pos L with rfl | hp
 ·refine ⟨g0,0,w,?_,Nat.le_refl _,⟨_,h0,Nat.le_refl _,fun j hj=>by omega⟩,Kp.refl _ _,.inl rfl⟩
  cases a
  ·simp [Builtin.append_,u,s,Builtin.lenOf,Builtin.firstCells,storeCells]
  ·simp [Builtin.append_,u,s,Builtin.lenOf,Builtin.firstCells,storeCells,loadCells,loadCellsFrom]
 ·obtain ⟨b,o,rfl,hb,_⟩:=hB 0 hp
  have hcell:∀ j,j < L→w.cell? ⟨b,o+j,none⟩=some (.int .u8 (bt j)):=fun j hj=>by
   obtain ⟨b',o',e,_,hc⟩:=hB j hj
   injection e with e
   injection e with e1 e2
   subst e1;subst e2
   exact hc
  obtain ⟨i,hi,hz,hs,hby⟩:=info_of info8
  have hn:Builtin.nextslicecap (0+L) 0=L:=by
   unfold Builtin.nextslicecap
   simp
   omega
  have hlen:((List.range L).map (fun j=>Value.int .u8 (bt j))).length=L:=by simp
  have hget:∀ j,j < L→((List.range L).map (fun j=>Value.int .u8 (bt j)))[j]?=some (.int .u8 (bt j)):=by
   intro j hj
   rw [List.getElem?_map,List.getElem?_range hj]
   rfl
  have e:=run_append_grow (P:=Tryz.prog) (w:=w) 79 79 5 i (.int .u8 0) Tryz.underlying79 hi hz ⟨g0,0,none⟩ 0 0 [] (by simp) (by simp) ⟨b,o,none⟩ L c ((List.range L).map (fun j=>Value.int .u8 (bt j))) (by rw [hlen,hs,Nat.mul_one]) (fun j v hv=>by
   have hj:j < L:=by
    have:=(List.getElem?_eq_some_iff.1 hv).1
    rwa [hlen] at this
   rw [hget j hj] at hv
   rw [← hv,Addr.add_mid]
   exact hcell j hj) (by omega) (by omega) (by rw [hn,hby];omega)
  rw [Nat.zero_add] at e
  refine ⟨w.heap.size,_,_,e,grownCap_ge _ _ _ _,⟨_,heap_new w.drew _,?_,fun j hj=>?_⟩,(Kp.refl _ _).drew.trans (Kp.alloc _ _ _),.inr (Nat.le_refl _)⟩
  ·simp
  ·rw [Array.getElem?_append_left (by simp;omega)]
   simp [hj]
theorem wpList_app {ops:Array Oper} {rest:List Oper} {o:Oper} {a:Act} {w w':World} {Q:Exit→Act→World→Prop} {v v' x:Value} (hgd:o.guard=none) (s y:Operand)
  (ho:o.op=.call { callee:=.builtin .append,args:=#[s,y],argTypes:=#[79,79] }) (hty:o.type=79) (hs:a.eval s=v) (hx:a.eval y=x)
  (hr:(Builtin.append_ #[79,79] 79 #[v,x]).run Tryz.prog w=.ok v' w') (h:wpList Tryz.prog ops Q rest (a.put o.dst v') w'):wpList Tryz.prog ops Q (o::rest) a w:=by
 refine wpList_plain hgd fun K hK=>?_
 unfold Oper.wp execOp
 simp only [ho,hty,resolve,invoke,builtin,Sem.run_bind,Sem.run_pure,Result.andThen_ok,List.map_toArray,List.map_cons,List.map_nil,hs,hx,hr]
 exact hK _ _ h
def zX:Array Value:=(Value.slice none 0 0::zp 520 [.int .i64 0,.int .i64 0,.bool false,.bool false,.slice none 0 0]).toArray
theorem zX_size:zX.size=526:=by
 unfold zX
 rw [List.size_toArray,List.length_cons,zp_len]
 rfl
theorem zX_get {k:Nat} (hk:k < 526):zX[k]?=some (xC (.slice none 0 0) (fun _=>0) 0 (fun _=>0) 0 0 false false (.slice none 0 0) k):=by
 unfold zX
 rw [List.getElem?_toArray]
 rcases Nat.eq_zero_or_pos k with rfl | hp
 ·rfl
 ·obtain ⟨j,rfl⟩:∃ j,k=j+1:=⟨k - 1,by omega⟩
  rw [List.getElem?_cons_succ,zp_get]
  by_cases c:j < 520
  ·rw [if_pos c]
   unfold xC
   repeat' split
   all_goals first | rfl | omega
  ·rw [if_neg c]
   rcases (by omega:j=520∨j=521∨j=522∨j=523∨j=524) with rfl | rfl | rfl | rfl | rfl<;>rfl
theorem zeroX (w:World):(zeroValue 191).run Tryz.prog w=.ok (.agg zX) w:=by
 simp [zeroValue,typeInfo,show Tryz.prog.info? 191=some Tryz.t191 from Tryz.type191,zero45,zX]
theorem placesX:∃ fs ps,(∀ w,(underlying 191).run Tryz.prog w=.ok (.struct fs) w)∧(∀ w,(Array.mapM (fun f:Field=>Prod.mk f.offset <$> sizeOf f.type) fs).run Tryz.prog w=.ok ps w)∧ps=#[(0,1),(1,7),(8,1),(9,512),(521,1),(522,1),(523,1),(524,1),(525,1)]:=
 ⟨(match Tryz.prog.underlying 191 with | some (.struct f)=>f | _=>#[]),#[(0,1),(1,7),(8,1),(9,512),(521,1),(522,1),(523,1),(524,1),(525,1)],fun w=>by kernel_rfl,fun w=>by kernel_rfl,rfl⟩
structure VlX (T:TypeId) (Z:Array Value) (fs:Array Field) (ps:Array (Nat × Nat)):Prop where
 t:T=191
 z:Z=zX
 zero:∀ w,(zeroValue T).run Tryz.prog w=.ok (.agg Z) w
 under:∀ w,(underlying T).run Tryz.prog w=.ok (.struct fs) w
 map:∀ w,(Array.mapM (fun f:Field=>Prod.mk f.offset <$> sizeOf f.type) fs).run Tryz.prog w=.ok ps w
 place:ps=#[(0,1),(1,7),(8,1),(9,512),(521,1),(522,1),(523,1),(524,1),(525,1)]
 zs:Z.size=526
theorem vlX:∃ T Z fs ps,VlX T Z fs ps:=by
 obtain ⟨fs,ps,h1,h2,h3⟩:=placesX
 exact ⟨_,_,fs,ps,rfl,rfl,zeroX,h1,h2,h3,zX_size⟩
theorem VlX.ops {T:TypeId} {Z:Array Value} {fs:Array Field} {ps:Array (Nat × Nat)} (h:VlX T Z fs ps):(∀ x,Op.build 191 x=Op.build T x)∧(∀ x,Op.box 191 x=Op.box T x):=by
 rw [h.t]
 exact ⟨fun _=>rfl,fun _=>rfl⟩
theorem xnew_at {T:TypeId} {Z:Array Value} {fs:Array Field} {ps:Array (Nat × Nat)} (V:VlX T Z fs ps) {w:World} {gD cap n:Nat} {D:Nat→Int} (hr:DRow w gD cap n D) (hc:512*n≤cap):XAt (w.alloc (.cells (Z.setIfInBounds 0 (.slice (some ⟨gD,0,none⟩) (512*n) cap)) T)) w.heap.size gD cap 0 (.slice none 0 0) { id0 n D with r1:=0,r2:=0,r3:=0 }:=by
 refine ⟨⟨_,by rw [heap_new,V.t],?_,fun k hk=>?_⟩,hr.kept (Kp.alloc noB _ _) id,hc,OwnI.nil _⟩
 ·rw [Array.size_setIfInBounds,V.z,zX_size]
 ·rw [V.z,Array.getElem?_setIfInBounds]
  by_cases e:0=k
  ·subst e
   rw [if_pos rfl,if_pos (by rw [zX_size];decide)]
   rfl
  ·rw [if_neg e,zX_get hk]
   have e':¬ k=0:=fun g=>e g.symm
   have hR:(fun _:Nat=>(0:Int))=({ id0 n D with r1:=0,r2:=0,r3:=0 }:Id).reg:=by
    funext j
    unfold Id.reg id0
    simp only
    repeat' split
    all_goals rfl
   rw [← hR]
   unfold xC
   simp only [if_neg e']
   rfl
theorem xnew_no (w:World) (a:Option Addr) (L c:Nat) (h:L%512≠0∨32768 < L) (hL:L < 9223372036854775808):Calls Tryz.prog 63 #[.slice a L c] w fun e w'=>e=.returned (.tuple #[.pointer none,.int .i64 140])∧w'=w:=by
 by_cases q:L%512=0
 ·have q1:((L:Int)%512 != 0)=false:=by rw [bne_eq_false_iff_eq];omega
  have q2:decide ((L:Int) > 32768)=true:=by simp;omega
  go_enter Tryz.func63,Tryz.ntmps63
  go_wp2
  go_ret2
  exact ⟨rfl,rfl⟩
 ·have q1:((L:Int)%512 != 0)=true:=by rw [bne_iff_ne];omega
  go_enter Tryz.func63,Tryz.ntmps63
  go_wp2
  go_ret2
  exact ⟨rfl,rfl⟩
def XNew (w:World) (L:Nat) (bt:Nat→Int) (R:Nat) (w':World):Prop:=∃ gD cap dn,XAt w' R gD cap dn (.slice none 0 0) (id0 (L / 512) (dB L bt))∧Dn (id0 (L / 512) (dB L bt)) dn∧w.heap.size≤R∧w.heap.size≤gD∧Kp noB w w'
theorem xnew_ok (w:World) (a:Option Addr) (L c:Nat) (bt:Nat→Int) (hb:BytAt w a L bt) (h1:L%512=0) (h2:L≤32768):Calls Tryz.prog 63 #[.slice a L c] w fun e w'=>∃ R,e=.returned (.tuple #[.pointer (some ⟨R,0,none⟩),.int .i64 0])∧XNew w L bt R w':=by
 obtain ⟨T,Z,fs,ps,V⟩:=vlX
 have q1:((L:Int)%512 != 0)=false:=by rw [bne_eq_false_iff_eq];omega
 have q2:decide ((L:Int) > 32768)=false:=by simp;omega
 obtain ⟨w1,e1⟩:∃ w1,w1=w.alloc (.cells #[] 5):=⟨_,rfl⟩
 have k1:Kp noB w w1:=by rw [e1];exact Kp.alloc _ _ _
 obtain ⟨g,cap,w2,hap,hc,⟨cur,g1,g2,g3⟩,k2,hg⟩:=app_new (w:=w1) w.heap.size c (by rw [e1];exact heap_new _ _) (hb.kept k1 (fun _ _=>id)) (by omega)
 have eL:512*(L / 512)=L:=by omega
 have hr:DRow w2 g cap (L / 512) (dB L bt):=⟨cur,g1,by omega,fun j hj=>by
  unfold dB
  rw [if_pos (by omega)]
  exact g3 j (by omega)⟩
 have h3:=xnew_at V hr (by omega)
 rw [eL] at h3
 obtain ⟨R,hR⟩:∃ R,R=w2.heap.size:=⟨_,rfl⟩
 have HS:Hid _:=xfresh_ok h3
 have ef:({ id0 (L / 512) (dB L bt) with r1:=0,r2:=0,r3:=0 }:Id).fresh=id0 (L / 512) (dB L bt):=rfl
 rw [ef] at HS
 have HF:Hid (∀ w3,XOk (w2.alloc (.cells (Z.setIfInBounds 0 (.slice (some ⟨g,0,none⟩) L cap)) T)) w2.heap.size g cap (.slice none 0 0) (id0 (L / 512) (dB L bt)) w3→XNew w L bt w2.heap.size w3):=by
  rintro w3 ⟨dn,h4,d4,k4⟩
  have kk:=k1.trans k2
  refine ⟨g,cap,dn,h4,d4,kk.size,?_,(kk.trans (Kp.alloc _ _ _)).over k4 (fun j hj (e:j=_)=>by have:=kk.size;omega)⟩
  have:=k1.size
  omega
 have o1:=V.ops
 have v1:=V.zero
 have v2:=V.under
 have v3:=V.map
 rw [V.place] at v3
 have v5:=V.zs
 have v6:¬ Z=#[]:=by rintro rfl;cases v5
 rw [e1] at hap
 have Hap:Hid _:=hap
 clear hap g1 g2 g3 k1 k2 V hb h1 h2 e1 h3 hr hg ef eL hc hR
 go_enter Tryz.func63,Tryz.ntmps63
 simp only [o1.1,o1.2]
 go_wp2_with (first
  | (at_builtin;refine wpList_app rfl _ _ rfl rfl rfl rfl Hap.out ?_))
 refine Calls.mono HS.out ?_;rintro e w3 ⟨rfl,h3⟩
 have H:Hid (XNew w L bt w2.heap.size w3):=HF.out _ h3
 clear h3 HS HF Hap
 go_wp2
 go_ret2
 exact ⟨_,rfl,H.out⟩
theorem XAt.kept {S:Nat→Prop} {w w':World} {B gD cap:Nat} {dn:Int} {sv:Value} {d:Id} (h:XAt w B gD cap dn sv d) (k:Kp S w w') (hS:∀ j,footX B gD sv j→¬ S j):XAt w' B gD cap dn sv d:=
 ⟨h.blk.kept k (hS _ (.inl rfl)),h.row.kept k (hS _ (.inr (.inl rfl))),h.le,h.log.kept k (fun g e=>hS _ (.inr (.inr e)))⟩
theorem XAt.foot_lt {w:World} {B gD cap:Nat} {dn:Int} {sv:Value} {d:Id} (h:XAt w B gD cap dn sv d) {k:Nat} (g:footX B gD sv k):k < w.heap.size:=by
 rcases g with rfl | rfl | g
 ·exact h.lt
 ·obtain ⟨cur,e,_⟩:=h.row
  exact heap_lt e
 ·obtain ⟨cur,e⟩:=h.log.lt g
  exact heap_lt e
structure XW (w:World) (T:Nat→Prop) (R gD cap:Nat) (d:Id):Prop where
 ex:∃ dn sv,XAt w R gD cap dn sv d∧Dn d dn∧∀ k,footX R gD sv k→T k
 lt:∀ k,T k→k < w.heap.size
def XNx (w:World) (T:Nat→Prop) (R gD cap:Nat) (d:Id) (w':World):Prop:=∃ T',XW w' T' R gD cap d∧Nxt w T w' T'
section
variable {w w':World} {T:Nat→Prop} {R gD cap:Nat} {d:Id}
theorem XW.kept {Y:Nat→Prop} (h:XW w T R gD cap d) (k:Kp Y w w') (hS:∀ k,T k→¬ Y k):XW w' T R gD cap d:=by
 obtain ⟨dn,sv,h1,hd,h2⟩:=h.ex
 exact ⟨⟨dn,sv,h1.kept k (fun j g=>hS j (h2 j g)),hd,h2⟩,fun j hj=>Nat.lt_of_lt_of_le (h.lt j hj) k.size⟩
theorem XNx.same (h:XW w T R gD cap d) (e:w'=w):XNx w T R gD cap d w':=by
 subst e
 exact ⟨T,h,Nxt.refl _ _⟩
theorem xLine (h:XW w T R gD cap d) (k:d.Ok):Calls Tryz.prog 142 #[.pointer (some ⟨R,0,none⟩)] w fun e w'=>e=.returned (.bool d.line)∧w'=w:=by
 obtain ⟨dn,sv,h1,hd,h2⟩:=h.ex
 exact xline_ok h1 k
end
section
variable {W w:World} {B R gD cap:Nat} {sd:List (Nat × Obj)} {lv:Value} {l:List Int} {d e:Id}
end
end Go.Proofs.YtacgmoikegcopaaGreatDoor.Dk
namespace Go.Proofs.YtacgmoikegcopaaGreatDoor.Bs
open Go.ChangeShapes Go.WideShapes Go.ChangeAt Go.RowKit
open Go.Proofs.YtacgmoikegcopaaGreatDoor.Ut (Kp heap_lt heap_kept heap_set heap_new noB isB kpB)
set_option linter.unusedVariables false
set_option maxRecDepth 20000
structure LocR where
 B:Nat
 P:Nat
 T:Nat
 U:Nat
 I:Nat
 gD:Nat
 cap:Nat
 M:Nat
 V0:Value
 V1:Value
 V2:Value
 V3:Value
def picX (P:Nat) (m:Pc.M2):Res:=⟨fun w S=>S P∧Pc.RWS w S P m,fun h k d=>⟨h.1,h.2.kept h.1 (pcK k) d⟩⟩
def pitX (T:Nat) (f:Nat→Pt.Cn):Res:=⟨fun w S=>S T∧Pt.RW w T f,fun h k d=>⟨h.1,h.2.kept (ptK k) (d _ h.1)⟩⟩
def uartX (U:Nat) (u:Ut.U):Res:=⟨fun w S=>Ut.RW w S U u,fun h k d=>h.kept k d⟩
def ideX (I gD cap:Nat) (d:Dk.Id):Res:=⟨fun w S=>Dk.XW w S I gD cap d,fun h k e=>h.kept (dkK k) e⟩
def docC (L:LocR) (now:Int):Array Value:=#[ptr L.M,ptr L.P,ptr L.T,ptr L.U,ptr L.I,.int .u64 now]
def docO (L:LocR) (now:Int):Obj:=.cells (docC L now) 151 (0,0)
def refC (L:LocR) (cl:Bool):Array Value:=#[L.V0,L.V1,L.V2,L.V3,.bool cl]
def refO (L:LocR) (cl:Bool):Obj:=.cells (refC L cl) 143 (0,0)
def docRs (L:LocR) (x:Bm):Nat→Res
 | 0=>.blk L.B (docO L x.now)
 | 1=>.none
 | 2=>picX L.P x.p
 | 3=>pitX L.T x.f
 | 4=>uartX L.U x.u
 | 5=>ideX L.I L.gD L.cap x.d
 | 6=>.blk L.M (refO L x.cl)
 | _=>.none
def DW (w:World) (S:Nat→Prop) (L:LocR) (x:Bm):Prop:=Sys w S (docRs L x)
def DNx (w:World) (S:Nat→Prop) (L:LocR) (x:Bm) (w':World):Prop:=∃ S',DW w' S' L x∧Nx w S w' S'
theorem dup2 (L:LocR) (x:Bm) (m:Pc.M2):updR (docRs L x) 2 (picX L.P m)=docRs L { x with p:=m }:=by
 funext j
 match j with
 | 0 | 1 | 2 | 3 | 4 | 5 | 6=>rfl
 | n+7=>rfl
theorem dup4 (L:LocR) (x:Bm) (m:Ut.U):updR (docRs L x) 4 (uartX L.U m)=docRs L { x with u:=m }:=by
 funext j
 match j with
 | 0 | 1 | 2 | 3 | 4 | 5 | 6=>rfl
 | n+7=>rfl
theorem dup5 (L:LocR) (x:Bm) (m:Dk.Id):updR (docRs L x) 5 (ideX L.I L.gD L.cap m)=docRs L { x with d:=m }:=by
 funext j
 match j with
 | 0 | 1 | 2 | 3 | 4 | 5 | 6=>rfl
 | n+7=>rfl
section
variable {w:World} {S:Nat→Prop} {L:LocR} {x:Bm}
theorem DW.blk (h:DW w S L x):w.heap[L.B]?=some (docO L x.now):=by
 obtain ⟨T,a,b⟩:=h.at 0
 exact a.2
theorem DW.cell (h:DW w S L x) {k:Nat} {v:Value} (e:(docC L x.now)[k]?=some v):w.cell? ⟨L.B,k,none⟩=some v:=by
 simp [World.cell?,h.blk,docO,e]
theorem DW.c1 (h:DW w S L x):w.cell? ⟨L.B,1,none⟩=some (.pointer (some ⟨L.P,0,none⟩)):=h.cell rfl
theorem DW.c2 (h:DW w S L x):w.cell? ⟨L.B,2,none⟩=some (.pointer (some ⟨L.T,0,none⟩)):=h.cell rfl
theorem DW.c3 (h:DW w S L x):w.cell? ⟨L.B,3,none⟩=some (.pointer (some ⟨L.U,0,none⟩)):=h.cell rfl
theorem DW.c4 (h:DW w S L x):w.cell? ⟨L.B,4,none⟩=some (.pointer (some ⟨L.I,0,none⟩)):=h.cell rfl
theorem DW.c5 (h:DW w S L x):w.cell? ⟨L.B,5,none⟩=some (.int .u64 x.now):=h.cell rfl
theorem DW.drew (h:DW w S L x):DW w.drew S L x:=Sys.drew h
theorem DW.keep {w':World} (h:DW w S L x) (k:Kp noB w w'):DW w' S L x:=Sys.keep h k
theorem DNx.keep {w':World} (h:DW w S L x) (k:Kp noB w w'):DNx w S L x w':=⟨S,h.keep k,Nx.keep k⟩
theorem dPic {f:FuncId} {args:Array Value} {E:Ending→Prop} {m:Pc.M2} (h:DW w S L x) (hc:∀ T,Pc.RWS w T L.P x.p→Calls Tryz.prog f args w fun e w'=>E e∧Pc.RWS w' (Pc.nS T w w') L.P m∧Pc.Kp (Pc.isB L.P) w w'):Calls Tryz.prog f args w fun e w'=>E e∧DNx w S L { x with p:=m } w':=by
 unfold DNx DW
 rw [← dup2]
 refine Sys.call h 2 _ fun T a b=>(hc T a.2).mono fun e w' ⟨q,p1,k⟩=>⟨q,Pc.nS T w w',⟨⟨Nat.lt_of_lt_of_le (b _ a.1) k.size,.inl a.1⟩,p1⟩,⟨fun _ f=>f.2,(kPc k).mono fun j _ (g:j=L.P)=>g ▸ a.1⟩,fun j g=>g.1⟩
theorem dPitK {f:FuncId} {args:Array Value} {E:Ending→Prop} (h:DW w S L x) (hc:Pt.RW w L.T x.f→Calls Tryz.prog f args w fun e w'=>E e∧Pt.Kp Pt.noB w w'):Calls Tryz.prog f args w fun e w'=>E e∧DNx w S L x w':=by
 obtain ⟨T,a,b⟩:=Sys.at h 3
 exact (hc a.2).mono fun e w' ⟨q,k⟩=>⟨q,.keep h (kPt k)⟩
theorem dUart {f:FuncId} {args:Array Value} {E:Ending→Prop} {m:Ut.U} (h:DW w S L x) (hc:∀ T,Ut.RW w T L.U x.u→Calls Tryz.prog f args w fun e w'=>E e∧Ut.RNx w T L.U m w'):Calls Tryz.prog f args w fun e w'=>E e∧DNx w S L { x with u:=m } w':=by
 unfold DNx DW
 rw [← dup4]
 exact Sys.call h 4 _ fun T a b=>(hc T a).mono fun e w' ⟨q,T',p1,k⟩=>⟨q,T',p1,⟨k.sub,k.kp⟩,p1.lt⟩
theorem dIde {f:FuncId} {args:Array Value} {E:Ending→Prop} {m:Dk.Id} (h:DW w S L x) (hc:∀ T,Dk.XW w T L.I L.gD L.cap x.d→Calls Tryz.prog f args w fun e w'=>E e∧Dk.XNx w T L.I L.gD L.cap m w'):Calls Tryz.prog f args w fun e w'=>E e∧DNx w S L { x with d:=m } w':=by
 unfold DNx DW
 rw [← dup5]
 exact Sys.call h 5 _ fun T a b=>(hc T a).mono fun e w' ⟨q,T',p1,k⟩=>⟨q,T',p1,⟨k.sub,kDk k.kp⟩,p1.lt⟩
end
theorem BNx.trans {w w1 w2:World} {S:Nat→Prop} {L:Loc} {x:Bm} {S1:Nat→Prop} (n:Nx w S w1 S1) (h:BNx w1 S1 L x w2):BNx w S L x w2:=by
 obtain ⟨S2,a,b⟩:=h
 exact ⟨S2,a,n.trans b⟩
set_option maxHeartbeats 1000000 in
theorem tell_ok {w:World} {S:Nat→Prop} {L:Loc} {x:Bm} (h:BW w S L x) (k:x.Ok):Calls Tryz.prog 62 #[.pointer (some ⟨L.B,0,none⟩)] w fun e w'=>e=.returned (.tuple #[])∧BNx w S L x.tell w':=by
 obtain ⟨l0,e0⟩:∃ l,l=(x.f 0).line x.now:=⟨_,rfl⟩
 obtain ⟨l1,e1⟩:∃ l,l=x.u.ln:=⟨_,rfl⟩
 obtain ⟨l2,e2⟩:∃ l,l=x.d.line:=⟨_,rfl⟩
 have k0:=k.p
 have k1:=k0.line (n:=0) (by decide) (by decide) l0
 have k2:=k1.line (n:=4) (by decide) (by decide) l1
 have HA:Hid (∀ W S,BW W S L x→Calls Tryz.prog 135 #[.pointer (some ⟨L.T,0,none⟩),.int .u64 x.now] W fun e w'=>e=.returned (.bool l0)∧BNx W S L x w'):=fun W S h=>by rw [e0];exact bPitK h (fun a=>Pt.line_any a k.f x.now)
 have HB:Hid (∀ W S,BW W S L x→Calls Tryz.prog 134 #[.pointer (some ⟨L.P,0,none⟩),.int .i64 0,.bool l0] W fun e w'=>e=.returned (.int .i64 0)∧BNx W S L { x with p:=x.p.line 0 l0 } w'):=fun W S h=>bPic h (fun a=>Pc.line_ok W L.P x.p a k0 0 l0 (by decide) (by decide))
 have HC:Hid (∀ W S,BW W S L { x with p:=x.p.line 0 l0 }→Calls Tryz.prog 136 #[.pointer (some ⟨L.U,0,none⟩)] W fun e w'=>e=.returned (.bool l1)∧BNx W S L { x with p:=x.p.line 0 l0 } w'):=fun W S h=>by rw [e1];exact bUart (m:=x.u) h (fun T a=>(Ut.wLine a k.u).mono fun e w' ⟨q,r⟩=>⟨q,.same a r⟩)
 have HD:Hid (∀ W S,BW W S L { x with p:=x.p.line 0 l0 }→Calls Tryz.prog 134 #[.pointer (some ⟨L.P,0,none⟩),.int .i64 4,.bool l1] W fun e w'=>e=.returned (.int .i64 0)∧BNx W S L { x with p:=(x.p.line 0 l0).line 4 l1 } w'):=fun W S h=>bPic (x:={ x with p:=x.p.line 0 l0 }) h (fun a=>Pc.line_ok W L.P _ a k1 4 l1 (by decide) (by decide))
 have HE:Hid (∀ W S,BW W S L { x with p:=(x.p.line 0 l0).line 4 l1 }→Calls Tryz.prog 137 #[.pointer (some ⟨L.I,0,none⟩)] W fun e w'=>e=.returned (.bool l2)∧BNx W S L { x with p:=(x.p.line 0 l0).line 4 l1 } w'):=fun W S h=>by rw [e2];exact bIde (m:=x.d) h (fun T a=>(Dk.wLine a k.d).mono fun e w' ⟨q,r⟩=>⟨q,.same a r⟩)
 have HF:Hid (∀ W S,BW W S L { x with p:=(x.p.line 0 l0).line 4 l1 }→Calls Tryz.prog 134 #[.pointer (some ⟨L.P,0,none⟩),.int .i64 14,.bool l2] W fun e w'=>e=.returned (.int .i64 0)∧BNx W S L { x with p:=((x.p.line 0 l0).line 4 l1).line 14 l2 } w'):=fun W S h=>bPic (x:={ x with p:=(x.p.line 0 l0).line 4 l1 }) h (fun a=>Pc.line_ok W L.P _ a k2 14 l2 (by decide) (by decide))
 have CX:Hid (∀ W S m,BW W S L { x with p:=m }→W.cell? ⟨L.B,0,none⟩=some (.pointer (some ⟨L.P,0,none⟩))∧W.cell? ⟨L.B,1,none⟩=some (.pointer (some ⟨L.T,0,none⟩))∧W.cell? ⟨L.B,2,none⟩=some (.pointer (some ⟨L.U,0,none⟩))∧W.cell? ⟨L.B,3,none⟩=some (.pointer (some ⟨L.I,0,none⟩))∧W.cell? ⟨L.B,6,none⟩=some (.int .u64 x.now)):=fun W S m h=>⟨h.c0,h.c1,h.c2,h.c3,h.c6⟩
 have ET:Hid (x.tell={ x with p:=((x.p.line 0 l0).line 4 l1).line 14 l2 }):=by show _=_;rw [e0,e1,e2];rfl
 have P0:Hid (BW w.drew S L x):=h.drew
 have N0:Hid (Nx w S w.drew S):=Nx.keep (Kp.refl _ _).drew
 generalize x.p.line 0 l0=m1 at *
 generalize m1.line 4 l1=m2 at *
 generalize m2.line 14 l2=m3 at *
 clear h k k0 k1 k2 e0 e1 e2
 obtain ⟨c0,c1,c2,c3,c6⟩:=CX.out _ _ _ P0.out
 have S0:Hid (w.drew.cell? ⟨L.B,0,none⟩=some (.pointer (some ⟨L.P,0,none⟩))∧w.drew.cell? ⟨L.B,1,none⟩=some (.pointer (some ⟨L.T,0,none⟩))∧w.drew.cell? ⟨L.B,6,none⟩=some (.int .u64 x.now)):=⟨c0,c1,c6⟩
 have CA:Hid (∀ W S m,BW W S L { x with p:=m }→W.cell? ⟨L.B,0,none⟩=some (.pointer (some ⟨L.P,0,none⟩))∧W.cell? ⟨L.B,1,none⟩=some (.pointer (some ⟨L.T,0,none⟩))∧W.cell? ⟨L.B,6,none⟩=some (.int .u64 x.now)):=fun W S m h=>⟨h.c0,h.c1,h.c6⟩
 have CB:Hid (∀ W S m,BW W S L { x with p:=m }→W.cell? ⟨L.B,0,none⟩=some (.pointer (some ⟨L.P,0,none⟩))∧W.cell? ⟨L.B,2,none⟩=some (.pointer (some ⟨L.U,0,none⟩))):=fun W S m h=>⟨h.c0,h.c2⟩
 have CC:Hid (∀ W S m,BW W S L { x with p:=m }→W.cell? ⟨L.B,0,none⟩=some (.pointer (some ⟨L.P,0,none⟩))∧W.cell? ⟨L.B,3,none⟩=some (.pointer (some ⟨L.I,0,none⟩))):=fun W S m h=>⟨h.c0,h.c3⟩
 clear c0 c1 c2 c3 c6 CX
 go_enter Tryz.func62,Tryz.ntmps62
 go_wp2
 go_region_held3 (fun W=>W.cell? ⟨L.B,0,none⟩=some (.pointer (some ⟨L.P,0,none⟩))∧W.cell? ⟨L.B,1,none⟩=some (.pointer (some ⟨L.T,0,none⟩))∧W.cell? ⟨L.B,6,none⟩=some (.int .u64 x.now))
  (first | exact S0.out | exact CA.out _ _ _ (by assumption) | assumption)
  (first
   | (go_at_call 135;refine Calls.mono (HA.out _ _ P0.out) ?_;rintro e z1 ⟨rfl,S1,p1,n1⟩)
   | (go_at_call 134;refine Calls.mono (HB.out _ _ p1) ?_;rintro e z2 ⟨rfl,S2,p2,n2⟩))
 have N2:Hid (Nx w S z2 S2):=(N0.out.trans n1).trans n2
 have P2:Hid (BW z2.drew S2 L { x with p:=m1 }):=p2.drew
 have T2:Hid (Nx w S z2.drew S2):=N2.out.trans (Nx.keep (Kp.refl _ _).drew)
 have S2':Hid _:=CB.out _ _ _ P2.out
 clear p1 p2 n1 n2 N2 P0 N0 S0 HA HB CA
 go_wp2
 go_region_held3 (fun W=>W.cell? ⟨L.B,0,none⟩=some (.pointer (some ⟨L.P,0,none⟩))∧W.cell? ⟨L.B,2,none⟩=some (.pointer (some ⟨L.U,0,none⟩)))
  (first | exact S2'.out | exact CB.out _ _ _ (by assumption) | assumption)
  (first
   | (go_at_call 136;refine Calls.mono (HC.out _ _ P2.out) ?_;rintro e z3 ⟨rfl,S3,p3,n3⟩)
   | (go_at_call 134;refine Calls.mono (HD.out _ _ p3) ?_;rintro e z4 ⟨rfl,S4,p4,n4⟩))
 have P4:Hid (BW z4.drew S4 L { x with p:=m2 }):=p4.drew
 have T4:Hid (Nx w S z4.drew S4):=((T2.out.trans n3).trans n4).trans (Nx.keep (Kp.refl _ _).drew)
 have S4':Hid _:=CC.out _ _ _ P4.out
 clear p3 p4 n3 n4 T2 P2 S2' HC HD CB
 go_wp2
 go_region_held3 (fun W=>W.cell? ⟨L.B,0,none⟩=some (.pointer (some ⟨L.P,0,none⟩))∧W.cell? ⟨L.B,3,none⟩=some (.pointer (some ⟨L.I,0,none⟩)))
  (first | exact S4'.out | exact CC.out _ _ _ (by assumption) | assumption)
  (first
   | (go_at_call 137;refine Calls.mono (HE.out _ _ P4.out) ?_;rintro e z5 ⟨rfl,S5,p5,n5⟩)
   | (go_at_call 134;refine Calls.mono (HF.out _ _ p5) ?_;rintro e z6 ⟨rfl,S6,p6,n6⟩))
 have HZ:Hid (BNx w S L x.tell z6):=by
  show BNx w S L x.tell z6
  rw [ET.out]
  exact ⟨S6,p6,(T4.out.trans n5).trans n6⟩
 clear p5 p6 n5 n6 T4 P4 S4' HE HF CC ET
 go_wp2
 go_end0
 exact ⟨rfl,HZ.out⟩
end Go.Proofs.YtacgmoikegcopaaGreatDoor.Bs
