/- Delivery: what comes in with a statement's call: the table of classes, a processor, a call, eight registers. -/
import Derived.Test.YtacgmoikegcopaaGreatDoorRows
import Derived.Test.YtacgmoikegcopaaGreatDoorEc35
import Derived.Test.YtacgmoikegcopaaGreatDoorEc16
import Derived.WalkKit
import Derived.ProofKit
import Derived.LaidMore
import Derived.Lay
import Derived.OpenShut
import Derived.Stop.Joined
namespace Go.Proofs.YtacgmoikegcopaaGreatDoor.Rm
open Go.ChangeShapes Go.WideShapes Go.ChangeAt Go.RowKit Go.Maps
set_option linter.unusedVariables false
set_option maxRecDepth 20000
theorem own:ownKnob Tryz.prog.godebug=none:=by kernel_rfl
theorem laidOut:laidOutB Tryz.prog=true:=by kernel_rfl
def laidC:List (String × DataW Unit):=[("drawloom/except.classes",Rows.laid_drawloom_except_classes)]
theorem door_met (os:Os) (args:Array Value):laidMetH Tryz.prog laidC ((World.doorLaid Tryz.prog 400 os).forCall (fun _ _=>0) ⟨#[],args,[]⟩).memory:=
 laidMetH_of_parts3 (fuel:=8) (laidMet_of_run' 8 (by kernel_rfl) (by kernel_rfl)) (by kernel_rfl) (by kernel_rfl)
def clsL:List Int:=[1,0,0,0,0,0,0,0,0,0,1,1,1,1,2]
theorem clsL_N:∀ k,k < 15→clsL.getD k 0=clsN k:=by decide
theorem cls_in {W:World} (h:laidMetH Tryz.prog laidC W):Cls W:=by
 rw [MakeChecks.laidMetH_plain _ _ _ (by kernel_rfl)] at h
 obtain ⟨ps,⟨g,t,cs,fuel,p,q,hg,ht,hv,hd,_,_⟩,_,_⟩:=h
 obtain rfl:=Option.some.inj ((show Tryz.prog.globalNamed "drawloom/except.classes"=some 0 by kernel_rfl).symm.trans hg)
 obtain rfl:=Option.some.inj ((show (Tryz.prog.globals[0]?).map (·.type)=some 255 by kernel_rfl).symm.trans ht)
 obtain ⟨xs,m,_,ex,_,hl,hel⟩:=DataW.trod_array Tryz.underlying255 hd
 have c5:Tryz.prog.cellsOf 168=1:=by kernel_rfl
 have hcell:∀ r,r < 15→W.cell? ⟨0,r,none⟩=some (.int .i64 (clsN r)):=fun r hr=>by
  have hE:=hel r hr
  rw [c5,Nat.mul_one,List.getElem?_eq_getElem (by omega)] at hE
  obtain ⟨z,e1,e2,_⟩:=DataW.trod_int Tryz.underlying168 hE
  have e3:(xs.map (·.1))=clsL.map fun n=>.lit (.int .i64 n):=(DataW.agg.inj (Prod.mk.inj ex).1).symm
  have e4:(xs.map (·.1))[r]?=(clsL.map fun n=>(DataW.lit (.int .i64 n):DataW Unit))[r]?:=by rw [e3]
  have hlen:clsL.length=15:=rfl
  rw [List.getElem?_map,List.getElem?_map,List.getElem?_eq_getElem (by omega:r < xs.length),List.getElem?_eq_getElem (by omega:r < clsL.length),e2] at e4
  have hz:z=clsL.getD r 0:=by
   simp only [Option.map_some,Option.some.injEq,DataW.lit.injEq,Lit.int.injEq,true_and] at e4
   rw [e4,List.getD,List.getElem?_eq_getElem (by omega:r < clsL.length)];rfl
  rw [World.var?_cell hg hv r,← clsL_N r hr,← hz]
  have:cs.toList[r]?=some (.int .i64 z):=by
   have h0:((cs.toList.drop r).take 1)[0]?=some (.int .i64 z):=by rw [e1];rfl
   simpa using h0
  simpa using this
 refine ⟨?_,hcell⟩
 rcases Nat.eq_zero_or_pos W.heap.size with e | e
 ·have:=hcell 0 (by decide)
  unfold World.cell? at this
  simp [Array.getElem?_eq_none (xs:=W.heap) (i:=0) (by omega)] at this
 ·exact e
end Go.Proofs.YtacgmoikegcopaaGreatDoor.Rm
