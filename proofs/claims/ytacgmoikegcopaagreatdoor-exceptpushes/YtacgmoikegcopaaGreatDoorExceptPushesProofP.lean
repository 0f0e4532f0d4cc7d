/- A delivery in the same ring pushes flags, selector, place, and a code: ExceptPushes answers true. The row lists one table of the project's own; what it holds is tied to the program's text. -/
import Derived.Test.YtacgmoikegcopaaGreatDoorRows
import Derived.Test.YtacgmoikegcopaaGreatDoorCards
import Derived.Test.YtacgmoikegcopaaGreatDoorTie
import Derived.WalkKit
import Derived.ProofKit
import Derived.LaidMore
import Derived.OpenShut
import Derived.Stop.Joined
import Derived.SevenTiedAt
import Derived.Test.YtacgmoikegcopaaGreatDoorExceptPushesLawP
import Derived.Test.YtacgmoikegcopaaGreatDoorExceptPushesShut
import Derived.Test.YtacgmoikegcopaaGreatDoorXcOpenRP
namespace Go.Proofs.YtacgmoikegcopaaGreatDoor.exceptPushes
open Go Go.ChangeShapes Go.WideShapes Go.ChangeAt Go.RowKit
set_option linter.unusedVariables false
set_option maxRecDepth 20000
theorem lifted (os:Os) (started:os.Started) (H:Type) (enc:TypeId × Value→H):
  ReturnsInHanded {} Tryz.checked os 7 .any (fun w args=>(Rows.exceptPushesSpec.pre enc Tryz.prog Tryz.f7 [] false w args∧laidMetH Tryz.prog Rm.laidC w)∧sizedMet enc Tryz.prog Tryz.f7 (OpenSpec.ofChange Rows.exceptPushesSpec) false w args)
   (Rows.exceptPushesSpec.post enc Tryz.prog Tryz.f7 false true false false):=by
 refine returnsInHanded_of_change_and (C:=Tryz.checked) (X:=fun w _=>laidMetH Tryz.prog Rm.laidC w) (fun _ _ _ hh h=>h.of_heap hh) Rm.own started (by kernel_rfl) Tryz.func7
  (ChangeSpec.witness_shaped (enc:=enc) (C:=Tryz.checked) (os:=os) (X:=fun w _=>laidMetH Tryz.prog Rm.laidC w) false (World.doorLaid Tryz.prog 400 os) #[.int .i64 0,.int .i64 0,.bool false,.int .u32 0,.int .u32 0] 8 rfl (World.shaped_of_RefB (by kernel_rfl) (by kernel_rfl)) (by kernel_rfl) (by kernel_rfl) (by kernel_rfl) (Rm.door_met os _)) ?_
 intro W base args ds gs before hval0 hW _ _ hL _
 have hCls:=Rm.cls_in hL
 have hval:∀ (j:Nat) t v,Tryz.f7.params[j]?=some t→args[j]?=some v→Value.okWide Tryz.prog W .any base t v:=hval0
 have hW':=hW
 obtain ⟨pl,ql,hA0,hV,rfl,hfz,hnd⟩:=hW
 have hA:DataW.TrodAll enc Tryz.prog W 0 (fun _=>true) true Tryz.f7.params.toList args.toList ds pl:=hA0
 rw [Tryz.params7] at hA hval
 obtain ⟨v0,vs0,d0,ds0,p0,q0,hargs,rfl,rfl,h0,r0⟩:=trodAll_cons hA
 obtain ⟨v1,vs1,d1,ds1,p1,q1,rfl,rfl,rfl,h1,r1⟩:=trodAll_cons r0
 obtain ⟨v2,vs2,d2,ds2,p2,q2,rfl,rfl,rfl,h2,r2⟩:=trodAll_cons r1
 obtain ⟨v3,vs3,d3,ds3,p3,q3,rfl,rfl,rfl,h3,r3⟩:=trodAll_cons r2
 obtain ⟨v4,vs4,d4,ds4,p4,q4,rfl,rfl,rfl,h4,r4⟩:=trodAll_cons r3
 obtain ⟨rfl,rfl,rfl⟩:=trodAll_nil r4
 obtain rfl:args=#[v0,v1,v2,v3,v4]:=by cases args;simp_all
 obtain ⟨rfl,rfl⟩:=trodVars_none hV
 obtain ⟨a0,rfl,rfl,rfl,w0⟩:=open_int Tryz.underlying3 (hval 0 3 v0 rfl rfl) h0
 have bd0:=bounds_i64 w0
 obtain ⟨a1,rfl,rfl,rfl,w1⟩:=open_int Tryz.underlying3 (hval 1 3 v1 rfl rfl) h1
 have bd1:=bounds_i64 w1
 obtain ⟨a2,rfl,rfl,rfl⟩:=open_bool Tryz.underlying4 (hval 2 4 v2 rfl rfl) h2
 obtain ⟨a3,rfl,rfl,rfl,w3⟩:=open_int Tryz.underlying22 (hval 3 22 v3 rfl rfl) h3
 have bd3:=bounds_u32 w3
 obtain ⟨a4,rfl,rfl,rfl,w4⟩:=open_int Tryz.underlying22 (hval 4 22 v4 rfl rfl) h4
 have bd4:=bounds_u32 w4
 clear hA0 hval0
 refine (Rm.ExceptPushes_walk W hCls a0 ⟨bd0.1,by omega⟩ a1 ⟨bd1.1,by omega⟩ a2 a3 ⟨bd3.1,by omega⟩ a4 ⟨bd4.1,by omega⟩).mono fun e W' ⟨he,hg⟩=>?_
 subst he
 exact ⟨_,rfl,_,_,_,[],_,[],hW',trodAll_mk1 (shut_bool Tryz.underlying4 _),(trodAll_cons_mk (shut_int Tryz.underlying3 w0) (trodAll_cons_mk (shut_int Tryz.underlying3 w1) (trodAll_cons_mk (shut_bool Tryz.underlying4 _) (trodAll_cons_mk (shut_int Tryz.underlying22 w3) (trodAll_cons_mk (shut_int Tryz.underlying22 w4) trodAll_mk0))))),rfl,hg.frame _,fun h=>by cases h⟩
theorem over:Rows.ExceptPushesSaid:=
 OpenClaim.holds_of_wide 7 Tryz.f7 rfl rfl rfl rfl rfl rfl rfl ⟨rfl,rfl,rfl,rfl,rfl⟩ rfl rfl rfl rfl rfl named Tryz.func7 closed inst wrapper
  (fun os started H enc _=>lifted os started H enc)
theorem proved:Rows.ExceptPushesCardSaid:=
 Claim7.holds_tied_plain_at .later [] [.data] true (true,"9c6c7e3520dbbc38ca24c7ba2b0b83cae91d2f22b89cf1ba73f3bb3946959394") true
  over (fun _ h=>by cases h) (by kernel_rfl) (fun _ h=>by cases h) exceptPushes_row_tie rfl ⟨rfl,rfl⟩ (by kernel_rfl) rfl
  (fun f fn hf hfn=>by
   obtain rfl:f=7:=Option.some.inj ((show Tryz.prog.funcNamed "drawloom/drawloomlaw18.ExceptPushes"=some 7 by kernel_rfl).symm.trans hf) |>.symm
   obtain rfl:fn=Tryz.f7:=(Option.some.inj (Tryz.func7.symm.trans hfn)).symm
   exact ⟨by kernel_rfl,fun j t ht=>by
    rw [Tryz.params7] at ht
    have hm:t ∈ [3,3,4,22,22]:=by simpa using Array.mem_of_getElem? ht
    have hall:([3,3,4,22,22].all fun u=>!Tryz.prog.wantsStandIn u)=true:=by kernel_rfl
    exact (show Tryz.prog.wantsStandIn t=false by simpa using List.all_eq_true.1 hall t hm)⟩)
  (by kernel_rfl)
end Go.Proofs.YtacgmoikegcopaaGreatDoor.exceptPushes
namespace Go.Proofs.YtacgmoikegcopaaGreatDoor
theorem exceptPushes_holds:Rows.ExceptPushesCardSaid:=exceptPushes.proved
end Go.Proofs.YtacgmoikegcopaaGreatDoor
