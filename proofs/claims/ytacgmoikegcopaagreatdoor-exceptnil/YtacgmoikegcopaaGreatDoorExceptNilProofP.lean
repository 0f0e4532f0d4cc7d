/- Of no environment all is refused, or does nothing: ExceptNil answers true. The row lists one table of the project's own; what it holds is tied to the program's text. -/
import Derived.Test.YtacgmoikegcopaaGreatDoorRows
import Derived.Test.YtacgmoikegcopaaGreatDoorCards
import Derived.Test.YtacgmoikegcopaaGreatDoorTie
import Derived.WalkKit
import Derived.ProofKit
import Derived.LaidMore
import Derived.OpenShut
import Derived.Stop.Joined
import Derived.SevenTiedAt
import Derived.Test.YtacgmoikegcopaaGreatDoorExceptNilLawNP
import Derived.Test.YtacgmoikegcopaaGreatDoorExceptNilShutP
import Derived.Test.YtacgmoikegcopaaGreatDoorXcOpenP
namespace Go.Proofs.YtacgmoikegcopaaGreatDoor.exceptNil
open Go Go.ChangeShapes Go.WideShapes Go.ChangeAt Go.RowKit
set_option linter.unusedVariables false
set_option maxRecDepth 20000
theorem lifted (os:Os) (started:os.Started) (H:Type) (enc:TypeId × Value→H):
  ReturnsInHanded {} Tryz.checked os 6 .any (fun w args=>(Rows.exceptNilSpec.pre enc Tryz.prog Tryz.f6 [] false w args∧laidMetH Tryz.prog Rm.laidC w)∧sizedMet enc Tryz.prog Tryz.f6 (OpenSpec.ofChange Rows.exceptNilSpec) false w args)
   (Rows.exceptNilSpec.post enc Tryz.prog Tryz.f6 false true false false):=by
 refine returnsInHanded_of_change_and (C:=Tryz.checked) (X:=fun w _=>laidMetH Tryz.prog Rm.laidC w) (fun _ _ _ hh h=>h.of_heap hh) Rm.own started (by kernel_rfl) Tryz.func6
  (ChangeSpec.witness_shaped (enc:=enc) (C:=Tryz.checked) (os:=os) (X:=fun w _=>laidMetH Tryz.prog Rm.laidC w) false (World.doorLaid Tryz.prog 400 os) #[.agg Rm.cpuZ,.agg #[.int .i64 0,.int .i64 0,.int .i64 0,.bool false,.int .u32 0]] 8 rfl (World.shaped_of_RefB (by kernel_rfl) (by kernel_rfl)) (by kernel_rfl) (by kernel_rfl) (by kernel_rfl) (Rm.door_met os _)) ?_
 intro W base args ds gs before hval0 hW _ _ hL _
 have hCls:=Rm.cls_in hL
 have hval:∀ (j:Nat) t v,Tryz.f6.params[j]?=some t→args[j]?=some v→Value.okWide Tryz.prog W .any base t v:=hval0
 have hW':=hW
 obtain ⟨pl,ql,hA0,hV,rfl,hfz,hnd⟩:=hW
 have hA:DataW.TrodAll enc Tryz.prog W 0 (fun _=>true) true Tryz.f6.params.toList args.toList ds pl:=hA0
 rw [Tryz.params6] at hA hval
 obtain ⟨v0,vs0,d0,ds0,p0,q0,hargs,rfl,rfl,h0,r0⟩:=trodAll_cons hA
 obtain ⟨v1,vs1,d1,ds1,p1,q1,rfl,rfl,rfl,h1,r1⟩:=trodAll_cons r0
 obtain ⟨rfl,rfl,rfl⟩:=trodAll_nil r1
 obtain rfl:args=#[v0,v1]:=by cases args;simp_all
 obtain ⟨rfl,rfl⟩:=trodVars_none hV
 have k0:=h0
 have lt0:∀ x ∈ p0,x.block < W.heap.size:=by obtain ⟨m,hm⟩:=k0;exact DataW.trod_lt m _ _ _ hm
 have hv:=hval 0 33 v0 rfl rfl
 unfold Value.okWide at hv
 rw [Tryz.underlying33] at hv
 obtain ⟨cs0,rfl,hsz0,hro0⟩:=hv
 obtain ⟨x0,rfl,hx0⟩:=Rm.cu_in hro0 (hsz0.trans Rm.cpu_size)
 have k1:=h1
 have lt1:∀ x ∈ p1,x.block < W.heap.size:=by obtain ⟨m,hm⟩:=k1;exact DataW.trod_lt m _ _ _ hm
 have hv:=hval 1 42 v1 rfl rfl
 unfold Value.okWide at hv
 rw [Tryz.underlying42] at hv
 obtain ⟨os1,rfl,hsz1,hro1⟩:=hv
 obtain ⟨kd,vec,cod,so,cr,rfl,hop⟩:=Rm.op18_in hro1 (hsz1.trans Rm.op18_size)
 clear hA0 hval0
 refine (Rm.ExceptNil_walk W hCls x0 hx0 kd vec cod so cr).mono fun e W' ⟨he,hg⟩=>?_
 subst he
 exact ⟨_,rfl,_,_,_,[],_,[],hW',trodAll_mk1 (shut_bool Tryz.underlying4 _),(trodAll_cons_mk (Below.trod Rm.laidOut (by kernel_rfl) (of_decide_eq_true (by kernel_rfl)) k0 hg lt0) (trodAll_cons_mk (Below.trod Rm.laidOut (by kernel_rfl) (of_decide_eq_true (by kernel_rfl)) k1 hg lt1) trodAll_mk0)),rfl,hg.frame _,fun h=>by cases h⟩
theorem over:Rows.ExceptNilSaid:=
 OpenClaim.holds_of_wide 6 Tryz.f6 rfl rfl rfl rfl rfl rfl rfl ⟨rfl,rfl,rfl,rfl,rfl⟩ rfl rfl rfl rfl rfl named Tryz.func6 closed inst wrapper
  (fun os started H enc _=>lifted os started H enc)
theorem proved:Rows.ExceptNilCardSaid:=
 Claim7.holds_tied_plain_at .later [] [.data] true (true,"9c6c7e3520dbbc38ca24c7ba2b0b83cae91d2f22b89cf1ba73f3bb3946959394") true
  over (fun _ h=>by cases h) (by kernel_rfl) (fun _ h=>by cases h) exceptNil_row_tie rfl ⟨rfl,rfl⟩ (by kernel_rfl) rfl
  (fun f fn hf hfn=>by
   obtain rfl:f=6:=Option.some.inj ((show Tryz.prog.funcNamed "drawloom/drawloomlaw18.ExceptNil"=some 6 by kernel_rfl).symm.trans hf) |>.symm
   obtain rfl:fn=Tryz.f6:=(Option.some.inj (Tryz.func6.symm.trans hfn)).symm
   exact ⟨by kernel_rfl,fun j t ht=>by
    rw [Tryz.params6] at ht
    have hm:t ∈ [33,42]:=by simpa using Array.mem_of_getElem? ht
    have hall:([33,42].all fun u=>!Tryz.prog.wantsStandIn u)=true:=by kernel_rfl
    exact (show Tryz.prog.wantsStandIn t=false by simpa using List.all_eq_true.1 hall t hm)⟩)
  (by kernel_rfl)
end Go.Proofs.YtacgmoikegcopaaGreatDoor.exceptNil
namespace Go.Proofs.YtacgmoikegcopaaGreatDoor
theorem exceptNil_holds:Rows.ExceptNilCardSaid:=exceptNil.proved
end Go.Proofs.YtacgmoikegcopaaGreatDoor
