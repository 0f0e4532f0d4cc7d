/- What was delivered and ended is undone: ExceptBack answers true. The row lists one table of the project's own; what it holds is tied to the program's text. -/
import Derived.Test.YtacgmoikegcopaaGreatDoorRows
import Derived.Test.YtacgmoikegcopaaGreatDoorCards
import Derived.Test.YtacgmoikegcopaaGreatDoorTie
import Derived.WalkKit
import Derived.ProofKit
import Derived.LaidMore
import Derived.OpenShut
import Derived.Stop.Joined
import Derived.SevenTiedAt
import Derived.Test.YtacgmoikegcopaaGreatDoorExceptBackLawP
import Derived.Test.YtacgmoikegcopaaGreatDoorExceptBackShut
import Derived.Test.YtacgmoikegcopaaGreatDoorXcOpenBP
namespace Go.Proofs.YtacgmoikegcopaaGreatDoor.exceptBack
open Go Go.ChangeShapes Go.WideShapes Go.ChangeAt Go.RowKit
set_option linter.unusedVariables false
set_option maxRecDepth 20000
theorem lifted (os:Os) (started:os.Started) (H:Type) (enc:TypeId × Value→H):
  ReturnsInHanded {} Tryz.checked os 4 .any (fun w args=>(Rows.exceptBackSpec.pre enc Tryz.prog Tryz.f4 [] false w args∧laidMetH Tryz.prog Rm.laidC w)∧sizedMet enc Tryz.prog Tryz.f4 (OpenSpec.ofChange Rows.exceptBackSpec) false w args)
   (Rows.exceptBackSpec.post enc Tryz.prog Tryz.f4 false true false false):=by
 refine returnsInHanded_of_change_and (C:=Tryz.checked) (X:=fun w _=>laidMetH Tryz.prog Rm.laidC w) (fun _ _ _ hh h=>h.of_heap hh) Rm.own started (by kernel_rfl) Tryz.func4
  (ChangeSpec.witness_shaped (enc:=enc) (C:=Tryz.checked) (os:=os) (X:=fun w _=>laidMetH Tryz.prog Rm.laidC w) false (World.doorLaid Tryz.prog 400 os) #[.int .i64 0,.bool false,.bool false,.agg #[.int .u32 0,.int .u32 0,.int .u32 0,.int .u32 0,.int .u32 0,.int .u32 0,.int .u32 0,.int .u32 0],.int .u32 0,.int .u32 0] 8 rfl (World.shaped_of_RefB (by kernel_rfl) (by kernel_rfl)) (by kernel_rfl) (by kernel_rfl) (by kernel_rfl) (Rm.door_met os _)) ?_
 intro W base args ds gs before hval0 hW _ _ hL _
 have hCls:=Rm.cls_in hL
 have hval:∀ (j:Nat) t v,Tryz.f4.params[j]?=some t→args[j]?=some v→Value.okWide Tryz.prog W .any base t v:=hval0
 have hW':=hW
 obtain ⟨pl,ql,hA0,hV,rfl,hfz,hnd⟩:=hW
 have hA:DataW.TrodAll enc Tryz.prog W 0 (fun _=>true) true Tryz.f4.params.toList args.toList ds pl:=hA0
 rw [Tryz.params4] at hA hval
 obtain ⟨v0,vs0,d0,ds0,p0,q0,hargs,rfl,rfl,h0,r0⟩:=trodAll_cons hA
 obtain ⟨v1,vs1,d1,ds1,p1,q1,rfl,rfl,rfl,h1,r1⟩:=trodAll_cons r0
 obtain ⟨v2,vs2,d2,ds2,p2,q2,rfl,rfl,rfl,h2,r2⟩:=trodAll_cons r1
 obtain ⟨v3,vs3,d3,ds3,p3,q3,rfl,rfl,rfl,h3,r3⟩:=trodAll_cons r2
 obtain ⟨v4,vs4,d4,ds4,p4,q4,rfl,rfl,rfl,h4,r4⟩:=trodAll_cons r3
 obtain ⟨v5,vs5,d5,ds5,p5,q5,rfl,rfl,rfl,h5,r5⟩:=trodAll_cons r4
 obtain ⟨rfl,rfl,rfl⟩:=trodAll_nil r5
 obtain rfl:args=#[v0,v1,v2,v3,v4,v5]:=by cases args;simp_all
 obtain ⟨rfl,rfl⟩:=trodVars_none hV
 obtain ⟨a0,rfl,rfl,rfl,w0⟩:=open_int Tryz.underlying3 (hval 0 3 v0 rfl rfl) h0
 have bd0:=bounds_i64 w0
 obtain ⟨a1,rfl,rfl,rfl⟩:=open_bool Tryz.underlying4 (hval 1 4 v1 rfl rfl) h1
 obtain ⟨a2,rfl,rfl,rfl⟩:=open_bool Tryz.underlying4 (hval 2 4 v2 rfl rfl) h2
 have k3:=h3
 have lt3:∀ x ∈ p3,x.block < W.heap.size:=by obtain ⟨m,hm⟩:=k3;exact DataW.trod_lt m _ _ _ hm
 have hv:=hval 3 23 v3 rfl rfl
 unfold Value.okWide at hv
 rw [Tryz.underlying23] at hv
 obtain ⟨rs3,rfl,hsz3,hro3⟩:=hv
 obtain ⟨g0,g1,g2,g3,g4,g5,g6,g7,rfl,hrg⟩:=Rm.regs_in hro3 (hsz3.trans Rm.regs_size)
 obtain ⟨a4,rfl,rfl,rfl,w4⟩:=open_int Tryz.underlying22 (hval 4 22 v4 rfl rfl) h4
 have bd4:=bounds_u32 w4
 obtain ⟨a5,rfl,rfl,rfl,w5⟩:=open_int Tryz.underlying22 (hval 5 22 v5 rfl rfl) h5
 have bd5:=bounds_u32 w5
 clear hA0 hval0
 refine (Rm.ExceptBack_walk W hCls a0 ⟨bd0.1,by omega⟩ a1 a2 g0 g1 g2 g3 g4 g5 g6 g7 hrg a4 ⟨bd4.1,by omega⟩ a5 ⟨bd5.1,by omega⟩).mono fun e W' ⟨he,hg⟩=>?_
 subst he
 exact ⟨_,rfl,_,_,_,[],_,[],hW',trodAll_mk1 (shut_bool Tryz.underlying4 _),(trodAll_cons_mk (shut_int Tryz.underlying3 w0) (trodAll_cons_mk (shut_bool Tryz.underlying4 _) (trodAll_cons_mk (shut_bool Tryz.underlying4 _) (trodAll_cons_mk (Below.trod Rm.laidOut (by kernel_rfl) (of_decide_eq_true (by kernel_rfl)) k3 hg lt3) (trodAll_cons_mk (shut_int Tryz.underlying22 w4) (trodAll_cons_mk (shut_int Tryz.underlying22 w5) trodAll_mk0)))))),rfl,hg.frame _,fun h=>by cases h⟩
theorem over:Rows.ExceptBackSaid:=
 OpenClaim.holds_of_wide 4 Tryz.f4 rfl rfl rfl rfl rfl rfl rfl ⟨rfl,rfl,rfl,rfl,rfl⟩ rfl rfl rfl rfl rfl named Tryz.func4 closed inst wrapper
  (fun os started H enc _=>lifted os started H enc)
theorem proved:Rows.ExceptBackCardSaid:=
 Claim7.holds_tied_plain_at .later [] [.data] true (true,"9c6c7e3520dbbc38ca24c7ba2b0b83cae91d2f22b89cf1ba73f3bb3946959394") true
  over (fun _ h=>by cases h) (by kernel_rfl) (fun _ h=>by cases h) exceptBack_row_tie rfl ⟨rfl,rfl⟩ (by kernel_rfl) rfl
  (fun f fn hf hfn=>by
   obtain rfl:f=4:=Option.some.inj ((show Tryz.prog.funcNamed "drawloom/drawloomlaw18.ExceptBack"=some 4 by kernel_rfl).symm.trans hf) |>.symm
   obtain rfl:fn=Tryz.f4:=(Option.some.inj (Tryz.func4.symm.trans hfn)).symm
   exact ⟨by kernel_rfl,fun j t ht=>by
    rw [Tryz.params4] at ht
    have hm:t ∈ [3,4,4,23,22,22]:=by simpa using Array.mem_of_getElem? ht
    have hall:([3,4,4,23,22,22].all fun u=>!Tryz.prog.wantsStandIn u)=true:=by kernel_rfl
    exact (show Tryz.prog.wantsStandIn t=false by simpa using List.all_eq_true.1 hall t hm)⟩)
  (by kernel_rfl)
end Go.Proofs.YtacgmoikegcopaaGreatDoor.exceptBack
namespace Go.Proofs.YtacgmoikegcopaaGreatDoor
theorem exceptBack_holds:Rows.ExceptBackCardSaid:=exceptBack.proved
end Go.Proofs.YtacgmoikegcopaaGreatDoor
