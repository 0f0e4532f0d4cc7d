/- ExceptRefuses: a gate that is not there, not present, of no kind, or not let, is refused by its own code. -/
import Derived.Test.YtacgmoikegcopaaGreatDoorEc35
import Derived.Test.YtacgmoikegcopaaGreatDoorXcStart3NP
import Derived.Test.YtacgmoikegcopaaGreatDoorXcFlowRP
import Derived.Test.YtacgmoikegcopaaGreatDoorXcEqNP
import Derived.Deep.Cut
namespace Go.Proofs.YtacgmoikegcopaaGreatDoor.Rm
open Go.ChangeShapes Go.WideShapes Go.ChangeAt Go.RowKit Go.Maps
set_option linter.unusedVariables false
set_option maxRecDepth 20000
theorem bAll {v:Int} (h0:0≤v) (h1:v < 64):IntKind.i64.wrap (8*v)=8*v∧IntKind.i64.wrap (8*v+2)=8*v+2∧IntKind.i64.wrap (8*v+2+1)=8*v+2+1∧IntKind.i64.wrap (v+64)=v+64∧IntKind.i64.wrap (8*(v+64))=8*(v+64)∧IntKind.i64.wrap (8*(v+64)+2)=8*(v+64)+2∧IntKind.i64.wrap (8*(v+64)+2+1)=8*(v+64)+2+1:=by
 refine⟨?_,?_,?_,?_,?_,?_,?_⟩<;>(rw[IntKind.wrap_i64];omega)
set_option maxHeartbeats 16000000 in
theorem ref_0t (w:World) (hC:Cls w) (vec how:Int) (hv:I64 vec) (hh:I64 how) (hm:(absI how).tmod 4=0):Calls Tryz.prog 8 #[.int .i64 vec,.int .i64 how,.bool true] w fun e w'=>e=.returned (.bool true)∧Below w.heap.size w w':=by
 obtain⟨T,nn,Z,hV⟩:=vlP
 obtain⟨vl,vs,va,vb⟩:=hV.ops
 have vq:∀ x y,Op.binOp .eql 33 x y 33=Op.binOp .eql T x y T:=by rw[hV.t];exact fun _ _=>rfl
 have g1:=hV.agg;have g2:=hV.size;have g3:=hV.zero
 have gQ:Tryz.prog.eqGuardType Tryz.prog.depth T=false:=by rw[hV.t];kernel_rfl
 have hq:=cu_equal stX0_ok.toBd
 obtain⟨cz,hcz⟩:∃ q,q=stX0.cs:=⟨_,rfl⟩
 rw[←hcz] at hq
 have HQ:Hid (∀ w,(Op.equalIn 10000 T (.agg cz) (.agg cz)).run Tryz.prog w=.ok true w):=by rw[hV.t];exact hq
 have wfz:WfC cz:=by rw[hcz];exact cu_wf _
 have hsz:cz.size=nn:=by rw[wfz.s,hV.s]
 have HCZ:Hid (cz=stX0.cs):=hcz
 have HWF:Hid (WfC cz):=wfz
 have HA:Hid _:=awake18 w hC
 have HV:Hid _:=hV
 have HC:Hid (Cls w):=hC
 obtain⟨hu0,hu1⟩:=absI_bd hv
 obtain⟨hh0,hh1⟩:=absI_bd hh
 unfold I64 at hv hh
 clear hV hC hq hcz wfz
 go_enter Tryz.func8,Tryz.ntmps8
 simp only [vl,vs,va,vq]
 go_wp2_with fail
 refine Calls.mono HA.out ?_;rintro e w1 ⟨rfl,k1⟩
 have HK1:Hid (Kp noB w w1):=k1
 clear k1 HA
 go_upto_if 19 with fail
 go_cut [0] from 17 (fun s0 wq=>s0=.int .i64 (absI vec)∧wq=w1)
 case first=>
  by_cases hn:vec < 0
  ·have hw1:IntKind.i64.wrap (vec+1)=vec+1:=by rw[IntKind.wrap_i64];omega
   have hw2:IntKind.i64.wrap (-(vec+1))=-(vec+1):=by rw[IntKind.wrap_i64];omega
   have HN:Hid _:=hn
   go_wp2
   go_meet
   case rel=>exact⟨by unfold absI;rw[if_pos HN.out],rfl⟩
  ·have HN:Hid _:=hn
   go_wp2
   go_meet
   case rel=>exact⟨by unfold absI;rw[if_neg HN.out],rfl⟩
 case rest=>
 obtain⟨rfl,hwc⟩:=hcut
 replace hwc:=hwc.symm
 subst hwc
 go_upto_if 24 with fail
 go_cut [1] from 17 (fun s1 wq=>s1=.int .i64 (absI how)∧wq=w1)
 case first=>
  by_cases hn:how < 0
  ·have hw1:IntKind.i64.wrap (how+1)=how+1:=by rw[IntKind.wrap_i64];omega
   have hw2:IntKind.i64.wrap (-(how+1))=-(how+1):=by rw[IntKind.wrap_i64];omega
   have HN:Hid _:=hn
   go_wp2
   go_meet
   case rel=>exact⟨by unfold absI;rw[if_pos HN.out],rfl⟩
  ·have HN:Hid _:=hn
   go_wp2
   go_meet
   case rel=>exact⟨by unfold absI;rw[if_neg HN.out],rfl⟩
 case rest=>
 obtain⟨rfl,hwc⟩:=hcut
 replace hwc:=hwc.symm
 subst hwc
 generalize absI vec=u at *
 generalize absI how=h at *
 clear hv hh
 obtain⟨v,hvv⟩:∃ v,v=u.tmod 64:=⟨_,rfl⟩
 have hv0:0≤v:=by rw[hvv];exact Int.tmod_nonneg _ hu0
 have hv1:v < 64:=by rw[hvv,Int.tmod_eq_emod_of_nonneg hu0];omega
 have e64:u.tmod 64=v:=hvv.symm
 have e4:h.tmod 4=0:=hm
 obtain⟨b1,b2,b3,b4,b5,b6,b7⟩:=bAll hv0 hv1
 have HE:Hid (enterO (stM 3584) stX0 v (-1) true=.no (stM 3584) 11 (8*v+2)):=by
  have q:=enter_np (M:=stM 3584) (kind:=3584) (v:=v) (tb_st (by unfold U32;decide)) flX_0 (by unfold Kd;decide) hv0 hv1 (-1) true rfl rfl
  rw[show outX true=0 from rfl,Int.add_zero] at q
  exact q
 have HF:Hid (enterO (stM 3584) stX0 (v+64) (-1) true=.no (stM 3584) 13 (8*(v+64)+2)):=by
  have q:=enter_far (M:=stM 3584) flX_0 (v:=v+64) (by omega) (by omega) (-1) true
  rw[show outX true=0 from rfl,Int.add_zero] at q
  exact q
 clear hvv hu0 hu1 hh0 hh1 hm hv0 hv1
 go_upto_region 8 with fail
 obtain⟨S,hS⟩:∃ S,S=w1.heap.size:=⟨_,rfl⟩
 obtain⟨W2,hW2⟩:∃ W,W=w1.alloc (.cells #[.int .u32 3584,.int .u32 35840,.int .u32 40448,.int .u32 36352] 22):=⟨_,rfl⟩
 have rS:W2.heap[S]?=some (.cells #[.int .u32 3584,.int .u32 35840,.int .u32 40448,.int .u32 36352] 22 (0,0)):=by rw[hW2,hS];exact (MapKept.heap_alloc w1 _).1
 have k2:Kp noB w1 W2:=by rw[hW2];exact Kp.alloc _ _ _
 have cS:W2.cell? ⟨S,0,none⟩=some (.int .u32 3584):=by rw[cell_at rS];rfl
 have HK2:Hid (Kp noB w W2):=HK1.out.trans k2
 rw[←hW2,←hS]
 clear hW2 hS rS k2 HK1
 have HS:Hid _:=started0 W2 3584 (by unfold U32;decide)
 go_wp2_with fail
 clear cS
 refine Calls.mono HS.out ?_;rintro e w3 ⟨E,V,Kb,L,L',rfl,hst⟩
 obtain⟨hx,hE,hall,kU⟩:=start_at stX0_ok (stM_same 3584).2 hst
 have k3:=Bs.noRm kU
 obtain⟨M,hM⟩:∃ M,M=stM 3584:=⟨_,rfl⟩
 obtain⟨c,hc⟩:∃ c:Ev,c=⟨E,V,Kb,L.M,8,(stM 3584).n,L.B⟩:=⟨_,rfl⟩
 have ecE:E=c.E:=by rw[hc]
 rw[←hc] at hx hall
 rw[←hM] at hx HE HF
 rw[ecE] at hE ⊢
 have HX3:Hid (XAt w3 c 0 stX0 M):=hx
 have HK3:Hid (Kp noB w w3):=HK2.out.trans k3
 have HAL:Hid (w.heap.size≤c.E∧∀ j,c.all j→w.heap.size≤j):=⟨by have:=HK2.out.size;omega,fun j hj=>by have:=HK2.out.size;have:=hall j hj;omega⟩
 clear hst hc hM kU k3 hx hE hall ecE HS
 go_upto_region 18 with fail
 obtain⟨Q,hQ⟩:∃ Q,Q=w3.heap.size:=⟨_,rfl⟩
 obtain⟨W4,hW4⟩:∃ W,W=w3.alloc (.cells #[.int .i64 13,.int .i64 (8*v+2),.int .u32 0] 44):=⟨_,rfl⟩
 have r4:RowT W4 Q ⟨13,8*v+2,0⟩:=by rw[hW4,hQ];exact (MapKept.heap_alloc w3 _).1
 have k4:Kp noB w3 W4:=by rw[hW4];exact Kp.alloc _ _ _
 have x4:=HX3.out.kp0 k4
 have HK4:Hid (Kp noB w W4):=HK3.out.trans k4
 have HQ1:Hid (c.E < Q∧(∀ j,c.all j→j < Q)∧w.heap.size≤Q):=⟨by rw[hQ];exact HX3.out.lt,fun j hj=>by rw[hQ];exact HX3.out.in_all hj,by rw[hQ];exact HK3.out.size⟩
 rw[←hW4,←hQ]
 clear hW4 hQ k4 HX3 HK3
 have y0:=r4.c0;have f0:=r4.fz 0
 obtain⟨W5,hW5⟩:∃ W,W=W4.setCell ⟨Q,0,none⟩ (.int .i64 11):=⟨_,rfl⟩
 have r5:RowT W5 Q ⟨11,8*v+2,0⟩:=by rw[hW5];exact heap_setCell_at r4 _
 have k5:Kp (fun j=>j=Q) W4 W5:=by rw[hW5];exact Kp.setCell (S:=fun j=>j=Q) W4 (p:=⟨Q,0,none⟩) rfl _
 have x5:=x4.kp k5 (by have:=HQ1.out.1;omega) (fun j hj=>by have:=HQ1.out.2.1 j hj;omega)
 have HK5:Hid (Kp noB w W5):=HK4.out.over k5 (fun j hj e=>by have:=HQ1.out.2.2;omega)
 go_upto_region 20 with fail
 rw[←hW5]
 clear hW5 y0 f0 k5 r4 x4 HK4
 have HR5:Hid (RowT W5 Q ⟨11,8*v+2,0⟩):=r5
 have HX5:Hid (XAt W5 c 0 stX0 M):=x5
 clear r5 x5
 have hld:=HX5.out.e.get HV.out
 rw[←HCZ.out] at hld
 have pA0:PAt (W5.alloc (.cells Z T)) W5.heap.size Z:=HV.out.at HV.out.wf W5
 have hst:=VlP.put pA0 HWF.out
 obtain⟨A,hA⟩:∃ A,A=W5.heap.size:=⟨_,rfl⟩
 obtain⟨W6,hW6⟩:∃ W,W=(W5.alloc (.cells Z T)).setRow A cz:=⟨_,rfl⟩
 have P6:PAt W6 A cz:=by rw[hW6,hA];exact pA0.put HWF.out
 have k6:Kp noB W5 W6:=by
  rw[hW6]
  exact (Kp.alloc noB W5 _).over (Kp.setRow (S:=fun j=>j=A) (W5.alloc (.cells Z T)) rfl cz) (fun j hj e=>by omega)
 have x6:=HX5.out.kp0 k6
 have HA6:Hid (c.E < A∧(∀ j,c.all j→j < A)):=⟨by rw[hA];exact HX5.out.lt,fun j hj=>by rw[hA];exact HX5.out.in_all hj⟩
 have HP6:Hid (PAt W6 A cz∧RowT W6 Q ⟨11,8*v+2,0⟩∧Kp noB w W6):=⟨P6,HR5.out.kp k6 id,HK5.out.trans k6⟩
 have HE1:Hid _:=Enter_any W6 c 0 stX0 M x6 v (-1) true (by decide)
 go_upto_region 21 with fail
 rw[←hA,←hW6]
 clear hA hW6 hst hld pA0 P6 k6 x6 HX5 HR5 HK5
 rw[HE.out] at HE1
 have HE2:Hid (Calls Tryz.prog 11 #[.pointer (some ⟨c.E,0,none⟩),.int .i64 v,.int .i64 (-1),.bool true] W6 fun e w'=>e=.returned (.agg #[.int .i64 11,.int .i64 (8*v+2),.int .u32 0])∧(∃ t,t≤0+40∧XAt w' c t stX0 M)∧Kp (fun j=>c.md j∨j=c.E) W6 w'):=HE1.out
 clear HE1 HE
 go_wp2_with fail
 refine Calls.mono HE2.out ?_;rintro e w7 ⟨rfl,⟨t7,ht7,x7⟩,k7⟩
 have nE:∀ j,(c.md j∨j=c.E)→w.heap.size≤j∧j≠A∧j≠Q:=fun j hj=>by
  rcases hj with e | e
  ·exact⟨HAL.out.2 j (.inr e),by have:=HA6.out.2 j (.inr e);omega,by have:=HQ1.out.2.1 j (.inr e);omega⟩
  ·have:=HAL.out.1;have:=HA6.out.1;have:=HQ1.out.1;exact⟨by omega,by omega,by omega⟩
 obtain⟨G,hG⟩:∃ G,G=w7.heap.size:=⟨_,rfl⟩
 obtain⟨W8,hW8⟩:∃ W,W=w7.alloc (.cells #[.int .i64 11,.int .i64 (8*v+2),.int .u32 0] 44):=⟨_,rfl⟩
 have r8:RowT W8 G ⟨11,8*v+2,0⟩:=by rw[hW8,hG];exact (MapKept.heap_alloc w7 _).1
 have k8:Kp noB w7 W8:=by rw[hW8];exact Kp.alloc _ _ _
 have hG1:c.E < G∧∀ j,c.all j→j < G:=⟨by rw[hG];exact x7.lt,fun j hj=>by rw[hG];exact x7.in_all hj⟩
 have HG:Hid _:=hG1
 have HP8:Hid (PAt W8 A cz∧RowT W8 Q ⟨11,8*v+2,0⟩∧RowT W8 G ⟨11,8*v+2,0⟩∧Kp noB w W8):=⟨(HP6.out.1.kp k7 (fun f=>(nE A f).2.1 rfl)).kp k8 id,(HP6.out.2.1.kp k7 (fun f=>(nE Q f).2.2 rfl)).kp k8 id,r8,(HP6.out.2.2.over k7 (fun j hj e=>by have:=(nE j e).1;omega)).trans k8⟩
 have HX8:Hid (XAt W8 c t7 stX0 M):=x7.kp0 k8
 have HE3:Hid _:=Enter_any W8 c t7 stX0 M HX8.out (v+64) (-1) true (by omega)
 rw[HF.out] at HE3
 have HE4:Hid (Calls Tryz.prog 11 #[.pointer (some ⟨c.E,0,none⟩),.int .i64 (v+64),.int .i64 (-1),.bool true] W8 fun e w'=>e=.returned (.agg #[.int .i64 13,.int .i64 (8*(v+64)+2),.int .u32 0])∧(∃ t,t≤t7+40∧XAt w' c t stX0 M)∧Kp (fun j=>c.md j∨j=c.E) W8 w'):=HE3.out
 have HN:Hid _:=nE
 clear HE2 HE3 HF k7 k8 r8 x7 ht7 hG1 HP6 nE
 go_upto_region 22 with fail
 rw[←hG,←hW8]
 clear hG hW8
 go_wp2_with fail
 refine Calls.mono HE4.out ?_;rintro e w9 ⟨rfl,⟨t9,ht9,x9⟩,k9⟩
 obtain⟨I,hI⟩:∃ I,I=w9.heap.size:=⟨_,rfl⟩
 obtain⟨W10,hW10⟩:∃ W,W=w9.alloc (.cells #[.int .i64 13,.int .i64 (8*(v+64)+2),.int .u32 0] 44):=⟨_,rfl⟩
 have r10:RowT W10 I ⟨13,8*(v+64)+2,0⟩:=by rw[hW10,hI];exact (MapKept.heap_alloc w9 _).1
 have k10:Kp noB w9 W10:=by rw[hW10];exact Kp.alloc _ _ _
 have nG:∀ j,(c.md j∨j=c.E)→j≠G:=fun j hj e=>by
  rcases hj with f | f
  ·have:=HG.out.2 j (.inr f);omega
  ·have:=HG.out.1;omega
 have HP10:Hid (PAt W10 A cz∧RowT W10 Q ⟨11,8*v+2,0⟩∧RowT W10 G ⟨11,8*v+2,0⟩∧RowT W10 I ⟨13,8*(v+64)+2,0⟩∧Kp noB w W10∧XAt W10 c t9 stX0 M):=⟨(HP8.out.1.kp k9 (fun f=>(HN.out A f).2.1 rfl)).kp k10 id,(HP8.out.2.1.kp k9 (fun f=>(HN.out Q f).2.2 rfl)).kp k10 id,(HP8.out.2.2.1.kp k9 (fun f=>nG G f rfl)).kp k10 id,r10,(HP8.out.2.2.2.over k9 (fun j hj e=>by have:=(HN.out j e).1;omega)).trans k10,x9.kp0 k10⟩
 clear HP8 HX8 HE4 k9 k10 r10 x9 ht9 nG
 go_upto_region 25 with fail
 rw[←hI,←hW10]
 clear hI hW10
 go_upto_region 26 with fail
 obtain⟨J,hJ⟩:∃ J,J=W10.heap.size:=⟨_,rfl⟩
 obtain⟨W11,hW11⟩:∃ W,W=W10.alloc (.cells #[.int .i64 13,.int .i64 (8*(v+64)+2),.int .u32 0] 44):=⟨_,rfl⟩
 have r11:RowT W11 J ⟨13,8*(v+64)+2,0⟩:=by rw[hW11,hJ];exact (MapKept.heap_alloc W10 _).1
 have k11:Kp noB W10 W11:=by rw[hW11];exact Kp.alloc _ _ _
 rw[←hJ,←hW11]
 clear hJ hW11
 have kd:=k11.drew
 have q11:RowT W11.drew J ⟨13,8*(v+64)+2,0⟩:=r11.kp (Kp.refl noB W11).drew id
 have P11:=HP10.out.1.kp kd id
 have q1:=HP10.out.2.1.kp kd id
 have q2:=HP10.out.2.2.1.kp kd id
 have q3:=HP10.out.2.2.2.1.kp kd id
 have HFn:Hid (Kp noB w W11.drew):=HP10.out.2.2.2.2.1.trans kd
 have a0:=q1.c0;have a1:=q1.c1;have a2:=q1.c2
 have c0:=q2.c0;have c1:=q2.c1;have c2:=q2.c2
 have d0:=q3.c0;have d1:=q3.c1;have d2:=q3.c2
 have j0:=q11.c0;have j1:=q11.c1;have j2:=q11.c2
 have hl1:=(HP10.out.2.2.2.2.2.kp0 kd).e.get HV.out
 rw[←HCZ.out] at hl1
 have hl2:=HV.out.get P11
 have hq:=HQ.out
 clear r11 k11 q11 P11 q1 q2 q3 kd HP10
 go_region
 go_wp2
 go_ret
 exact⟨rfl,kBelow HFn.out⟩
set_option maxHeartbeats 16000000 in
theorem ref_0f (w:World) (hC:Cls w) (vec how:Int) (hv:I64 vec) (hh:I64 how) (hm:(absI how).tmod 4=0):Calls Tryz.prog 8 #[.int .i64 vec,.int .i64 how,.bool false] w fun e w'=>e=.returned (.bool true)∧Below w.heap.size w w':=by
 obtain⟨T,nn,Z,hV⟩:=vlP
 obtain⟨vl,vs,va,vb⟩:=hV.ops
 have vq:∀ x y,Op.binOp .eql 33 x y 33=Op.binOp .eql T x y T:=by rw[hV.t];exact fun _ _=>rfl
 have g1:=hV.agg;have g2:=hV.size;have g3:=hV.zero
 have gQ:Tryz.prog.eqGuardType Tryz.prog.depth T=false:=by rw[hV.t];kernel_rfl
 have hq:=cu_equal stX0_ok.toBd
 obtain⟨cz,hcz⟩:∃ q,q=stX0.cs:=⟨_,rfl⟩
 rw[←hcz] at hq
 have HQ:Hid (∀ w,(Op.equalIn 10000 T (.agg cz) (.agg cz)).run Tryz.prog w=.ok true w):=by rw[hV.t];exact hq
 have wfz:WfC cz:=by rw[hcz];exact cu_wf _
 have hsz:cz.size=nn:=by rw[wfz.s,hV.s]
 have HCZ:Hid (cz=stX0.cs):=hcz
 have HWF:Hid (WfC cz):=wfz
 have HA:Hid _:=awake18 w hC
 have HV:Hid _:=hV
 have HC:Hid (Cls w):=hC
 obtain⟨hu0,hu1⟩:=absI_bd hv
 obtain⟨hh0,hh1⟩:=absI_bd hh
 unfold I64 at hv hh
 clear hV hC hq hcz wfz
 go_enter Tryz.func8,Tryz.ntmps8
 simp only [vl,vs,va,vq]
 go_wp2_with fail
 refine Calls.mono HA.out ?_;rintro e w1 ⟨rfl,k1⟩
 have HK1:Hid (Kp noB w w1):=k1
 clear k1 HA
 go_upto_if 19 with fail
 go_cut [0] from 17 (fun s0 wq=>s0=.int .i64 (absI vec)∧wq=w1)
 case first=>
  by_cases hn:vec < 0
  ·have hw1:IntKind.i64.wrap (vec+1)=vec+1:=by rw[IntKind.wrap_i64];omega
   have hw2:IntKind.i64.wrap (-(vec+1))=-(vec+1):=by rw[IntKind.wrap_i64];omega
   have HN:Hid _:=hn
   go_wp2
   go_meet
   case rel=>exact⟨by unfold absI;rw[if_pos HN.out],rfl⟩
  ·have HN:Hid _:=hn
   go_wp2
   go_meet
   case rel=>exact⟨by unfold absI;rw[if_neg HN.out],rfl⟩
 case rest=>
 obtain⟨rfl,hwc⟩:=hcut
 replace hwc:=hwc.symm
 subst hwc
 go_upto_if 24 with fail
 go_cut [1] from 17 (fun s1 wq=>s1=.int .i64 (absI how)∧wq=w1)
 case first=>
  by_cases hn:how < 0
  ·have hw1:IntKind.i64.wrap (how+1)=how+1:=by rw[IntKind.wrap_i64];omega
   have hw2:IntKind.i64.wrap (-(how+1))=-(how+1):=by rw[IntKind.wrap_i64];omega
   have HN:Hid _:=hn
   go_wp2
   go_meet
   case rel=>exact⟨by unfold absI;rw[if_pos HN.out],rfl⟩
  ·have HN:Hid _:=hn
   go_wp2
   go_meet
   case rel=>exact⟨by unfold absI;rw[if_neg HN.out],rfl⟩
 case rest=>
 obtain⟨rfl,hwc⟩:=hcut
 replace hwc:=hwc.symm
 subst hwc
 generalize absI vec=u at *
 generalize absI how=h at *
 clear hv hh
 obtain⟨v,hvv⟩:∃ v,v=u.tmod 64:=⟨_,rfl⟩
 have hv0:0≤v:=by rw[hvv];exact Int.tmod_nonneg _ hu0
 have hv1:v < 64:=by rw[hvv,Int.tmod_eq_emod_of_nonneg hu0];omega
 have e64:u.tmod 64=v:=hvv.symm
 have e4:h.tmod 4=0:=hm
 obtain⟨b1,b2,b3,b4,b5,b6,b7⟩:=bAll hv0 hv1
 have HE:Hid (enterO (stM 3584) stX0 v (-1) false=.no (stM 3584) 11 (8*v+2+1)):=by
  have q:=enter_np (M:=stM 3584) (kind:=3584) (v:=v) (tb_st (by unfold U32;decide)) flX_0 (by unfold Kd;decide) hv0 hv1 (-1) false rfl rfl
  exact q
 have HF:Hid (enterO (stM 3584) stX0 (v+64) (-1) false=.no (stM 3584) 13 (8*(v+64)+2+1)):=by
  have q:=enter_far (M:=stM 3584) flX_0 (v:=v+64) (by omega) (by omega) (-1) false
  exact q
 clear hvv hu0 hu1 hh0 hh1 hm hv0 hv1
 go_upto_region 8 with fail
 obtain⟨S,hS⟩:∃ S,S=w1.heap.size:=⟨_,rfl⟩
 obtain⟨W2,hW2⟩:∃ W,W=w1.alloc (.cells #[.int .u32 3584,.int .u32 35840,.int .u32 40448,.int .u32 36352] 22):=⟨_,rfl⟩
 have rS:W2.heap[S]?=some (.cells #[.int .u32 3584,.int .u32 35840,.int .u32 40448,.int .u32 36352] 22 (0,0)):=by rw[hW2,hS];exact (MapKept.heap_alloc w1 _).1
 have k2:Kp noB w1 W2:=by rw[hW2];exact Kp.alloc _ _ _
 have cS:W2.cell? ⟨S,0,none⟩=some (.int .u32 3584):=by rw[cell_at rS];rfl
 have HK2:Hid (Kp noB w W2):=HK1.out.trans k2
 rw[←hW2,←hS]
 clear hW2 hS rS k2 HK1
 have HS:Hid _:=started0 W2 3584 (by unfold U32;decide)
 go_wp2_with fail
 clear cS
 refine Calls.mono HS.out ?_;rintro e w3 ⟨E,V,Kb,L,L',rfl,hst⟩
 obtain⟨hx,hE,hall,kU⟩:=start_at stX0_ok (stM_same 3584).2 hst
 have k3:=Bs.noRm kU
 obtain⟨M,hM⟩:∃ M,M=stM 3584:=⟨_,rfl⟩
 obtain⟨c,hc⟩:∃ c:Ev,c=⟨E,V,Kb,L.M,8,(stM 3584).n,L.B⟩:=⟨_,rfl⟩
 have ecE:E=c.E:=by rw[hc]
 rw[←hc] at hx hall
 rw[←hM] at hx HE HF
 rw[ecE] at hE ⊢
 have HX3:Hid (XAt w3 c 0 stX0 M):=hx
 have HK3:Hid (Kp noB w w3):=HK2.out.trans k3
 have HAL:Hid (w.heap.size≤c.E∧∀ j,c.all j→w.heap.size≤j):=⟨by have:=HK2.out.size;omega,fun j hj=>by have:=HK2.out.size;have:=hall j hj;omega⟩
 clear hst hc hM kU k3 hx hE hall ecE HS
 go_upto_region 18 with fail
 obtain⟨Q,hQ⟩:∃ Q,Q=w3.heap.size:=⟨_,rfl⟩
 obtain⟨W4,hW4⟩:∃ W,W=w3.alloc (.cells #[.int .i64 13,.int .i64 (8*v+2+1),.int .u32 0] 44):=⟨_,rfl⟩
 have r4:RowT W4 Q ⟨13,8*v+2+1,0⟩:=by rw[hW4,hQ];exact (MapKept.heap_alloc w3 _).1
 have k4:Kp noB w3 W4:=by rw[hW4];exact Kp.alloc _ _ _
 have x4:=HX3.out.kp0 k4
 have HK4:Hid (Kp noB w W4):=HK3.out.trans k4
 have HQ1:Hid (c.E < Q∧(∀ j,c.all j→j < Q)∧w.heap.size≤Q):=⟨by rw[hQ];exact HX3.out.lt,fun j hj=>by rw[hQ];exact HX3.out.in_all hj,by rw[hQ];exact HK3.out.size⟩
 rw[←hW4,←hQ]
 clear hW4 hQ k4 HX3 HK3
 have y0:=r4.c0;have f0:=r4.fz 0
 obtain⟨W5,hW5⟩:∃ W,W=W4.setCell ⟨Q,0,none⟩ (.int .i64 11):=⟨_,rfl⟩
 have r5:RowT W5 Q ⟨11,8*v+2+1,0⟩:=by rw[hW5];exact heap_setCell_at r4 _
 have k5:Kp (fun j=>j=Q) W4 W5:=by rw[hW5];exact Kp.setCell (S:=fun j=>j=Q) W4 (p:=⟨Q,0,none⟩) rfl _
 have x5:=x4.kp k5 (by have:=HQ1.out.1;omega) (fun j hj=>by have:=HQ1.out.2.1 j hj;omega)
 have HK5:Hid (Kp noB w W5):=HK4.out.over k5 (fun j hj e=>by have:=HQ1.out.2.2;omega)
 go_upto_region 20 with fail
 rw[←hW5]
 clear hW5 y0 f0 k5 r4 x4 HK4
 have HR5:Hid (RowT W5 Q ⟨11,8*v+2+1,0⟩):=r5
 have HX5:Hid (XAt W5 c 0 stX0 M):=x5
 clear r5 x5
 have hld:=HX5.out.e.get HV.out
 rw[←HCZ.out] at hld
 have pA0:PAt (W5.alloc (.cells Z T)) W5.heap.size Z:=HV.out.at HV.out.wf W5
 have hst:=VlP.put pA0 HWF.out
 obtain⟨A,hA⟩:∃ A,A=W5.heap.size:=⟨_,rfl⟩
 obtain⟨W6,hW6⟩:∃ W,W=(W5.alloc (.cells Z T)).setRow A cz:=⟨_,rfl⟩
 have P6:PAt W6 A cz:=by rw[hW6,hA];exact pA0.put HWF.out
 have k6:Kp noB W5 W6:=by
  rw[hW6]
  exact (Kp.alloc noB W5 _).over (Kp.setRow (S:=fun j=>j=A) (W5.alloc (.cells Z T)) rfl cz) (fun j hj e=>by omega)
 have x6:=HX5.out.kp0 k6
 have HA6:Hid (c.E < A∧(∀ j,c.all j→j < A)):=⟨by rw[hA];exact HX5.out.lt,fun j hj=>by rw[hA];exact HX5.out.in_all hj⟩
 have HP6:Hid (PAt W6 A cz∧RowT W6 Q ⟨11,8*v+2+1,0⟩∧Kp noB w W6):=⟨P6,HR5.out.kp k6 id,HK5.out.trans k6⟩
 have HE1:Hid _:=Enter_any W6 c 0 stX0 M x6 v (-1) false (by decide)
 go_upto_region 21 with fail
 rw[←hA,←hW6]
 clear hA hW6 hst hld pA0 P6 k6 x6 HX5 HR5 HK5
 rw[HE.out] at HE1
 have HE2:Hid (Calls Tryz.prog 11 #[.pointer (some ⟨c.E,0,none⟩),.int .i64 v,.int .i64 (-1),.bool false] W6 fun e w'=>e=.returned (.agg #[.int .i64 11,.int .i64 (8*v+2+1),.int .u32 0])∧(∃ t,t≤0+40∧XAt w' c t stX0 M)∧Kp (fun j=>c.md j∨j=c.E) W6 w'):=HE1.out
 clear HE1 HE
 go_wp2_with fail
 refine Calls.mono HE2.out ?_;rintro e w7 ⟨rfl,⟨t7,ht7,x7⟩,k7⟩
 have nE:∀ j,(c.md j∨j=c.E)→w.heap.size≤j∧j≠A∧j≠Q:=fun j hj=>by
  rcases hj with e | e
  ·exact⟨HAL.out.2 j (.inr e),by have:=HA6.out.2 j (.inr e);omega,by have:=HQ1.out.2.1 j (.inr e);omega⟩
  ·have:=HAL.out.1;have:=HA6.out.1;have:=HQ1.out.1;exact⟨by omega,by omega,by omega⟩
 obtain⟨G,hG⟩:∃ G,G=w7.heap.size:=⟨_,rfl⟩
 obtain⟨W8,hW8⟩:∃ W,W=w7.alloc (.cells #[.int .i64 11,.int .i64 (8*v+2+1),.int .u32 0] 44):=⟨_,rfl⟩
 have r8:RowT W8 G ⟨11,8*v+2+1,0⟩:=by rw[hW8,hG];exact (MapKept.heap_alloc w7 _).1
 have k8:Kp noB w7 W8:=by rw[hW8];exact Kp.alloc _ _ _
 have hG1:c.E < G∧∀ j,c.all j→j < G:=⟨by rw[hG];exact x7.lt,fun j hj=>by rw[hG];exact x7.in_all hj⟩
 have HG:Hid _:=hG1
 have HP8:Hid (PAt W8 A cz∧RowT W8 Q ⟨11,8*v+2+1,0⟩∧RowT W8 G ⟨11,8*v+2+1,0⟩∧Kp noB w W8):=⟨(HP6.out.1.kp k7 (fun f=>(nE A f).2.1 rfl)).kp k8 id,(HP6.out.2.1.kp k7 (fun f=>(nE Q f).2.2 rfl)).kp k8 id,r8,(HP6.out.2.2.over k7 (fun j hj e=>by have:=(nE j e).1;omega)).trans k8⟩
 have HX8:Hid (XAt W8 c t7 stX0 M):=x7.kp0 k8
 have HE3:Hid _:=Enter_any W8 c t7 stX0 M HX8.out (v+64) (-1) false (by omega)
 rw[HF.out] at HE3
 have HE4:Hid (Calls Tryz.prog 11 #[.pointer (some ⟨c.E,0,none⟩),.int .i64 (v+64),.int .i64 (-1),.bool false] W8 fun e w'=>e=.returned (.agg #[.int .i64 13,.int .i64 (8*(v+64)+2+1),.int .u32 0])∧(∃ t,t≤t7+40∧XAt w' c t stX0 M)∧Kp (fun j=>c.md j∨j=c.E) W8 w'):=HE3.out
 have HN:Hid _:=nE
 clear HE2 HE3 HF k7 k8 r8 x7 ht7 hG1 HP6 nE
 go_upto_region 22 with fail
 rw[←hG,←hW8]
 clear hG hW8
 go_wp2_with fail
 refine Calls.mono HE4.out ?_;rintro e w9 ⟨rfl,⟨t9,ht9,x9⟩,k9⟩
 obtain⟨I,hI⟩:∃ I,I=w9.heap.size:=⟨_,rfl⟩
 obtain⟨W10,hW10⟩:∃ W,W=w9.alloc (.cells #[.int .i64 13,.int .i64 (8*(v+64)+2+1),.int .u32 0] 44):=⟨_,rfl⟩
 have r10:RowT W10 I ⟨13,8*(v+64)+2+1,0⟩:=by rw[hW10,hI];exact (MapKept.heap_alloc w9 _).1
 have k10:Kp noB w9 W10:=by rw[hW10];exact Kp.alloc _ _ _
 have nG:∀ j,(c.md j∨j=c.E)→j≠G:=fun j hj e=>by
  rcases hj with f | f
  ·have:=HG.out.2 j (.inr f);omega
  ·have:=HG.out.1;omega
 have HP10:Hid (PAt W10 A cz∧RowT W10 Q ⟨11,8*v+2+1,0⟩∧RowT W10 G ⟨11,8*v+2+1,0⟩∧RowT W10 I ⟨13,8*(v+64)+2+1,0⟩∧Kp noB w W10∧XAt W10 c t9 stX0 M):=⟨(HP8.out.1.kp k9 (fun f=>(HN.out A f).2.1 rfl)).kp k10 id,(HP8.out.2.1.kp k9 (fun f=>(HN.out Q f).2.2 rfl)).kp k10 id,(HP8.out.2.2.1.kp k9 (fun f=>nG G f rfl)).kp k10 id,r10,(HP8.out.2.2.2.over k9 (fun j hj e=>by have:=(HN.out j e).1;omega)).trans k10,x9.kp0 k10⟩
 clear HP8 HX8 HE4 k9 k10 r10 x9 ht9 nG
 go_upto_region 25 with fail
 rw[←hI,←hW10]
 clear hI hW10
 go_upto_region 26 with fail
 obtain⟨J,hJ⟩:∃ J,J=W10.heap.size:=⟨_,rfl⟩
 obtain⟨W11,hW11⟩:∃ W,W=W10.alloc (.cells #[.int .i64 13,.int .i64 (8*(v+64)+2+1),.int .u32 0] 44):=⟨_,rfl⟩
 have r11:RowT W11 J ⟨13,8*(v+64)+2+1,0⟩:=by rw[hW11,hJ];exact (MapKept.heap_alloc W10 _).1
 have k11:Kp noB W10 W11:=by rw[hW11];exact Kp.alloc _ _ _
 rw[←hJ,←hW11]
 clear hJ hW11
 have kd:=k11.drew
 have q11:RowT W11.drew J ⟨13,8*(v+64)+2+1,0⟩:=r11.kp (Kp.refl noB W11).drew id
 have P11:=HP10.out.1.kp kd id
 have q1:=HP10.out.2.1.kp kd id
 have q2:=HP10.out.2.2.1.kp kd id
 have q3:=HP10.out.2.2.2.1.kp kd id
 have HFn:Hid (Kp noB w W11.drew):=HP10.out.2.2.2.2.1.trans kd
 have a0:=q1.c0;have a1:=q1.c1;have a2:=q1.c2
 have c0:=q2.c0;have c1:=q2.c1;have c2:=q2.c2
 have d0:=q3.c0;have d1:=q3.c1;have d2:=q3.c2
 have j0:=q11.c0;have j1:=q11.c1;have j2:=q11.c2
 have hl1:=(HP10.out.2.2.2.2.2.kp0 kd).e.get HV.out
 rw[←HCZ.out] at hl1
 have hl2:=HV.out.get P11
 have hq:=HQ.out
 clear r11 k11 q11 P11 q1 q2 q3 kd HP10
 go_region
 go_wp2
 go_ret
 exact⟨rfl,kBelow HFn.out⟩
set_option maxHeartbeats 16000000 in
theorem ref_1t (w:World) (hC:Cls w) (vec how:Int) (hv:I64 vec) (hh:I64 how) (hm:(absI how).tmod 4=1):Calls Tryz.prog 8 #[.int .i64 vec,.int .i64 how,.bool true] w fun e w'=>e=.returned (.bool true)∧Below w.heap.size w w':=by
 obtain⟨T,nn,Z,hV⟩:=vlP
 obtain⟨vl,vs,va,vb⟩:=hV.ops
 have vq:∀ x y,Op.binOp .eql 33 x y 33=Op.binOp .eql T x y T:=by rw[hV.t];exact fun _ _=>rfl
 have g1:=hV.agg;have g2:=hV.size;have g3:=hV.zero
 have gQ:Tryz.prog.eqGuardType Tryz.prog.depth T=false:=by rw[hV.t];kernel_rfl
 have hq:=cu_equal stX0_ok.toBd
 obtain⟨cz,hcz⟩:∃ q,q=stX0.cs:=⟨_,rfl⟩
 rw[←hcz] at hq
 have HQ:Hid (∀ w,(Op.equalIn 10000 T (.agg cz) (.agg cz)).run Tryz.prog w=.ok true w):=by rw[hV.t];exact hq
 have wfz:WfC cz:=by rw[hcz];exact cu_wf _
 have hsz:cz.size=nn:=by rw[wfz.s,hV.s]
 have HCZ:Hid (cz=stX0.cs):=hcz
 have HWF:Hid (WfC cz):=wfz
 have HA:Hid _:=awake18 w hC
 have HV:Hid _:=hV
 have HC:Hid (Cls w):=hC
 obtain⟨hu0,hu1⟩:=absI_bd hv
 obtain⟨hh0,hh1⟩:=absI_bd hh
 unfold I64 at hv hh
 clear hV hC hq hcz wfz
 go_enter Tryz.func8,Tryz.ntmps8
 simp only [vl,vs,va,vq]
 go_wp2_with fail
 refine Calls.mono HA.out ?_;rintro e w1 ⟨rfl,k1⟩
 have HK1:Hid (Kp noB w w1):=k1
 clear k1 HA
 go_upto_if 19 with fail
 go_cut [0] from 17 (fun s0 wq=>s0=.int .i64 (absI vec)∧wq=w1)
 case first=>
  by_cases hn:vec < 0
  ·have hw1:IntKind.i64.wrap (vec+1)=vec+1:=by rw[IntKind.wrap_i64];omega
   have hw2:IntKind.i64.wrap (-(vec+1))=-(vec+1):=by rw[IntKind.wrap_i64];omega
   have HN:Hid _:=hn
   go_wp2
   go_meet
   case rel=>exact⟨by unfold absI;rw[if_pos HN.out],rfl⟩
  ·have HN:Hid _:=hn
   go_wp2
   go_meet
   case rel=>exact⟨by unfold absI;rw[if_neg HN.out],rfl⟩
 case rest=>
 obtain⟨rfl,hwc⟩:=hcut
 replace hwc:=hwc.symm
 subst hwc
 go_upto_if 24 with fail
 go_cut [1] from 17 (fun s1 wq=>s1=.int .i64 (absI how)∧wq=w1)
 case first=>
  by_cases hn:how < 0
  ·have hw1:IntKind.i64.wrap (how+1)=how+1:=by rw[IntKind.wrap_i64];omega
   have hw2:IntKind.i64.wrap (-(how+1))=-(how+1):=by rw[IntKind.wrap_i64];omega
   have HN:Hid _:=hn
   go_wp2
   go_meet
   case rel=>exact⟨by unfold absI;rw[if_pos HN.out],rfl⟩
  ·have HN:Hid _:=hn
   go_wp2
   go_meet
   case rel=>exact⟨by unfold absI;rw[if_neg HN.out],rfl⟩
 case rest=>
 obtain⟨rfl,hwc⟩:=hcut
 replace hwc:=hwc.symm
 subst hwc
 generalize absI vec=u at *
 generalize absI how=h at *
 clear hv hh
 obtain⟨v,hvv⟩:∃ v,v=u.tmod 64:=⟨_,rfl⟩
 have hv0:0≤v:=by rw[hvv];exact Int.tmod_nonneg _ hu0
 have hv1:v < 64:=by rw[hvv,Int.tmod_eq_emod_of_nonneg hu0];omega
 have e64:u.tmod 64=v:=hvv.symm
 have e4:h.tmod 4=1:=hm
 obtain⟨b1,b2,b3,b4,b5,b6,b7⟩:=bAll hv0 hv1
 have HE:Hid (enterO (stM 35840) stX0 v (-1) true=.no (stM 35840) 13 (8*v+2)):=by
  have q:=enter_bad (M:=stM 35840) (kind:=35840) (v:=v) (tb_st (by unfold U32;decide)) flX_0 (by unfold Kd;decide) hv0 hv1 (-1) true (by show badG (gG 35840 v) true 0=true;unfold badG gG;simp)
  rw[show outX true=0 from rfl,Int.add_zero] at q
  exact q
 have HF:Hid (enterO (stM 35840) stX0 (v+64) (-1) true=.no (stM 35840) 13 (8*(v+64)+2)):=by
  have q:=enter_far (M:=stM 35840) flX_0 (v:=v+64) (by omega) (by omega) (-1) true
  rw[show outX true=0 from rfl,Int.add_zero] at q
  exact q
 clear hvv hu0 hu1 hh0 hh1 hm hv0 hv1
 go_upto_region 8 with fail
 obtain⟨S,hS⟩:∃ S,S=w1.heap.size:=⟨_,rfl⟩
 obtain⟨W2,hW2⟩:∃ W,W=w1.alloc (.cells #[.int .u32 3584,.int .u32 35840,.int .u32 40448,.int .u32 36352] 22):=⟨_,rfl⟩
 have rS:W2.heap[S]?=some (.cells #[.int .u32 3584,.int .u32 35840,.int .u32 40448,.int .u32 36352] 22 (0,0)):=by rw[hW2,hS];exact (MapKept.heap_alloc w1 _).1
 have k2:Kp noB w1 W2:=by rw[hW2];exact Kp.alloc _ _ _
 have cS:W2.cell? ⟨S,1,none⟩=some (.int .u32 35840):=by rw[cell_at rS];rfl
 have HK2:Hid (Kp noB w W2):=HK1.out.trans k2
 rw[←hW2,←hS]
 clear hW2 hS rS k2 HK1
 have HS:Hid _:=started0 W2 35840 (by unfold U32;decide)
 go_wp2_with fail
 clear cS
 refine Calls.mono HS.out ?_;rintro e w3 ⟨E,V,Kb,L,L',rfl,hst⟩
 obtain⟨hx,hE,hall,kU⟩:=start_at stX0_ok (stM_same 35840).2 hst
 have k3:=Bs.noRm kU
 obtain⟨M,hM⟩:∃ M,M=stM 35840:=⟨_,rfl⟩
 obtain⟨c,hc⟩:∃ c:Ev,c=⟨E,V,Kb,L.M,8,(stM 35840).n,L.B⟩:=⟨_,rfl⟩
 have ecE:E=c.E:=by rw[hc]
 rw[←hc] at hx hall
 rw[←hM] at hx HE HF
 rw[ecE] at hE ⊢
 have HX3:Hid (XAt w3 c 0 stX0 M):=hx
 have HK3:Hid (Kp noB w w3):=HK2.out.trans k3
 have HAL:Hid (w.heap.size≤c.E∧∀ j,c.all j→w.heap.size≤j):=⟨by have:=HK2.out.size;omega,fun j hj=>by have:=HK2.out.size;have:=hall j hj;omega⟩
 clear hst hc hM kU k3 hx hE hall ecE HS
 go_upto_region 18 with fail
 obtain⟨Q,hQ⟩:∃ Q,Q=w3.heap.size:=⟨_,rfl⟩
 obtain⟨W4,hW4⟩:∃ W,W=w3.alloc (.cells #[.int .i64 13,.int .i64 (8*v+2),.int .u32 0] 44):=⟨_,rfl⟩
 have r4:RowT W4 Q ⟨13,8*v+2,0⟩:=by rw[hW4,hQ];exact (MapKept.heap_alloc w3 _).1
 have k4:Kp noB w3 W4:=by rw[hW4];exact Kp.alloc _ _ _
 have x4:=HX3.out.kp0 k4
 have HK4:Hid (Kp noB w W4):=HK3.out.trans k4
 have HQ1:Hid (c.E < Q∧(∀ j,c.all j→j < Q)∧w.heap.size≤Q):=⟨by rw[hQ];exact HX3.out.lt,fun j hj=>by rw[hQ];exact HX3.out.in_all hj,by rw[hQ];exact HK3.out.size⟩
 rw[←hW4,←hQ]
 clear hW4 hQ k4 HX3 HK3
 obtain⟨W5,hW5⟩:∃ W,W=W4:=⟨_,rfl⟩
 go_upto_region 20 with fail
 rw[←hW5] at r4 x4 HK4 ⊢
 have r5:=r4
 have x5:=x4
 have HK5:Hid (Kp noB w W5):=HK4.out
 clear hW5 r4 x4 HK4
 have HR5:Hid (RowT W5 Q ⟨13,8*v+2,0⟩):=r5
 have HX5:Hid (XAt W5 c 0 stX0 M):=x5
 clear r5 x5
 have hld:=HX5.out.e.get HV.out
 rw[←HCZ.out] at hld
 have pA0:PAt (W5.alloc (.cells Z T)) W5.heap.size Z:=HV.out.at HV.out.wf W5
 have hst:=VlP.put pA0 HWF.out
 obtain⟨A,hA⟩:∃ A,A=W5.heap.size:=⟨_,rfl⟩
 obtain⟨W6,hW6⟩:∃ W,W=(W5.alloc (.cells Z T)).setRow A cz:=⟨_,rfl⟩
 have P6:PAt W6 A cz:=by rw[hW6,hA];exact pA0.put HWF.out
 have k6:Kp noB W5 W6:=by
  rw[hW6]
  exact (Kp.alloc noB W5 _).over (Kp.setRow (S:=fun j=>j=A) (W5.alloc (.cells Z T)) rfl cz) (fun j hj e=>by omega)
 have x6:=HX5.out.kp0 k6
 have HA6:Hid (c.E < A∧(∀ j,c.all j→j < A)):=⟨by rw[hA];exact HX5.out.lt,fun j hj=>by rw[hA];exact HX5.out.in_all hj⟩
 have HP6:Hid (PAt W6 A cz∧RowT W6 Q ⟨13,8*v+2,0⟩∧Kp noB w W6):=⟨P6,HR5.out.kp k6 id,HK5.out.trans k6⟩
 have HE1:Hid _:=Enter_any W6 c 0 stX0 M x6 v (-1) true (by decide)
 go_upto_region 21 with fail
 rw[←hA,←hW6]
 clear hA hW6 hst hld pA0 P6 k6 x6 HX5 HR5 HK5
 rw[HE.out] at HE1
 have HE2:Hid (Calls Tryz.prog 11 #[.pointer (some ⟨c.E,0,none⟩),.int .i64 v,.int .i64 (-1),.bool true] W6 fun e w'=>e=.returned (.agg #[.int .i64 13,.int .i64 (8*v+2),.int .u32 0])∧(∃ t,t≤0+40∧XAt w' c t stX0 M)∧Kp (fun j=>c.md j∨j=c.E) W6 w'):=HE1.out
 clear HE1 HE
 go_wp2_with fail
 refine Calls.mono HE2.out ?_;rintro e w7 ⟨rfl,⟨t7,ht7,x7⟩,k7⟩
 have nE:∀ j,(c.md j∨j=c.E)→w.heap.size≤j∧j≠A∧j≠Q:=fun j hj=>by
  rcases hj with e | e
  ·exact⟨HAL.out.2 j (.inr e),by have:=HA6.out.2 j (.inr e);omega,by have:=HQ1.out.2.1 j (.inr e);omega⟩
  ·have:=HAL.out.1;have:=HA6.out.1;have:=HQ1.out.1;exact⟨by omega,by omega,by omega⟩
 obtain⟨G,hG⟩:∃ G,G=w7.heap.size:=⟨_,rfl⟩
 obtain⟨W8,hW8⟩:∃ W,W=w7.alloc (.cells #[.int .i64 13,.int .i64 (8*v+2),.int .u32 0] 44):=⟨_,rfl⟩
 have r8:RowT W8 G ⟨13,8*v+2,0⟩:=by rw[hW8,hG];exact (MapKept.heap_alloc w7 _).1
 have k8:Kp noB w7 W8:=by rw[hW8];exact Kp.alloc _ _ _
 have hG1:c.E < G∧∀ j,c.all j→j < G:=⟨by rw[hG];exact x7.lt,fun j hj=>by rw[hG];exact x7.in_all hj⟩
 have HG:Hid _:=hG1
 have HP8:Hid (PAt W8 A cz∧RowT W8 Q ⟨13,8*v+2,0⟩∧RowT W8 G ⟨13,8*v+2,0⟩∧Kp noB w W8):=⟨(HP6.out.1.kp k7 (fun f=>(nE A f).2.1 rfl)).kp k8 id,(HP6.out.2.1.kp k7 (fun f=>(nE Q f).2.2 rfl)).kp k8 id,r8,(HP6.out.2.2.over k7 (fun j hj e=>by have:=(nE j e).1;omega)).trans k8⟩
 have HX8:Hid (XAt W8 c t7 stX0 M):=x7.kp0 k8
 have HE3:Hid _:=Enter_any W8 c t7 stX0 M HX8.out (v+64) (-1) true (by omega)
 rw[HF.out] at HE3
 have HE4:Hid (Calls Tryz.prog 11 #[.pointer (some ⟨c.E,0,none⟩),.int .i64 (v+64),.int .i64 (-1),.bool true] W8 fun e w'=>e=.returned (.agg #[.int .i64 13,.int .i64 (8*(v+64)+2),.int .u32 0])∧(∃ t,t≤t7+40∧XAt w' c t stX0 M)∧Kp (fun j=>c.md j∨j=c.E) W8 w'):=HE3.out
 have HN:Hid _:=nE
 clear HE2 HE3 HF k7 k8 r8 x7 ht7 hG1 HP6 nE
 go_upto_region 22 with fail
 rw[←hG,←hW8]
 clear hG hW8
 go_wp2_with fail
 refine Calls.mono HE4.out ?_;rintro e w9 ⟨rfl,⟨t9,ht9,x9⟩,k9⟩
 obtain⟨I,hI⟩:∃ I,I=w9.heap.size:=⟨_,rfl⟩
 obtain⟨W10,hW10⟩:∃ W,W=w9.alloc (.cells #[.int .i64 13,.int .i64 (8*(v+64)+2),.int .u32 0] 44):=⟨_,rfl⟩
 have r10:RowT W10 I ⟨13,8*(v+64)+2,0⟩:=by rw[hW10,hI];exact (MapKept.heap_alloc w9 _).1
 have k10:Kp noB w9 W10:=by rw[hW10];exact Kp.alloc _ _ _
 have nG:∀ j,(c.md j∨j=c.E)→j≠G:=fun j hj e=>by
  rcases hj with f | f
  ·have:=HG.out.2 j (.inr f);omega
  ·have:=HG.out.1;omega
 have HP10:Hid (PAt W10 A cz∧RowT W10 Q ⟨13,8*v+2,0⟩∧RowT W10 G ⟨13,8*v+2,0⟩∧RowT W10 I ⟨13,8*(v+64)+2,0⟩∧Kp noB w W10∧XAt W10 c t9 stX0 M):=⟨(HP8.out.1.kp k9 (fun f=>(HN.out A f).2.1 rfl)).kp k10 id,(HP8.out.2.1.kp k9 (fun f=>(HN.out Q f).2.2 rfl)).kp k10 id,(HP8.out.2.2.1.kp k9 (fun f=>nG G f rfl)).kp k10 id,r10,(HP8.out.2.2.2.over k9 (fun j hj e=>by have:=(HN.out j e).1;omega)).trans k10,x9.kp0 k10⟩
 clear HP8 HX8 HE4 k9 k10 r10 x9 ht9 nG
 go_upto_region 25 with fail
 rw[←hI,←hW10]
 clear hI hW10
 go_upto_region 26 with fail
 obtain⟨J,hJ⟩:∃ J,J=W10.heap.size:=⟨_,rfl⟩
 obtain⟨W11,hW11⟩:∃ W,W=W10.alloc (.cells #[.int .i64 13,.int .i64 (8*(v+64)+2),.int .u32 0] 44):=⟨_,rfl⟩
 have r11:RowT W11 J ⟨13,8*(v+64)+2,0⟩:=by rw[hW11,hJ];exact (MapKept.heap_alloc W10 _).1
 have k11:Kp noB W10 W11:=by rw[hW11];exact Kp.alloc _ _ _
 rw[←hJ,←hW11]
 clear hJ hW11
 have kd:=k11.drew
 have q11:RowT W11.drew J ⟨13,8*(v+64)+2,0⟩:=r11.kp (Kp.refl noB W11).drew id
 have P11:=HP10.out.1.kp kd id
 have q1:=HP10.out.2.1.kp kd id
 have q2:=HP10.out.2.2.1.kp kd id
 have q3:=HP10.out.2.2.2.1.kp kd id
 have HFn:Hid (Kp noB w W11.drew):=HP10.out.2.2.2.2.1.trans kd
 have a0:=q1.c0;have a1:=q1.c1;have a2:=q1.c2
 have c0:=q2.c0;have c1:=q2.c1;have c2:=q2.c2
 have d0:=q3.c0;have d1:=q3.c1;have d2:=q3.c2
 have j0:=q11.c0;have j1:=q11.c1;have j2:=q11.c2
 have hl1:=(HP10.out.2.2.2.2.2.kp0 kd).e.get HV.out
 rw[←HCZ.out] at hl1
 have hl2:=HV.out.get P11
 have hq:=HQ.out
 clear r11 k11 q11 P11 q1 q2 q3 kd HP10
 go_region
 go_wp2
 go_ret
 exact⟨rfl,kBelow HFn.out⟩
set_option maxHeartbeats 16000000 in
theorem ref_1f (w:World) (hC:Cls w) (vec how:Int) (hv:I64 vec) (hh:I64 how) (hm:(absI how).tmod 4=1):Calls Tryz.prog 8 #[.int .i64 vec,.int .i64 how,.bool false] w fun e w'=>e=.returned (.bool true)∧Below w.heap.size w w':=by
 obtain⟨T,nn,Z,hV⟩:=vlP
 obtain⟨vl,vs,va,vb⟩:=hV.ops
 have vq:∀ x y,Op.binOp .eql 33 x y 33=Op.binOp .eql T x y T:=by rw[hV.t];exact fun _ _=>rfl
 have g1:=hV.agg;have g2:=hV.size;have g3:=hV.zero
 have gQ:Tryz.prog.eqGuardType Tryz.prog.depth T=false:=by rw[hV.t];kernel_rfl
 have hq:=cu_equal stX0_ok.toBd
 obtain⟨cz,hcz⟩:∃ q,q=stX0.cs:=⟨_,rfl⟩
 rw[←hcz] at hq
 have HQ:Hid (∀ w,(Op.equalIn 10000 T (.agg cz) (.agg cz)).run Tryz.prog w=.ok true w):=by rw[hV.t];exact hq
 have wfz:WfC cz:=by rw[hcz];exact cu_wf _
 have hsz:cz.size=nn:=by rw[wfz.s,hV.s]
 have HCZ:Hid (cz=stX0.cs):=hcz
 have HWF:Hid (WfC cz):=wfz
 have HA:Hid _:=awake18 w hC
 have HV:Hid _:=hV
 have HC:Hid (Cls w):=hC
 obtain⟨hu0,hu1⟩:=absI_bd hv
 obtain⟨hh0,hh1⟩:=absI_bd hh
 unfold I64 at hv hh
 clear hV hC hq hcz wfz
 go_enter Tryz.func8,Tryz.ntmps8
 simp only [vl,vs,va,vq]
 go_wp2_with fail
 refine Calls.mono HA.out ?_;rintro e w1 ⟨rfl,k1⟩
 have HK1:Hid (Kp noB w w1):=k1
 clear k1 HA
 go_upto_if 19 with fail
 go_cut [0] from 17 (fun s0 wq=>s0=.int .i64 (absI vec)∧wq=w1)
 case first=>
  by_cases hn:vec < 0
  ·have hw1:IntKind.i64.wrap (vec+1)=vec+1:=by rw[IntKind.wrap_i64];omega
   have hw2:IntKind.i64.wrap (-(vec+1))=-(vec+1):=by rw[IntKind.wrap_i64];omega
   have HN:Hid _:=hn
   go_wp2
   go_meet
   case rel=>exact⟨by unfold absI;rw[if_pos HN.out],rfl⟩
  ·have HN:Hid _:=hn
   go_wp2
   go_meet
   case rel=>exact⟨by unfold absI;rw[if_neg HN.out],rfl⟩
 case rest=>
 obtain⟨rfl,hwc⟩:=hcut
 replace hwc:=hwc.symm
 subst hwc
 go_upto_if 24 with fail
 go_cut [1] from 17 (fun s1 wq=>s1=.int .i64 (absI how)∧wq=w1)
 case first=>
  by_cases hn:how < 0
  ·have hw1:IntKind.i64.wrap (how+1)=how+1:=by rw[IntKind.wrap_i64];omega
   have hw2:IntKind.i64.wrap (-(how+1))=-(how+1):=by rw[IntKind.wrap_i64];omega
   have HN:Hid _:=hn
   go_wp2
   go_meet
   case rel=>exact⟨by unfold absI;rw[if_pos HN.out],rfl⟩
  ·have HN:Hid _:=hn
   go_wp2
   go_meet
   case rel=>exact⟨by unfold absI;rw[if_neg HN.out],rfl⟩
 case rest=>
 obtain⟨rfl,hwc⟩:=hcut
 replace hwc:=hwc.symm
 subst hwc
 generalize absI vec=u at *
 generalize absI how=h at *
 clear hv hh
 obtain⟨v,hvv⟩:∃ v,v=u.tmod 64:=⟨_,rfl⟩
 have hv0:0≤v:=by rw[hvv];exact Int.tmod_nonneg _ hu0
 have hv1:v < 64:=by rw[hvv,Int.tmod_eq_emod_of_nonneg hu0];omega
 have e64:u.tmod 64=v:=hvv.symm
 have e4:h.tmod 4=1:=hm
 obtain⟨b1,b2,b3,b4,b5,b6,b7⟩:=bAll hv0 hv1
 have HE:Hid (enterO (stM 35840) stX0 v (-1) false=.no (stM 35840) 13 (8*v+2+1)):=by
  have q:=enter_bad (M:=stM 35840) (kind:=35840) (v:=v) (tb_st (by unfold U32;decide)) flX_0 (by unfold Kd;decide) hv0 hv1 (-1) false (by show badG (gG 35840 v) false 0=true;unfold badG gG;simp)
  exact q
 have HF:Hid (enterO (stM 35840) stX0 (v+64) (-1) false=.no (stM 35840) 13 (8*(v+64)+2+1)):=by
  have q:=enter_far (M:=stM 35840) flX_0 (v:=v+64) (by omega) (by omega) (-1) false
  exact q
 clear hvv hu0 hu1 hh0 hh1 hm hv0 hv1
 go_upto_region 8 with fail
 obtain⟨S,hS⟩:∃ S,S=w1.heap.size:=⟨_,rfl⟩
 obtain⟨W2,hW2⟩:∃ W,W=w1.alloc (.cells #[.int .u32 3584,.int .u32 35840,.int .u32 40448,.int .u32 36352] 22):=⟨_,rfl⟩
 have rS:W2.heap[S]?=some (.cells #[.int .u32 3584,.int .u32 35840,.int .u32 40448,.int .u32 36352] 22 (0,0)):=by rw[hW2,hS];exact (MapKept.heap_alloc w1 _).1
 have k2:Kp noB w1 W2:=by rw[hW2];exact Kp.alloc _ _ _
 have cS:W2.cell? ⟨S,1,none⟩=some (.int .u32 35840):=by rw[cell_at rS];rfl
 have HK2:Hid (Kp noB w W2):=HK1.out.trans k2
 rw[←hW2,←hS]
 clear hW2 hS rS k2 HK1
 have HS:Hid _:=started0 W2 35840 (by unfold U32;decide)
 go_wp2_with fail
 clear cS
 refine Calls.mono HS.out ?_;rintro e w3 ⟨E,V,Kb,L,L',rfl,hst⟩
 obtain⟨hx,hE,hall,kU⟩:=start_at stX0_ok (stM_same 35840).2 hst
 have k3:=Bs.noRm kU
 obtain⟨M,hM⟩:∃ M,M=stM 35840:=⟨_,rfl⟩
 obtain⟨c,hc⟩:∃ c:Ev,c=⟨E,V,Kb,L.M,8,(stM 35840).n,L.B⟩:=⟨_,rfl⟩
 have ecE:E=c.E:=by rw[hc]
 rw[←hc] at hx hall
 rw[←hM] at hx HE HF
 rw[ecE] at hE ⊢
 have HX3:Hid (XAt w3 c 0 stX0 M):=hx
 have HK3:Hid (Kp noB w w3):=HK2.out.trans k3
 have HAL:Hid (w.heap.size≤c.E∧∀ j,c.all j→w.heap.size≤j):=⟨by have:=HK2.out.size;omega,fun j hj=>by have:=HK2.out.size;have:=hall j hj;omega⟩
 clear hst hc hM kU k3 hx hE hall ecE HS
 go_upto_region 18 with fail
 obtain⟨Q,hQ⟩:∃ Q,Q=w3.heap.size:=⟨_,rfl⟩
 obtain⟨W4,hW4⟩:∃ W,W=w3.alloc (.cells #[.int .i64 13,.int .i64 (8*v+2+1),.int .u32 0] 44):=⟨_,rfl⟩
 have r4:RowT W4 Q ⟨13,8*v+2+1,0⟩:=by rw[hW4,hQ];exact (MapKept.heap_alloc w3 _).1
 have k4:Kp noB w3 W4:=by rw[hW4];exact Kp.alloc _ _ _
 have x4:=HX3.out.kp0 k4
 have HK4:Hid (Kp noB w W4):=HK3.out.trans k4
 have HQ1:Hid (c.E < Q∧(∀ j,c.all j→j < Q)∧w.heap.size≤Q):=⟨by rw[hQ];exact HX3.out.lt,fun j hj=>by rw[hQ];exact HX3.out.in_all hj,by rw[hQ];exact HK3.out.size⟩
 rw[←hW4,←hQ]
 clear hW4 hQ k4 HX3 HK3
 obtain⟨W5,hW5⟩:∃ W,W=W4:=⟨_,rfl⟩
 go_upto_region 20 with fail
 rw[←hW5] at r4 x4 HK4 ⊢
 have r5:=r4
 have x5:=x4
 have HK5:Hid (Kp noB w W5):=HK4.out
 clear hW5 r4 x4 HK4
 have HR5:Hid (RowT W5 Q ⟨13,8*v+2+1,0⟩):=r5
 have HX5:Hid (XAt W5 c 0 stX0 M):=x5
 clear r5 x5
 have hld:=HX5.out.e.get HV.out
 rw[←HCZ.out] at hld
 have pA0:PAt (W5.alloc (.cells Z T)) W5.heap.size Z:=HV.out.at HV.out.wf W5
 have hst:=VlP.put pA0 HWF.out
 obtain⟨A,hA⟩:∃ A,A=W5.heap.size:=⟨_,rfl⟩
 obtain⟨W6,hW6⟩:∃ W,W=(W5.alloc (.cells Z T)).setRow A cz:=⟨_,rfl⟩
 have P6:PAt W6 A cz:=by rw[hW6,hA];exact pA0.put HWF.out
 have k6:Kp noB W5 W6:=by
  rw[hW6]
  exact (Kp.alloc noB W5 _).over (Kp.setRow (S:=fun j=>j=A) (W5.alloc (.cells Z T)) rfl cz) (fun j hj e=>by omega)
 have x6:=HX5.out.kp0 k6
 have HA6:Hid (c.E < A∧(∀ j,c.all j→j < A)):=⟨by rw[hA];exact HX5.out.lt,fun j hj=>by rw[hA];exact HX5.out.in_all hj⟩
 have HP6:Hid (PAt W6 A cz∧RowT W6 Q ⟨13,8*v+2+1,0⟩∧Kp noB w W6):=⟨P6,HR5.out.kp k6 id,HK5.out.trans k6⟩
 have HE1:Hid _:=Enter_any W6 c 0 stX0 M x6 v (-1) false (by decide)
 go_upto_region 21 with fail
 rw[←hA,←hW6]
 clear hA hW6 hst hld pA0 P6 k6 x6 HX5 HR5 HK5
 rw[HE.out] at HE1
 have HE2:Hid (Calls Tryz.prog 11 #[.pointer (some ⟨c.E,0,none⟩),.int .i64 v,.int .i64 (-1),.bool false] W6 fun e w'=>e=.returned (.agg #[.int .i64 13,.int .i64 (8*v+2+1),.int .u32 0])∧(∃ t,t≤0+40∧XAt w' c t stX0 M)∧Kp (fun j=>c.md j∨j=c.E) W6 w'):=HE1.out
 clear HE1 HE
 go_wp2_with fail
 refine Calls.mono HE2.out ?_;rintro e w7 ⟨rfl,⟨t7,ht7,x7⟩,k7⟩
 have nE:∀ j,(c.md j∨j=c.E)→w.heap.size≤j∧j≠A∧j≠Q:=fun j hj=>by
  rcases hj with e | e
  ·exact⟨HAL.out.2 j (.inr e),by have:=HA6.out.2 j (.inr e);omega,by have:=HQ1.out.2.1 j (.inr e);omega⟩
  ·have:=HAL.out.1;have:=HA6.out.1;have:=HQ1.out.1;exact⟨by omega,by omega,by omega⟩
 obtain⟨G,hG⟩:∃ G,G=w7.heap.size:=⟨_,rfl⟩
 obtain⟨W8,hW8⟩:∃ W,W=w7.alloc (.cells #[.int .i64 13,.int .i64 (8*v+2+1),.int .u32 0] 44):=⟨_,rfl⟩
 have r8:RowT W8 G ⟨13,8*v+2+1,0⟩:=by rw[hW8,hG];exact (MapKept.heap_alloc w7 _).1
 have k8:Kp noB w7 W8:=by rw[hW8];exact Kp.alloc _ _ _
 have hG1:c.E < G∧∀ j,c.all j→j < G:=⟨by rw[hG];exact x7.lt,fun j hj=>by rw[hG];exact x7.in_all hj⟩
 have HG:Hid _:=hG1
 have HP8:Hid (PAt W8 A cz∧RowT W8 Q ⟨13,8*v+2+1,0⟩∧RowT W8 G ⟨13,8*v+2+1,0⟩∧Kp noB w W8):=⟨(HP6.out.1.kp k7 (fun f=>(nE A f).2.1 rfl)).kp k8 id,(HP6.out.2.1.kp k7 (fun f=>(nE Q f).2.2 rfl)).kp k8 id,r8,(HP6.out.2.2.over k7 (fun j hj e=>by have:=(nE j e).1;omega)).trans k8⟩
 have HX8:Hid (XAt W8 c t7 stX0 M):=x7.kp0 k8
 have HE3:Hid _:=Enter_any W8 c t7 stX0 M HX8.out (v+64) (-1) false (by omega)
 rw[HF.out] at HE3
 have HE4:Hid (Calls Tryz.prog 11 #[.pointer (some ⟨c.E,0,none⟩),.int .i64 (v+64),.int .i64 (-1),.bool false] W8 fun e w'=>e=.returned (.agg #[.int .i64 13,.int .i64 (8*(v+64)+2+1),.int .u32 0])∧(∃ t,t≤t7+40∧XAt w' c t stX0 M)∧Kp (fun j=>c.md j∨j=c.E) W8 w'):=HE3.out
 have HN:Hid _:=nE
 clear HE2 HE3 HF k7 k8 r8 x7 ht7 hG1 HP6 nE
 go_upto_region 22 with fail
 rw[←hG,←hW8]
 clear hG hW8
 go_wp2_with fail
 refine Calls.mono HE4.out ?_;rintro e w9 ⟨rfl,⟨t9,ht9,x9⟩,k9⟩
 obtain⟨I,hI⟩:∃ I,I=w9.heap.size:=⟨_,rfl⟩
 obtain⟨W10,hW10⟩:∃ W,W=w9.alloc (.cells #[.int .i64 13,.int .i64 (8*(v+64)+2+1),.int .u32 0] 44):=⟨_,rfl⟩
 have r10:RowT W10 I ⟨13,8*(v+64)+2+1,0⟩:=by rw[hW10,hI];exact (MapKept.heap_alloc w9 _).1
 have k10:Kp noB w9 W10:=by rw[hW10];exact Kp.alloc _ _ _
 have nG:∀ j,(c.md j∨j=c.E)→j≠G:=fun j hj e=>by
  rcases hj with f | f
  ·have:=HG.out.2 j (.inr f);omega
  ·have:=HG.out.1;omega
 have HP10:Hid (PAt W10 A cz∧RowT W10 Q ⟨13,8*v+2+1,0⟩∧RowT W10 G ⟨13,8*v+2+1,0⟩∧RowT W10 I ⟨13,8*(v+64)+2+1,0⟩∧Kp noB w W10∧XAt W10 c t9 stX0 M):=⟨(HP8.out.1.kp k9 (fun f=>(HN.out A f).2.1 rfl)).kp k10 id,(HP8.out.2.1.kp k9 (fun f=>(HN.out Q f).2.2 rfl)).kp k10 id,(HP8.out.2.2.1.kp k9 (fun f=>nG G f rfl)).kp k10 id,r10,(HP8.out.2.2.2.over k9 (fun j hj e=>by have:=(HN.out j e).1;omega)).trans k10,x9.kp0 k10⟩
 clear HP8 HX8 HE4 k9 k10 r10 x9 ht9 nG
 go_upto_region 25 with fail
 rw[←hI,←hW10]
 clear hI hW10
 go_upto_region 26 with fail
 obtain⟨J,hJ⟩:∃ J,J=W10.heap.size:=⟨_,rfl⟩
 obtain⟨W11,hW11⟩:∃ W,W=W10.alloc (.cells #[.int .i64 13,.int .i64 (8*(v+64)+2+1),.int .u32 0] 44):=⟨_,rfl⟩
 have r11:RowT W11 J ⟨13,8*(v+64)+2+1,0⟩:=by rw[hW11,hJ];exact (MapKept.heap_alloc W10 _).1
 have k11:Kp noB W10 W11:=by rw[hW11];exact Kp.alloc _ _ _
 rw[←hJ,←hW11]
 clear hJ hW11
 have kd:=k11.drew
 have q11:RowT W11.drew J ⟨13,8*(v+64)+2+1,0⟩:=r11.kp (Kp.refl noB W11).drew id
 have P11:=HP10.out.1.kp kd id
 have q1:=HP10.out.2.1.kp kd id
 have q2:=HP10.out.2.2.1.kp kd id
 have q3:=HP10.out.2.2.2.1.kp kd id
 have HFn:Hid (Kp noB w W11.drew):=HP10.out.2.2.2.2.1.trans kd
 have a0:=q1.c0;have a1:=q1.c1;have a2:=q1.c2
 have c0:=q2.c0;have c1:=q2.c1;have c2:=q2.c2
 have d0:=q3.c0;have d1:=q3.c1;have d2:=q3.c2
 have j0:=q11.c0;have j1:=q11.c1;have j2:=q11.c2
 have hl1:=(HP10.out.2.2.2.2.2.kp0 kd).e.get HV.out
 rw[←HCZ.out] at hl1
 have hl2:=HV.out.get P11
 have hq:=HQ.out
 clear r11 k11 q11 P11 q1 q2 q3 kd HP10
 go_region
 go_wp2
 go_ret
 exact⟨rfl,kBelow HFn.out⟩
set_option maxHeartbeats 16000000 in
theorem ref_2t (w:World) (hC:Cls w) (vec how:Int) (hv:I64 vec) (hh:I64 how) (hm:(absI how).tmod 4=2):Calls Tryz.prog 8 #[.int .i64 vec,.int .i64 how,.bool true] w fun e w'=>e=.returned (.bool true)∧Below w.heap.size w w':=by
 obtain⟨T,nn,Z,hV⟩:=vlP
 obtain⟨vl,vs,va,vb⟩:=hV.ops
 have vq:∀ x y,Op.binOp .eql 33 x y 33=Op.binOp .eql T x y T:=by rw[hV.t];exact fun _ _=>rfl
 have g1:=hV.agg;have g2:=hV.size;have g3:=hV.zero
 have gQ:Tryz.prog.eqGuardType Tryz.prog.depth T=false:=by rw[hV.t];kernel_rfl
 have hq:=cu_equal stX0_ok.toBd
 obtain⟨cz,hcz⟩:∃ q,q=stX0.cs:=⟨_,rfl⟩
 rw[←hcz] at hq
 have HQ:Hid (∀ w,(Op.equalIn 10000 T (.agg cz) (.agg cz)).run Tryz.prog w=.ok true w):=by rw[hV.t];exact hq
 have wfz:WfC cz:=by rw[hcz];exact cu_wf _
 have hsz:cz.size=nn:=by rw[wfz.s,hV.s]
 have HCZ:Hid (cz=stX0.cs):=hcz
 have HWF:Hid (WfC cz):=wfz
 have HA:Hid _:=awake18 w hC
 have HV:Hid _:=hV
 have HC:Hid (Cls w):=hC
 obtain⟨hu0,hu1⟩:=absI_bd hv
 obtain⟨hh0,hh1⟩:=absI_bd hh
 unfold I64 at hv hh
 clear hV hC hq hcz wfz
 go_enter Tryz.func8,Tryz.ntmps8
 simp only [vl,vs,va,vq]
 go_wp2_with fail
 refine Calls.mono HA.out ?_;rintro e w1 ⟨rfl,k1⟩
 have HK1:Hid (Kp noB w w1):=k1
 clear k1 HA
 go_upto_if 19 with fail
 go_cut [0] from 17 (fun s0 wq=>s0=.int .i64 (absI vec)∧wq=w1)
 case first=>
  by_cases hn:vec < 0
  ·have hw1:IntKind.i64.wrap (vec+1)=vec+1:=by rw[IntKind.wrap_i64];omega
   have hw2:IntKind.i64.wrap (-(vec+1))=-(vec+1):=by rw[IntKind.wrap_i64];omega
   have HN:Hid _:=hn
   go_wp2
   go_meet
   case rel=>exact⟨by unfold absI;rw[if_pos HN.out],rfl⟩
  ·have HN:Hid _:=hn
   go_wp2
   go_meet
   case rel=>exact⟨by unfold absI;rw[if_neg HN.out],rfl⟩
 case rest=>
 obtain⟨rfl,hwc⟩:=hcut
 replace hwc:=hwc.symm
 subst hwc
 go_upto_if 24 with fail
 go_cut [1] from 17 (fun s1 wq=>s1=.int .i64 (absI how)∧wq=w1)
 case first=>
  by_cases hn:how < 0
  ·have hw1:IntKind.i64.wrap (how+1)=how+1:=by rw[IntKind.wrap_i64];omega
   have hw2:IntKind.i64.wrap (-(how+1))=-(how+1):=by rw[IntKind.wrap_i64];omega
   have HN:Hid _:=hn
   go_wp2
   go_meet
   case rel=>exact⟨by unfold absI;rw[if_pos HN.out],rfl⟩
  ·have HN:Hid _:=hn
   go_wp2
   go_meet
   case rel=>exact⟨by unfold absI;rw[if_neg HN.out],rfl⟩
 case rest=>
 obtain⟨rfl,hwc⟩:=hcut
 replace hwc:=hwc.symm
 subst hwc
 generalize absI vec=u at *
 generalize absI how=h at *
 clear hv hh
 obtain⟨v,hvv⟩:∃ v,v=u.tmod 64:=⟨_,rfl⟩
 have hv0:0≤v:=by rw[hvv];exact Int.tmod_nonneg _ hu0
 have hv1:v < 64:=by rw[hvv,Int.tmod_eq_emod_of_nonneg hu0];omega
 have e64:u.tmod 64=v:=hvv.symm
 have e4:h.tmod 4=2:=hm
 obtain⟨b1,b2,b3,b4,b5,b6,b7⟩:=bAll hv0 hv1
 have HE:Hid (enterO (stM 40448) stX0 v (-1) true=.no (stM 40448) 13 (8*v+2)):=by
  have q:=enter_bad (M:=stM 40448) (kind:=40448) (v:=v) (tb_st (by unfold U32;decide)) flX_0 (by unfold Kd;decide) hv0 hv1 (-1) true (by show badG (gG 40448 v) true 0=true;unfold badG gG;simp)
  rw[show outX true=0 from rfl,Int.add_zero] at q
  exact q
 have HF:Hid (enterO (stM 40448) stX0 (v+64) (-1) true=.no (stM 40448) 13 (8*(v+64)+2)):=by
  have q:=enter_far (M:=stM 40448) flX_0 (v:=v+64) (by omega) (by omega) (-1) true
  rw[show outX true=0 from rfl,Int.add_zero] at q
  exact q
 clear hvv hu0 hu1 hh0 hh1 hm hv0 hv1
 go_upto_region 8 with fail
 obtain⟨S,hS⟩:∃ S,S=w1.heap.size:=⟨_,rfl⟩
 obtain⟨W2,hW2⟩:∃ W,W=w1.alloc (.cells #[.int .u32 3584,.int .u32 35840,.int .u32 40448,.int .u32 36352] 22):=⟨_,rfl⟩
 have rS:W2.heap[S]?=some (.cells #[.int .u32 3584,.int .u32 35840,.int .u32 40448,.int .u32 36352] 22 (0,0)):=by rw[hW2,hS];exact (MapKept.heap_alloc w1 _).1
 have k2:Kp noB w1 W2:=by rw[hW2];exact Kp.alloc _ _ _
 have cS:W2.cell? ⟨S,2,none⟩=some (.int .u32 40448):=by rw[cell_at rS];rfl
 have HK2:Hid (Kp noB w W2):=HK1.out.trans k2
 rw[←hW2,←hS]
 clear hW2 hS rS k2 HK1
 have HS:Hid _:=started0 W2 40448 (by unfold U32;decide)
 go_wp2_with fail
 clear cS
 refine Calls.mono HS.out ?_;rintro e w3 ⟨E,V,Kb,L,L',rfl,hst⟩
 obtain⟨hx,hE,hall,kU⟩:=start_at stX0_ok (stM_same 40448).2 hst
 have k3:=Bs.noRm kU
 obtain⟨M,hM⟩:∃ M,M=stM 40448:=⟨_,rfl⟩
 obtain⟨c,hc⟩:∃ c:Ev,c=⟨E,V,Kb,L.M,8,(stM 40448).n,L.B⟩:=⟨_,rfl⟩
 have ecE:E=c.E:=by rw[hc]
 rw[←hc] at hx hall
 rw[←hM] at hx HE HF
 rw[ecE] at hE ⊢
 have HX3:Hid (XAt w3 c 0 stX0 M):=hx
 have HK3:Hid (Kp noB w w3):=HK2.out.trans k3
 have HAL:Hid (w.heap.size≤c.E∧∀ j,c.all j→w.heap.size≤j):=⟨by have:=HK2.out.size;omega,fun j hj=>by have:=HK2.out.size;have:=hall j hj;omega⟩
 clear hst hc hM kU k3 hx hE hall ecE HS
 go_upto_region 18 with fail
 obtain⟨Q,hQ⟩:∃ Q,Q=w3.heap.size:=⟨_,rfl⟩
 obtain⟨W4,hW4⟩:∃ W,W=w3.alloc (.cells #[.int .i64 13,.int .i64 (8*v+2),.int .u32 0] 44):=⟨_,rfl⟩
 have r4:RowT W4 Q ⟨13,8*v+2,0⟩:=by rw[hW4,hQ];exact (MapKept.heap_alloc w3 _).1
 have k4:Kp noB w3 W4:=by rw[hW4];exact Kp.alloc _ _ _
 have x4:=HX3.out.kp0 k4
 have HK4:Hid (Kp noB w W4):=HK3.out.trans k4
 have HQ1:Hid (c.E < Q∧(∀ j,c.all j→j < Q)∧w.heap.size≤Q):=⟨by rw[hQ];exact HX3.out.lt,fun j hj=>by rw[hQ];exact HX3.out.in_all hj,by rw[hQ];exact HK3.out.size⟩
 rw[←hW4,←hQ]
 clear hW4 hQ k4 HX3 HK3
 obtain⟨W5,hW5⟩:∃ W,W=W4:=⟨_,rfl⟩
 go_upto_region 20 with fail
 rw[←hW5] at r4 x4 HK4 ⊢
 have r5:=r4
 have x5:=x4
 have HK5:Hid (Kp noB w W5):=HK4.out
 clear hW5 r4 x4 HK4
 have HR5:Hid (RowT W5 Q ⟨13,8*v+2,0⟩):=r5
 have HX5:Hid (XAt W5 c 0 stX0 M):=x5
 clear r5 x5
 have hld:=HX5.out.e.get HV.out
 rw[←HCZ.out] at hld
 have pA0:PAt (W5.alloc (.cells Z T)) W5.heap.size Z:=HV.out.at HV.out.wf W5
 have hst:=VlP.put pA0 HWF.out
 obtain⟨A,hA⟩:∃ A,A=W5.heap.size:=⟨_,rfl⟩
 obtain⟨W6,hW6⟩:∃ W,W=(W5.alloc (.cells Z T)).setRow A cz:=⟨_,rfl⟩
 have P6:PAt W6 A cz:=by rw[hW6,hA];exact pA0.put HWF.out
 have k6:Kp noB W5 W6:=by
  rw[hW6]
  exact (Kp.alloc noB W5 _).over (Kp.setRow (S:=fun j=>j=A) (W5.alloc (.cells Z T)) rfl cz) (fun j hj e=>by omega)
 have x6:=HX5.out.kp0 k6
 have HA6:Hid (c.E < A∧(∀ j,c.all j→j < A)):=⟨by rw[hA];exact HX5.out.lt,fun j hj=>by rw[hA];exact HX5.out.in_all hj⟩
 have HP6:Hid (PAt W6 A cz∧RowT W6 Q ⟨13,8*v+2,0⟩∧Kp noB w W6):=⟨P6,HR5.out.kp k6 id,HK5.out.trans k6⟩
 have HE1:Hid _:=Enter_any W6 c 0 stX0 M x6 v (-1) true (by decide)
 go_upto_region 21 with fail
 rw[←hA,←hW6]
 clear hA hW6 hst hld pA0 P6 k6 x6 HX5 HR5 HK5
 rw[HE.out] at HE1
 have HE2:Hid (Calls Tryz.prog 11 #[.pointer (some ⟨c.E,0,none⟩),.int .i64 v,.int .i64 (-1),.bool true] W6 fun e w'=>e=.returned (.agg #[.int .i64 13,.int .i64 (8*v+2),.int .u32 0])∧(∃ t,t≤0+40∧XAt w' c t stX0 M)∧Kp (fun j=>c.md j∨j=c.E) W6 w'):=HE1.out
 clear HE1 HE
 go_wp2_with fail
 refine Calls.mono HE2.out ?_;rintro e w7 ⟨rfl,⟨t7,ht7,x7⟩,k7⟩
 have nE:∀ j,(c.md j∨j=c.E)→w.heap.size≤j∧j≠A∧j≠Q:=fun j hj=>by
  rcases hj with e | e
  ·exact⟨HAL.out.2 j (.inr e),by have:=HA6.out.2 j (.inr e);omega,by have:=HQ1.out.2.1 j (.inr e);omega⟩
  ·have:=HAL.out.1;have:=HA6.out.1;have:=HQ1.out.1;exact⟨by omega,by omega,by omega⟩
 obtain⟨G,hG⟩:∃ G,G=w7.heap.size:=⟨_,rfl⟩
 obtain⟨W8,hW8⟩:∃ W,W=w7.alloc (.cells #[.int .i64 13,.int .i64 (8*v+2),.int .u32 0] 44):=⟨_,rfl⟩
 have r8:RowT W8 G ⟨13,8*v+2,0⟩:=by rw[hW8,hG];exact (MapKept.heap_alloc w7 _).1
 have k8:Kp noB w7 W8:=by rw[hW8];exact Kp.alloc _ _ _
 have hG1:c.E < G∧∀ j,c.all j→j < G:=⟨by rw[hG];exact x7.lt,fun j hj=>by rw[hG];exact x7.in_all hj⟩
 have HG:Hid _:=hG1
 have HP8:Hid (PAt W8 A cz∧RowT W8 Q ⟨13,8*v+2,0⟩∧RowT W8 G ⟨13,8*v+2,0⟩∧Kp noB w W8):=⟨(HP6.out.1.kp k7 (fun f=>(nE A f).2.1 rfl)).kp k8 id,(HP6.out.2.1.kp k7 (fun f=>(nE Q f).2.2 rfl)).kp k8 id,r8,(HP6.out.2.2.over k7 (fun j hj e=>by have:=(nE j e).1;omega)).trans k8⟩
 have HX8:Hid (XAt W8 c t7 stX0 M):=x7.kp0 k8
 have HE3:Hid _:=Enter_any W8 c t7 stX0 M HX8.out (v+64) (-1) true (by omega)
 rw[HF.out] at HE3
 have HE4:Hid (Calls Tryz.prog 11 #[.pointer (some ⟨c.E,0,none⟩),.int .i64 (v+64),.int .i64 (-1),.bool true] W8 fun e w'=>e=.returned (.agg #[.int .i64 13,.int .i64 (8*(v+64)+2),.int .u32 0])∧(∃ t,t≤t7+40∧XAt w' c t stX0 M)∧Kp (fun j=>c.md j∨j=c.E) W8 w'):=HE3.out
 have HN:Hid _:=nE
 clear HE2 HE3 HF k7 k8 r8 x7 ht7 hG1 HP6 nE
 go_upto_region 22 with fail
 rw[←hG,←hW8]
 clear hG hW8
 go_wp2_with fail
 refine Calls.mono HE4.out ?_;rintro e w9 ⟨rfl,⟨t9,ht9,x9⟩,k9⟩
 obtain⟨I,hI⟩:∃ I,I=w9.heap.size:=⟨_,rfl⟩
 obtain⟨W10,hW10⟩:∃ W,W=w9.alloc (.cells #[.int .i64 13,.int .i64 (8*(v+64)+2),.int .u32 0] 44):=⟨_,rfl⟩
 have r10:RowT W10 I ⟨13,8*(v+64)+2,0⟩:=by rw[hW10,hI];exact (MapKept.heap_alloc w9 _).1
 have k10:Kp noB w9 W10:=by rw[hW10];exact Kp.alloc _ _ _
 have nG:∀ j,(c.md j∨j=c.E)→j≠G:=fun j hj e=>by
  rcases hj with f | f
  ·have:=HG.out.2 j (.inr f);omega
  ·have:=HG.out.1;omega
 have HP10:Hid (PAt W10 A cz∧RowT W10 Q ⟨13,8*v+2,0⟩∧RowT W10 G ⟨13,8*v+2,0⟩∧RowT W10 I ⟨13,8*(v+64)+2,0⟩∧Kp noB w W10∧XAt W10 c t9 stX0 M):=⟨(HP8.out.1.kp k9 (fun f=>(HN.out A f).2.1 rfl)).kp k10 id,(HP8.out.2.1.kp k9 (fun f=>(HN.out Q f).2.2 rfl)).kp k10 id,(HP8.out.2.2.1.kp k9 (fun f=>nG G f rfl)).kp k10 id,r10,(HP8.out.2.2.2.over k9 (fun j hj e=>by have:=(HN.out j e).1;omega)).trans k10,x9.kp0 k10⟩
 clear HP8 HX8 HE4 k9 k10 r10 x9 ht9 nG
 go_upto_region 25 with fail
 rw[←hI,←hW10]
 clear hI hW10
 go_upto_region 26 with fail
 obtain⟨J,hJ⟩:∃ J,J=W10.heap.size:=⟨_,rfl⟩
 obtain⟨W11,hW11⟩:∃ W,W=W10.alloc (.cells #[.int .i64 13,.int .i64 (8*(v+64)+2),.int .u32 0] 44):=⟨_,rfl⟩
 have r11:RowT W11 J ⟨13,8*(v+64)+2,0⟩:=by rw[hW11,hJ];exact (MapKept.heap_alloc W10 _).1
 have k11:Kp noB W10 W11:=by rw[hW11];exact Kp.alloc _ _ _
 rw[←hJ,←hW11]
 clear hJ hW11
 have kd:=k11.drew
 have q11:RowT W11.drew J ⟨13,8*(v+64)+2,0⟩:=r11.kp (Kp.refl noB W11).drew id
 have P11:=HP10.out.1.kp kd id
 have q1:=HP10.out.2.1.kp kd id
 have q2:=HP10.out.2.2.1.kp kd id
 have q3:=HP10.out.2.2.2.1.kp kd id
 have HFn:Hid (Kp noB w W11.drew):=HP10.out.2.2.2.2.1.trans kd
 have a0:=q1.c0;have a1:=q1.c1;have a2:=q1.c2
 have c0:=q2.c0;have c1:=q2.c1;have c2:=q2.c2
 have d0:=q3.c0;have d1:=q3.c1;have d2:=q3.c2
 have j0:=q11.c0;have j1:=q11.c1;have j2:=q11.c2
 have hl1:=(HP10.out.2.2.2.2.2.kp0 kd).e.get HV.out
 rw[←HCZ.out] at hl1
 have hl2:=HV.out.get P11
 have hq:=HQ.out
 clear r11 k11 q11 P11 q1 q2 q3 kd HP10
 go_region
 go_wp2
 go_ret
 exact⟨rfl,kBelow HFn.out⟩
set_option maxHeartbeats 16000000 in
theorem ref_2f (w:World) (hC:Cls w) (vec how:Int) (hv:I64 vec) (hh:I64 how) (hm:(absI how).tmod 4=2):Calls Tryz.prog 8 #[.int .i64 vec,.int .i64 how,.bool false] w fun e w'=>e=.returned (.bool true)∧Below w.heap.size w w':=by
 obtain⟨T,nn,Z,hV⟩:=vlP
 obtain⟨vl,vs,va,vb⟩:=hV.ops
 have vq:∀ x y,Op.binOp .eql 33 x y 33=Op.binOp .eql T x y T:=by rw[hV.t];exact fun _ _=>rfl
 have g1:=hV.agg;have g2:=hV.size;have g3:=hV.zero
 have gQ:Tryz.prog.eqGuardType Tryz.prog.depth T=false:=by rw[hV.t];kernel_rfl
 have hq:=cu_equal stX0_ok.toBd
 obtain⟨cz,hcz⟩:∃ q,q=stX0.cs:=⟨_,rfl⟩
 rw[←hcz] at hq
 have HQ:Hid (∀ w,(Op.equalIn 10000 T (.agg cz) (.agg cz)).run Tryz.prog w=.ok true w):=by rw[hV.t];exact hq
 have wfz:WfC cz:=by rw[hcz];exact cu_wf _
 have hsz:cz.size=nn:=by rw[wfz.s,hV.s]
 have HCZ:Hid (cz=stX0.cs):=hcz
 have HWF:Hid (WfC cz):=wfz
 have HA:Hid _:=awake18 w hC
 have HV:Hid _:=hV
 have HC:Hid (Cls w):=hC
 obtain⟨hu0,hu1⟩:=absI_bd hv
 obtain⟨hh0,hh1⟩:=absI_bd hh
 unfold I64 at hv hh
 clear hV hC hq hcz wfz
 go_enter Tryz.func8,Tryz.ntmps8
 simp only [vl,vs,va,vq]
 go_wp2_with fail
 refine Calls.mono HA.out ?_;rintro e w1 ⟨rfl,k1⟩
 have HK1:Hid (Kp noB w w1):=k1
 clear k1 HA
 go_upto_if 19 with fail
 go_cut [0] from 17 (fun s0 wq=>s0=.int .i64 (absI vec)∧wq=w1)
 case first=>
  by_cases hn:vec < 0
  ·have hw1:IntKind.i64.wrap (vec+1)=vec+1:=by rw[IntKind.wrap_i64];omega
   have hw2:IntKind.i64.wrap (-(vec+1))=-(vec+1):=by rw[IntKind.wrap_i64];omega
   have HN:Hid _:=hn
   go_wp2
   go_meet
   case rel=>exact⟨by unfold absI;rw[if_pos HN.out],rfl⟩
  ·have HN:Hid _:=hn
   go_wp2
   go_meet
   case rel=>exact⟨by unfold absI;rw[if_neg HN.out],rfl⟩
 case rest=>
 obtain⟨rfl,hwc⟩:=hcut
 replace hwc:=hwc.symm
 subst hwc
 go_upto_if 24 with fail
 go_cut [1] from 17 (fun s1 wq=>s1=.int .i64 (absI how)∧wq=w1)
 case first=>
  by_cases hn:how < 0
  ·have hw1:IntKind.i64.wrap (how+1)=how+1:=by rw[IntKind.wrap_i64];omega
   have hw2:IntKind.i64.wrap (-(how+1))=-(how+1):=by rw[IntKind.wrap_i64];omega
   have HN:Hid _:=hn
   go_wp2
   go_meet
   case rel=>exact⟨by unfold absI;rw[if_pos HN.out],rfl⟩
  ·have HN:Hid _:=hn
   go_wp2
   go_meet
   case rel=>exact⟨by unfold absI;rw[if_neg HN.out],rfl⟩
 case rest=>
 obtain⟨rfl,hwc⟩:=hcut
 replace hwc:=hwc.symm
 subst hwc
 generalize absI vec=u at *
 generalize absI how=h at *
 clear hv hh
 obtain⟨v,hvv⟩:∃ v,v=u.tmod 64:=⟨_,rfl⟩
 have hv0:0≤v:=by rw[hvv];exact Int.tmod_nonneg _ hu0
 have hv1:v < 64:=by rw[hvv,Int.tmod_eq_emod_of_nonneg hu0];omega
 have e64:u.tmod 64=v:=hvv.symm
 have e4:h.tmod 4=2:=hm
 obtain⟨b1,b2,b3,b4,b5,b6,b7⟩:=bAll hv0 hv1
 have HE:Hid (enterO (stM 40448) stX0 v (-1) false=.no (stM 40448) 13 (8*v+2+1)):=by
  have q:=enter_bad (M:=stM 40448) (kind:=40448) (v:=v) (tb_st (by unfold U32;decide)) flX_0 (by unfold Kd;decide) hv0 hv1 (-1) false (by show badG (gG 40448 v) false 0=true;unfold badG gG;simp)
  exact q
 have HF:Hid (enterO (stM 40448) stX0 (v+64) (-1) false=.no (stM 40448) 13 (8*(v+64)+2+1)):=by
  have q:=enter_far (M:=stM 40448) flX_0 (v:=v+64) (by omega) (by omega) (-1) false
  exact q
 clear hvv hu0 hu1 hh0 hh1 hm hv0 hv1
 go_upto_region 8 with fail
 obtain⟨S,hS⟩:∃ S,S=w1.heap.size:=⟨_,rfl⟩
 obtain⟨W2,hW2⟩:∃ W,W=w1.alloc (.cells #[.int .u32 3584,.int .u32 35840,.int .u32 40448,.int .u32 36352] 22):=⟨_,rfl⟩
 have rS:W2.heap[S]?=some (.cells #[.int .u32 3584,.int .u32 35840,.int .u32 40448,.int .u32 36352] 22 (0,0)):=by rw[hW2,hS];exact (MapKept.heap_alloc w1 _).1
 have k2:Kp noB w1 W2:=by rw[hW2];exact Kp.alloc _ _ _
 have cS:W2.cell? ⟨S,2,none⟩=some (.int .u32 40448):=by rw[cell_at rS];rfl
 have HK2:Hid (Kp noB w W2):=HK1.out.trans k2
 rw[←hW2,←hS]
 clear hW2 hS rS k2 HK1
 have HS:Hid _:=started0 W2 40448 (by unfold U32;decide)
 go_wp2_with fail
 clear cS
 refine Calls.mono HS.out ?_;rintro e w3 ⟨E,V,Kb,L,L',rfl,hst⟩
 obtain⟨hx,hE,hall,kU⟩:=start_at stX0_ok (stM_same 40448).2 hst
 have k3:=Bs.noRm kU
 obtain⟨M,hM⟩:∃ M,M=stM 40448:=⟨_,rfl⟩
 obtain⟨c,hc⟩:∃ c:Ev,c=⟨E,V,Kb,L.M,8,(stM 40448).n,L.B⟩:=⟨_,rfl⟩
 have ecE:E=c.E:=by rw[hc]
 rw[←hc] at hx hall
 rw[←hM] at hx HE HF
 rw[ecE] at hE ⊢
 have HX3:Hid (XAt w3 c 0 stX0 M):=hx
 have HK3:Hid (Kp noB w w3):=HK2.out.trans k3
 have HAL:Hid (w.heap.size≤c.E∧∀ j,c.all j→w.heap.size≤j):=⟨by have:=HK2.out.size;omega,fun j hj=>by have:=HK2.out.size;have:=hall j hj;omega⟩
 clear hst hc hM kU k3 hx hE hall ecE HS
 go_upto_region 18 with fail
 obtain⟨Q,hQ⟩:∃ Q,Q=w3.heap.size:=⟨_,rfl⟩
 obtain⟨W4,hW4⟩:∃ W,W=w3.alloc (.cells #[.int .i64 13,.int .i64 (8*v+2+1),.int .u32 0] 44):=⟨_,rfl⟩
 have r4:RowT W4 Q ⟨13,8*v+2+1,0⟩:=by rw[hW4,hQ];exact (MapKept.heap_alloc w3 _).1
 have k4:Kp noB w3 W4:=by rw[hW4];exact Kp.alloc _ _ _
 have x4:=HX3.out.kp0 k4
 have HK4:Hid (Kp noB w W4):=HK3.out.trans k4
 have HQ1:Hid (c.E < Q∧(∀ j,c.all j→j < Q)∧w.heap.size≤Q):=⟨by rw[hQ];exact HX3.out.lt,fun j hj=>by rw[hQ];exact HX3.out.in_all hj,by rw[hQ];exact HK3.out.size⟩
 rw[←hW4,←hQ]
 clear hW4 hQ k4 HX3 HK3
 obtain⟨W5,hW5⟩:∃ W,W=W4:=⟨_,rfl⟩
 go_upto_region 20 with fail
 rw[←hW5] at r4 x4 HK4 ⊢
 have r5:=r4
 have x5:=x4
 have HK5:Hid (Kp noB w W5):=HK4.out
 clear hW5 r4 x4 HK4
 have HR5:Hid (RowT W5 Q ⟨13,8*v+2+1,0⟩):=r5
 have HX5:Hid (XAt W5 c 0 stX0 M):=x5
 clear r5 x5
 have hld:=HX5.out.e.get HV.out
 rw[←HCZ.out] at hld
 have pA0:PAt (W5.alloc (.cells Z T)) W5.heap.size Z:=HV.out.at HV.out.wf W5
 have hst:=VlP.put pA0 HWF.out
 obtain⟨A,hA⟩:∃ A,A=W5.heap.size:=⟨_,rfl⟩
 obtain⟨W6,hW6⟩:∃ W,W=(W5.alloc (.cells Z T)).setRow A cz:=⟨_,rfl⟩
 have P6:PAt W6 A cz:=by rw[hW6,hA];exact pA0.put HWF.out
 have k6:Kp noB W5 W6:=by
  rw[hW6]
  exact (Kp.alloc noB W5 _).over (Kp.setRow (S:=fun j=>j=A) (W5.alloc (.cells Z T)) rfl cz) (fun j hj e=>by omega)
 have x6:=HX5.out.kp0 k6
 have HA6:Hid (c.E < A∧(∀ j,c.all j→j < A)):=⟨by rw[hA];exact HX5.out.lt,fun j hj=>by rw[hA];exact HX5.out.in_all hj⟩
 have HP6:Hid (PAt W6 A cz∧RowT W6 Q ⟨13,8*v+2+1,0⟩∧Kp noB w W6):=⟨P6,HR5.out.kp k6 id,HK5.out.trans k6⟩
 have HE1:Hid _:=Enter_any W6 c 0 stX0 M x6 v (-1) false (by decide)
 go_upto_region 21 with fail
 rw[←hA,←hW6]
 clear hA hW6 hst hld pA0 P6 k6 x6 HX5 HR5 HK5
 rw[HE.out] at HE1
 have HE2:Hid (Calls Tryz.prog 11 #[.pointer (some ⟨c.E,0,none⟩),.int .i64 v,.int .i64 (-1),.bool false] W6 fun e w'=>e=.returned (.agg #[.int .i64 13,.int .i64 (8*v+2+1),.int .u32 0])∧(∃ t,t≤0+40∧XAt w' c t stX0 M)∧Kp (fun j=>c.md j∨j=c.E) W6 w'):=HE1.out
 clear HE1 HE
 go_wp2_with fail
 refine Calls.mono HE2.out ?_;rintro e w7 ⟨rfl,⟨t7,ht7,x7⟩,k7⟩
 have nE:∀ j,(c.md j∨j=c.E)→w.heap.size≤j∧j≠A∧j≠Q:=fun j hj=>by
  rcases hj with e | e
  ·exact⟨HAL.out.2 j (.inr e),by have:=HA6.out.2 j (.inr e);omega,by have:=HQ1.out.2.1 j (.inr e);omega⟩
  ·have:=HAL.out.1;have:=HA6.out.1;have:=HQ1.out.1;exact⟨by omega,by omega,by omega⟩
 obtain⟨G,hG⟩:∃ G,G=w7.heap.size:=⟨_,rfl⟩
 obtain⟨W8,hW8⟩:∃ W,W=w7.alloc (.cells #[.int .i64 13,.int .i64 (8*v+2+1),.int .u32 0] 44):=⟨_,rfl⟩
 have r8:RowT W8 G ⟨13,8*v+2+1,0⟩:=by rw[hW8,hG];exact (MapKept.heap_alloc w7 _).1
 have k8:Kp noB w7 W8:=by rw[hW8];exact Kp.alloc _ _ _
 have hG1:c.E < G∧∀ j,c.all j→j < G:=⟨by rw[hG];exact x7.lt,fun j hj=>by rw[hG];exact x7.in_all hj⟩
 have HG:Hid _:=hG1
 have HP8:Hid (PAt W8 A cz∧RowT W8 Q ⟨13,8*v+2+1,0⟩∧RowT W8 G ⟨13,8*v+2+1,0⟩∧Kp noB w W8):=⟨(HP6.out.1.kp k7 (fun f=>(nE A f).2.1 rfl)).kp k8 id,(HP6.out.2.1.kp k7 (fun f=>(nE Q f).2.2 rfl)).kp k8 id,r8,(HP6.out.2.2.over k7 (fun j hj e=>by have:=(nE j e).1;omega)).trans k8⟩
 have HX8:Hid (XAt W8 c t7 stX0 M):=x7.kp0 k8
 have HE3:Hid _:=Enter_any W8 c t7 stX0 M HX8.out (v+64) (-1) false (by omega)
 rw[HF.out] at HE3
 have HE4:Hid (Calls Tryz.prog 11 #[.pointer (some ⟨c.E,0,none⟩),.int .i64 (v+64),.int .i64 (-1),.bool false] W8 fun e w'=>e=.returned (.agg #[.int .i64 13,.int .i64 (8*(v+64)+2+1),.int .u32 0])∧(∃ t,t≤t7+40∧XAt w' c t stX0 M)∧Kp (fun j=>c.md j∨j=c.E) W8 w'):=HE3.out
 have HN:Hid _:=nE
 clear HE2 HE3 HF k7 k8 r8 x7 ht7 hG1 HP6 nE
 go_upto_region 22 with fail
 rw[←hG,←hW8]
 clear hG hW8
 go_wp2_with fail
 refine Calls.mono HE4.out ?_;rintro e w9 ⟨rfl,⟨t9,ht9,x9⟩,k9⟩
 obtain⟨I,hI⟩:∃ I,I=w9.heap.size:=⟨_,rfl⟩
 obtain⟨W10,hW10⟩:∃ W,W=w9.alloc (.cells #[.int .i64 13,.int .i64 (8*(v+64)+2+1),.int .u32 0] 44):=⟨_,rfl⟩
 have r10:RowT W10 I ⟨13,8*(v+64)+2+1,0⟩:=by rw[hW10,hI];exact (MapKept.heap_alloc w9 _).1
 have k10:Kp noB w9 W10:=by rw[hW10];exact Kp.alloc _ _ _
 have nG:∀ j,(c.md j∨j=c.E)→j≠G:=fun j hj e=>by
  rcases hj with f | f
  ·have:=HG.out.2 j (.inr f);omega
  ·have:=HG.out.1;omega
 have HP10:Hid (PAt W10 A cz∧RowT W10 Q ⟨13,8*v+2+1,0⟩∧RowT W10 G ⟨13,8*v+2+1,0⟩∧RowT W10 I ⟨13,8*(v+64)+2+1,0⟩∧Kp noB w W10∧XAt W10 c t9 stX0 M):=⟨(HP8.out.1.kp k9 (fun f=>(HN.out A f).2.1 rfl)).kp k10 id,(HP8.out.2.1.kp k9 (fun f=>(HN.out Q f).2.2 rfl)).kp k10 id,(HP8.out.2.2.1.kp k9 (fun f=>nG G f rfl)).kp k10 id,r10,(HP8.out.2.2.2.over k9 (fun j hj e=>by have:=(HN.out j e).1;omega)).trans k10,x9.kp0 k10⟩
 clear HP8 HX8 HE4 k9 k10 r10 x9 ht9 nG
 go_upto_region 25 with fail
 rw[←hI,←hW10]
 clear hI hW10
 go_upto_region 26 with fail
 obtain⟨J,hJ⟩:∃ J,J=W10.heap.size:=⟨_,rfl⟩
 obtain⟨W11,hW11⟩:∃ W,W=W10.alloc (.cells #[.int .i64 13,.int .i64 (8*(v+64)+2+1),.int .u32 0] 44):=⟨_,rfl⟩
 have r11:RowT W11 J ⟨13,8*(v+64)+2+1,0⟩:=by rw[hW11,hJ];exact (MapKept.heap_alloc W10 _).1
 have k11:Kp noB W10 W11:=by rw[hW11];exact Kp.alloc _ _ _
 rw[←hJ,←hW11]
 clear hJ hW11
 have kd:=k11.drew
 have q11:RowT W11.drew J ⟨13,8*(v+64)+2+1,0⟩:=r11.kp (Kp.refl noB W11).drew id
 have P11:=HP10.out.1.kp kd id
 have q1:=HP10.out.2.1.kp kd id
 have q2:=HP10.out.2.2.1.kp kd id
 have q3:=HP10.out.2.2.2.1.kp kd id
 have HFn:Hid (Kp noB w W11.drew):=HP10.out.2.2.2.2.1.trans kd
 have a0:=q1.c0;have a1:=q1.c1;have a2:=q1.c2
 have c0:=q2.c0;have c1:=q2.c1;have c2:=q2.c2
 have d0:=q3.c0;have d1:=q3.c1;have d2:=q3.c2
 have j0:=q11.c0;have j1:=q11.c1;have j2:=q11.c2
 have hl1:=(HP10.out.2.2.2.2.2.kp0 kd).e.get HV.out
 rw[←HCZ.out] at hl1
 have hl2:=HV.out.get P11
 have hq:=HQ.out
 clear r11 k11 q11 P11 q1 q2 q3 kd HP10
 go_region
 go_wp2
 go_ret
 exact⟨rfl,kBelow HFn.out⟩
set_option maxHeartbeats 16000000 in
theorem ref_3t (w:World) (hC:Cls w) (vec how:Int) (hv:I64 vec) (hh:I64 how) (hm:(absI how).tmod 4=3):Calls Tryz.prog 8 #[.int .i64 vec,.int .i64 how,.bool true] w fun e w'=>e=.returned (.bool true)∧Below w.heap.size w w':=by
 obtain⟨T,nn,Z,hV⟩:=vlP
 obtain⟨vl,vs,va,vb⟩:=hV.ops
 have vq:∀ x y,Op.binOp .eql 33 x y 33=Op.binOp .eql T x y T:=by rw[hV.t];exact fun _ _=>rfl
 have g1:=hV.agg;have g2:=hV.size;have g3:=hV.zero
 have gQ:Tryz.prog.eqGuardType Tryz.prog.depth T=false:=by rw[hV.t];kernel_rfl
 have hq:=cu_equal stX3_ok.toBd
 obtain⟨cz,hcz⟩:∃ q,q=stX3.cs:=⟨_,rfl⟩
 rw[←hcz] at hq
 have HQ:Hid (∀ w,(Op.equalIn 10000 T (.agg cz) (.agg cz)).run Tryz.prog w=.ok true w):=by rw[hV.t];exact hq
 have wfz:WfC cz:=by rw[hcz];exact cu_wf _
 have hsz:cz.size=nn:=by rw[wfz.s,hV.s]
 have HCZ:Hid (cz=stX3.cs):=hcz
 have HWF:Hid (WfC cz):=wfz
 have HA:Hid _:=awake18 w hC
 have HV:Hid _:=hV
 have HC:Hid (Cls w):=hC
 obtain⟨hu0,hu1⟩:=absI_bd hv
 obtain⟨hh0,hh1⟩:=absI_bd hh
 unfold I64 at hv hh
 clear hV hC hq hcz wfz
 go_enter Tryz.func8,Tryz.ntmps8
 simp only [vl,vs,va,vq]
 go_wp2_with fail
 refine Calls.mono HA.out ?_;rintro e w1 ⟨rfl,k1⟩
 have HK1:Hid (Kp noB w w1):=k1
 clear k1 HA
 go_upto_if 19 with fail
 go_cut [0] from 17 (fun s0 wq=>s0=.int .i64 (absI vec)∧wq=w1)
 case first=>
  by_cases hn:vec < 0
  ·have hw1:IntKind.i64.wrap (vec+1)=vec+1:=by rw[IntKind.wrap_i64];omega
   have hw2:IntKind.i64.wrap (-(vec+1))=-(vec+1):=by rw[IntKind.wrap_i64];omega
   have HN:Hid _:=hn
   go_wp2
   go_meet
   case rel=>exact⟨by unfold absI;rw[if_pos HN.out],rfl⟩
  ·have HN:Hid _:=hn
   go_wp2
   go_meet
   case rel=>exact⟨by unfold absI;rw[if_neg HN.out],rfl⟩
 case rest=>
 obtain⟨rfl,hwc⟩:=hcut
 replace hwc:=hwc.symm
 subst hwc
 go_upto_if 24 with fail
 go_cut [1] from 17 (fun s1 wq=>s1=.int .i64 (absI how)∧wq=w1)
 case first=>
  by_cases hn:how < 0
  ·have hw1:IntKind.i64.wrap (how+1)=how+1:=by rw[IntKind.wrap_i64];omega
   have hw2:IntKind.i64.wrap (-(how+1))=-(how+1):=by rw[IntKind.wrap_i64];omega
   have HN:Hid _:=hn
   go_wp2
   go_meet
   case rel=>exact⟨by unfold absI;rw[if_pos HN.out],rfl⟩
  ·have HN:Hid _:=hn
   go_wp2
   go_meet
   case rel=>exact⟨by unfold absI;rw[if_neg HN.out],rfl⟩
 case rest=>
 obtain⟨rfl,hwc⟩:=hcut
 replace hwc:=hwc.symm
 subst hwc
 generalize absI vec=u at *
 generalize absI how=h at *
 clear hv hh
 obtain⟨v,hvv⟩:∃ v,v=u.tmod 64:=⟨_,rfl⟩
 have hv0:0≤v:=by rw[hvv];exact Int.tmod_nonneg _ hu0
 have hv1:v < 64:=by rw[hvv,Int.tmod_eq_emod_of_nonneg hu0];omega
 have e64:u.tmod 64=v:=hvv.symm
 have e4:h.tmod 4=3:=hm
 obtain⟨b1,b2,b3,b4,b5,b6,b7⟩:=bAll hv0 hv1
 have HE:Hid (enterO (stM 36352) stX3 v (-1) true=.no (stM 36352) 13 (8*v+2)):=by
  have q:=enter_bad (M:=stM 36352) (kind:=36352) (v:=v) (tb_st (by unfold U32;decide)) flX_3 (by unfold Kd;decide) hv0 hv1 (-1) true (by show badG (gG 36352 v) true 3=true;unfold badG gG;simp)
  rw[show outX true=0 from rfl,Int.add_zero] at q
  exact q
 have HF:Hid (enterO (stM 36352) stX3 (v+64) (-1) true=.no (stM 36352) 13 (8*(v+64)+2)):=by
  have q:=enter_far (M:=stM 36352) flX_3 (v:=v+64) (by omega) (by omega) (-1) true
  rw[show outX true=0 from rfl,Int.add_zero] at q
  exact q
 clear hvv hu0 hu1 hh0 hh1 hm hv0 hv1
 go_upto_region 8 with fail
 obtain⟨S,hS⟩:∃ S,S=w1.heap.size:=⟨_,rfl⟩
 obtain⟨W2,hW2⟩:∃ W,W=w1.alloc (.cells #[.int .u32 3584,.int .u32 35840,.int .u32 40448,.int .u32 36352] 22):=⟨_,rfl⟩
 have rS:W2.heap[S]?=some (.cells #[.int .u32 3584,.int .u32 35840,.int .u32 40448,.int .u32 36352] 22 (0,0)):=by rw[hW2,hS];exact (MapKept.heap_alloc w1 _).1
 have k2:Kp noB w1 W2:=by rw[hW2];exact Kp.alloc _ _ _
 have cS:W2.cell? ⟨S,3,none⟩=some (.int .u32 36352):=by rw[cell_at rS];rfl
 have HK2:Hid (Kp noB w W2):=HK1.out.trans k2
 rw[←hW2,←hS]
 clear hW2 hS rS k2 HK1
 have HS:Hid _:=started3 W2 36352 (by unfold U32;decide)
 go_wp2_with fail
 clear cS
 refine Calls.mono HS.out ?_;rintro e w3 ⟨E,V,Kb,L,L',rfl,hst⟩
 obtain⟨hx,hE,hall,kU⟩:=start_at stX3_ok (stM_same 36352).2 hst
 have k3:=Bs.noRm kU
 obtain⟨M,hM⟩:∃ M,M=stM 36352:=⟨_,rfl⟩
 obtain⟨c,hc⟩:∃ c:Ev,c=⟨E,V,Kb,L.M,8,(stM 36352).n,L.B⟩:=⟨_,rfl⟩
 have ecE:E=c.E:=by rw[hc]
 rw[←hc] at hx hall
 rw[←hM] at hx HE HF
 rw[ecE] at hE ⊢
 have HX3:Hid (XAt w3 c 0 stX3 M):=hx
 have HK3:Hid (Kp noB w w3):=HK2.out.trans k3
 have HAL:Hid (w.heap.size≤c.E∧∀ j,c.all j→w.heap.size≤j):=⟨by have:=HK2.out.size;omega,fun j hj=>by have:=HK2.out.size;have:=hall j hj;omega⟩
 clear hst hc hM kU k3 hx hE hall ecE HS
 go_upto_region 18 with fail
 obtain⟨Q,hQ⟩:∃ Q,Q=w3.heap.size:=⟨_,rfl⟩
 obtain⟨W4,hW4⟩:∃ W,W=w3.alloc (.cells #[.int .i64 13,.int .i64 (8*v+2),.int .u32 0] 44):=⟨_,rfl⟩
 have r4:RowT W4 Q ⟨13,8*v+2,0⟩:=by rw[hW4,hQ];exact (MapKept.heap_alloc w3 _).1
 have k4:Kp noB w3 W4:=by rw[hW4];exact Kp.alloc _ _ _
 have x4:=HX3.out.kp0 k4
 have HK4:Hid (Kp noB w W4):=HK3.out.trans k4
 have HQ1:Hid (c.E < Q∧(∀ j,c.all j→j < Q)∧w.heap.size≤Q):=⟨by rw[hQ];exact HX3.out.lt,fun j hj=>by rw[hQ];exact HX3.out.in_all hj,by rw[hQ];exact HK3.out.size⟩
 rw[←hW4,←hQ]
 clear hW4 hQ k4 HX3 HK3
 obtain⟨W5,hW5⟩:∃ W,W=W4:=⟨_,rfl⟩
 go_upto_region 20 with fail
 rw[←hW5] at r4 x4 HK4 ⊢
 have r5:=r4
 have x5:=x4
 have HK5:Hid (Kp noB w W5):=HK4.out
 clear hW5 r4 x4 HK4
 have HR5:Hid (RowT W5 Q ⟨13,8*v+2,0⟩):=r5
 have HX5:Hid (XAt W5 c 0 stX3 M):=x5
 clear r5 x5
 have hld:=HX5.out.e.get HV.out
 rw[←HCZ.out] at hld
 have pA0:PAt (W5.alloc (.cells Z T)) W5.heap.size Z:=HV.out.at HV.out.wf W5
 have hst:=VlP.put pA0 HWF.out
 obtain⟨A,hA⟩:∃ A,A=W5.heap.size:=⟨_,rfl⟩
 obtain⟨W6,hW6⟩:∃ W,W=(W5.alloc (.cells Z T)).setRow A cz:=⟨_,rfl⟩
 have P6:PAt W6 A cz:=by rw[hW6,hA];exact pA0.put HWF.out
 have k6:Kp noB W5 W6:=by
  rw[hW6]
  exact (Kp.alloc noB W5 _).over (Kp.setRow (S:=fun j=>j=A) (W5.alloc (.cells Z T)) rfl cz) (fun j hj e=>by omega)
 have x6:=HX5.out.kp0 k6
 have HA6:Hid (c.E < A∧(∀ j,c.all j→j < A)):=⟨by rw[hA];exact HX5.out.lt,fun j hj=>by rw[hA];exact HX5.out.in_all hj⟩
 have HP6:Hid (PAt W6 A cz∧RowT W6 Q ⟨13,8*v+2,0⟩∧Kp noB w W6):=⟨P6,HR5.out.kp k6 id,HK5.out.trans k6⟩
 have HE1:Hid _:=Enter_any W6 c 0 stX3 M x6 v (-1) true (by decide)
 go_upto_region 21 with fail
 rw[←hA,←hW6]
 clear hA hW6 hst hld pA0 P6 k6 x6 HX5 HR5 HK5
 rw[HE.out] at HE1
 have HE2:Hid (Calls Tryz.prog 11 #[.pointer (some ⟨c.E,0,none⟩),.int .i64 v,.int .i64 (-1),.bool true] W6 fun e w'=>e=.returned (.agg #[.int .i64 13,.int .i64 (8*v+2),.int .u32 0])∧(∃ t,t≤0+40∧XAt w' c t stX3 M)∧Kp (fun j=>c.md j∨j=c.E) W6 w'):=HE1.out
 clear HE1 HE
 go_wp2_with fail
 refine Calls.mono HE2.out ?_;rintro e w7 ⟨rfl,⟨t7,ht7,x7⟩,k7⟩
 have nE:∀ j,(c.md j∨j=c.E)→w.heap.size≤j∧j≠A∧j≠Q:=fun j hj=>by
  rcases hj with e | e
  ·exact⟨HAL.out.2 j (.inr e),by have:=HA6.out.2 j (.inr e);omega,by have:=HQ1.out.2.1 j (.inr e);omega⟩
  ·have:=HAL.out.1;have:=HA6.out.1;have:=HQ1.out.1;exact⟨by omega,by omega,by omega⟩
 obtain⟨G,hG⟩:∃ G,G=w7.heap.size:=⟨_,rfl⟩
 obtain⟨W8,hW8⟩:∃ W,W=w7.alloc (.cells #[.int .i64 13,.int .i64 (8*v+2),.int .u32 0] 44):=⟨_,rfl⟩
 have r8:RowT W8 G ⟨13,8*v+2,0⟩:=by rw[hW8,hG];exact (MapKept.heap_alloc w7 _).1
 have k8:Kp noB w7 W8:=by rw[hW8];exact Kp.alloc _ _ _
 have hG1:c.E < G∧∀ j,c.all j→j < G:=⟨by rw[hG];exact x7.lt,fun j hj=>by rw[hG];exact x7.in_all hj⟩
 have HG:Hid _:=hG1
 have HP8:Hid (PAt W8 A cz∧RowT W8 Q ⟨13,8*v+2,0⟩∧RowT W8 G ⟨13,8*v+2,0⟩∧Kp noB w W8):=⟨(HP6.out.1.kp k7 (fun f=>(nE A f).2.1 rfl)).kp k8 id,(HP6.out.2.1.kp k7 (fun f=>(nE Q f).2.2 rfl)).kp k8 id,r8,(HP6.out.2.2.over k7 (fun j hj e=>by have:=(nE j e).1;omega)).trans k8⟩
 have HX8:Hid (XAt W8 c t7 stX3 M):=x7.kp0 k8
 have HE3:Hid _:=Enter_any W8 c t7 stX3 M HX8.out (v+64) (-1) true (by omega)
 rw[HF.out] at HE3
 have HE4:Hid (Calls Tryz.prog 11 #[.pointer (some ⟨c.E,0,none⟩),.int .i64 (v+64),.int .i64 (-1),.bool true] W8 fun e w'=>e=.returned (.agg #[.int .i64 13,.int .i64 (8*(v+64)+2),.int .u32 0])∧(∃ t,t≤t7+40∧XAt w' c t stX3 M)∧Kp (fun j=>c.md j∨j=c.E) W8 w'):=HE3.out
 have HN:Hid _:=nE
 clear HE2 HE3 HF k7 k8 r8 x7 ht7 hG1 HP6 nE
 go_upto_region 22 with fail
 rw[←hG,←hW8]
 clear hG hW8
 go_wp2_with fail
 refine Calls.mono HE4.out ?_;rintro e w9 ⟨rfl,⟨t9,ht9,x9⟩,k9⟩
 obtain⟨I,hI⟩:∃ I,I=w9.heap.size:=⟨_,rfl⟩
 obtain⟨W10,hW10⟩:∃ W,W=w9.alloc (.cells #[.int .i64 13,.int .i64 (8*(v+64)+2),.int .u32 0] 44):=⟨_,rfl⟩
 have r10:RowT W10 I ⟨13,8*(v+64)+2,0⟩:=by rw[hW10,hI];exact (MapKept.heap_alloc w9 _).1
 have k10:Kp noB w9 W10:=by rw[hW10];exact Kp.alloc _ _ _
 have nG:∀ j,(c.md j∨j=c.E)→j≠G:=fun j hj e=>by
  rcases hj with f | f
  ·have:=HG.out.2 j (.inr f);omega
  ·have:=HG.out.1;omega
 have HP10:Hid (PAt W10 A cz∧RowT W10 Q ⟨13,8*v+2,0⟩∧RowT W10 G ⟨13,8*v+2,0⟩∧RowT W10 I ⟨13,8*(v+64)+2,0⟩∧Kp noB w W10∧XAt W10 c t9 stX3 M):=⟨(HP8.out.1.kp k9 (fun f=>(HN.out A f).2.1 rfl)).kp k10 id,(HP8.out.2.1.kp k9 (fun f=>(HN.out Q f).2.2 rfl)).kp k10 id,(HP8.out.2.2.1.kp k9 (fun f=>nG G f rfl)).kp k10 id,r10,(HP8.out.2.2.2.over k9 (fun j hj e=>by have:=(HN.out j e).1;omega)).trans k10,x9.kp0 k10⟩
 clear HP8 HX8 HE4 k9 k10 r10 x9 ht9 nG
 go_upto_region 25 with fail
 rw[←hI,←hW10]
 clear hI hW10
 go_upto_region 26 with fail
 obtain⟨J,hJ⟩:∃ J,J=W10.heap.size:=⟨_,rfl⟩
 obtain⟨W11,hW11⟩:∃ W,W=W10.alloc (.cells #[.int .i64 13,.int .i64 (8*(v+64)+2),.int .u32 0] 44):=⟨_,rfl⟩
 have r11:RowT W11 J ⟨13,8*(v+64)+2,0⟩:=by rw[hW11,hJ];exact (MapKept.heap_alloc W10 _).1
 have k11:Kp noB W10 W11:=by rw[hW11];exact Kp.alloc _ _ _
 rw[←hJ,←hW11]
 clear hJ hW11
 have kd:=k11.drew
 have q11:RowT W11.drew J ⟨13,8*(v+64)+2,0⟩:=r11.kp (Kp.refl noB W11).drew id
 have P11:=HP10.out.1.kp kd id
 have q1:=HP10.out.2.1.kp kd id
 have q2:=HP10.out.2.2.1.kp kd id
 have q3:=HP10.out.2.2.2.1.kp kd id
 have HFn:Hid (Kp noB w W11.drew):=HP10.out.2.2.2.2.1.trans kd
 have a0:=q1.c0;have a1:=q1.c1;have a2:=q1.c2
 have c0:=q2.c0;have c1:=q2.c1;have c2:=q2.c2
 have d0:=q3.c0;have d1:=q3.c1;have d2:=q3.c2
 have j0:=q11.c0;have j1:=q11.c1;have j2:=q11.c2
 have hl1:=(HP10.out.2.2.2.2.2.kp0 kd).e.get HV.out
 rw[←HCZ.out] at hl1
 have hl2:=HV.out.get P11
 have hq:=HQ.out
 clear r11 k11 q11 P11 q1 q2 q3 kd HP10
 go_region
 go_wp2
 go_ret
 exact⟨rfl,kBelow HFn.out⟩
set_option maxHeartbeats 16000000 in
theorem ref_3f (w:World) (hC:Cls w) (vec how:Int) (hv:I64 vec) (hh:I64 how) (hm:(absI how).tmod 4=3):Calls Tryz.prog 8 #[.int .i64 vec,.int .i64 how,.bool false] w fun e w'=>e=.returned (.bool true)∧Below w.heap.size w w':=by
 obtain⟨T,nn,Z,hV⟩:=vlP
 obtain⟨vl,vs,va,vb⟩:=hV.ops
 have vq:∀ x y,Op.binOp .eql 33 x y 33=Op.binOp .eql T x y T:=by rw[hV.t];exact fun _ _=>rfl
 have g1:=hV.agg;have g2:=hV.size;have g3:=hV.zero
 have gQ:Tryz.prog.eqGuardType Tryz.prog.depth T=false:=by rw[hV.t];kernel_rfl
 have hq:=cu_equal stX3_ok.toBd
 obtain⟨cz,hcz⟩:∃ q,q=stX3.cs:=⟨_,rfl⟩
 rw[←hcz] at hq
 have HQ:Hid (∀ w,(Op.equalIn 10000 T (.agg cz) (.agg cz)).run Tryz.prog w=.ok true w):=by rw[hV.t];exact hq
 have wfz:WfC cz:=by rw[hcz];exact cu_wf _
 have hsz:cz.size=nn:=by rw[wfz.s,hV.s]
 have HCZ:Hid (cz=stX3.cs):=hcz
 have HWF:Hid (WfC cz):=wfz
 have HA:Hid _:=awake18 w hC
 have HV:Hid _:=hV
 have HC:Hid (Cls w):=hC
 obtain⟨hu0,hu1⟩:=absI_bd hv
 obtain⟨hh0,hh1⟩:=absI_bd hh
 unfold I64 at hv hh
 clear hV hC hq hcz wfz
 go_enter Tryz.func8,Tryz.ntmps8
 simp only [vl,vs,va,vq]
 go_wp2_with fail
 refine Calls.mono HA.out ?_;rintro e w1 ⟨rfl,k1⟩
 have HK1:Hid (Kp noB w w1):=k1
 clear k1 HA
 go_upto_if 19 with fail
 go_cut [0] from 17 (fun s0 wq=>s0=.int .i64 (absI vec)∧wq=w1)
 case first=>
  by_cases hn:vec < 0
  ·have hw1:IntKind.i64.wrap (vec+1)=vec+1:=by rw[IntKind.wrap_i64];omega
   have hw2:IntKind.i64.wrap (-(vec+1))=-(vec+1):=by rw[IntKind.wrap_i64];omega
   have HN:Hid _:=hn
   go_wp2
   go_meet
   case rel=>exact⟨by unfold absI;rw[if_pos HN.out],rfl⟩
  ·have HN:Hid _:=hn
   go_wp2
   go_meet
   case rel=>exact⟨by unfold absI;rw[if_neg HN.out],rfl⟩
 case rest=>
 obtain⟨rfl,hwc⟩:=hcut
 replace hwc:=hwc.symm
 subst hwc
 go_upto_if 24 with fail
 go_cut [1] from 17 (fun s1 wq=>s1=.int .i64 (absI how)∧wq=w1)
 case first=>
  by_cases hn:how < 0
  ·have hw1:IntKind.i64.wrap (how+1)=how+1:=by rw[IntKind.wrap_i64];omega
   have hw2:IntKind.i64.wrap (-(how+1))=-(how+1):=by rw[IntKind.wrap_i64];omega
   have HN:Hid _:=hn
   go_wp2
   go_meet
   case rel=>exact⟨by unfold absI;rw[if_pos HN.out],rfl⟩
  ·have HN:Hid _:=hn
   go_wp2
   go_meet
   case rel=>exact⟨by unfold absI;rw[if_neg HN.out],rfl⟩
 case rest=>
 obtain⟨rfl,hwc⟩:=hcut
 replace hwc:=hwc.symm
 subst hwc
 generalize absI vec=u at *
 generalize absI how=h at *
 clear hv hh
 obtain⟨v,hvv⟩:∃ v,v=u.tmod 64:=⟨_,rfl⟩
 have hv0:0≤v:=by rw[hvv];exact Int.tmod_nonneg _ hu0
 have hv1:v < 64:=by rw[hvv,Int.tmod_eq_emod_of_nonneg hu0];omega
 have e64:u.tmod 64=v:=hvv.symm
 have e4:h.tmod 4=3:=hm
 obtain⟨b1,b2,b3,b4,b5,b6,b7⟩:=bAll hv0 hv1
 have HE:Hid (enterO (stM 36352) stX3 v (-1) false=.ok (layK (stM 36352) 40704 (wordsO stX3 true (-1))) (nOut stX3 v 36352 (40704 - 4*((wordsO stX3 true (-1)).length:Int)))):=by
  have q:=enter_out (M:=stM 36352) (kind:=36352) (v:=v) (tb_st (by unfold U32;decide)) flX_3 (by unfold Kg;decide) rfl hv0 hv1 (-1) false (by unfold badG gG;simp)
  exact q
 have HF:Hid (enterO (stM 36352) stX3 (v+64) (-1) false=.no (stM 36352) 13 (8*(v+64)+2+1)):=by
  have q:=enter_far (M:=stM 36352) flX_3 (v:=v+64) (by omega) (by omega) (-1) false
  exact q
 clear hvv hu0 hu1 hh0 hh1 hm hv0 hv1
 go_upto_region 8 with fail
 obtain⟨S,hS⟩:∃ S,S=w1.heap.size:=⟨_,rfl⟩
 obtain⟨W2,hW2⟩:∃ W,W=w1.alloc (.cells #[.int .u32 3584,.int .u32 35840,.int .u32 40448,.int .u32 36352] 22):=⟨_,rfl⟩
 have rS:W2.heap[S]?=some (.cells #[.int .u32 3584,.int .u32 35840,.int .u32 40448,.int .u32 36352] 22 (0,0)):=by rw[hW2,hS];exact (MapKept.heap_alloc w1 _).1
 have k2:Kp noB w1 W2:=by rw[hW2];exact Kp.alloc _ _ _
 have cS:W2.cell? ⟨S,3,none⟩=some (.int .u32 36352):=by rw[cell_at rS];rfl
 have HK2:Hid (Kp noB w W2):=HK1.out.trans k2
 rw[←hW2,←hS]
 clear hW2 hS rS k2 HK1
 have HS:Hid _:=started3 W2 36352 (by unfold U32;decide)
 go_wp2_with fail
 clear cS
 refine Calls.mono HS.out ?_;rintro e w3 ⟨E,V,Kb,L,L',rfl,hst⟩
 obtain⟨hx,hE,hall,kU⟩:=start_at stX3_ok (stM_same 36352).2 hst
 have k3:=Bs.noRm kU
 obtain⟨M,hM⟩:∃ M,M=stM 36352:=⟨_,rfl⟩
 obtain⟨c,hc⟩:∃ c:Ev,c=⟨E,V,Kb,L.M,8,(stM 36352).n,L.B⟩:=⟨_,rfl⟩
 have ecE:E=c.E:=by rw[hc]
 rw[←hc] at hx hall
 rw[←hM] at hx HE HF
 rw[ecE] at hE ⊢
 have HX3:Hid (XAt w3 c 0 stX3 M):=hx
 have HK3:Hid (Kp noB w w3):=HK2.out.trans k3
 have HAL:Hid (w.heap.size≤c.E∧∀ j,c.all j→w.heap.size≤j):=⟨by have:=HK2.out.size;omega,fun j hj=>by have:=HK2.out.size;have:=hall j hj;omega⟩
 clear hst hc hM kU k3 hx hE hall ecE HS
 go_upto_region 18 with fail
 obtain⟨Q,hQ⟩:∃ Q,Q=w3.heap.size:=⟨_,rfl⟩
 obtain⟨W4,hW4⟩:∃ W,W=w3.alloc (.cells #[.int .i64 13,.int .i64 (8*v+2+1),.int .u32 0] 44):=⟨_,rfl⟩
 have r4:RowT W4 Q ⟨13,8*v+2+1,0⟩:=by rw[hW4,hQ];exact (MapKept.heap_alloc w3 _).1
 have k4:Kp noB w3 W4:=by rw[hW4];exact Kp.alloc _ _ _
 have x4:=HX3.out.kp0 k4
 have HK4:Hid (Kp noB w W4):=HK3.out.trans k4
 have HQ1:Hid (c.E < Q∧(∀ j,c.all j→j < Q)∧w.heap.size≤Q):=⟨by rw[hQ];exact HX3.out.lt,fun j hj=>by rw[hQ];exact HX3.out.in_all hj,by rw[hQ];exact HK3.out.size⟩
 rw[←hW4,←hQ]
 clear hW4 hQ k4 HX3 HK3
 obtain⟨W5,hW5⟩:∃ W,W=W4:=⟨_,rfl⟩
 go_upto_region 20 with fail
 rw[←hW5] at r4 x4 HK4 ⊢
 have r5:=r4
 have x5:=x4
 have HK5:Hid (Kp noB w W5):=HK4.out
 clear hW5 r4 x4 HK4
 have HR5:Hid (RowT W5 Q ⟨13,8*v+2+1,0⟩):=r5
 have HX5:Hid (XAt W5 c 0 stX3 M):=x5
 clear r5 x5
 have hld:=HX5.out.e.get HV.out
 rw[←HCZ.out] at hld
 have pA0:PAt (W5.alloc (.cells Z T)) W5.heap.size Z:=HV.out.at HV.out.wf W5
 have hst:=VlP.put pA0 HWF.out
 obtain⟨A,hA⟩:∃ A,A=W5.heap.size:=⟨_,rfl⟩
 obtain⟨W6,hW6⟩:∃ W,W=(W5.alloc (.cells Z T)).setRow A cz:=⟨_,rfl⟩
 have P6:PAt W6 A cz:=by rw[hW6,hA];exact pA0.put HWF.out
 have k6:Kp noB W5 W6:=by
  rw[hW6]
  exact (Kp.alloc noB W5 _).over (Kp.setRow (S:=fun j=>j=A) (W5.alloc (.cells Z T)) rfl cz) (fun j hj e=>by omega)
 have x6:=HX5.out.kp0 k6
 have HA6:Hid (c.E < A∧(∀ j,c.all j→j < A)):=⟨by rw[hA];exact HX5.out.lt,fun j hj=>by rw[hA];exact HX5.out.in_all hj⟩
 have HP6:Hid (PAt W6 A cz∧RowT W6 Q ⟨13,8*v+2+1,0⟩∧Kp noB w W6):=⟨P6,HR5.out.kp k6 id,HK5.out.trans k6⟩
 have HE1:Hid _:=Enter_any W6 c 0 stX3 M x6 v (-1) false (by decide)
 go_upto_region 21 with fail
 rw[←hA,←hW6]
 clear hA hW6 hst hld pA0 P6 k6 x6 HX5 HR5 HK5
 rw[HE.out] at HE1
 obtain⟨y,hy⟩:∃ y,y=nOut stX3 v 36352 (40704 - 4*((wordsO stX3 true (-1)).length:Int)):=⟨_,rfl⟩
 obtain⟨M2,hM2⟩:∃ M2,M2=layK M 40704 (wordsO stX3 true (-1)):=⟨_,rfl⟩
 have y19:(y.sg 1).sel=8:=by rw[hy];rfl
 have y4:y.r 4=40684:=by rw[hy];rfl
 have HE2:Hid (Calls Tryz.prog 11 #[.pointer (some ⟨c.E,0,none⟩),.int .i64 v,.int .i64 (-1),.bool false] W6 fun e w'=>e=.returned (.agg #[.int .i64 (-1),.int .i64 (-1),.int .u32 0])∧(∃ t,t≤0+40∧XAt w' c t y M2)∧Kp (fun j=>c.md j∨j=c.E) W6 w'):=by rw[hy,hM2];exact HE1.out
 clear HE1 HE hy hM2
 go_wp2_with fail
 refine Calls.mono HE2.out ?_;rintro e w7 ⟨rfl,⟨t7,ht7,x7⟩,k7⟩
 have HK7:Hid (Kp noB w w7):=HP6.out.2.2.over k7 (fun j hj e=>by
  rcases e with f | f
  ·have:=HAL.out.2 j (.inr f);omega
  ·have:=HAL.out.1;omega)
 obtain⟨G,hG⟩:∃ G,G=w7.heap.size:=⟨_,rfl⟩
 obtain⟨W8,hW8⟩:∃ W,W=w7.alloc (.cells #[.int .i64 (-1),.int .i64 (-1),.int .u32 0] 44):=⟨_,rfl⟩
 have r8:RowT W8 G ⟨-1,-1,0⟩:=by rw[hW8,hG];exact (MapKept.heap_alloc w7 _).1
 have k8:Kp noB w7 W8:=by rw[hW8];exact Kp.alloc _ _ _
 have x8:=x7.kp0 k8
 have HF8:Hid (Kp noB w W8):=HK7.out.trans k8
 have a0:=r8.c0
 have a4:=x8.c (k:=4) rfl
 have a19:=x8.c (k:=19) rfl
 rw[y4] at a4
 rw[y19] at a19
 clear x7 k7 k8 x8 ht7 HE2 HP6 HK7 r8
 go_upto_region 22 with fail
 rw[←hG,←hW8]
 clear hG hW8
 go_wp2_with fail
 go_ret
 exact⟨rfl,kBelow HF8.out⟩
theorem ExceptRefuses_walk (w:World) (hC:Cls w) (vec:Int) (hv:I64 vec) (how:Int) (hh:I64 how) (soft:Bool):Calls Tryz.prog 8 #[.int .i64 vec,.int .i64 how,.bool soft] w fun e w'=>e=.returned (.bool true)∧Below w.heap.size w w':=by
 have h0:=(absI_bd hh).1
 have hm:(absI how).tmod 4=0∨(absI how).tmod 4=1∨(absI how).tmod 4=2∨(absI how).tmod 4=3:=by rw[Int.tmod_eq_emod_of_nonneg h0];omega
 rcases hm with h | h | h | h<;>cases soft
 ·exact ref_0f w hC vec how hv hh h
 ·exact ref_0t w hC vec how hv hh h
 ·exact ref_1f w hC vec how hv hh h
 ·exact ref_1t w hC vec how hv hh h
 ·exact ref_2f w hC vec how hv hh h
 ·exact ref_2t w hC vec how hv hh h
 ·exact ref_3f w hC vec how hv hh h
 ·exact ref_3t w hC vec how hv hh h
end Go.Proofs.YtacgmoikegcopaaGreatDoor.Rm
