/- ExceptPushes: a delivery in the same ring pushes flags, selector, place, and a code. -/
import Derived.Test.YtacgmoikegcopaaGreatDoorXcPushMP
import Derived.Test.YtacgmoikegcopaaGreatDoorXcEqNP
import Derived.Test.YtacgmoikegcopaaGreatDoorEc10
import Derived.LoopN
import Derived.Deep.Cut
namespace Go.Proofs.YtacgmoikegcopaaGreatDoor.Rm
open Go.ChangeShapes Go.WideShapes Go.ChangeAt Go.RowKit Go.Maps
set_option linter.unusedVariables false
set_option maxRecDepth 20000
def psX (x:Cu) (ip fl:Int):Cu:={ x with ip:=ip,fl:=fl }
theorem cu_pat' {w:World} {q:Nat} {x:Cu} (h:PAt w q x.cs):∀ (k:Nat) (v:Value),x.list[k]?=some v→w.cell? ⟨q,k,none⟩=some v:=fun k v hv=>h.cell (by unfold Cu.cs;simpa using hv)
set_option maxHeartbeats 16000000 in
theorem push_nt (w:World) (hC:Cls w) (vec:Int) (hv:I64 vec) (cod:Int) (hcod:I64 cod) (hsg:cod < 0) (flags:Int) (hf:U32 flags) (place:Int) (hp:U32 place):Calls Tryz.prog 7 #[.int .i64 vec,.int .i64 cod,.bool true,.int .u32 flags,.int .u32 place] w fun e w'=>e=.returned (.bool true)∧Below w.heap.size w w':=by
 obtain ⟨T,nn,Z,hV⟩:=vlP
 obtain ⟨vl,vs,va,vb⟩:=hV.ops
 have g1':=hV.agg;have g2':=hV.size;have g3':=hV.zero
 obtain ⟨f1,hf1⟩:∃ f,f=flags%32768:=⟨_,rfl⟩
 have ef1:flags%32768=f1:=hf1.symm
 have ef0:flags.tmod 32768=f1:=by rw [Int.tmod_eq_emod_of_nonneg hf.1];exact hf1.symm
 have bf1:0≤f1∧f1 < 32768:=by unfold U32 at hf;omega
 obtain ⟨FL,hFL⟩:∃ F,F=bits .or .u32 f1 2:=⟨_,rfl⟩
 have ef2:bits .or .u32 f1 2=FL:=hFL.symm
 have hF:U32 FL:=by
  rw [hFL]
  exact or_bd (a:=f1) (b:=2) bf1.1 (by omega) (by decide) (by decide)
 clear hf1 hFL hf bf1
 have dc:decide (0≤cod)=false:=by simpa using hsg
 have dc':decide (cod ≥ 0)=false:=by simpa using hsg
 obtain ⟨y,hy⟩:∃ y:Cu,y=psX stX0 place FL:=⟨_,rfl⟩
 have hyok:y.Ok:=by rw [hy];exact { stX0_ok with ip:=hp,fl:=hF }
 have ecs:(stX0.cs.setIfInBounds 9 (.int .u32 FL)).setIfInBounds 8 (.int .u32 place)=y.cs:=by rw [hy];kernel_rfl
 have flx:FlX y:=by
  rw [hy]
  exact ⟨flX_0.pg,rfl,rfl,rfl,rfl,rfl,rfl,flX_0.ss,flX_0.cs⟩
 have yr:y.rg=0:=by rw [hy];rfl
 have y4:y.r 4=36864:=by rw [hy];rfl
 have yip:y.ip=place:=by rw [hy];rfl
 have yfl:y.fl=FL:=by rw [hy];rfl
 have ys1:(y.sg 1).sel=8:=by rw [hy];rfl
 have y0:y.r 0=0:=by rw [hy];rfl
 have HYok:Hid y.Ok:=hyok
 clear hy
 obtain ⟨cz,hcz⟩:∃ q,q=y.cs:=⟨_,rfl⟩
 have HWF:Hid (WfC cz):=by rw [hcz];exact cu_wf _
 have hsz:cz.size=nn:=by rw [HWF.out.s,hV.s]
 have HCZ:Hid (cz=y.cs):=hcz
 have HA:Hid _:=awake18 w hC
 have HV:Hid _:=hV
 obtain ⟨hu0,hu1⟩:=absI_bd hv
 unfold I64 at hv
 clear hV hC hcz hyok
 go_enter Tryz.func7,Tryz.ntmps7
 simp only [vl,vs,va]
 go_wp2_with fail
 refine Calls.mono HA.out ?_;rintro e w1 ⟨rfl,k1⟩
 have HK1:Hid (Kp noB w w1):=k1
 clear k1 HA
 have HS:Hid _:=started0 w1 36608 (by unfold U32;decide)
 go_wp2_with fail
 refine Calls.mono HS.out ?_;rintro e w3 ⟨E,V,Kb,Lc,L',rfl,hst⟩
 obtain ⟨hx,hE,hall,kU⟩:=start_at stX0_ok (stM_same 36608).2 hst
 have k3:=Bs.noRm kU
 obtain ⟨M,hM⟩:∃ M,M=stM 36608:=⟨_,rfl⟩
 obtain ⟨c,hc⟩:∃ c:Ev,c=⟨E,V,Kb,Lc.M,8,(stM 36608).n,Lc.B⟩:=⟨_,rfl⟩
 have ecE:E=c.E:=by rw [hc]
 have HTb:Hid (Tb 36608 M):=by rw [hM];exact tb_st (by unfold U32;decide)
 rw [← hc] at hx hall
 rw [← hM] at hx
 rw [ecE] at hE ⊢
 have HX3:Hid (XAt w3 c 0 stX0 M):=hx
 have HK3:Hid (Kp noB w w3):=HK1.out.trans k3
 have HAL:Hid (w.heap.size≤c.E∧∀ j,c.all j→w.heap.size≤j):=⟨by have:=HK1.out.size;omega,fun j hj=>by have:=HK1.out.size;have:=hall j hj;omega⟩
 clear hst hc hM kU k3 hx hE hall ecE HS HK1
 go_upto_if 32 with fail
 go_cut [0] from 21 (fun s0 wq=>s0=.int .i64 (absI vec)∧wq=w3)
 case first=>
  by_cases hn:vec < 0
  ·have hw1:IntKind.i64.wrap (vec+1)=vec+1:=by rw [IntKind.wrap_i64];omega
   have hw2:IntKind.i64.wrap (-(vec+1))=-(vec+1):=by rw [IntKind.wrap_i64];omega
   have HN:Hid _:=hn
   go_wp2
   go_meet
   case rel=>exact ⟨by unfold absI;rw [if_pos HN.out],rfl⟩
  ·have HN:Hid _:=hn
   go_wp2
   go_meet
   case rel=>exact ⟨by unfold absI;rw [if_neg HN.out],rfl⟩
 case rest=>
 obtain ⟨rfl,hwc⟩:=hcut
 replace hwc:=hwc.symm
 subst hwc
 generalize absI vec=u at *
 clear hv
 obtain ⟨v,hvv⟩:∃ v,v=u.tmod 64:=⟨_,rfl⟩
 have hv0:0≤v:=by rw [hvv];exact Int.tmod_nonneg _ hu0
 have hv1:v < 64:=by rw [hvv,Int.tmod_eq_emod_of_nonneg hu0];omega
 have e64:u.tmod 64=v:=hvv.symm
 have b1:IntKind.i64.wrap (16*v)=16*v:=by rw [IntKind.wrap_i64];omega
 have b2:IntKind.i64.wrap (24576+16*v)=24576+16*v:=by rw [IntKind.wrap_i64];omega
 have b3:IntKind.u32.wrap (24576+16*v)=24576+16*v:=by rw [IntKind.wrap_u32];omega
 have ew:wordsO y false cod=[FL,8,place]:=by
  unfold wordsO
  rw [ys1,yfl,yip]
  simp [show ¬ 0≤cod by omega]
 have HE:Hid (enterO M y v cod false=.ok (layK M 36864 [FL,8,place]) (nIn y v 36608 36852)):=by
  have q:=enter_in (kind:=36608) HTb.out flx (by unfold Kg;decide) yr hv0 hv1 cod false y4 (by decide) (by decide)
  rw [ew,show ((36864:Int) - 4*(([FL,8,place]:List Int).length:Int))=36852 by simp] at q
  exact q
 have hL:∀ x ∈ [FL,8,place],U32 x:=by
  intro x hx
  simp only [List.mem_cons,List.not_mem_nil,or_false] at hx
  rcases hx with rfl | rfl | rfl
  ·exact hF
  ·exact ⟨by decide,by decide⟩
  ·exact hp
 have m0:(layK M 36864 [FL,8,place]).read 36852 4=place:=by
  rw [read_wd _ (by decide) (by decide)]
  exact layK_at [FL,8,place] HTb.out.pn hL (by simp) (by decide) 2 _ rfl
 have m1:(layK M 36864 [FL,8,place]).read 36856 4=8:=by
  rw [read_wd _ (by decide) (by decide)]
  exact layK_at [FL,8,place] HTb.out.pn hL (by simp) (by decide) 1 _ rfl
 have m2:(layK M 36864 [FL,8,place]).read 36860 4=FL:=by
  rw [read_wd _ (by decide) (by decide)]
  exact layK_at [FL,8,place] HTb.out.pn hL (by simp) (by decide) 0 _ rfl
 obtain ⟨M2,hM2⟩:∃ m,m=layK M 36864 [FL,8,place]:=⟨_,rfl⟩
 obtain ⟨z,hz⟩:∃ z,z=nIn y v 36608 36852:=⟨_,rfl⟩
 rw [← hM2,← hz] at HE
 rw [← hM2] at m0 m1 m2
 have zip:z.ip=24576+16*v:=by rw [hz];rfl
 have z4:z.r 4=36852:=by rw [hz];rfl
 have z0:z.r 0=0:=by rw [hz];exact y0
 have zfl:z.fl=bits .andNot .u32 FL 16640:=by rw [hz];show flD (gG 36608 v).k y.fl=_;rw [yfl];rfl
 clear hM2 hz ew hL hvv hu0 hu1 hv0 hv1 flx yr ys1 HTb hp hF
 have c9:=HX3.out.c (k:=9) rfl
 have c8:=HX3.out.c (k:=8) rfl
 have fz:=HX3.out.e.fz
 obtain ⟨W5,hW5⟩:∃ W,W=(w3.setCell ⟨c.E,9,none⟩ (.int .u32 FL)).setCell ⟨c.E,8,none⟩ (.int .u32 place):=⟨_,rfl⟩
 have e5:=(HX3.out.e.set (k:=9) (by decide) (v:=.int .u32 FL) rfl).set (k:=8) (by decide) (v:=.int .u32 place) rfl
 rw [← hW5,ecs] at e5
 have HK5:Hid (Kp (fun j=>j=c.E) w3 W5):=by rw [hW5];exact (Kp.setCell (S:=fun j=>j=c.E) w3 (p:=⟨c.E,9,none⟩) rfl _).trans (Kp.setCell (S:=fun j=>j=c.E) _ (p:=⟨c.E,8,none⟩) rfl _)
 have x5:XAt W5 c 0 y M:=⟨e5,HX3.out.v.kp HK5.out (fun j hj e=>HX3.out.n (e ▸ (by rw [HX3.out.s] at hj;exact hj))),HX3.out.s,HX3.out.n,HYok.out⟩
 have HX5:Hid (XAt W5 c 0 y M):=x5
 have HW5:Hid (Kp noB w W5):=HK3.out.over HK5.out (fun j hj e=>by have:=HAL.out.1;omega)
 go_upto_region 13 with fail
 rw [← hW5]
 clear hW5 c9 c8 fz e5 x5 HK5 HX3 HK3 ecs ef0 ef1 ef2
 have hld:=HX5.out.e.get HV.out
 rw [← HCZ.out] at hld
 have pA0:PAt (W5.alloc (.cells Z T)) W5.heap.size Z:=HV.out.at HV.out.wf W5
 have hst:=VlP.put pA0 HWF.out
 obtain ⟨A,hA⟩:∃ A,A=W5.heap.size:=⟨_,rfl⟩
 obtain ⟨W6,hW6⟩:∃ W,W=(W5.alloc (.cells Z T)).setRow A cz:=⟨_,rfl⟩
 have P6:PAt W6 A cz:=by rw [hW6,hA];exact pA0.put HWF.out
 have k6:Kp noB W5 W6:=by
  rw [hW6]
  exact (Kp.alloc noB W5 _).over (Kp.setRow (S:=fun j=>j=A) (W5.alloc (.cells Z T)) rfl cz) (fun j hj e=>by omega)
 have x6:=HX5.out.kp0 k6
 have HA6:Hid (c.E < A∧(∀ j,c.all j→j < A)):=⟨by rw [hA];exact HX5.out.lt,fun j hj=>by rw [hA];exact HX5.out.in_all hj⟩
 have HP6:Hid (PAt W6 A cz∧Kp noB w W6):=⟨P6,HW5.out.trans k6⟩
 have HE1:Hid _:=Enter_any W6 c 0 y M x6 v cod false (by decide)
 rw [HE.out] at HE1
 have HE3:Hid (Calls Tryz.prog 11 #[.pointer (some ⟨c.E,0,none⟩),.int .i64 v,.int .i64 cod,.bool false] W6 fun e w'=>e=.returned (.agg #[.int .i64 (-1),.int .i64 (-1),.int .u32 0])∧(∃ t,t≤0+40∧XAt w' c t z M2)∧Kp (fun j=>c.md j∨j=c.E) W6 w'):=HE1.out
 go_upto_region 14 with fail
 rw [← hA,← hW6]
 clear hA hW6 hst hld pA0 P6 k6 x6 HX5 HW5 HE1 HE
 go_wp2_with fail
 refine Calls.mono HE3.out ?_;rintro e w7 ⟨rfl,⟨t7,ht7,x7⟩,k7⟩
 have nE:∀ j,(c.md j∨j=c.E)→w.heap.size≤j∧j≠A:=fun j hj=>by
  rcases hj with e | e
  ·exact ⟨HAL.out.2 j (.inr e),by have:=HA6.out.2 j (.inr e);omega⟩
  ·have:=HAL.out.1;have:=HA6.out.1;exact ⟨by omega,by omega⟩
 obtain ⟨G,hG⟩:∃ G,G=w7.heap.size:=⟨_,rfl⟩
 obtain ⟨W8,hW8⟩:∃ W,W=w7.alloc (.cells #[.int .i64 (-1),.int .i64 (-1),.int .u32 0] 44):=⟨_,rfl⟩
 have r8:RowT W8 G ⟨-1,-1,0⟩:=by rw [hW8,hG];exact (MapKept.heap_alloc w7 _).1
 have k8:Kp noB w7 W8:=by rw [hW8];exact Kp.alloc _ _ _
 have HP8:Hid (PAt W8 A cz∧RowT W8 G ⟨-1,-1,0⟩∧XAt W8 c t7 z M2∧Kp noB w W8):=⟨(HP6.out.1.kp k7 (fun f=>(nE A f).2 rfl)).kp k8 id,r8,x7.kp0 k8,(HP6.out.2.over k7 (fun j hj e=>(by have:=(nE j e).1;omega))).trans k8⟩
 clear k7 k8 r8 x7 ht7 HP6 HE3 nE
 have p8:=HP8.out.1.cell (k:=8) (v:=.int .u32 place) (by rw [HCZ.out];unfold Cu.cs;rw [List.getElem?_toArray];show some (Value.int .u32 y.ip)=_;rw [yip])
 have p9:=HP8.out.1.cell (k:=9) (v:=.int .u32 FL) (by rw [HCZ.out];unfold Cu.cs;rw [List.getElem?_toArray];show some (Value.int .u32 y.fl)=_;rw [yfl])
 go_upto_region 15 with fail
 rw [← hG,← hW8]
 clear hG hW8
 go_upto_region 16 with fail
 obtain ⟨S,hS⟩:∃ S,S=W8.heap.size:=⟨_,rfl⟩
 obtain ⟨W9,hW9⟩:∃ W,W=W8.alloc (.cells #[.int .u32 place,.int .u32 8,.int .u32 FL] 22):=⟨_,rfl⟩
 have rS:W9.heap[S]?=some (.cells #[.int .u32 place,.int .u32 8,.int .u32 FL] 22 (0,0)):=by rw [hW9,hS];exact (MapKept.heap_alloc W8 _).1
 have k9:Kp noB W8 W9:=by rw [hW9];exact Kp.alloc _ _ _
 rw [← hS,← hW9]
 clear hW9 p8 p9
 have HK9:Hid (Kp noB W8 W9):=k9
 have HWd:Hid (∀ W,Kp noB W9 W→W.cell? ⟨S,0,none⟩=some (.int .u32 place)∧W.cell? ⟨S,1,none⟩=some (.int .u32 8)∧W.cell? ⟨S,2,none⟩=some (.int .u32 FL)):=fun W k=>by
  have r:=(k.block S (Array.getElem?_eq_some_iff.1 rS).1 id).trans rS
  exact ⟨by rw [cell_at r];rfl,by rw [cell_at r];rfl,by rw [cell_at r];rfl⟩
 clear hS rS k9
 go_upto_region 18 with fail
 have HP9:Hid (∀ W,Kp noB W9 W→PAt W A cz∧RowT W G ⟨-1,-1,0⟩∧XAt W c t7 z M2):=fun W k=>⟨(HP8.out.1.kp HK9.out id).kp k id,(HP8.out.2.1.kp HK9.out id).kp k id,(HP8.out.2.2.1.kp0 HK9.out).kp0 k⟩
 have HF9:Hid (Kp noB w W9):=HP8.out.2.2.2.trans HK9.out
 have HXs:Hid (∀ W,Kp noB W9 W→W.cell? ⟨c.E,83,none⟩=some (.pointer (some ⟨c.V,0,none⟩))∧W.cell? ⟨c.E,4,none⟩=some (.int .u32 36852)∧W.cell? ⟨c.V,0,none⟩=some (.pointer (some ⟨c.B+3,0,none⟩))∧RamAt W c.B M2):=fun W k=>by
  have x:=(HP9.out W k).2.2
  have c4:=x.c (k:=4) rfl
  rw [z4] at c4
  exact ⟨x.mp,c4,x.v.c0,x.v.ram⟩
 clear HP8 HK9
 have a0:=(HP9.out W9 (Kp.refl _ _)).2.1.c0
 obtain ⟨_,c4,_,_⟩:=HXs.out W9 (Kp.refl _ _)
 go_wp2_with fail
 clear a0 c4
 have HI:Hid (Kp noB W9 W9):=Kp.refl _ _
 refine wp_loop_rounds 5 ?_
 rw [rounds_succ]
 go_upto_region 23 with fail
 refine OrdFree.region_vals (τ:=Unit) (fun _=>[(.pointer (some ⟨c.E,0,none⟩)),(.pointer (some ⟨c.E,0,none⟩)),(.pointer (some ⟨c.E,83,none⟩)),(.pointer (some ⟨c.V,0,none⟩)),(.pointer (some ⟨c.B+3,0,none⟩)),(.pointer (some ⟨c.E,0,none⟩)),(.pointer (some ⟨c.E,0,none⟩)),(.pointer (some ⟨c.E,0,none⟩)),(.pointer (some ⟨c.E,0,none⟩)),(.pointer (some ⟨c.E,4,none⟩)),(.int .u32 36852),(.int .i64 0),(.int .i64 0),(.int .u32 0),(.int .u32 36852),(Value.tuple #[.int .u32 place,.int .i64 0]),(Value.tuple #[.int .u32 place,.int .i64 0]),(.int .u32 place),(.int .i64 0),(.int .u32 place),(.int .i64 0)]) (fun _ _ W=>Kp noB W9 W) () (by kernel_rfl) (by kernel_rfl) (by kernel_rfl) (by kernel_rfl) (fun _=>rfl) (fun t=>by simp only [OrdFree.puts,Act.put,List.setIfInBounds_toArray,List.set_cons_zero,List.set_cons_succ];rfl) HI.out.drew ?_ ?_
 ·refine ⟨?_,?_,?_,?_,?_,?_,?_,?_,?_,?_,?_,?_,?_,?_,?_,?_,?_,?_,?_,?_,?_,trivial⟩
  all_goals (intro t listed W hz hSh hl hI hb K hK hK0;change Kp noB W9 W at hI;obtain ⟨c83,c4,cV0,hram⟩:=HXs.out W hI)
  ·clear hram
   go_simp
   exact hK0 _ hI
  ·clear hram
   go_simp
   exact hK0 _ hI
  ·clear hram
   go_simp
   exact hK0 _ hI
  ·clear hram
   go_simp
   exact hK0 _ hI
  ·have hR:=vRam_ok W c.V c.B 0 cV0
   clear hram
   go_simp
   refine Calls.mono hR ?_;rintro e w' ⟨rfl,hw⟩;replace hw:=hw.symm;subst hw
   exact hK0 _ hI
  ·clear hram
   go_simp
   exact hK0 _ hI
  ·clear hram
   go_simp
   exact hK0 _ hI
  ·clear hram
   go_simp
   exact hK0 _ hI
  ·clear hram
   go_simp
   exact hK0 _ hI
  ·clear hram
   go_simp
   exact hK0 _ hI
  ·clear hram
   go_simp
   exact hK0 _ hI
  ·clear hram
   go_simp
   exact hK0 _ hI
  ·clear hram
   go_simp
   exact hK0 _ hI
  ·clear hram
   go_simp
   exact hK0 _ hI
  ·clear hram
   go_simp
   exact hK0 _ hI
  ·have hR:=read_ok W c.B M2 hram 36852 4 (by decide) (by decide) rfl
   rw [show ((4:Int).toNat)=4 from rfl,m0] at hR
   have HR:Hid _:=hR
   clear hram hR
   go_simp
   refine Calls.mono HR.out ?_;rintro e w' ⟨rfl,k⟩
   exact hK0 _ (hI.trans k)
  ·clear hram
   go_simp
   exact hK0 _ hI
  ·clear hram
   go_simp
   exact hK0 _ hI
  ·clear hram
   go_simp
   exact hK0 _ hI
  ·clear hram
   go_simp
   exact hK0 _ hI
  ·clear hram
   go_simp
   exact hK0 _ hI
 rename_i Kx hKx
 rintro t listed V0 hal hI
 clear HI hal
 have HI:Hid (Kp noB W9 V0):=hI
 clear hI
 refine hKx _ _ ?_
 obtain ⟨q0,q1,q2⟩:=HWd.out V0 HI.out
 go_wp2_with fail
 clear q0 q1 q2
 rw [rounds_succ]
 go_upto_region 23 with fail
 refine OrdFree.region_vals (τ:=Unit) (fun _=>[(.pointer (some ⟨c.E,0,none⟩)),(.pointer (some ⟨c.E,0,none⟩)),(.pointer (some ⟨c.E,83,none⟩)),(.pointer (some ⟨c.V,0,none⟩)),(.pointer (some ⟨c.B+3,0,none⟩)),(.pointer (some ⟨c.E,0,none⟩)),(.pointer (some ⟨c.E,0,none⟩)),(.pointer (some ⟨c.E,0,none⟩)),(.pointer (some ⟨c.E,0,none⟩)),(.pointer (some ⟨c.E,4,none⟩)),(.int .u32 36852),(.int .i64 1),(.int .i64 4),(.int .u32 4),(.int .u32 36856),(Value.tuple #[.int .u32 8,.int .i64 0]),(Value.tuple #[.int .u32 8,.int .i64 0]),(.int .u32 8),(.int .i64 0),(.int .u32 8),(.int .i64 0)]) (fun _ _ W=>Kp noB W9 W) () (by kernel_rfl) (by kernel_rfl) (by kernel_rfl) (by kernel_rfl) (fun _=>rfl) (fun t=>by simp only [OrdFree.puts,Act.put,List.setIfInBounds_toArray,List.set_cons_zero,List.set_cons_succ];rfl) HI.out.drew ?_ ?_
 ·refine ⟨?_,?_,?_,?_,?_,?_,?_,?_,?_,?_,?_,?_,?_,?_,?_,?_,?_,?_,?_,?_,?_,trivial⟩
  all_goals (intro t listed W hz hSh hl hI hb K hK hK0;change Kp noB W9 W at hI;obtain ⟨c83,c4,cV0,hram⟩:=HXs.out W hI)
  ·clear hram
   go_simp
   exact hK0 _ hI
  ·clear hram
   go_simp
   exact hK0 _ hI
  ·clear hram
   go_simp
   exact hK0 _ hI
  ·clear hram
   go_simp
   exact hK0 _ hI
  ·have hR:=vRam_ok W c.V c.B 0 cV0
   clear hram
   go_simp
   refine Calls.mono hR ?_;rintro e w' ⟨rfl,hw⟩;replace hw:=hw.symm;subst hw
   exact hK0 _ hI
  ·clear hram
   go_simp
   exact hK0 _ hI
  ·clear hram
   go_simp
   exact hK0 _ hI
  ·clear hram
   go_simp
   exact hK0 _ hI
  ·clear hram
   go_simp
   exact hK0 _ hI
  ·clear hram
   go_simp
   exact hK0 _ hI
  ·clear hram
   go_simp
   exact hK0 _ hI
  ·clear hram
   go_simp
   exact hK0 _ hI
  ·clear hram
   go_simp
   exact hK0 _ hI
  ·clear hram
   go_simp
   exact hK0 _ hI
  ·clear hram
   go_simp
   exact hK0 _ hI
  ·have hR:=read_ok W c.B M2 hram 36856 4 (by decide) (by decide) rfl
   rw [show ((4:Int).toNat)=4 from rfl,m1] at hR
   have HR:Hid _:=hR
   clear hram hR
   go_simp
   refine Calls.mono HR.out ?_;rintro e w' ⟨rfl,k⟩
   exact hK0 _ (hI.trans k)
  ·clear hram
   go_simp
   exact hK0 _ hI
  ·clear hram
   go_simp
   exact hK0 _ hI
  ·clear hram
   go_simp
   exact hK0 _ hI
  ·clear hram
   go_simp
   exact hK0 _ hI
  ·clear hram
   go_simp
   exact hK0 _ hI
 rename_i Kx hKx
 rintro t listed V1 hal hI
 clear HI hal
 have HI:Hid (Kp noB W9 V1):=hI
 clear hI
 refine hKx _ _ ?_
 obtain ⟨q0,q1,q2⟩:=HWd.out V1 HI.out
 go_wp2_with fail
 clear q0 q1 q2
 rw [rounds_succ]
 go_upto_region 23 with fail
 refine OrdFree.region_vals (τ:=Unit) (fun _=>[(.pointer (some ⟨c.E,0,none⟩)),(.pointer (some ⟨c.E,0,none⟩)),(.pointer (some ⟨c.E,83,none⟩)),(.pointer (some ⟨c.V,0,none⟩)),(.pointer (some ⟨c.B+3,0,none⟩)),(.pointer (some ⟨c.E,0,none⟩)),(.pointer (some ⟨c.E,0,none⟩)),(.pointer (some ⟨c.E,0,none⟩)),(.pointer (some ⟨c.E,0,none⟩)),(.pointer (some ⟨c.E,4,none⟩)),(.int .u32 36852),(.int .i64 2),(.int .i64 8),(.int .u32 8),(.int .u32 36860),(Value.tuple #[.int .u32 FL,.int .i64 0]),(Value.tuple #[.int .u32 FL,.int .i64 0]),(.int .u32 FL),(.int .i64 0),(.int .u32 FL),(.int .i64 0)]) (fun _ _ W=>Kp noB W9 W) () (by kernel_rfl) (by kernel_rfl) (by kernel_rfl) (by kernel_rfl) (fun _=>rfl) (fun t=>by simp only [OrdFree.puts,Act.put,List.setIfInBounds_toArray,List.set_cons_zero,List.set_cons_succ];rfl) HI.out.drew ?_ ?_
 ·refine ⟨?_,?_,?_,?_,?_,?_,?_,?_,?_,?_,?_,?_,?_,?_,?_,?_,?_,?_,?_,?_,?_,trivial⟩
  all_goals (intro t listed W hz hSh hl hI hb K hK hK0;change Kp noB W9 W at hI;obtain ⟨c83,c4,cV0,hram⟩:=HXs.out W hI)
  ·clear hram
   go_simp
   exact hK0 _ hI
  ·clear hram
   go_simp
   exact hK0 _ hI
  ·clear hram
   go_simp
   exact hK0 _ hI
  ·clear hram
   go_simp
   exact hK0 _ hI
  ·have hR:=vRam_ok W c.V c.B 0 cV0
   clear hram
   go_simp
   refine Calls.mono hR ?_;rintro e w' ⟨rfl,hw⟩;replace hw:=hw.symm;subst hw
   exact hK0 _ hI
  ·clear hram
   go_simp
   exact hK0 _ hI
  ·clear hram
   go_simp
   exact hK0 _ hI
  ·clear hram
   go_simp
   exact hK0 _ hI
  ·clear hram
   go_simp
   exact hK0 _ hI
  ·clear hram
   go_simp
   exact hK0 _ hI
  ·clear hram
   go_simp
   exact hK0 _ hI
  ·clear hram
   go_simp
   exact hK0 _ hI
  ·clear hram
   go_simp
   exact hK0 _ hI
  ·clear hram
   go_simp
   exact hK0 _ hI
  ·clear hram
   go_simp
   exact hK0 _ hI
  ·have hR:=read_ok W c.B M2 hram 36860 4 (by decide) (by decide) rfl
   rw [show ((4:Int).toNat)=4 from rfl,m2] at hR
   have HR:Hid _:=hR
   clear hram hR
   go_simp
   refine Calls.mono HR.out ?_;rintro e w' ⟨rfl,k⟩
   exact hK0 _ (hI.trans k)
  ·clear hram
   go_simp
   exact hK0 _ hI
  ·clear hram
   go_simp
   exact hK0 _ hI
  ·clear hram
   go_simp
   exact hK0 _ hI
  ·clear hram
   go_simp
   exact hK0 _ hI
  ·clear hram
   go_simp
   exact hK0 _ hI
 rename_i Kx hKx
 rintro t listed V2 hal hI
 clear HI hal
 have HI:Hid (Kp noB W9 V2):=hI
 clear hI
 refine hKx _ _ ?_
 obtain ⟨q0,q1,q2⟩:=HWd.out V2 HI.out
 go_wp2_with fail
 clear q0 q1 q2
 rw [rounds_succ]
 have pz:∀ W,Kp noB W9 W→W.cell? ⟨A,9,none⟩=some (.int .u32 FL)∧W.cell? ⟨A,0,none⟩=some (.int .u32 0):=fun W k=>by
  have p:=(HP9.out W k).1
  rw [HCZ.out] at p
  have q9:=cu_pat' p 9 _ rfl
  have q0:=cu_pat' p 0 _ rfl
  rw [yfl] at q9
  rw [y0] at q0
  exact ⟨q9,q0⟩
 obtain ⟨p9,p0⟩:=pz V2 HI.out
 go_upto_region 29 with fail
 clear p9 p0
 have kd:Kp noB W9 V2.drew:=HI.out.drew
 obtain ⟨p9,p0⟩:=pz _ kd
 have x:=(HP9.out _ kd).2.2
 have q8:=x.c (k:=8) rfl
 have q9:=x.c (k:=9) rfl
 have q0:=x.c (k:=0) rfl
 rw [zip] at q8
 rw [zfl] at q9
 rw [z0] at q0
 have HFn:Hid (Kp noB w V2.drew):=HF9.out.trans kd
 clear x kd HI HP9 HXs HWd pz HF9
 go_region
 go_wp2
 go_ret
 exact ⟨rfl,kBelow HFn.out⟩
set_option maxHeartbeats 16000000 in
theorem push_nf (w:World) (hC:Cls w) (vec:Int) (hv:I64 vec) (cod:Int) (hcod:I64 cod) (hsg:cod < 0) (flags:Int) (hf:U32 flags) (place:Int) (hp:U32 place):Calls Tryz.prog 7 #[.int .i64 vec,.int .i64 cod,.bool false,.int .u32 flags,.int .u32 place] w fun e w'=>e=.returned (.bool true)∧Below w.heap.size w w':=by
 obtain ⟨T,nn,Z,hV⟩:=vlP
 obtain ⟨vl,vs,va,vb⟩:=hV.ops
 have g1':=hV.agg;have g2':=hV.size;have g3':=hV.zero
 obtain ⟨f1,hf1⟩:∃ f,f=flags%32768:=⟨_,rfl⟩
 have ef1:flags%32768=f1:=hf1.symm
 have ef0:flags.tmod 32768=f1:=by rw [Int.tmod_eq_emod_of_nonneg hf.1];exact hf1.symm
 have bf1:0≤f1∧f1 < 32768:=by unfold U32 at hf;omega
 obtain ⟨FL,hFL⟩:∃ F,F=bits .or .u32 f1 2:=⟨_,rfl⟩
 have ef2:bits .or .u32 f1 2=FL:=hFL.symm
 have hF:U32 FL:=by
  rw [hFL]
  exact or_bd (a:=f1) (b:=2) bf1.1 (by omega) (by decide) (by decide)
 clear hf1 hFL hf bf1
 have dc:decide (0≤cod)=false:=by simpa using hsg
 have dc':decide (cod ≥ 0)=false:=by simpa using hsg
 obtain ⟨y,hy⟩:∃ y:Cu,y=psX stX0 place FL:=⟨_,rfl⟩
 have hyok:y.Ok:=by rw [hy];exact { stX0_ok with ip:=hp,fl:=hF }
 have ecs:(stX0.cs.setIfInBounds 9 (.int .u32 FL)).setIfInBounds 8 (.int .u32 place)=y.cs:=by rw [hy];kernel_rfl
 have flx:FlX y:=by
  rw [hy]
  exact ⟨flX_0.pg,rfl,rfl,rfl,rfl,rfl,rfl,flX_0.ss,flX_0.cs⟩
 have yr:y.rg=0:=by rw [hy];rfl
 have y4:y.r 4=36864:=by rw [hy];rfl
 have yip:y.ip=place:=by rw [hy];rfl
 have yfl:y.fl=FL:=by rw [hy];rfl
 have ys1:(y.sg 1).sel=8:=by rw [hy];rfl
 have y0:y.r 0=0:=by rw [hy];rfl
 have HYok:Hid y.Ok:=hyok
 clear hy
 obtain ⟨cz,hcz⟩:∃ q,q=y.cs:=⟨_,rfl⟩
 have HWF:Hid (WfC cz):=by rw [hcz];exact cu_wf _
 have hsz:cz.size=nn:=by rw [HWF.out.s,hV.s]
 have HCZ:Hid (cz=y.cs):=hcz
 have HA:Hid _:=awake18 w hC
 have HV:Hid _:=hV
 obtain ⟨hu0,hu1⟩:=absI_bd hv
 unfold I64 at hv
 clear hV hC hcz hyok
 go_enter Tryz.func7,Tryz.ntmps7
 simp only [vl,vs,va]
 go_wp2_with fail
 refine Calls.mono HA.out ?_;rintro e w1 ⟨rfl,k1⟩
 have HK1:Hid (Kp noB w w1):=k1
 clear k1 HA
 have HS:Hid _:=started0 w1 36352 (by unfold U32;decide)
 go_wp2_with fail
 refine Calls.mono HS.out ?_;rintro e w3 ⟨E,V,Kb,Lc,L',rfl,hst⟩
 obtain ⟨hx,hE,hall,kU⟩:=start_at stX0_ok (stM_same 36352).2 hst
 have k3:=Bs.noRm kU
 obtain ⟨M,hM⟩:∃ M,M=stM 36352:=⟨_,rfl⟩
 obtain ⟨c,hc⟩:∃ c:Ev,c=⟨E,V,Kb,Lc.M,8,(stM 36352).n,Lc.B⟩:=⟨_,rfl⟩
 have ecE:E=c.E:=by rw [hc]
 have HTb:Hid (Tb 36352 M):=by rw [hM];exact tb_st (by unfold U32;decide)
 rw [← hc] at hx hall
 rw [← hM] at hx
 rw [ecE] at hE ⊢
 have HX3:Hid (XAt w3 c 0 stX0 M):=hx
 have HK3:Hid (Kp noB w w3):=HK1.out.trans k3
 have HAL:Hid (w.heap.size≤c.E∧∀ j,c.all j→w.heap.size≤j):=⟨by have:=HK1.out.size;omega,fun j hj=>by have:=HK1.out.size;have:=hall j hj;omega⟩
 clear hst hc hM kU k3 hx hE hall ecE HS HK1
 go_upto_if 32 with fail
 go_cut [0] from 21 (fun s0 wq=>s0=.int .i64 (absI vec)∧wq=w3)
 case first=>
  by_cases hn:vec < 0
  ·have hw1:IntKind.i64.wrap (vec+1)=vec+1:=by rw [IntKind.wrap_i64];omega
   have hw2:IntKind.i64.wrap (-(vec+1))=-(vec+1):=by rw [IntKind.wrap_i64];omega
   have HN:Hid _:=hn
   go_wp2
   go_meet
   case rel=>exact ⟨by unfold absI;rw [if_pos HN.out],rfl⟩
  ·have HN:Hid _:=hn
   go_wp2
   go_meet
   case rel=>exact ⟨by unfold absI;rw [if_neg HN.out],rfl⟩
 case rest=>
 obtain ⟨rfl,hwc⟩:=hcut
 replace hwc:=hwc.symm
 subst hwc
 generalize absI vec=u at *
 clear hv
 obtain ⟨v,hvv⟩:∃ v,v=u.tmod 64:=⟨_,rfl⟩
 have hv0:0≤v:=by rw [hvv];exact Int.tmod_nonneg _ hu0
 have hv1:v < 64:=by rw [hvv,Int.tmod_eq_emod_of_nonneg hu0];omega
 have e64:u.tmod 64=v:=hvv.symm
 have b1:IntKind.i64.wrap (16*v)=16*v:=by rw [IntKind.wrap_i64];omega
 have b2:IntKind.i64.wrap (24576+16*v)=24576+16*v:=by rw [IntKind.wrap_i64];omega
 have b3:IntKind.u32.wrap (24576+16*v)=24576+16*v:=by rw [IntKind.wrap_u32];omega
 have ew:wordsO y false cod=[FL,8,place]:=by
  unfold wordsO
  rw [ys1,yfl,yip]
  simp [show ¬ 0≤cod by omega]
 have HE:Hid (enterO M y v cod false=.ok (layK M 36864 [FL,8,place]) (nIn y v 36352 36852)):=by
  have q:=enter_in (kind:=36352) HTb.out flx (by unfold Kg;decide) yr hv0 hv1 cod false y4 (by decide) (by decide)
  rw [ew,show ((36864:Int) - 4*(([FL,8,place]:List Int).length:Int))=36852 by simp] at q
  exact q
 have hL:∀ x ∈ [FL,8,place],U32 x:=by
  intro x hx
  simp only [List.mem_cons,List.not_mem_nil,or_false] at hx
  rcases hx with rfl | rfl | rfl
  ·exact hF
  ·exact ⟨by decide,by decide⟩
  ·exact hp
 have m0:(layK M 36864 [FL,8,place]).read 36852 4=place:=by
  rw [read_wd _ (by decide) (by decide)]
  exact layK_at [FL,8,place] HTb.out.pn hL (by simp) (by decide) 2 _ rfl
 have m1:(layK M 36864 [FL,8,place]).read 36856 4=8:=by
  rw [read_wd _ (by decide) (by decide)]
  exact layK_at [FL,8,place] HTb.out.pn hL (by simp) (by decide) 1 _ rfl
 have m2:(layK M 36864 [FL,8,place]).read 36860 4=FL:=by
  rw [read_wd _ (by decide) (by decide)]
  exact layK_at [FL,8,place] HTb.out.pn hL (by simp) (by decide) 0 _ rfl
 obtain ⟨M2,hM2⟩:∃ m,m=layK M 36864 [FL,8,place]:=⟨_,rfl⟩
 obtain ⟨z,hz⟩:∃ z,z=nIn y v 36352 36852:=⟨_,rfl⟩
 rw [← hM2,← hz] at HE
 rw [← hM2] at m0 m1 m2
 have zip:z.ip=24576+16*v:=by rw [hz];rfl
 have z4:z.r 4=36852:=by rw [hz];rfl
 have z0:z.r 0=0:=by rw [hz];exact y0
 have zfl:z.fl=bits .andNot .u32 (bits .andNot .u32 FL 16640) 512:=by rw [hz];show flD (gG 36352 v).k y.fl=_;rw [yfl];rfl
 clear hM2 hz ew hL hvv hu0 hu1 hv0 hv1 flx yr ys1 HTb hp hF
 have c9:=HX3.out.c (k:=9) rfl
 have c8:=HX3.out.c (k:=8) rfl
 have fz:=HX3.out.e.fz
 obtain ⟨W5,hW5⟩:∃ W,W=(w3.setCell ⟨c.E,9,none⟩ (.int .u32 FL)).setCell ⟨c.E,8,none⟩ (.int .u32 place):=⟨_,rfl⟩
 have e5:=(HX3.out.e.set (k:=9) (by decide) (v:=.int .u32 FL) rfl).set (k:=8) (by decide) (v:=.int .u32 place) rfl
 rw [← hW5,ecs] at e5
 have HK5:Hid (Kp (fun j=>j=c.E) w3 W5):=by rw [hW5];exact (Kp.setCell (S:=fun j=>j=c.E) w3 (p:=⟨c.E,9,none⟩) rfl _).trans (Kp.setCell (S:=fun j=>j=c.E) _ (p:=⟨c.E,8,none⟩) rfl _)
 have x5:XAt W5 c 0 y M:=⟨e5,HX3.out.v.kp HK5.out (fun j hj e=>HX3.out.n (e ▸ (by rw [HX3.out.s] at hj;exact hj))),HX3.out.s,HX3.out.n,HYok.out⟩
 have HX5:Hid (XAt W5 c 0 y M):=x5
 have HW5:Hid (Kp noB w W5):=HK3.out.over HK5.out (fun j hj e=>by have:=HAL.out.1;omega)
 go_upto_region 13 with fail
 rw [← hW5]
 clear hW5 c9 c8 fz e5 x5 HK5 HX3 HK3 ecs ef0 ef1 ef2
 have hld:=HX5.out.e.get HV.out
 rw [← HCZ.out] at hld
 have pA0:PAt (W5.alloc (.cells Z T)) W5.heap.size Z:=HV.out.at HV.out.wf W5
 have hst:=VlP.put pA0 HWF.out
 obtain ⟨A,hA⟩:∃ A,A=W5.heap.size:=⟨_,rfl⟩
 obtain ⟨W6,hW6⟩:∃ W,W=(W5.alloc (.cells Z T)).setRow A cz:=⟨_,rfl⟩
 have P6:PAt W6 A cz:=by rw [hW6,hA];exact pA0.put HWF.out
 have k6:Kp noB W5 W6:=by
  rw [hW6]
  exact (Kp.alloc noB W5 _).over (Kp.setRow (S:=fun j=>j=A) (W5.alloc (.cells Z T)) rfl cz) (fun j hj e=>by omega)
 have x6:=HX5.out.kp0 k6
 have HA6:Hid (c.E < A∧(∀ j,c.all j→j < A)):=⟨by rw [hA];exact HX5.out.lt,fun j hj=>by rw [hA];exact HX5.out.in_all hj⟩
 have HP6:Hid (PAt W6 A cz∧Kp noB w W6):=⟨P6,HW5.out.trans k6⟩
 have HE1:Hid _:=Enter_any W6 c 0 y M x6 v cod false (by decide)
 rw [HE.out] at HE1
 have HE3:Hid (Calls Tryz.prog 11 #[.pointer (some ⟨c.E,0,none⟩),.int .i64 v,.int .i64 cod,.bool false] W6 fun e w'=>e=.returned (.agg #[.int .i64 (-1),.int .i64 (-1),.int .u32 0])∧(∃ t,t≤0+40∧XAt w' c t z M2)∧Kp (fun j=>c.md j∨j=c.E) W6 w'):=HE1.out
 go_upto_region 14 with fail
 rw [← hA,← hW6]
 clear hA hW6 hst hld pA0 P6 k6 x6 HX5 HW5 HE1 HE
 go_wp2_with fail
 refine Calls.mono HE3.out ?_;rintro e w7 ⟨rfl,⟨t7,ht7,x7⟩,k7⟩
 have nE:∀ j,(c.md j∨j=c.E)→w.heap.size≤j∧j≠A:=fun j hj=>by
  rcases hj with e | e
  ·exact ⟨HAL.out.2 j (.inr e),by have:=HA6.out.2 j (.inr e);omega⟩
  ·have:=HAL.out.1;have:=HA6.out.1;exact ⟨by omega,by omega⟩
 obtain ⟨G,hG⟩:∃ G,G=w7.heap.size:=⟨_,rfl⟩
 obtain ⟨W8,hW8⟩:∃ W,W=w7.alloc (.cells #[.int .i64 (-1),.int .i64 (-1),.int .u32 0] 44):=⟨_,rfl⟩
 have r8:RowT W8 G ⟨-1,-1,0⟩:=by rw [hW8,hG];exact (MapKept.heap_alloc w7 _).1
 have k8:Kp noB w7 W8:=by rw [hW8];exact Kp.alloc _ _ _
 have HP8:Hid (PAt W8 A cz∧RowT W8 G ⟨-1,-1,0⟩∧XAt W8 c t7 z M2∧Kp noB w W8):=⟨(HP6.out.1.kp k7 (fun f=>(nE A f).2 rfl)).kp k8 id,r8,x7.kp0 k8,(HP6.out.2.over k7 (fun j hj e=>(by have:=(nE j e).1;omega))).trans k8⟩
 clear k7 k8 r8 x7 ht7 HP6 HE3 nE
 have p8:=HP8.out.1.cell (k:=8) (v:=.int .u32 place) (by rw [HCZ.out];unfold Cu.cs;rw [List.getElem?_toArray];show some (Value.int .u32 y.ip)=_;rw [yip])
 have p9:=HP8.out.1.cell (k:=9) (v:=.int .u32 FL) (by rw [HCZ.out];unfold Cu.cs;rw [List.getElem?_toArray];show some (Value.int .u32 y.fl)=_;rw [yfl])
 go_upto_region 15 with fail
 rw [← hG,← hW8]
 clear hG hW8
 go_upto_region 16 with fail
 obtain ⟨S,hS⟩:∃ S,S=W8.heap.size:=⟨_,rfl⟩
 obtain ⟨W9,hW9⟩:∃ W,W=W8.alloc (.cells #[.int .u32 place,.int .u32 8,.int .u32 FL] 22):=⟨_,rfl⟩
 have rS:W9.heap[S]?=some (.cells #[.int .u32 place,.int .u32 8,.int .u32 FL] 22 (0,0)):=by rw [hW9,hS];exact (MapKept.heap_alloc W8 _).1
 have k9:Kp noB W8 W9:=by rw [hW9];exact Kp.alloc _ _ _
 rw [← hS,← hW9]
 clear hW9 p8 p9
 have HK9:Hid (Kp noB W8 W9):=k9
 have HWd:Hid (∀ W,Kp noB W9 W→W.cell? ⟨S,0,none⟩=some (.int .u32 place)∧W.cell? ⟨S,1,none⟩=some (.int .u32 8)∧W.cell? ⟨S,2,none⟩=some (.int .u32 FL)):=fun W k=>by
  have r:=(k.block S (Array.getElem?_eq_some_iff.1 rS).1 id).trans rS
  exact ⟨by rw [cell_at r];rfl,by rw [cell_at r];rfl,by rw [cell_at r];rfl⟩
 clear hS rS k9
 go_upto_region 18 with fail
 have HP9:Hid (∀ W,Kp noB W9 W→PAt W A cz∧RowT W G ⟨-1,-1,0⟩∧XAt W c t7 z M2):=fun W k=>⟨(HP8.out.1.kp HK9.out id).kp k id,(HP8.out.2.1.kp HK9.out id).kp k id,(HP8.out.2.2.1.kp0 HK9.out).kp0 k⟩
 have HF9:Hid (Kp noB w W9):=HP8.out.2.2.2.trans HK9.out
 have HXs:Hid (∀ W,Kp noB W9 W→W.cell? ⟨c.E,83,none⟩=some (.pointer (some ⟨c.V,0,none⟩))∧W.cell? ⟨c.E,4,none⟩=some (.int .u32 36852)∧W.cell? ⟨c.V,0,none⟩=some (.pointer (some ⟨c.B+3,0,none⟩))∧RamAt W c.B M2):=fun W k=>by
  have x:=(HP9.out W k).2.2
  have c4:=x.c (k:=4) rfl
  rw [z4] at c4
  exact ⟨x.mp,c4,x.v.c0,x.v.ram⟩
 clear HP8 HK9
 have a0:=(HP9.out W9 (Kp.refl _ _)).2.1.c0
 obtain ⟨_,c4,_,_⟩:=HXs.out W9 (Kp.refl _ _)
 go_wp2_with fail
 clear a0 c4
 have HI:Hid (Kp noB W9 W9):=Kp.refl _ _
 refine wp_loop_rounds 5 ?_
 rw [rounds_succ]
 go_upto_region 23 with fail
 refine OrdFree.region_vals (τ:=Unit) (fun _=>[(.pointer (some ⟨c.E,0,none⟩)),(.pointer (some ⟨c.E,0,none⟩)),(.pointer (some ⟨c.E,83,none⟩)),(.pointer (some ⟨c.V,0,none⟩)),(.pointer (some ⟨c.B+3,0,none⟩)),(.pointer (some ⟨c.E,0,none⟩)),(.pointer (some ⟨c.E,0,none⟩)),(.pointer (some ⟨c.E,0,none⟩)),(.pointer (some ⟨c.E,0,none⟩)),(.pointer (some ⟨c.E,4,none⟩)),(.int .u32 36852),(.int .i64 0),(.int .i64 0),(.int .u32 0),(.int .u32 36852),(Value.tuple #[.int .u32 place,.int .i64 0]),(Value.tuple #[.int .u32 place,.int .i64 0]),(.int .u32 place),(.int .i64 0),(.int .u32 place),(.int .i64 0)]) (fun _ _ W=>Kp noB W9 W) () (by kernel_rfl) (by kernel_rfl) (by kernel_rfl) (by kernel_rfl) (fun _=>rfl) (fun t=>by simp only [OrdFree.puts,Act.put,List.setIfInBounds_toArray,List.set_cons_zero,List.set_cons_succ];rfl) HI.out.drew ?_ ?_
 ·refine ⟨?_,?_,?_,?_,?_,?_,?_,?_,?_,?_,?_,?_,?_,?_,?_,?_,?_,?_,?_,?_,?_,trivial⟩
  all_goals (intro t listed W hz hSh hl hI hb K hK hK0;change Kp noB W9 W at hI;obtain ⟨c83,c4,cV0,hram⟩:=HXs.out W hI)
  ·clear hram
   go_simp
   exact hK0 _ hI
  ·clear hram
   go_simp
   exact hK0 _ hI
  ·clear hram
   go_simp
   exact hK0 _ hI
  ·clear hram
   go_simp
   exact hK0 _ hI
  ·have hR:=vRam_ok W c.V c.B 0 cV0
   clear hram
   go_simp
   refine Calls.mono hR ?_;rintro e w' ⟨rfl,hw⟩;replace hw:=hw.symm;subst hw
   exact hK0 _ hI
  ·clear hram
   go_simp
   exact hK0 _ hI
  ·clear hram
   go_simp
   exact hK0 _ hI
  ·clear hram
   go_simp
   exact hK0 _ hI
  ·clear hram
   go_simp
   exact hK0 _ hI
  ·clear hram
   go_simp
   exact hK0 _ hI
  ·clear hram
   go_simp
   exact hK0 _ hI
  ·clear hram
   go_simp
   exact hK0 _ hI
  ·clear hram
   go_simp
   exact hK0 _ hI
  ·clear hram
   go_simp
   exact hK0 _ hI
  ·clear hram
   go_simp
   exact hK0 _ hI
  ·have hR:=read_ok W c.B M2 hram 36852 4 (by decide) (by decide) rfl
   rw [show ((4:Int).toNat)=4 from rfl,m0] at hR
   have HR:Hid _:=hR
   clear hram hR
   go_simp
   refine Calls.mono HR.out ?_;rintro e w' ⟨rfl,k⟩
   exact hK0 _ (hI.trans k)
  ·clear hram
   go_simp
   exact hK0 _ hI
  ·clear hram
   go_simp
   exact hK0 _ hI
  ·clear hram
   go_simp
   exact hK0 _ hI
  ·clear hram
   go_simp
   exact hK0 _ hI
  ·clear hram
   go_simp
   exact hK0 _ hI
 rename_i Kx hKx
 rintro t listed V0 hal hI
 clear HI hal
 have HI:Hid (Kp noB W9 V0):=hI
 clear hI
 refine hKx _ _ ?_
 obtain ⟨q0,q1,q2⟩:=HWd.out V0 HI.out
 go_wp2_with fail
 clear q0 q1 q2
 rw [rounds_succ]
 go_upto_region 23 with fail
 refine OrdFree.region_vals (τ:=Unit) (fun _=>[(.pointer (some ⟨c.E,0,none⟩)),(.pointer (some ⟨c.E,0,none⟩)),(.pointer (some ⟨c.E,83,none⟩)),(.pointer (some ⟨c.V,0,none⟩)),(.pointer (some ⟨c.B+3,0,none⟩)),(.pointer (some ⟨c.E,0,none⟩)),(.pointer (some ⟨c.E,0,none⟩)),(.pointer (some ⟨c.E,0,none⟩)),(.pointer (some ⟨c.E,0,none⟩)),(.pointer (some ⟨c.E,4,none⟩)),(.int .u32 36852),(.int .i64 1),(.int .i64 4),(.int .u32 4),(.int .u32 36856),(Value.tuple #[.int .u32 8,.int .i64 0]),(Value.tuple #[.int .u32 8,.int .i64 0]),(.int .u32 8),(.int .i64 0),(.int .u32 8),(.int .i64 0)]) (fun _ _ W=>Kp noB W9 W) () (by kernel_rfl) (by kernel_rfl) (by kernel_rfl) (by kernel_rfl) (fun _=>rfl) (fun t=>by simp only [OrdFree.puts,Act.put,List.setIfInBounds_toArray,List.set_cons_zero,List.set_cons_succ];rfl) HI.out.drew ?_ ?_
 ·refine ⟨?_,?_,?_,?_,?_,?_,?_,?_,?_,?_,?_,?_,?_,?_,?_,?_,?_,?_,?_,?_,?_,trivial⟩
  all_goals (intro t listed W hz hSh hl hI hb K hK hK0;change Kp noB W9 W at hI;obtain ⟨c83,c4,cV0,hram⟩:=HXs.out W hI)
  ·clear hram
   go_simp
   exact hK0 _ hI
  ·clear hram
   go_simp
   exact hK0 _ hI
  ·clear hram
   go_simp
   exact hK0 _ hI
  ·clear hram
   go_simp
   exact hK0 _ hI
  ·have hR:=vRam_ok W c.V c.B 0 cV0
   clear hram
   go_simp
   refine Calls.mono hR ?_;rintro e w' ⟨rfl,hw⟩;replace hw:=hw.symm;subst hw
   exact hK0 _ hI
  ·clear hram
   go_simp
   exact hK0 _ hI
  ·clear hram
   go_simp
   exact hK0 _ hI
  ·clear hram
   go_simp
   exact hK0 _ hI
  ·clear hram
   go_simp
   exact hK0 _ hI
  ·clear hram
   go_simp
   exact hK0 _ hI
  ·clear hram
   go_simp
   exact hK0 _ hI
  ·clear hram
   go_simp
   exact hK0 _ hI
  ·clear hram
   go_simp
   exact hK0 _ hI
  ·clear hram
   go_simp
   exact hK0 _ hI
  ·clear hram
   go_simp
   exact hK0 _ hI
  ·have hR:=read_ok W c.B M2 hram 36856 4 (by decide) (by decide) rfl
   rw [show ((4:Int).toNat)=4 from rfl,m1] at hR
   have HR:Hid _:=hR
   clear hram hR
   go_simp
   refine Calls.mono HR.out ?_;rintro e w' ⟨rfl,k⟩
   exact hK0 _ (hI.trans k)
  ·clear hram
   go_simp
   exact hK0 _ hI
  ·clear hram
   go_simp
   exact hK0 _ hI
  ·clear hram
   go_simp
   exact hK0 _ hI
  ·clear hram
   go_simp
   exact hK0 _ hI
  ·clear hram
   go_simp
   exact hK0 _ hI
 rename_i Kx hKx
 rintro t listed V1 hal hI
 clear HI hal
 have HI:Hid (Kp noB W9 V1):=hI
 clear hI
 refine hKx _ _ ?_
 obtain ⟨q0,q1,q2⟩:=HWd.out V1 HI.out
 go_wp2_with fail
 clear q0 q1 q2
 rw [rounds_succ]
 go_upto_region 23 with fail
 refine OrdFree.region_vals (τ:=Unit) (fun _=>[(.pointer (some ⟨c.E,0,none⟩)),(.pointer (some ⟨c.E,0,none⟩)),(.pointer (some ⟨c.E,83,none⟩)),(.pointer (some ⟨c.V,0,none⟩)),(.pointer (some ⟨c.B+3,0,none⟩)),(.pointer (some ⟨c.E,0,none⟩)),(.pointer (some ⟨c.E,0,none⟩)),(.pointer (some ⟨c.E,0,none⟩)),(.pointer (some ⟨c.E,0,none⟩)),(.pointer (some ⟨c.E,4,none⟩)),(.int .u32 36852),(.int .i64 2),(.int .i64 8),(.int .u32 8),(.int .u32 36860),(Value.tuple #[.int .u32 FL,.int .i64 0]),(Value.tuple #[.int .u32 FL,.int .i64 0]),(.int .u32 FL),(.int .i64 0),(.int .u32 FL),(.int .i64 0)]) (fun _ _ W=>Kp noB W9 W) () (by kernel_rfl) (by kernel_rfl) (by kernel_rfl) (by kernel_rfl) (fun _=>rfl) (fun t=>by simp only [OrdFree.puts,Act.put,List.setIfInBounds_toArray,List.set_cons_zero,List.set_cons_succ];rfl) HI.out.drew ?_ ?_
 ·refine ⟨?_,?_,?_,?_,?_,?_,?_,?_,?_,?_,?_,?_,?_,?_,?_,?_,?_,?_,?_,?_,?_,trivial⟩
  all_goals (intro t listed W hz hSh hl hI hb K hK hK0;change Kp noB W9 W at hI;obtain ⟨c83,c4,cV0,hram⟩:=HXs.out W hI)
  ·clear hram
   go_simp
   exact hK0 _ hI
  ·clear hram
   go_simp
   exact hK0 _ hI
  ·clear hram
   go_simp
   exact hK0 _ hI
  ·clear hram
   go_simp
   exact hK0 _ hI
  ·have hR:=vRam_ok W c.V c.B 0 cV0
   clear hram
   go_simp
   refine Calls.mono hR ?_;rintro e w' ⟨rfl,hw⟩;replace hw:=hw.symm;subst hw
   exact hK0 _ hI
  ·clear hram
   go_simp
   exact hK0 _ hI
  ·clear hram
   go_simp
   exact hK0 _ hI
  ·clear hram
   go_simp
   exact hK0 _ hI
  ·clear hram
   go_simp
   exact hK0 _ hI
  ·clear hram
   go_simp
   exact hK0 _ hI
  ·clear hram
   go_simp
   exact hK0 _ hI
  ·clear hram
   go_simp
   exact hK0 _ hI
  ·clear hram
   go_simp
   exact hK0 _ hI
  ·clear hram
   go_simp
   exact hK0 _ hI
  ·clear hram
   go_simp
   exact hK0 _ hI
  ·have hR:=read_ok W c.B M2 hram 36860 4 (by decide) (by decide) rfl
   rw [show ((4:Int).toNat)=4 from rfl,m2] at hR
   have HR:Hid _:=hR
   clear hram hR
   go_simp
   refine Calls.mono HR.out ?_;rintro e w' ⟨rfl,k⟩
   exact hK0 _ (hI.trans k)
  ·clear hram
   go_simp
   exact hK0 _ hI
  ·clear hram
   go_simp
   exact hK0 _ hI
  ·clear hram
   go_simp
   exact hK0 _ hI
  ·clear hram
   go_simp
   exact hK0 _ hI
  ·clear hram
   go_simp
   exact hK0 _ hI
 rename_i Kx hKx
 rintro t listed V2 hal hI
 clear HI hal
 have HI:Hid (Kp noB W9 V2):=hI
 clear hI
 refine hKx _ _ ?_
 obtain ⟨q0,q1,q2⟩:=HWd.out V2 HI.out
 go_wp2_with fail
 clear q0 q1 q2
 rw [rounds_succ]
 have pz:∀ W,Kp noB W9 W→W.cell? ⟨A,9,none⟩=some (.int .u32 FL)∧W.cell? ⟨A,0,none⟩=some (.int .u32 0):=fun W k=>by
  have p:=(HP9.out W k).1
  rw [HCZ.out] at p
  have q9:=cu_pat' p 9 _ rfl
  have q0:=cu_pat' p 0 _ rfl
  rw [yfl] at q9
  rw [y0] at q0
  exact ⟨q9,q0⟩
 obtain ⟨p9,p0⟩:=pz V2 HI.out
 go_upto_region 29 with fail
 clear p9 p0
 have kd:Kp noB W9 V2.drew:=HI.out.drew
 obtain ⟨p9,p0⟩:=pz _ kd
 have x:=(HP9.out _ kd).2.2
 have q8:=x.c (k:=8) rfl
 have q9:=x.c (k:=9) rfl
 have q0:=x.c (k:=0) rfl
 rw [zip] at q8
 rw [zfl] at q9
 rw [z0] at q0
 have HFn:Hid (Kp noB w V2.drew):=HF9.out.trans kd
 clear x kd HI HP9 HXs HWd pz HF9
 go_region
 go_wp2
 go_ret
 exact ⟨rfl,kBelow HFn.out⟩
set_option maxHeartbeats 16000000 in
theorem push_pt (w:World) (hC:Cls w) (vec:Int) (hv:I64 vec) (cod:Int) (hcod:I64 cod) (hsg:0≤cod) (flags:Int) (hf:U32 flags) (place:Int) (hp:U32 place):Calls Tryz.prog 7 #[.int .i64 vec,.int .i64 cod,.bool true,.int .u32 flags,.int .u32 place] w fun e w'=>e=.returned (.bool true)∧Below w.heap.size w w':=by
 obtain ⟨T,nn,Z,hV⟩:=vlP
 obtain ⟨vl,vs,va,vb⟩:=hV.ops
 have g1':=hV.agg;have g2':=hV.size;have g3':=hV.zero
 obtain ⟨f1,hf1⟩:∃ f,f=flags%32768:=⟨_,rfl⟩
 have ef1:flags%32768=f1:=hf1.symm
 have ef0:flags.tmod 32768=f1:=by rw [Int.tmod_eq_emod_of_nonneg hf.1];exact hf1.symm
 have bf1:0≤f1∧f1 < 32768:=by unfold U32 at hf;omega
 obtain ⟨FL,hFL⟩:∃ F,F=bits .or .u32 f1 2:=⟨_,rfl⟩
 have ef2:bits .or .u32 f1 2=FL:=hFL.symm
 have hF:U32 FL:=by
  rw [hFL]
  exact or_bd (a:=f1) (b:=2) bf1.1 (by omega) (by decide) (by decide)
 clear hf1 hFL hf bf1
 have dc:decide (0≤cod)=true:=by simpa using hsg
 have dc':decide (cod ≥ 0)=true:=by simpa using hsg
 obtain ⟨c32,hc32⟩:∃ c,c=cod%4294967296:=⟨_,rfl⟩
 have ec:IntKind.u32.wrap cod=c32:=by rw [IntKind.wrap_u32,hc32]
 have ec':cod%4294967296=c32:=hc32.symm
 have hcu:U32 c32:=by rw [hc32];unfold U32;omega
 have HC32:Hid (c32=cod%4294967296):=hc32
 clear hc32
 obtain ⟨y,hy⟩:∃ y:Cu,y=psX stX0 place FL:=⟨_,rfl⟩
 have hyok:y.Ok:=by rw [hy];exact { stX0_ok with ip:=hp,fl:=hF }
 have ecs:(stX0.cs.setIfInBounds 9 (.int .u32 FL)).setIfInBounds 8 (.int .u32 place)=y.cs:=by rw [hy];kernel_rfl
 have flx:FlX y:=by
  rw [hy]
  exact ⟨flX_0.pg,rfl,rfl,rfl,rfl,rfl,rfl,flX_0.ss,flX_0.cs⟩
 have yr:y.rg=0:=by rw [hy];rfl
 have y4:y.r 4=36864:=by rw [hy];rfl
 have yip:y.ip=place:=by rw [hy];rfl
 have yfl:y.fl=FL:=by rw [hy];rfl
 have ys1:(y.sg 1).sel=8:=by rw [hy];rfl
 have y0:y.r 0=0:=by rw [hy];rfl
 have HYok:Hid y.Ok:=hyok
 clear hy
 obtain ⟨cz,hcz⟩:∃ q,q=y.cs:=⟨_,rfl⟩
 have HWF:Hid (WfC cz):=by rw [hcz];exact cu_wf _
 have hsz:cz.size=nn:=by rw [HWF.out.s,hV.s]
 have HCZ:Hid (cz=y.cs):=hcz
 have HA:Hid _:=awake18 w hC
 have HV:Hid _:=hV
 obtain ⟨hu0,hu1⟩:=absI_bd hv
 unfold I64 at hv
 clear hV hC hcz hyok
 go_enter Tryz.func7,Tryz.ntmps7
 simp only [vl,vs,va]
 go_wp2_with fail
 refine Calls.mono HA.out ?_;rintro e w1 ⟨rfl,k1⟩
 have HK1:Hid (Kp noB w w1):=k1
 clear k1 HA
 have HS:Hid _:=started0 w1 36608 (by unfold U32;decide)
 go_wp2_with fail
 refine Calls.mono HS.out ?_;rintro e w3 ⟨E,V,Kb,Lc,L',rfl,hst⟩
 obtain ⟨hx,hE,hall,kU⟩:=start_at stX0_ok (stM_same 36608).2 hst
 have k3:=Bs.noRm kU
 obtain ⟨M,hM⟩:∃ M,M=stM 36608:=⟨_,rfl⟩
 obtain ⟨c,hc⟩:∃ c:Ev,c=⟨E,V,Kb,Lc.M,8,(stM 36608).n,Lc.B⟩:=⟨_,rfl⟩
 have ecE:E=c.E:=by rw [hc]
 have HTb:Hid (Tb 36608 M):=by rw [hM];exact tb_st (by unfold U32;decide)
 rw [← hc] at hx hall
 rw [← hM] at hx
 rw [ecE] at hE ⊢
 have HX3:Hid (XAt w3 c 0 stX0 M):=hx
 have HK3:Hid (Kp noB w w3):=HK1.out.trans k3
 have HAL:Hid (w.heap.size≤c.E∧∀ j,c.all j→w.heap.size≤j):=⟨by have:=HK1.out.size;omega,fun j hj=>by have:=HK1.out.size;have:=hall j hj;omega⟩
 clear hst hc hM kU k3 hx hE hall ecE HS HK1
 go_upto_if 32 with fail
 go_cut [0] from 21 (fun s0 wq=>s0=.int .i64 (absI vec)∧wq=w3)
 case first=>
  by_cases hn:vec < 0
  ·have hw1:IntKind.i64.wrap (vec+1)=vec+1:=by rw [IntKind.wrap_i64];omega
   have hw2:IntKind.i64.wrap (-(vec+1))=-(vec+1):=by rw [IntKind.wrap_i64];omega
   have HN:Hid _:=hn
   go_wp2
   go_meet
   case rel=>exact ⟨by unfold absI;rw [if_pos HN.out],rfl⟩
  ·have HN:Hid _:=hn
   go_wp2
   go_meet
   case rel=>exact ⟨by unfold absI;rw [if_neg HN.out],rfl⟩
 case rest=>
 obtain ⟨rfl,hwc⟩:=hcut
 replace hwc:=hwc.symm
 subst hwc
 generalize absI vec=u at *
 clear hv
 obtain ⟨v,hvv⟩:∃ v,v=u.tmod 64:=⟨_,rfl⟩
 have hv0:0≤v:=by rw [hvv];exact Int.tmod_nonneg _ hu0
 have hv1:v < 64:=by rw [hvv,Int.tmod_eq_emod_of_nonneg hu0];omega
 have e64:u.tmod 64=v:=hvv.symm
 have b1:IntKind.i64.wrap (16*v)=16*v:=by rw [IntKind.wrap_i64];omega
 have b2:IntKind.i64.wrap (24576+16*v)=24576+16*v:=by rw [IntKind.wrap_i64];omega
 have b3:IntKind.u32.wrap (24576+16*v)=24576+16*v:=by rw [IntKind.wrap_u32];omega
 have ew:wordsO y false cod=[FL,8,place,c32]:=by
  unfold wordsO
  rw [ys1,yfl,yip,HC32.out]
  simp [hsg]
 have HE:Hid (enterO M y v cod false=.ok (layK M 36864 [FL,8,place,c32]) (nIn y v 36608 36848)):=by
  have q:=enter_in (kind:=36608) HTb.out flx (by unfold Kg;decide) yr hv0 hv1 cod false y4 (by decide) (by decide)
  rw [ew,show ((36864:Int) - 4*(([FL,8,place,c32]:List Int).length:Int))=36848 by simp] at q
  exact q
 have hL:∀ x ∈ [FL,8,place,c32],U32 x:=by
  intro x hx
  simp only [List.mem_cons,List.not_mem_nil,or_false] at hx
  rcases hx with rfl | rfl | rfl | rfl
  ·exact hF
  ·exact ⟨by decide,by decide⟩
  ·exact hp
  ·exact hcu
 have m0:(layK M 36864 [FL,8,place,c32]).read 36848 4=c32:=by
  rw [read_wd _ (by decide) (by decide)]
  exact layK_at [FL,8,place,c32] HTb.out.pn hL (by simp) (by decide) 3 _ rfl
 have m1:(layK M 36864 [FL,8,place,c32]).read 36852 4=place:=by
  rw [read_wd _ (by decide) (by decide)]
  exact layK_at [FL,8,place,c32] HTb.out.pn hL (by simp) (by decide) 2 _ rfl
 have m2:(layK M 36864 [FL,8,place,c32]).read 36856 4=8:=by
  rw [read_wd _ (by decide) (by decide)]
  exact layK_at [FL,8,place,c32] HTb.out.pn hL (by simp) (by decide) 1 _ rfl
 have m3:(layK M 36864 [FL,8,place,c32]).read 36860 4=FL:=by
  rw [read_wd _ (by decide) (by decide)]
  exact layK_at [FL,8,place,c32] HTb.out.pn hL (by simp) (by decide) 0 _ rfl
 obtain ⟨M2,hM2⟩:∃ m,m=layK M 36864 [FL,8,place,c32]:=⟨_,rfl⟩
 obtain ⟨z,hz⟩:∃ z,z=nIn y v 36608 36848:=⟨_,rfl⟩
 rw [← hM2,← hz] at HE
 rw [← hM2] at m0 m1 m2 m3
 have zip:z.ip=24576+16*v:=by rw [hz];rfl
 have z4:z.r 4=36848:=by rw [hz];rfl
 have z0:z.r 0=0:=by rw [hz];exact y0
 have zfl:z.fl=bits .andNot .u32 FL 16640:=by rw [hz];show flD (gG 36608 v).k y.fl=_;rw [yfl];rfl
 clear hM2 hz ew hL hvv hu0 hu1 hv0 hv1 flx yr ys1 HTb hp hF hcu
 have c9:=HX3.out.c (k:=9) rfl
 have c8:=HX3.out.c (k:=8) rfl
 have fz:=HX3.out.e.fz
 obtain ⟨W5,hW5⟩:∃ W,W=(w3.setCell ⟨c.E,9,none⟩ (.int .u32 FL)).setCell ⟨c.E,8,none⟩ (.int .u32 place):=⟨_,rfl⟩
 have e5:=(HX3.out.e.set (k:=9) (by decide) (v:=.int .u32 FL) rfl).set (k:=8) (by decide) (v:=.int .u32 place) rfl
 rw [← hW5,ecs] at e5
 have HK5:Hid (Kp (fun j=>j=c.E) w3 W5):=by rw [hW5];exact (Kp.setCell (S:=fun j=>j=c.E) w3 (p:=⟨c.E,9,none⟩) rfl _).trans (Kp.setCell (S:=fun j=>j=c.E) _ (p:=⟨c.E,8,none⟩) rfl _)
 have x5:XAt W5 c 0 y M:=⟨e5,HX3.out.v.kp HK5.out (fun j hj e=>HX3.out.n (e ▸ (by rw [HX3.out.s] at hj;exact hj))),HX3.out.s,HX3.out.n,HYok.out⟩
 have HX5:Hid (XAt W5 c 0 y M):=x5
 have HW5:Hid (Kp noB w W5):=HK3.out.over HK5.out (fun j hj e=>by have:=HAL.out.1;omega)
 go_upto_region 13 with fail
 rw [← hW5]
 clear hW5 c9 c8 fz e5 x5 HK5 HX3 HK3 ecs ef0 ef1 ef2
 have hld:=HX5.out.e.get HV.out
 rw [← HCZ.out] at hld
 have pA0:PAt (W5.alloc (.cells Z T)) W5.heap.size Z:=HV.out.at HV.out.wf W5
 have hst:=VlP.put pA0 HWF.out
 obtain ⟨A,hA⟩:∃ A,A=W5.heap.size:=⟨_,rfl⟩
 obtain ⟨W6,hW6⟩:∃ W,W=(W5.alloc (.cells Z T)).setRow A cz:=⟨_,rfl⟩
 have P6:PAt W6 A cz:=by rw [hW6,hA];exact pA0.put HWF.out
 have k6:Kp noB W5 W6:=by
  rw [hW6]
  exact (Kp.alloc noB W5 _).over (Kp.setRow (S:=fun j=>j=A) (W5.alloc (.cells Z T)) rfl cz) (fun j hj e=>by omega)
 have x6:=HX5.out.kp0 k6
 have HA6:Hid (c.E < A∧(∀ j,c.all j→j < A)):=⟨by rw [hA];exact HX5.out.lt,fun j hj=>by rw [hA];exact HX5.out.in_all hj⟩
 have HP6:Hid (PAt W6 A cz∧Kp noB w W6):=⟨P6,HW5.out.trans k6⟩
 have HE1:Hid _:=Enter_any W6 c 0 y M x6 v cod false (by decide)
 rw [HE.out] at HE1
 have HE3:Hid (Calls Tryz.prog 11 #[.pointer (some ⟨c.E,0,none⟩),.int .i64 v,.int .i64 cod,.bool false] W6 fun e w'=>e=.returned (.agg #[.int .i64 (-1),.int .i64 (-1),.int .u32 0])∧(∃ t,t≤0+40∧XAt w' c t z M2)∧Kp (fun j=>c.md j∨j=c.E) W6 w'):=HE1.out
 go_upto_region 14 with fail
 rw [← hA,← hW6]
 clear hA hW6 hst hld pA0 P6 k6 x6 HX5 HW5 HE1 HE
 go_wp2_with fail
 refine Calls.mono HE3.out ?_;rintro e w7 ⟨rfl,⟨t7,ht7,x7⟩,k7⟩
 have nE:∀ j,(c.md j∨j=c.E)→w.heap.size≤j∧j≠A:=fun j hj=>by
  rcases hj with e | e
  ·exact ⟨HAL.out.2 j (.inr e),by have:=HA6.out.2 j (.inr e);omega⟩
  ·have:=HAL.out.1;have:=HA6.out.1;exact ⟨by omega,by omega⟩
 obtain ⟨G,hG⟩:∃ G,G=w7.heap.size:=⟨_,rfl⟩
 obtain ⟨W8,hW8⟩:∃ W,W=w7.alloc (.cells #[.int .i64 (-1),.int .i64 (-1),.int .u32 0] 44):=⟨_,rfl⟩
 have r8:RowT W8 G ⟨-1,-1,0⟩:=by rw [hW8,hG];exact (MapKept.heap_alloc w7 _).1
 have k8:Kp noB w7 W8:=by rw [hW8];exact Kp.alloc _ _ _
 have HP8:Hid (PAt W8 A cz∧RowT W8 G ⟨-1,-1,0⟩∧XAt W8 c t7 z M2∧Kp noB w W8):=⟨(HP6.out.1.kp k7 (fun f=>(nE A f).2 rfl)).kp k8 id,r8,x7.kp0 k8,(HP6.out.2.over k7 (fun j hj e=>(by have:=(nE j e).1;omega))).trans k8⟩
 clear k7 k8 r8 x7 ht7 HP6 HE3 nE
 have p8:=HP8.out.1.cell (k:=8) (v:=.int .u32 place) (by rw [HCZ.out];unfold Cu.cs;rw [List.getElem?_toArray];show some (Value.int .u32 y.ip)=_;rw [yip])
 have p9:=HP8.out.1.cell (k:=9) (v:=.int .u32 FL) (by rw [HCZ.out];unfold Cu.cs;rw [List.getElem?_toArray];show some (Value.int .u32 y.fl)=_;rw [yfl])
 go_upto_region 15 with fail
 rw [← hG,← hW8]
 clear hG hW8
 go_upto_region 16 with fail
 obtain ⟨S,hS⟩:∃ S,S=W8.heap.size:=⟨_,rfl⟩
 obtain ⟨W9,hW9⟩:∃ W,W=W8.alloc (.cells #[.int .u32 place,.int .u32 8,.int .u32 FL] 22):=⟨_,rfl⟩
 have rS:W9.heap[S]?=some (.cells #[.int .u32 place,.int .u32 8,.int .u32 FL] 22 (0,0)):=by rw [hW9,hS];exact (MapKept.heap_alloc W8 _).1
 have k9:Kp noB W8 W9:=by rw [hW9];exact Kp.alloc _ _ _
 rw [← hS,← hW9]
 clear hW9 p8 p9
 obtain ⟨R,hR⟩:∃ R,R=W9.heap.size:=⟨_,rfl⟩
 obtain ⟨W10,hW10⟩:∃ W,W=W9.alloc (.cells #[.int .u32 c32] 22):=⟨_,rfl⟩
 have k10:Kp noB W9 W10:=by rw [hW10];exact Kp.alloc _ _ _
 have rS10:=(k10.block S (Array.getElem?_eq_some_iff.1 rS).1 id).trans rS
 have hOw:W10.ownsRow R 22 1 (.slice (some ⟨R,0,none⟩) 1 1) 1 [.int .u32 c32]:=⟨rfl,.inr ⟨R,1,_,rfl,Nat.le_refl _,by rw [hW10,hR];exact (MapKept.heap_alloc W9 _).1,by omega,by unfold maxLen;omega,rfl,rfl⟩⟩
 obtain ⟨v',W11,hr,ho',k11⟩:=appU R (by rw [hW10,hR,World.size_alloc];omega) hOw S place 8 FL rS10 (by omega)
 obtain ⟨g,cap,ev,hgb,hgl,q0,q1,q2,q3⟩:=four_in ho'
 have HK9:Hid (Kp noB W8 W11):=(k9.trans k10).over k11 (fun j hj e=>by have:=k9.size;omega)
 have HWd:Hid (∀ W,Kp noB W11 W→W.cell? ⟨g,0,none⟩=some (.int .u32 c32)∧W.cell? ⟨g,1,none⟩=some (.int .u32 place)∧W.cell? ⟨g,2,none⟩=some (.int .u32 8)∧W.cell? ⟨g,3,none⟩=some (.int .u32 FL)):=fun W k=>⟨cell_kp q0 k id,cell_kp q1 k id,cell_kp q2 k id,cell_kp q3 k id⟩
 rw [ev] at hr
 have HRun:Hid _:=hr
 clear hr ho' k11 k10 k9 rS10 rS hOw hgb hgl q0 q1 q2 q3 ev hS
 go_upto_region 17 with fail
 refine wp_region_list ?_
 rw [wpList,if_pos (by kernel_rfl)]
 left
 go_simp
 rw [wpList,if_pos (by kernel_rfl)]
 left
 go_simp
 rw [wpList,if_pos (by kernel_rfl)]
 left
 go_simp
 rw [← hR,← hW10]
 clear hR hW10
 rw [wpList,if_pos (by kernel_rfl)]
 left
 go_simp
 refine wpList_appW rfl rfl rfl rfl HRun.out ?_
 rw [wpList,if_pos (by kernel_rfl)]
 left
 go_simp
 have HP9:Hid (∀ W,Kp noB W11 W→PAt W A cz∧RowT W G ⟨-1,-1,0⟩∧XAt W c t7 z M2):=fun W k=>⟨(HP8.out.1.kp HK9.out id).kp k id,(HP8.out.2.1.kp HK9.out id).kp k id,(HP8.out.2.2.1.kp0 HK9.out).kp0 k⟩
 have HF9:Hid (Kp noB w W11):=HP8.out.2.2.2.trans HK9.out
 have HXs:Hid (∀ W,Kp noB W11 W→W.cell? ⟨c.E,83,none⟩=some (.pointer (some ⟨c.V,0,none⟩))∧W.cell? ⟨c.E,4,none⟩=some (.int .u32 36848)∧W.cell? ⟨c.V,0,none⟩=some (.pointer (some ⟨c.B+3,0,none⟩))∧RamAt W c.B M2):=fun W k=>by
  have x:=(HP9.out W k).2.2
  have c4:=x.c (k:=4) rfl
  rw [z4] at c4
  exact ⟨x.mp,c4,x.v.c0,x.v.ram⟩
 clear HP8 HK9
 have a0:=(HP9.out W11 (Kp.refl _ _)).2.1.c0
 obtain ⟨_,c4,_,_⟩:=HXs.out W11 (Kp.refl _ _)
 go_wp2_with fail
 clear a0 c4
 have HI:Hid (Kp noB W11 W11):=Kp.refl _ _
 refine wp_loop_rounds 6 ?_
 rw [rounds_succ]
 go_upto_region 23 with fail
 refine OrdFree.region_vals (τ:=Unit) (fun _=>[(.pointer (some ⟨c.E,0,none⟩)),(.pointer (some ⟨c.E,0,none⟩)),(.pointer (some ⟨c.E,83,none⟩)),(.pointer (some ⟨c.V,0,none⟩)),(.pointer (some ⟨c.B+3,0,none⟩)),(.pointer (some ⟨c.E,0,none⟩)),(.pointer (some ⟨c.E,0,none⟩)),(.pointer (some ⟨c.E,0,none⟩)),(.pointer (some ⟨c.E,0,none⟩)),(.pointer (some ⟨c.E,4,none⟩)),(.int .u32 36848),(.int .i64 0),(.int .i64 0),(.int .u32 0),(.int .u32 36848),(Value.tuple #[.int .u32 c32,.int .i64 0]),(Value.tuple #[.int .u32 c32,.int .i64 0]),(.int .u32 c32),(.int .i64 0),(.int .u32 c32),(.int .i64 0)]) (fun _ _ W=>Kp noB W11 W) () (by kernel_rfl) (by kernel_rfl) (by kernel_rfl) (by kernel_rfl) (fun _=>rfl) (fun t=>by simp only [OrdFree.puts,Act.put,List.setIfInBounds_toArray,List.set_cons_zero,List.set_cons_succ];rfl) HI.out.drew ?_ ?_
 ·refine ⟨?_,?_,?_,?_,?_,?_,?_,?_,?_,?_,?_,?_,?_,?_,?_,?_,?_,?_,?_,?_,?_,trivial⟩
  all_goals (intro t listed W hz hSh hl hI hb K hK hK0;change Kp noB W11 W at hI;obtain ⟨c83,c4,cV0,hram⟩:=HXs.out W hI)
  ·clear hram
   go_simp
   exact hK0 _ hI
  ·clear hram
   go_simp
   exact hK0 _ hI
  ·clear hram
   go_simp
   exact hK0 _ hI
  ·clear hram
   go_simp
   exact hK0 _ hI
  ·have hR:=vRam_ok W c.V c.B 0 cV0
   clear hram
   go_simp
   refine Calls.mono hR ?_;rintro e w' ⟨rfl,hw⟩;replace hw:=hw.symm;subst hw
   exact hK0 _ hI
  ·clear hram
   go_simp
   exact hK0 _ hI
  ·clear hram
   go_simp
   exact hK0 _ hI
  ·clear hram
   go_simp
   exact hK0 _ hI
  ·clear hram
   go_simp
   exact hK0 _ hI
  ·clear hram
   go_simp
   exact hK0 _ hI
  ·clear hram
   go_simp
   exact hK0 _ hI
  ·clear hram
   go_simp
   exact hK0 _ hI
  ·clear hram
   go_simp
   exact hK0 _ hI
  ·clear hram
   go_simp
   exact hK0 _ hI
  ·clear hram
   go_simp
   exact hK0 _ hI
  ·have hR:=read_ok W c.B M2 hram 36848 4 (by decide) (by decide) rfl
   rw [show ((4:Int).toNat)=4 from rfl,m0] at hR
   have HR:Hid _:=hR
   clear hram hR
   go_simp
   refine Calls.mono HR.out ?_;rintro e w' ⟨rfl,k⟩
   exact hK0 _ (hI.trans k)
  ·clear hram
   go_simp
   exact hK0 _ hI
  ·clear hram
   go_simp
   exact hK0 _ hI
  ·clear hram
   go_simp
   exact hK0 _ hI
  ·clear hram
   go_simp
   exact hK0 _ hI
  ·clear hram
   go_simp
   exact hK0 _ hI
 rename_i Kx hKx
 rintro t listed V0 hal hI
 clear HI hal
 have HI:Hid (Kp noB W11 V0):=hI
 clear hI
 refine hKx _ _ ?_
 obtain ⟨q0,q1,q2,q3⟩:=HWd.out V0 HI.out
 go_wp2_with fail
 clear q0 q1 q2 q3
 rw [rounds_succ]
 go_upto_region 23 with fail
 refine OrdFree.region_vals (τ:=Unit) (fun _=>[(.pointer (some ⟨c.E,0,none⟩)),(.pointer (some ⟨c.E,0,none⟩)),(.pointer (some ⟨c.E,83,none⟩)),(.pointer (some ⟨c.V,0,none⟩)),(.pointer (some ⟨c.B+3,0,none⟩)),(.pointer (some ⟨c.E,0,none⟩)),(.pointer (some ⟨c.E,0,none⟩)),(.pointer (some ⟨c.E,0,none⟩)),(.pointer (some ⟨c.E,0,none⟩)),(.pointer (some ⟨c.E,4,none⟩)),(.int .u32 36848),(.int .i64 1),(.int .i64 4),(.int .u32 4),(.int .u32 36852),(Value.tuple #[.int .u32 place,.int .i64 0]),(Value.tuple #[.int .u32 place,.int .i64 0]),(.int .u32 place),(.int .i64 0),(.int .u32 place),(.int .i64 0)]) (fun _ _ W=>Kp noB W11 W) () (by kernel_rfl) (by kernel_rfl) (by kernel_rfl) (by kernel_rfl) (fun _=>rfl) (fun t=>by simp only [OrdFree.puts,Act.put,List.setIfInBounds_toArray,List.set_cons_zero,List.set_cons_succ];rfl) HI.out.drew ?_ ?_
 ·refine ⟨?_,?_,?_,?_,?_,?_,?_,?_,?_,?_,?_,?_,?_,?_,?_,?_,?_,?_,?_,?_,?_,trivial⟩
  all_goals (intro t listed W hz hSh hl hI hb K hK hK0;change Kp noB W11 W at hI;obtain ⟨c83,c4,cV0,hram⟩:=HXs.out W hI)
  ·clear hram
   go_simp
   exact hK0 _ hI
  ·clear hram
   go_simp
   exact hK0 _ hI
  ·clear hram
   go_simp
   exact hK0 _ hI
  ·clear hram
   go_simp
   exact hK0 _ hI
  ·have hR:=vRam_ok W c.V c.B 0 cV0
   clear hram
   go_simp
   refine Calls.mono hR ?_;rintro e w' ⟨rfl,hw⟩;replace hw:=hw.symm;subst hw
   exact hK0 _ hI
  ·clear hram
   go_simp
   exact hK0 _ hI
  ·clear hram
   go_simp
   exact hK0 _ hI
  ·clear hram
   go_simp
   exact hK0 _ hI
  ·clear hram
   go_simp
   exact hK0 _ hI
  ·clear hram
   go_simp
   exact hK0 _ hI
  ·clear hram
   go_simp
   exact hK0 _ hI
  ·clear hram
   go_simp
   exact hK0 _ hI
  ·clear hram
   go_simp
   exact hK0 _ hI
  ·clear hram
   go_simp
   exact hK0 _ hI
  ·clear hram
   go_simp
   exact hK0 _ hI
  ·have hR:=read_ok W c.B M2 hram 36852 4 (by decide) (by decide) rfl
   rw [show ((4:Int).toNat)=4 from rfl,m1] at hR
   have HR:Hid _:=hR
   clear hram hR
   go_simp
   refine Calls.mono HR.out ?_;rintro e w' ⟨rfl,k⟩
   exact hK0 _ (hI.trans k)
  ·clear hram
   go_simp
   exact hK0 _ hI
  ·clear hram
   go_simp
   exact hK0 _ hI
  ·clear hram
   go_simp
   exact hK0 _ hI
  ·clear hram
   go_simp
   exact hK0 _ hI
  ·clear hram
   go_simp
   exact hK0 _ hI
 rename_i Kx hKx
 rintro t listed V1 hal hI
 clear HI hal
 have HI:Hid (Kp noB W11 V1):=hI
 clear hI
 refine hKx _ _ ?_
 obtain ⟨q0,q1,q2,q3⟩:=HWd.out V1 HI.out
 go_wp2_with fail
 clear q0 q1 q2 q3
 rw [rounds_succ]
 go_upto_region 23 with fail
 refine OrdFree.region_vals (τ:=Unit) (fun _=>[(.pointer (some ⟨c.E,0,none⟩)),(.pointer (some ⟨c.E,0,none⟩)),(.pointer (some ⟨c.E,83,none⟩)),(.pointer (some ⟨c.V,0,none⟩)),(.pointer (some ⟨c.B+3,0,none⟩)),(.pointer (some ⟨c.E,0,none⟩)),(.pointer (some ⟨c.E,0,none⟩)),(.pointer (some ⟨c.E,0,none⟩)),(.pointer (some ⟨c.E,0,none⟩)),(.pointer (some ⟨c.E,4,none⟩)),(.int .u32 36848),(.int .i64 2),(.int .i64 8),(.int .u32 8),(.int .u32 36856),(Value.tuple #[.int .u32 8,.int .i64 0]),(Value.tuple #[.int .u32 8,.int .i64 0]),(.int .u32 8),(.int .i64 0),(.int .u32 8),(.int .i64 0)]) (fun _ _ W=>Kp noB W11 W) () (by kernel_rfl) (by kernel_rfl) (by kernel_rfl) (by kernel_rfl) (fun _=>rfl) (fun t=>by simp only [OrdFree.puts,Act.put,List.setIfInBounds_toArray,List.set_cons_zero,List.set_cons_succ];rfl) HI.out.drew ?_ ?_
 ·refine ⟨?_,?_,?_,?_,?_,?_,?_,?_,?_,?_,?_,?_,?_,?_,?_,?_,?_,?_,?_,?_,?_,trivial⟩
  all_goals (intro t listed W hz hSh hl hI hb K hK hK0;change Kp noB W11 W at hI;obtain ⟨c83,c4,cV0,hram⟩:=HXs.out W hI)
  ·clear hram
   go_simp
   exact hK0 _ hI
  ·clear hram
   go_simp
   exact hK0 _ hI
  ·clear hram
   go_simp
   exact hK0 _ hI
  ·clear hram
   go_simp
   exact hK0 _ hI
  ·have hR:=vRam_ok W c.V c.B 0 cV0
   clear hram
   go_simp
   refine Calls.mono hR ?_;rintro e w' ⟨rfl,hw⟩;replace hw:=hw.symm;subst hw
   exact hK0 _ hI
  ·clear hram
   go_simp
   exact hK0 _ hI
  ·clear hram
   go_simp
   exact hK0 _ hI
  ·clear hram
   go_simp
   exact hK0 _ hI
  ·clear hram
   go_simp
   exact hK0 _ hI
  ·clear hram
   go_simp
   exact hK0 _ hI
  ·clear hram
   go_simp
   exact hK0 _ hI
  ·clear hram
   go_simp
   exact hK0 _ hI
  ·clear hram
   go_simp
   exact hK0 _ hI
  ·clear hram
   go_simp
   exact hK0 _ hI
  ·clear hram
   go_simp
   exact hK0 _ hI
  ·have hR:=read_ok W c.B M2 hram 36856 4 (by decide) (by decide) rfl
   rw [show ((4:Int).toNat)=4 from rfl,m2] at hR
   have HR:Hid _:=hR
   clear hram hR
   go_simp
   refine Calls.mono HR.out ?_;rintro e w' ⟨rfl,k⟩
   exact hK0 _ (hI.trans k)
  ·clear hram
   go_simp
   exact hK0 _ hI
  ·clear hram
   go_simp
   exact hK0 _ hI
  ·clear hram
   go_simp
   exact hK0 _ hI
  ·clear hram
   go_simp
   exact hK0 _ hI
  ·clear hram
   go_simp
   exact hK0 _ hI
 rename_i Kx hKx
 rintro t listed V2 hal hI
 clear HI hal
 have HI:Hid (Kp noB W11 V2):=hI
 clear hI
 refine hKx _ _ ?_
 obtain ⟨q0,q1,q2,q3⟩:=HWd.out V2 HI.out
 go_wp2_with fail
 clear q0 q1 q2 q3
 rw [rounds_succ]
 go_upto_region 23 with fail
 refine OrdFree.region_vals (τ:=Unit) (fun _=>[(.pointer (some ⟨c.E,0,none⟩)),(.pointer (some ⟨c.E,0,none⟩)),(.pointer (some ⟨c.E,83,none⟩)),(.pointer (some ⟨c.V,0,none⟩)),(.pointer (some ⟨c.B+3,0,none⟩)),(.pointer (some ⟨c.E,0,none⟩)),(.pointer (some ⟨c.E,0,none⟩)),(.pointer (some ⟨c.E,0,none⟩)),(.pointer (some ⟨c.E,0,none⟩)),(.pointer (some ⟨c.E,4,none⟩)),(.int .u32 36848),(.int .i64 3),(.int .i64 12),(.int .u32 12),(.int .u32 36860),(Value.tuple #[.int .u32 FL,.int .i64 0]),(Value.tuple #[.int .u32 FL,.int .i64 0]),(.int .u32 FL),(.int .i64 0),(.int .u32 FL),(.int .i64 0)]) (fun _ _ W=>Kp noB W11 W) () (by kernel_rfl) (by kernel_rfl) (by kernel_rfl) (by kernel_rfl) (fun _=>rfl) (fun t=>by simp only [OrdFree.puts,Act.put,List.setIfInBounds_toArray,List.set_cons_zero,List.set_cons_succ];rfl) HI.out.drew ?_ ?_
 ·refine ⟨?_,?_,?_,?_,?_,?_,?_,?_,?_,?_,?_,?_,?_,?_,?_,?_,?_,?_,?_,?_,?_,trivial⟩
  all_goals (intro t listed W hz hSh hl hI hb K hK hK0;change Kp noB W11 W at hI;obtain ⟨c83,c4,cV0,hram⟩:=HXs.out W hI)
  ·clear hram
   go_simp
   exact hK0 _ hI
  ·clear hram
   go_simp
   exact hK0 _ hI
  ·clear hram
   go_simp
   exact hK0 _ hI
  ·clear hram
   go_simp
   exact hK0 _ hI
  ·have hR:=vRam_ok W c.V c.B 0 cV0
   clear hram
   go_simp
   refine Calls.mono hR ?_;rintro e w' ⟨rfl,hw⟩;replace hw:=hw.symm;subst hw
   exact hK0 _ hI
  ·clear hram
   go_simp
   exact hK0 _ hI
  ·clear hram
   go_simp
   exact hK0 _ hI
  ·clear hram
   go_simp
   exact hK0 _ hI
  ·clear hram
   go_simp
   exact hK0 _ hI
  ·clear hram
   go_simp
   exact hK0 _ hI
  ·clear hram
   go_simp
   exact hK0 _ hI
  ·clear hram
   go_simp
   exact hK0 _ hI
  ·clear hram
   go_simp
   exact hK0 _ hI
  ·clear hram
   go_simp
   exact hK0 _ hI
  ·clear hram
   go_simp
   exact hK0 _ hI
  ·have hR:=read_ok W c.B M2 hram 36860 4 (by decide) (by decide) rfl
   rw [show ((4:Int).toNat)=4 from rfl,m3] at hR
   have HR:Hid _:=hR
   clear hram hR
   go_simp
   refine Calls.mono HR.out ?_;rintro e w' ⟨rfl,k⟩
   exact hK0 _ (hI.trans k)
  ·clear hram
   go_simp
   exact hK0 _ hI
  ·clear hram
   go_simp
   exact hK0 _ hI
  ·clear hram
   go_simp
   exact hK0 _ hI
  ·clear hram
   go_simp
   exact hK0 _ hI
  ·clear hram
   go_simp
   exact hK0 _ hI
 rename_i Kx hKx
 rintro t listed V3 hal hI
 clear HI hal
 have HI:Hid (Kp noB W11 V3):=hI
 clear hI
 refine hKx _ _ ?_
 obtain ⟨q0,q1,q2,q3⟩:=HWd.out V3 HI.out
 go_wp2_with fail
 clear q0 q1 q2 q3
 rw [rounds_succ]
 have pz:∀ W,Kp noB W11 W→W.cell? ⟨A,9,none⟩=some (.int .u32 FL)∧W.cell? ⟨A,0,none⟩=some (.int .u32 0):=fun W k=>by
  have p:=(HP9.out W k).1
  rw [HCZ.out] at p
  have q9:=cu_pat' p 9 _ rfl
  have q0:=cu_pat' p 0 _ rfl
  rw [yfl] at q9
  rw [y0] at q0
  exact ⟨q9,q0⟩
 obtain ⟨p9,p0⟩:=pz V3 HI.out
 go_upto_region 29 with fail
 clear p9 p0
 have kd:Kp noB W11 V3.drew:=HI.out.drew
 obtain ⟨p9,p0⟩:=pz _ kd
 have x:=(HP9.out _ kd).2.2
 have q8:=x.c (k:=8) rfl
 have q9:=x.c (k:=9) rfl
 have q0:=x.c (k:=0) rfl
 rw [zip] at q8
 rw [zfl] at q9
 rw [z0] at q0
 have HFn:Hid (Kp noB w V3.drew):=HF9.out.trans kd
 clear x kd HI HP9 HXs HWd pz HF9
 go_region
 go_wp2
 go_ret
 exact ⟨rfl,kBelow HFn.out⟩
set_option maxHeartbeats 16000000 in
theorem push_pf (w:World) (hC:Cls w) (vec:Int) (hv:I64 vec) (cod:Int) (hcod:I64 cod) (hsg:0≤cod) (flags:Int) (hf:U32 flags) (place:Int) (hp:U32 place):Calls Tryz.prog 7 #[.int .i64 vec,.int .i64 cod,.bool false,.int .u32 flags,.int .u32 place] w fun e w'=>e=.returned (.bool true)∧Below w.heap.size w w':=by
 obtain ⟨T,nn,Z,hV⟩:=vlP
 obtain ⟨vl,vs,va,vb⟩:=hV.ops
 have g1':=hV.agg;have g2':=hV.size;have g3':=hV.zero
 obtain ⟨f1,hf1⟩:∃ f,f=flags%32768:=⟨_,rfl⟩
 have ef1:flags%32768=f1:=hf1.symm
 have ef0:flags.tmod 32768=f1:=by rw [Int.tmod_eq_emod_of_nonneg hf.1];exact hf1.symm
 have bf1:0≤f1∧f1 < 32768:=by unfold U32 at hf;omega
 obtain ⟨FL,hFL⟩:∃ F,F=bits .or .u32 f1 2:=⟨_,rfl⟩
 have ef2:bits .or .u32 f1 2=FL:=hFL.symm
 have hF:U32 FL:=by
  rw [hFL]
  exact or_bd (a:=f1) (b:=2) bf1.1 (by omega) (by decide) (by decide)
 clear hf1 hFL hf bf1
 have dc:decide (0≤cod)=true:=by simpa using hsg
 have dc':decide (cod ≥ 0)=true:=by simpa using hsg
 obtain ⟨c32,hc32⟩:∃ c,c=cod%4294967296:=⟨_,rfl⟩
 have ec:IntKind.u32.wrap cod=c32:=by rw [IntKind.wrap_u32,hc32]
 have ec':cod%4294967296=c32:=hc32.symm
 have hcu:U32 c32:=by rw [hc32];unfold U32;omega
 have HC32:Hid (c32=cod%4294967296):=hc32
 clear hc32
 obtain ⟨y,hy⟩:∃ y:Cu,y=psX stX0 place FL:=⟨_,rfl⟩
 have hyok:y.Ok:=by rw [hy];exact { stX0_ok with ip:=hp,fl:=hF }
 have ecs:(stX0.cs.setIfInBounds 9 (.int .u32 FL)).setIfInBounds 8 (.int .u32 place)=y.cs:=by rw [hy];kernel_rfl
 have flx:FlX y:=by
  rw [hy]
  exact ⟨flX_0.pg,rfl,rfl,rfl,rfl,rfl,rfl,flX_0.ss,flX_0.cs⟩
 have yr:y.rg=0:=by rw [hy];rfl
 have y4:y.r 4=36864:=by rw [hy];rfl
 have yip:y.ip=place:=by rw [hy];rfl
 have yfl:y.fl=FL:=by rw [hy];rfl
 have ys1:(y.sg 1).sel=8:=by rw [hy];rfl
 have y0:y.r 0=0:=by rw [hy];rfl
 have HYok:Hid y.Ok:=hyok
 clear hy
 obtain ⟨cz,hcz⟩:∃ q,q=y.cs:=⟨_,rfl⟩
 have HWF:Hid (WfC cz):=by rw [hcz];exact cu_wf _
 have hsz:cz.size=nn:=by rw [HWF.out.s,hV.s]
 have HCZ:Hid (cz=y.cs):=hcz
 have HA:Hid _:=awake18 w hC
 have HV:Hid _:=hV
 obtain ⟨hu0,hu1⟩:=absI_bd hv
 unfold I64 at hv
 clear hV hC hcz hyok
 go_enter Tryz.func7,Tryz.ntmps7
 simp only [vl,vs,va]
 go_wp2_with fail
 refine Calls.mono HA.out ?_;rintro e w1 ⟨rfl,k1⟩
 have HK1:Hid (Kp noB w w1):=k1
 clear k1 HA
 have HS:Hid _:=started0 w1 36352 (by unfold U32;decide)
 go_wp2_with fail
 refine Calls.mono HS.out ?_;rintro e w3 ⟨E,V,Kb,Lc,L',rfl,hst⟩
 obtain ⟨hx,hE,hall,kU⟩:=start_at stX0_ok (stM_same 36352).2 hst
 have k3:=Bs.noRm kU
 obtain ⟨M,hM⟩:∃ M,M=stM 36352:=⟨_,rfl⟩
 obtain ⟨c,hc⟩:∃ c:Ev,c=⟨E,V,Kb,Lc.M,8,(stM 36352).n,Lc.B⟩:=⟨_,rfl⟩
 have ecE:E=c.E:=by rw [hc]
 have HTb:Hid (Tb 36352 M):=by rw [hM];exact tb_st (by unfold U32;decide)
 rw [← hc] at hx hall
 rw [← hM] at hx
 rw [ecE] at hE ⊢
 have HX3:Hid (XAt w3 c 0 stX0 M):=hx
 have HK3:Hid (Kp noB w w3):=HK1.out.trans k3
 have HAL:Hid (w.heap.size≤c.E∧∀ j,c.all j→w.heap.size≤j):=⟨by have:=HK1.out.size;omega,fun j hj=>by have:=HK1.out.size;have:=hall j hj;omega⟩
 clear hst hc hM kU k3 hx hE hall ecE HS HK1
 go_upto_if 32 with fail
 go_cut [0] from 21 (fun s0 wq=>s0=.int .i64 (absI vec)∧wq=w3)
 case first=>
  by_cases hn:vec < 0
  ·have hw1:IntKind.i64.wrap (vec+1)=vec+1:=by rw [IntKind.wrap_i64];omega
   have hw2:IntKind.i64.wrap (-(vec+1))=-(vec+1):=by rw [IntKind.wrap_i64];omega
   have HN:Hid _:=hn
   go_wp2
   go_meet
   case rel=>exact ⟨by unfold absI;rw [if_pos HN.out],rfl⟩
  ·have HN:Hid _:=hn
   go_wp2
   go_meet
   case rel=>exact ⟨by unfold absI;rw [if_neg HN.out],rfl⟩
 case rest=>
 obtain ⟨rfl,hwc⟩:=hcut
 replace hwc:=hwc.symm
 subst hwc
 generalize absI vec=u at *
 clear hv
 obtain ⟨v,hvv⟩:∃ v,v=u.tmod 64:=⟨_,rfl⟩
 have hv0:0≤v:=by rw [hvv];exact Int.tmod_nonneg _ hu0
 have hv1:v < 64:=by rw [hvv,Int.tmod_eq_emod_of_nonneg hu0];omega
 have e64:u.tmod 64=v:=hvv.symm
 have b1:IntKind.i64.wrap (16*v)=16*v:=by rw [IntKind.wrap_i64];omega
 have b2:IntKind.i64.wrap (24576+16*v)=24576+16*v:=by rw [IntKind.wrap_i64];omega
 have b3:IntKind.u32.wrap (24576+16*v)=24576+16*v:=by rw [IntKind.wrap_u32];omega
 have ew:wordsO y false cod=[FL,8,place,c32]:=by
  unfold wordsO
  rw [ys1,yfl,yip,HC32.out]
  simp [hsg]
 have HE:Hid (enterO M y v cod false=.ok (layK M 36864 [FL,8,place,c32]) (nIn y v 36352 36848)):=by
  have q:=enter_in (kind:=36352) HTb.out flx (by unfold Kg;decide) yr hv0 hv1 cod false y4 (by decide) (by decide)
  rw [ew,show ((36864:Int) - 4*(([FL,8,place,c32]:List Int).length:Int))=36848 by simp] at q
  exact q
 have hL:∀ x ∈ [FL,8,place,c32],U32 x:=by
  intro x hx
  simp only [List.mem_cons,List.not_mem_nil,or_false] at hx
  rcases hx with rfl | rfl | rfl | rfl
  ·exact hF
  ·exact ⟨by decide,by decide⟩
  ·exact hp
  ·exact hcu
 have m0:(layK M 36864 [FL,8,place,c32]).read 36848 4=c32:=by
  rw [read_wd _ (by decide) (by decide)]
  exact layK_at [FL,8,place,c32] HTb.out.pn hL (by simp) (by decide) 3 _ rfl
 have m1:(layK M 36864 [FL,8,place,c32]).read 36852 4=place:=by
  rw [read_wd _ (by decide) (by decide)]
  exact layK_at [FL,8,place,c32] HTb.out.pn hL (by simp) (by decide) 2 _ rfl
 have m2:(layK M 36864 [FL,8,place,c32]).read 36856 4=8:=by
  rw [read_wd _ (by decide) (by decide)]
  exact layK_at [FL,8,place,c32] HTb.out.pn hL (by simp) (by decide) 1 _ rfl
 have m3:(layK M 36864 [FL,8,place,c32]).read 36860 4=FL:=by
  rw [read_wd _ (by decide) (by decide)]
  exact layK_at [FL,8,place,c32] HTb.out.pn hL (by simp) (by decide) 0 _ rfl
 obtain ⟨M2,hM2⟩:∃ m,m=layK M 36864 [FL,8,place,c32]:=⟨_,rfl⟩
 obtain ⟨z,hz⟩:∃ z,z=nIn y v 36352 36848:=⟨_,rfl⟩
 rw [← hM2,← hz] at HE
 rw [← hM2] at m0 m1 m2 m3
 have zip:z.ip=24576+16*v:=by rw [hz];rfl
 have z4:z.r 4=36848:=by rw [hz];rfl
 have z0:z.r 0=0:=by rw [hz];exact y0
 have zfl:z.fl=bits .andNot .u32 (bits .andNot .u32 FL 16640) 512:=by rw [hz];show flD (gG 36352 v).k y.fl=_;rw [yfl];rfl
 clear hM2 hz ew hL hvv hu0 hu1 hv0 hv1 flx yr ys1 HTb hp hF hcu
 have c9:=HX3.out.c (k:=9) rfl
 have c8:=HX3.out.c (k:=8) rfl
 have fz:=HX3.out.e.fz
 obtain ⟨W5,hW5⟩:∃ W,W=(w3.setCell ⟨c.E,9,none⟩ (.int .u32 FL)).setCell ⟨c.E,8,none⟩ (.int .u32 place):=⟨_,rfl⟩
 have e5:=(HX3.out.e.set (k:=9) (by decide) (v:=.int .u32 FL) rfl).set (k:=8) (by decide) (v:=.int .u32 place) rfl
 rw [← hW5,ecs] at e5
 have HK5:Hid (Kp (fun j=>j=c.E) w3 W5):=by rw [hW5];exact (Kp.setCell (S:=fun j=>j=c.E) w3 (p:=⟨c.E,9,none⟩) rfl _).trans (Kp.setCell (S:=fun j=>j=c.E) _ (p:=⟨c.E,8,none⟩) rfl _)
 have x5:XAt W5 c 0 y M:=⟨e5,HX3.out.v.kp HK5.out (fun j hj e=>HX3.out.n (e ▸ (by rw [HX3.out.s] at hj;exact hj))),HX3.out.s,HX3.out.n,HYok.out⟩
 have HX5:Hid (XAt W5 c 0 y M):=x5
 have HW5:Hid (Kp noB w W5):=HK3.out.over HK5.out (fun j hj e=>by have:=HAL.out.1;omega)
 go_upto_region 13 with fail
 rw [← hW5]
 clear hW5 c9 c8 fz e5 x5 HK5 HX3 HK3 ecs ef0 ef1 ef2
 have hld:=HX5.out.e.get HV.out
 rw [← HCZ.out] at hld
 have pA0:PAt (W5.alloc (.cells Z T)) W5.heap.size Z:=HV.out.at HV.out.wf W5
 have hst:=VlP.put pA0 HWF.out
 obtain ⟨A,hA⟩:∃ A,A=W5.heap.size:=⟨_,rfl⟩
 obtain ⟨W6,hW6⟩:∃ W,W=(W5.alloc (.cells Z T)).setRow A cz:=⟨_,rfl⟩
 have P6:PAt W6 A cz:=by rw [hW6,hA];exact pA0.put HWF.out
 have k6:Kp noB W5 W6:=by
  rw [hW6]
  exact (Kp.alloc noB W5 _).over (Kp.setRow (S:=fun j=>j=A) (W5.alloc (.cells Z T)) rfl cz) (fun j hj e=>by omega)
 have x6:=HX5.out.kp0 k6
 have HA6:Hid (c.E < A∧(∀ j,c.all j→j < A)):=⟨by rw [hA];exact HX5.out.lt,fun j hj=>by rw [hA];exact HX5.out.in_all hj⟩
 have HP6:Hid (PAt W6 A cz∧Kp noB w W6):=⟨P6,HW5.out.trans k6⟩
 have HE1:Hid _:=Enter_any W6 c 0 y M x6 v cod false (by decide)
 rw [HE.out] at HE1
 have HE3:Hid (Calls Tryz.prog 11 #[.pointer (some ⟨c.E,0,none⟩),.int .i64 v,.int .i64 cod,.bool false] W6 fun e w'=>e=.returned (.agg #[.int .i64 (-1),.int .i64 (-1),.int .u32 0])∧(∃ t,t≤0+40∧XAt w' c t z M2)∧Kp (fun j=>c.md j∨j=c.E) W6 w'):=HE1.out
 go_upto_region 14 with fail
 rw [← hA,← hW6]
 clear hA hW6 hst hld pA0 P6 k6 x6 HX5 HW5 HE1 HE
 go_wp2_with fail
 refine Calls.mono HE3.out ?_;rintro e w7 ⟨rfl,⟨t7,ht7,x7⟩,k7⟩
 have nE:∀ j,(c.md j∨j=c.E)→w.heap.size≤j∧j≠A:=fun j hj=>by
  rcases hj with e | e
  ·exact ⟨HAL.out.2 j (.inr e),by have:=HA6.out.2 j (.inr e);omega⟩
  ·have:=HAL.out.1;have:=HA6.out.1;exact ⟨by omega,by omega⟩
 obtain ⟨G,hG⟩:∃ G,G=w7.heap.size:=⟨_,rfl⟩
 obtain ⟨W8,hW8⟩:∃ W,W=w7.alloc (.cells #[.int .i64 (-1),.int .i64 (-1),.int .u32 0] 44):=⟨_,rfl⟩
 have r8:RowT W8 G ⟨-1,-1,0⟩:=by rw [hW8,hG];exact (MapKept.heap_alloc w7 _).1
 have k8:Kp noB w7 W8:=by rw [hW8];exact Kp.alloc _ _ _
 have HP8:Hid (PAt W8 A cz∧RowT W8 G ⟨-1,-1,0⟩∧XAt W8 c t7 z M2∧Kp noB w W8):=⟨(HP6.out.1.kp k7 (fun f=>(nE A f).2 rfl)).kp k8 id,r8,x7.kp0 k8,(HP6.out.2.over k7 (fun j hj e=>(by have:=(nE j e).1;omega))).trans k8⟩
 clear k7 k8 r8 x7 ht7 HP6 HE3 nE
 have p8:=HP8.out.1.cell (k:=8) (v:=.int .u32 place) (by rw [HCZ.out];unfold Cu.cs;rw [List.getElem?_toArray];show some (Value.int .u32 y.ip)=_;rw [yip])
 have p9:=HP8.out.1.cell (k:=9) (v:=.int .u32 FL) (by rw [HCZ.out];unfold Cu.cs;rw [List.getElem?_toArray];show some (Value.int .u32 y.fl)=_;rw [yfl])
 go_upto_region 15 with fail
 rw [← hG,← hW8]
 clear hG hW8
 go_upto_region 16 with fail
 obtain ⟨S,hS⟩:∃ S,S=W8.heap.size:=⟨_,rfl⟩
 obtain ⟨W9,hW9⟩:∃ W,W=W8.alloc (.cells #[.int .u32 place,.int .u32 8,.int .u32 FL] 22):=⟨_,rfl⟩
 have rS:W9.heap[S]?=some (.cells #[.int .u32 place,.int .u32 8,.int .u32 FL] 22 (0,0)):=by rw [hW9,hS];exact (MapKept.heap_alloc W8 _).1
 have k9:Kp noB W8 W9:=by rw [hW9];exact Kp.alloc _ _ _
 rw [← hS,← hW9]
 clear hW9 p8 p9
 obtain ⟨R,hR⟩:∃ R,R=W9.heap.size:=⟨_,rfl⟩
 obtain ⟨W10,hW10⟩:∃ W,W=W9.alloc (.cells #[.int .u32 c32] 22):=⟨_,rfl⟩
 have k10:Kp noB W9 W10:=by rw [hW10];exact Kp.alloc _ _ _
 have rS10:=(k10.block S (Array.getElem?_eq_some_iff.1 rS).1 id).trans rS
 have hOw:W10.ownsRow R 22 1 (.slice (some ⟨R,0,none⟩) 1 1) 1 [.int .u32 c32]:=⟨rfl,.inr ⟨R,1,_,rfl,Nat.le_refl _,by rw [hW10,hR];exact (MapKept.heap_alloc W9 _).1,by omega,by unfold maxLen;omega,rfl,rfl⟩⟩
 obtain ⟨v',W11,hr,ho',k11⟩:=appU R (by rw [hW10,hR,World.size_alloc];omega) hOw S place 8 FL rS10 (by omega)
 obtain ⟨g,cap,ev,hgb,hgl,q0,q1,q2,q3⟩:=four_in ho'
 have HK9:Hid (Kp noB W8 W11):=(k9.trans k10).over k11 (fun j hj e=>by have:=k9.size;omega)
 have HWd:Hid (∀ W,Kp noB W11 W→W.cell? ⟨g,0,none⟩=some (.int .u32 c32)∧W.cell? ⟨g,1,none⟩=some (.int .u32 place)∧W.cell? ⟨g,2,none⟩=some (.int .u32 8)∧W.cell? ⟨g,3,none⟩=some (.int .u32 FL)):=fun W k=>⟨cell_kp q0 k id,cell_kp q1 k id,cell_kp q2 k id,cell_kp q3 k id⟩
 rw [ev] at hr
 have HRun:Hid _:=hr
 clear hr ho' k11 k10 k9 rS10 rS hOw hgb hgl q0 q1 q2 q3 ev hS
 go_upto_region 17 with fail
 refine wp_region_list ?_
 rw [wpList,if_pos (by kernel_rfl)]
 left
 go_simp
 rw [wpList,if_pos (by kernel_rfl)]
 left
 go_simp
 rw [wpList,if_pos (by kernel_rfl)]
 left
 go_simp
 rw [← hR,← hW10]
 clear hR hW10
 rw [wpList,if_pos (by kernel_rfl)]
 left
 go_simp
 refine wpList_appW rfl rfl rfl rfl HRun.out ?_
 rw [wpList,if_pos (by kernel_rfl)]
 left
 go_simp
 have HP9:Hid (∀ W,Kp noB W11 W→PAt W A cz∧RowT W G ⟨-1,-1,0⟩∧XAt W c t7 z M2):=fun W k=>⟨(HP8.out.1.kp HK9.out id).kp k id,(HP8.out.2.1.kp HK9.out id).kp k id,(HP8.out.2.2.1.kp0 HK9.out).kp0 k⟩
 have HF9:Hid (Kp noB w W11):=HP8.out.2.2.2.trans HK9.out
 have HXs:Hid (∀ W,Kp noB W11 W→W.cell? ⟨c.E,83,none⟩=some (.pointer (some ⟨c.V,0,none⟩))∧W.cell? ⟨c.E,4,none⟩=some (.int .u32 36848)∧W.cell? ⟨c.V,0,none⟩=some (.pointer (some ⟨c.B+3,0,none⟩))∧RamAt W c.B M2):=fun W k=>by
  have x:=(HP9.out W k).2.2
  have c4:=x.c (k:=4) rfl
  rw [z4] at c4
  exact ⟨x.mp,c4,x.v.c0,x.v.ram⟩
 clear HP8 HK9
 have a0:=(HP9.out W11 (Kp.refl _ _)).2.1.c0
 obtain ⟨_,c4,_,_⟩:=HXs.out W11 (Kp.refl _ _)
 go_wp2_with fail
 clear a0 c4
 have HI:Hid (Kp noB W11 W11):=Kp.refl _ _
 refine wp_loop_rounds 6 ?_
 rw [rounds_succ]
 go_upto_region 23 with fail
 refine OrdFree.region_vals (τ:=Unit) (fun _=>[(.pointer (some ⟨c.E,0,none⟩)),(.pointer (some ⟨c.E,0,none⟩)),(.pointer (some ⟨c.E,83,none⟩)),(.pointer (some ⟨c.V,0,none⟩)),(.pointer (some ⟨c.B+3,0,none⟩)),(.pointer (some ⟨c.E,0,none⟩)),(.pointer (some ⟨c.E,0,none⟩)),(.pointer (some ⟨c.E,0,none⟩)),(.pointer (some ⟨c.E,0,none⟩)),(.pointer (some ⟨c.E,4,none⟩)),(.int .u32 36848),(.int .i64 0),(.int .i64 0),(.int .u32 0),(.int .u32 36848),(Value.tuple #[.int .u32 c32,.int .i64 0]),(Value.tuple #[.int .u32 c32,.int .i64 0]),(.int .u32 c32),(.int .i64 0),(.int .u32 c32),(.int .i64 0)]) (fun _ _ W=>Kp noB W11 W) () (by kernel_rfl) (by kernel_rfl) (by kernel_rfl) (by kernel_rfl) (fun _=>rfl) (fun t=>by simp only [OrdFree.puts,Act.put,List.setIfInBounds_toArray,List.set_cons_zero,List.set_cons_succ];rfl) HI.out.drew ?_ ?_
 ·refine ⟨?_,?_,?_,?_,?_,?_,?_,?_,?_,?_,?_,?_,?_,?_,?_,?_,?_,?_,?_,?_,?_,trivial⟩
  all_goals (intro t listed W hz hSh hl hI hb K hK hK0;change Kp noB W11 W at hI;obtain ⟨c83,c4,cV0,hram⟩:=HXs.out W hI)
  ·clear hram
   go_simp
   exact hK0 _ hI
  ·clear hram
   go_simp
   exact hK0 _ hI
  ·clear hram
   go_simp
   exact hK0 _ hI
  ·clear hram
   go_simp
   exact hK0 _ hI
  ·have hR:=vRam_ok W c.V c.B 0 cV0
   clear hram
   go_simp
   refine Calls.mono hR ?_;rintro e w' ⟨rfl,hw⟩;replace hw:=hw.symm;subst hw
   exact hK0 _ hI
  ·clear hram
   go_simp
   exact hK0 _ hI
  ·clear hram
   go_simp
   exact hK0 _ hI
  ·clear hram
   go_simp
   exact hK0 _ hI
  ·clear hram
   go_simp
   exact hK0 _ hI
  ·clear hram
   go_simp
   exact hK0 _ hI
  ·clear hram
   go_simp
   exact hK0 _ hI
  ·clear hram
   go_simp
   exact hK0 _ hI
  ·clear hram
   go_simp
   exact hK0 _ hI
  ·clear hram
   go_simp
   exact hK0 _ hI
  ·clear hram
   go_simp
   exact hK0 _ hI
  ·have hR:=read_ok W c.B M2 hram 36848 4 (by decide) (by decide) rfl
   rw [show ((4:Int).toNat)=4 from rfl,m0] at hR
   have HR:Hid _:=hR
   clear hram hR
   go_simp
   refine Calls.mono HR.out ?_;rintro e w' ⟨rfl,k⟩
   exact hK0 _ (hI.trans k)
  ·clear hram
   go_simp
   exact hK0 _ hI
  ·clear hram
   go_simp
   exact hK0 _ hI
  ·clear hram
   go_simp
   exact hK0 _ hI
  ·clear hram
   go_simp
   exact hK0 _ hI
  ·clear hram
   go_simp
   exact hK0 _ hI
 rename_i Kx hKx
 rintro t listed V0 hal hI
 clear HI hal
 have HI:Hid (Kp noB W11 V0):=hI
 clear hI
 refine hKx _ _ ?_
 obtain ⟨q0,q1,q2,q3⟩:=HWd.out V0 HI.out
 go_wp2_with fail
 clear q0 q1 q2 q3
 rw [rounds_succ]
 go_upto_region 23 with fail
 refine OrdFree.region_vals (τ:=Unit) (fun _=>[(.pointer (some ⟨c.E,0,none⟩)),(.pointer (some ⟨c.E,0,none⟩)),(.pointer (some ⟨c.E,83,none⟩)),(.pointer (some ⟨c.V,0,none⟩)),(.pointer (some ⟨c.B+3,0,none⟩)),(.pointer (some ⟨c.E,0,none⟩)),(.pointer (some ⟨c.E,0,none⟩)),(.pointer (some ⟨c.E,0,none⟩)),(.pointer (some ⟨c.E,0,none⟩)),(.pointer (some ⟨c.E,4,none⟩)),(.int .u32 36848),(.int .i64 1),(.int .i64 4),(.int .u32 4),(.int .u32 36852),(Value.tuple #[.int .u32 place,.int .i64 0]),(Value.tuple #[.int .u32 place,.int .i64 0]),(.int .u32 place),(.int .i64 0),(.int .u32 place),(.int .i64 0)]) (fun _ _ W=>Kp noB W11 W) () (by kernel_rfl) (by kernel_rfl) (by kernel_rfl) (by kernel_rfl) (fun _=>rfl) (fun t=>by simp only [OrdFree.puts,Act.put,List.setIfInBounds_toArray,List.set_cons_zero,List.set_cons_succ];rfl) HI.out.drew ?_ ?_
 ·refine ⟨?_,?_,?_,?_,?_,?_,?_,?_,?_,?_,?_,?_,?_,?_,?_,?_,?_,?_,?_,?_,?_,trivial⟩
  all_goals (intro t listed W hz hSh hl hI hb K hK hK0;change Kp noB W11 W at hI;obtain ⟨c83,c4,cV0,hram⟩:=HXs.out W hI)
  ·clear hram
   go_simp
   exact hK0 _ hI
  ·clear hram
   go_simp
   exact hK0 _ hI
  ·clear hram
   go_simp
   exact hK0 _ hI
  ·clear hram
   go_simp
   exact hK0 _ hI
  ·have hR:=vRam_ok W c.V c.B 0 cV0
   clear hram
   go_simp
   refine Calls.mono hR ?_;rintro e w' ⟨rfl,hw⟩;replace hw:=hw.symm;subst hw
   exact hK0 _ hI
  ·clear hram
   go_simp
   exact hK0 _ hI
  ·clear hram
   go_simp
   exact hK0 _ hI
  ·clear hram
   go_simp
   exact hK0 _ hI
  ·clear hram
   go_simp
   exact hK0 _ hI
  ·clear hram
   go_simp
   exact hK0 _ hI
  ·clear hram
   go_simp
   exact hK0 _ hI
  ·clear hram
   go_simp
   exact hK0 _ hI
  ·clear hram
   go_simp
   exact hK0 _ hI
  ·clear hram
   go_simp
   exact hK0 _ hI
  ·clear hram
   go_simp
   exact hK0 _ hI
  ·have hR:=read_ok W c.B M2 hram 36852 4 (by decide) (by decide) rfl
   rw [show ((4:Int).toNat)=4 from rfl,m1] at hR
   have HR:Hid _:=hR
   clear hram hR
   go_simp
   refine Calls.mono HR.out ?_;rintro e w' ⟨rfl,k⟩
   exact hK0 _ (hI.trans k)
  ·clear hram
   go_simp
   exact hK0 _ hI
  ·clear hram
   go_simp
   exact hK0 _ hI
  ·clear hram
   go_simp
   exact hK0 _ hI
  ·clear hram
   go_simp
   exact hK0 _ hI
  ·clear hram
   go_simp
   exact hK0 _ hI
 rename_i Kx hKx
 rintro t listed V1 hal hI
 clear HI hal
 have HI:Hid (Kp noB W11 V1):=hI
 clear hI
 refine hKx _ _ ?_
 obtain ⟨q0,q1,q2,q3⟩:=HWd.out V1 HI.out
 go_wp2_with fail
 clear q0 q1 q2 q3
 rw [rounds_succ]
 go_upto_region 23 with fail
 refine OrdFree.region_vals (τ:=Unit) (fun _=>[(.pointer (some ⟨c.E,0,none⟩)),(.pointer (some ⟨c.E,0,none⟩)),(.pointer (some ⟨c.E,83,none⟩)),(.pointer (some ⟨c.V,0,none⟩)),(.pointer (some ⟨c.B+3,0,none⟩)),(.pointer (some ⟨c.E,0,none⟩)),(.pointer (some ⟨c.E,0,none⟩)),(.pointer (some ⟨c.E,0,none⟩)),(.pointer (some ⟨c.E,0,none⟩)),(.pointer (some ⟨c.E,4,none⟩)),(.int .u32 36848),(.int .i64 2),(.int .i64 8),(.int .u32 8),(.int .u32 36856),(Value.tuple #[.int .u32 8,.int .i64 0]),(Value.tuple #[.int .u32 8,.int .i64 0]),(.int .u32 8),(.int .i64 0),(.int .u32 8),(.int .i64 0)]) (fun _ _ W=>Kp noB W11 W) () (by kernel_rfl) (by kernel_rfl) (by kernel_rfl) (by kernel_rfl) (fun _=>rfl) (fun t=>by simp only [OrdFree.puts,Act.put,List.setIfInBounds_toArray,List.set_cons_zero,List.set_cons_succ];rfl) HI.out.drew ?_ ?_
 ·refine ⟨?_,?_,?_,?_,?_,?_,?_,?_,?_,?_,?_,?_,?_,?_,?_,?_,?_,?_,?_,?_,?_,trivial⟩
  all_goals (intro t listed W hz hSh hl hI hb K hK hK0;change Kp noB W11 W at hI;obtain ⟨c83,c4,cV0,hram⟩:=HXs.out W hI)
  ·clear hram
   go_simp
   exact hK0 _ hI
  ·clear hram
   go_simp
   exact hK0 _ hI
  ·clear hram
   go_simp
   exact hK0 _ hI
  ·clear hram
   go_simp
   exact hK0 _ hI
  ·have hR:=vRam_ok W c.V c.B 0 cV0
   clear hram
   go_simp
   refine Calls.mono hR ?_;rintro e w' ⟨rfl,hw⟩;replace hw:=hw.symm;subst hw
   exact hK0 _ hI
  ·clear hram
   go_simp
   exact hK0 _ hI
  ·clear hram
   go_simp
   exact hK0 _ hI
  ·clear hram
   go_simp
   exact hK0 _ hI
  ·clear hram
   go_simp
   exact hK0 _ hI
  ·clear hram
   go_simp
   exact hK0 _ hI
  ·clear hram
   go_simp
   exact hK0 _ hI
  ·clear hram
   go_simp
   exact hK0 _ hI
  ·clear hram
   go_simp
   exact hK0 _ hI
  ·clear hram
   go_simp
   exact hK0 _ hI
  ·clear hram
   go_simp
   exact hK0 _ hI
  ·have hR:=read_ok W c.B M2 hram 36856 4 (by decide) (by decide) rfl
   rw [show ((4:Int).toNat)=4 from rfl,m2] at hR
   have HR:Hid _:=hR
   clear hram hR
   go_simp
   refine Calls.mono HR.out ?_;rintro e w' ⟨rfl,k⟩
   exact hK0 _ (hI.trans k)
  ·clear hram
   go_simp
   exact hK0 _ hI
  ·clear hram
   go_simp
   exact hK0 _ hI
  ·clear hram
   go_simp
   exact hK0 _ hI
  ·clear hram
   go_simp
   exact hK0 _ hI
  ·clear hram
   go_simp
   exact hK0 _ hI
 rename_i Kx hKx
 rintro t listed V2 hal hI
 clear HI hal
 have HI:Hid (Kp noB W11 V2):=hI
 clear hI
 refine hKx _ _ ?_
 obtain ⟨q0,q1,q2,q3⟩:=HWd.out V2 HI.out
 go_wp2_with fail
 clear q0 q1 q2 q3
 rw [rounds_succ]
 go_upto_region 23 with fail
 refine OrdFree.region_vals (τ:=Unit) (fun _=>[(.pointer (some ⟨c.E,0,none⟩)),(.pointer (some ⟨c.E,0,none⟩)),(.pointer (some ⟨c.E,83,none⟩)),(.pointer (some ⟨c.V,0,none⟩)),(.pointer (some ⟨c.B+3,0,none⟩)),(.pointer (some ⟨c.E,0,none⟩)),(.pointer (some ⟨c.E,0,none⟩)),(.pointer (some ⟨c.E,0,none⟩)),(.pointer (some ⟨c.E,0,none⟩)),(.pointer (some ⟨c.E,4,none⟩)),(.int .u32 36848),(.int .i64 3),(.int .i64 12),(.int .u32 12),(.int .u32 36860),(Value.tuple #[.int .u32 FL,.int .i64 0]),(Value.tuple #[.int .u32 FL,.int .i64 0]),(.int .u32 FL),(.int .i64 0),(.int .u32 FL),(.int .i64 0)]) (fun _ _ W=>Kp noB W11 W) () (by kernel_rfl) (by kernel_rfl) (by kernel_rfl) (by kernel_rfl) (fun _=>rfl) (fun t=>by simp only [OrdFree.puts,Act.put,List.setIfInBounds_toArray,List.set_cons_zero,List.set_cons_succ];rfl) HI.out.drew ?_ ?_
 ·refine ⟨?_,?_,?_,?_,?_,?_,?_,?_,?_,?_,?_,?_,?_,?_,?_,?_,?_,?_,?_,?_,?_,trivial⟩
  all_goals (intro t listed W hz hSh hl hI hb K hK hK0;change Kp noB W11 W at hI;obtain ⟨c83,c4,cV0,hram⟩:=HXs.out W hI)
  ·clear hram
   go_simp
   exact hK0 _ hI
  ·clear hram
   go_simp
   exact hK0 _ hI
  ·clear hram
   go_simp
   exact hK0 _ hI
  ·clear hram
   go_simp
   exact hK0 _ hI
  ·have hR:=vRam_ok W c.V c.B 0 cV0
   clear hram
   go_simp
   refine Calls.mono hR ?_;rintro e w' ⟨rfl,hw⟩;replace hw:=hw.symm;subst hw
   exact hK0 _ hI
  ·clear hram
   go_simp
   exact hK0 _ hI
  ·clear hram
   go_simp
   exact hK0 _ hI
  ·clear hram
   go_simp
   exact hK0 _ hI
  ·clear hram
   go_simp
   exact hK0 _ hI
  ·clear hram
   go_simp
   exact hK0 _ hI
  ·clear hram
   go_simp
   exact hK0 _ hI
  ·clear hram
   go_simp
   exact hK0 _ hI
  ·clear hram
   go_simp
   exact hK0 _ hI
  ·clear hram
   go_simp
   exact hK0 _ hI
  ·clear hram
   go_simp
   exact hK0 _ hI
  ·have hR:=read_ok W c.B M2 hram 36860 4 (by decide) (by decide) rfl
   rw [show ((4:Int).toNat)=4 from rfl,m3] at hR
   have HR:Hid _:=hR
   clear hram hR
   go_simp
   refine Calls.mono HR.out ?_;rintro e w' ⟨rfl,k⟩
   exact hK0 _ (hI.trans k)
  ·clear hram
   go_simp
   exact hK0 _ hI
  ·clear hram
   go_simp
   exact hK0 _ hI
  ·clear hram
   go_simp
   exact hK0 _ hI
  ·clear hram
   go_simp
   exact hK0 _ hI
  ·clear hram
   go_simp
   exact hK0 _ hI
 rename_i Kx hKx
 rintro t listed V3 hal hI
 clear HI hal
 have HI:Hid (Kp noB W11 V3):=hI
 clear hI
 refine hKx _ _ ?_
 obtain ⟨q0,q1,q2,q3⟩:=HWd.out V3 HI.out
 go_wp2_with fail
 clear q0 q1 q2 q3
 rw [rounds_succ]
 have pz:∀ W,Kp noB W11 W→W.cell? ⟨A,9,none⟩=some (.int .u32 FL)∧W.cell? ⟨A,0,none⟩=some (.int .u32 0):=fun W k=>by
  have p:=(HP9.out W k).1
  rw [HCZ.out] at p
  have q9:=cu_pat' p 9 _ rfl
  have q0:=cu_pat' p 0 _ rfl
  rw [yfl] at q9
  rw [y0] at q0
  exact ⟨q9,q0⟩
 obtain ⟨p9,p0⟩:=pz V3 HI.out
 go_upto_region 29 with fail
 clear p9 p0
 have kd:Kp noB W11 V3.drew:=HI.out.drew
 obtain ⟨p9,p0⟩:=pz _ kd
 have x:=(HP9.out _ kd).2.2
 have q8:=x.c (k:=8) rfl
 have q9:=x.c (k:=9) rfl
 have q0:=x.c (k:=0) rfl
 rw [zip] at q8
 rw [zfl] at q9
 rw [z0] at q0
 have HFn:Hid (Kp noB w V3.drew):=HF9.out.trans kd
 clear x kd HI HP9 HXs HWd pz HF9
 go_region
 go_wp2
 go_ret
 exact ⟨rfl,kBelow HFn.out⟩
theorem ExceptPushes_walk (w:World) (hC:Cls w) (vec:Int) (hv:I64 vec) (cod:Int) (hc:I64 cod) (trap:Bool) (flags:Int) (hf:U32 flags) (place:Int) (hp:U32 place):Calls Tryz.prog 7 #[.int .i64 vec,.int .i64 cod,.bool trap,.int .u32 flags,.int .u32 place] w fun e w'=>e=.returned (.bool true)∧Below w.heap.size w w':=by
 rcases Int.lt_or_le cod 0 with h | h<;>cases trap
 ·exact push_nf w hC vec hv cod hc h flags hf place hp
 ·exact push_nt w hC vec hv cod hc h flags hf place hp
 ·exact push_pf w hC vec hv cod hc h flags hf place hp
 ·exact push_pt w hC vec hv cod hc h flags hf place hp
end Go.Proofs.YtacgmoikegcopaaGreatDoor.Rm
