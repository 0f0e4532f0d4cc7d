/- ExceptBack: what was delivered and ended is undone. -/
import Derived.Test.YtacgmoikegcopaaGreatDoorEc35
import Derived.Test.YtacgmoikegcopaaGreatDoorXcStart3NP
import Derived.Test.YtacgmoikegcopaaGreatDoorXcBackFP
import Derived.Test.YtacgmoikegcopaaGreatDoorXcEqNP
import Derived.Deep.Cut
namespace Go.Proofs.YtacgmoikegcopaaGreatDoor.Rm
open Go.ChangeShapes Go.WideShapes Go.ChangeAt Go.RowKit Go.Maps
set_option linter.unusedVariables false
set_option maxRecDepth 20000
def rgF (g0 g1 g2 g3 g4 g5 g6 g7:Int) (i:Nat):Int:=match i with | 0=>g0 | 1=>g1 | 2=>g2 | 3=>g3 | 4=>g4 | 5=>g5 | 6=>g6 | 7=>g7 | _=>0
def bkX (x:Cu) (r:Nat→Int) (ip fl:Int):Cu:={ x with r:=r,ip:=ip,fl:=fl }
set_option maxHeartbeats 16000000 in
theorem back_ot (w:World) (hC:Cls w) (vec:Int) (hv:I64 vec) (g0 g1 g2 g3 g4 g5 g6 g7:Int) (hg:U32 g0∧U32 g1∧U32 g2∧U32 g3∧U32 g4∧U32 g5∧U32 g6∧U32 g7) (flags:Int) (hf:U32 flags) (place:Int) (hp:U32 place):Calls Tryz.prog 4 #[.int .i64 vec,.bool true,.bool true,.agg #[.int .u32 g0,.int .u32 g1,.int .u32 g2,.int .u32 g3,.int .u32 g4,.int .u32 g5,.int .u32 g6,.int .u32 g7],.int .u32 flags,.int .u32 place] w fun e w'=>e=.returned (.bool true)∧Below w.heap.size w w':=by
 obtain ⟨T,nn,Z,hV⟩:=vlP
 obtain ⟨vl,vs,va,vb⟩:=hV.ops
 have vq:∀ x y,Op.binOp .eql 33 x y 33=Op.binOp .eql T x y T:=by rw [hV.t];exact fun _ _=>rfl
 have g1':=hV.agg;have g2':=hV.size;have g3':=hV.zero
 have gQ:Tryz.prog.eqGuardType Tryz.prog.depth T=false:=by rw [hV.t];kernel_rfl
 obtain ⟨n,hn⟩:∃ n:Nat,n=(flags%32768).toNat:=⟨_,rfl⟩
 have hn2:n < 32768:=by unfold U32 at hf;omega
 have hb:=fb_all n
 obtain ⟨FL,hFL⟩:∃ F,F=flBo n:=⟨_,rfl⟩
 have hF:0≤FL∧FL < 4096∧FL / 2%2=1:=by rw [hFL];exact hb.2
 have en:(flags%32768)=(n:Int):=by unfold U32 at hf;omega
 have en':flags.tmod 32768=(n:Int):=by rw [Int.tmod_eq_emod_of_nonneg hf.1];exact en
 have ea:=and12 n hn2
 obtain ⟨n12,hn12⟩:∃ m:Int,m=((n%4096:Nat):Int):=⟨_,rfl⟩
 rw [← hn12] at ea
 obtain ⟨nI,hnI⟩:∃ m:Int,m=(n:Int):=⟨_,rfl⟩
 rw [← hnI] at ea en en'
 obtain ⟨f0,hf0⟩:∃ f,f=flB n:=⟨_,rfl⟩
 have ef0:bits .or .u32 n12 2=f0:=by rw [hn12,hf0];rfl
 have ef1:bits .or .u32 f0 512=FL:=by rw [hFL,hf0];rfl
 have HEA:Hid (flags%32768=nI∧flags.tmod 32768=nI∧bits .andNot .u32 nI 28672=n12∧bits .or .u32 n12 2=f0∧bits .or .u32 f0 512=FL):=⟨en,en',ea,ef0,ef1⟩
 clear hb hn2 hf0 hFL hn12 hn hnI en en' ea ef0 ef1
 obtain ⟨y,hy⟩:∃ y:Cu,y=bkX stX3 (rgF g0 g1 g2 g3 36864 g5 g6 g7) place FL:=⟨_,rfl⟩
 have hyok:y.Ok:=by
  rw [hy]
  refine { stX3_ok with r:=fun i hi=>?_,ip:=hp,fl:=(⟨hF.1,by omega⟩:U32 FL) }
  obtain ⟨a0,a1,a2,a3,a4,a5,a6,a7⟩:=hg
  match i,hi with
  | 0,_=>exact a0
  | 1,_=>exact a1
  | 2,_=>exact a2
  | 3,_=>exact a3
  | 4,_=>exact (⟨by decide,by decide⟩:U32 36864)
  | 5,_=>exact a5
  | 6,_=>exact a6
  | 7,_=>exact a7
  | n+8,hi=>omega
 have ecs:(((((((((((stX3.cs.setIfInBounds 0 (.int .u32 g0)).setIfInBounds 1 (.int .u32 g1)).setIfInBounds 2 (.int .u32 g2)).setIfInBounds 3 (.int .u32 g3)).setIfInBounds 4 (.int .u32 g4)).setIfInBounds 5 (.int .u32 g5)).setIfInBounds 6 (.int .u32 g6)).setIfInBounds 7 (.int .u32 g7)).setIfInBounds 4 (.int .u32 36864)).setIfInBounds 8 (.int .u32 place)).setIfInBounds 9 (.int .u32 FL))=y.cs:=by rw [hy];kernel_rfl
 have ecs0:(((((((((((stX3.cs.setIfInBounds 0 (.int .u32 g0)).setIfInBounds 1 (.int .u32 g1)).setIfInBounds 2 (.int .u32 g2)).setIfInBounds 3 (.int .u32 g3)).setIfInBounds 4 (.int .u32 g4)).setIfInBounds 5 (.int .u32 g5)).setIfInBounds 6 (.int .u32 g6)).setIfInBounds 7 (.int .u32 g7)).setIfInBounds 4 (.int .u32 36864)).setIfInBounds 8 (.int .u32 place)).setIfInBounds 9 (.int .u32 f0)).setIfInBounds 9 (.int .u32 FL)=y.cs:=by rw [hy];kernel_rfl
 have flx:FlX y:=by
  rw [hy]
  exact ⟨flX_3.pg,rfl,rfl,rfl,rfl,rfl,rfl,flX_3.ss,flX_3.cs⟩
 have yr:y.rg=3:=by rw [hy];rfl
 have y4:y.r 4=36864:=by rw [hy];rfl
 have yip:y.ip=place:=by rw [hy];rfl
 have yfl:y.fl=FL:=by rw [hy];rfl
 have ysh:y.sh=false:=by rw [hy];rfl
 have yha:y.ha=false:=by rw [hy];rfl
 have ys1:y.sg 1=codD3.sg 27:=by rw [hy];rfl
 have ys2:y.sg 2=datD3.sg 35:=by rw [hy];rfl
 have ysd:∀ j,j=0∨j=3∨j=4∨j=5→(y.sg j).d=3:=by rw [hy];rintro j (e | e | e | e)<;>(rw [e];rfl)
 have HYok:Hid y.Ok:=hyok
 have HECS:Hid (Unit→_):=fun _=>ecs0
 have HYY:Hid (FlX y∧y.rg=3∧y.r 4=36864∧y.ip=place∧y.fl=FL∧y.sh=false∧y.ha=false∧(y.sg 1=codD3.sg 27∧y.sg 2=datD3.sg 35∧∀ j,j=0∨j=3∨j=4∨j=5→(y.sg j).d=3)):=⟨flx,yr,y4,yip,yfl,ysh,yha,ys1,ys2,ysd⟩
 clear flx yr y4 yip yfl ysh yha ys1 ys2 ysd ecs0 ecs
 clear hy hg
 obtain ⟨cz,hcz⟩:∃ q,q=y.cs:=⟨_,rfl⟩
 have HQ:Hid (∀ w,(Op.equalIn 10000 T (.agg cz) (.agg cz)).run Tryz.prog w=.ok true w):=by rw [hV.t,hcz];exact cu_equal hyok.toBd
 have HWF:Hid (WfC cz):=by rw [hcz];exact cu_wf _
 have hsz:cz.size=nn:=by rw [HWF.out.s,hV.s]
 have HCZ:Hid (cz=y.cs):=hcz
 obtain ⟨X,hX⟩:∃ X,w.heap.size=X:=⟨_,rfl⟩
 obtain ⟨W0,hW0⟩:∃ W,W=w.alloc (.cells #[.int .u32 g0,.int .u32 g1,.int .u32 g2,.int .u32 g3,.int .u32 g4,.int .u32 g5,.int .u32 g6,.int .u32 g7] 23):=⟨_,rfl⟩
 have k0:Kp noB w W0:=by rw [hW0];exact Kp.alloc noB w _
 have r0:W0.heap[X]?=some (.cells #[.int .u32 g0,.int .u32 g1,.int .u32 g2,.int .u32 g3,.int .u32 g4,.int .u32 g5,.int .u32 g6,.int .u32 g7] 23 (0,0)):=by rw [hW0,← hX];exact (MapKept.heap_alloc w _).1
 have HA:Hid _:=awake18 W0 (hC.kp0 k0)
 have HV:Hid _:=hV
 have HK0:Hid (Kp noB w W0):=k0
 have HR0:Hid (Unit→_):=fun _=>r0
 have HXs:Hid (w.heap.size=X):=hX
 obtain ⟨hu0,hu1⟩:=absI_bd hv
 unfold I64 at hv
 clear hV hC hcz k0 r0 hyok
 go_enter Tryz.func4,Tryz.ntmps4
 simp only [vl,vs,va,vq]
 go_wp2_with fail
 rw [← hW0]
 clear hW0 hX
 refine Calls.mono HA.out ?_;rintro e w1 ⟨rfl,k1⟩
 have HK1:Hid (Kp noB w w1):=HK0.out.trans k1
 have HR1:Hid (Unit→w1.heap[X]?=some (.cells #[.int .u32 g0,.int .u32 g1,.int .u32 g2,.int .u32 g3,.int .u32 g4,.int .u32 g5,.int .u32 g6,.int .u32 g7] 23 (0,0))):=fun _=>(k1.block X (Array.getElem?_eq_some_iff.1 (HR0.out ())).1 id).trans (HR0.out ())
 clear k1 HA HK0 HR0
 have HS:Hid _:=started3 w1 61184 (by unfold U32;decide)
 go_wp2_with fail
 refine Calls.mono HS.out ?_;rintro e w3 ⟨E,V,Kb,L,L',rfl,hst⟩
 obtain ⟨hx,hE,hall,kU⟩:=start_at stX3_ok (stM_same 61184).2 hst
 have k3:=Bs.noRm kU
 obtain ⟨M,hM⟩:∃ M,M=stM 61184:=⟨_,rfl⟩
 obtain ⟨c,hc⟩:∃ c:Ev,c=⟨E,V,Kb,L.M,8,(stM 61184).n,L.B⟩:=⟨_,rfl⟩
 have ecE:E=c.E:=by rw [hc]
 have HTb:Hid (Tb 61184 M):=by rw [hM];exact tb_st (by unfold U32;decide)
 rw [← hc] at hx hall
 rw [← hM] at hx
 rw [ecE] at hE ⊢
 have HX3:Hid (XAt w3 c 0 stX3 M):=hx
 have HK3:Hid (Kp noB w w3):=HK1.out.trans k3
 have HAL:Hid (w.heap.size≤c.E∧(∀ j,c.all j→w.heap.size≤j)∧X < c.E∧X < w3.heap.size):=⟨by have:=HK1.out.size;omega,fun j hj=>by have:=HK1.out.size;have:=hall j hj;omega,by have:=(Array.getElem?_eq_some_iff.1 (HR1.out ())).1;omega,by have:=(Array.getElem?_eq_some_iff.1 (HR1.out ())).1;have:=k3.size;omega⟩
 have HR3:Hid (Unit→w3.heap[X]?=some (.cells #[.int .u32 g0,.int .u32 g1,.int .u32 g2,.int .u32 g3,.int .u32 g4,.int .u32 g5,.int .u32 g6,.int .u32 g7] 23 (0,0))):=fun _=>(k3.block X (Array.getElem?_eq_some_iff.1 (HR1.out ())).1 id).trans (HR1.out ())
 clear hst hc hM kU k3 hx hE hall ecE HS HK1 HR1
 go_upto_if 34 with fail
 go_cut [0] from 21 (fun s0 wq=>s0=.int .i64 (absI vec)∧wq=w3)
 case first=>
  by_cases hn:vec < 0
  ·have hw1:IntKind.i64.wrap (vec+1)=vec+1:=by rw [IntKind.wrap_i64];omega
   have hw2:IntKind.i64.wrap (-(vec+1))=-(vec+1):=by rw [IntKind.wrap_i64];omega
   have HN:Hid _:=hn
   go_wp2
   go_meet
   case rel=>exact ⟨by unfold absI;rw [if_pos HN.out],rfl⟩
  ·have HN:Hid _:=hn
   go_wp2
   go_meet
   case rel=>exact ⟨by unfold absI;rw [if_neg HN.out],rfl⟩
 case rest=>
 obtain ⟨rfl,hwc⟩:=hcut
 replace hwc:=hwc.symm
 subst hwc
 generalize absI vec=u at *
 clear hv
 obtain ⟨v,hvv⟩:∃ v,v=u.tmod 64:=⟨_,rfl⟩
 have hv0:0≤v:=by rw [hvv];exact Int.tmod_nonneg _ hu0
 have hv1:v < 64:=by rw [hvv,Int.tmod_eq_emod_of_nonneg hu0];omega
 have e64:u.tmod 64=v:=hvv.symm
 have b1:IntKind.i64.wrap (16*v)=16*v:=by rw [IntKind.wrap_i64];omega
 have b2:IntKind.i64.wrap (24576+16*v)=24576+16*v:=by rw [IntKind.wrap_i64];omega
 have b3:IntKind.u32.wrap (24576+16*v)=24576+16*v:=by rw [IntKind.wrap_u32];omega
 have b4:(24576+16*v)%4294967296=24576+16*v:=by omega
 obtain ⟨flx,yr,y4,yip,yfl,ysh,yha,ys1,ys2,ysd⟩:=HYY.out
 obtain ⟨so,hso⟩:∃ b,b=decide (u.tmod 2=0):=⟨_,rfl⟩
 have eso:decide (u.tmod 2=0)=so:=hso.symm
 have eso':(u.tmod 2==0)=so:=by rw [hso];rfl
 have HE:Hid (enterO M y v (-1) so=.ok (layK M 40704 (wordsO y true (-1))) (nOut y v 61184 (40704 - 4*((wordsO y true (-1)).length:Int)))):=enter_out (kind:=61184) HTb.out flx (by unfold Kg;decide) yr hv0 hv1 (-1) so (by unfold badG gG;cases so<;>simp)
 have ew:wordsO y true (-1)=[35,36864,y.fl,27,y.ip]:=by
  unfold wordsO
  rw [ys1,ys2,y4]
  rfl
 have HB:Hid _:=back_out (kind:=61184) (v:=v) HTb.out flx (by unfold Kg;decide) ys1 ys2 ysd y4 (by rw [yip];exact hp) (by rw [yfl];exact hF.1) (by rw [yfl];exact hF.2.1) (by rw [yfl];exact hF.2.2) ysh yha
 rw [ew,show ((40704:Int) - 4*(([35,36864,y.fl,27,y.ip]:List Int).length:Int))=40684 by simp] at HE
 obtain ⟨M2,hM2⟩:∃ m,m=layK M 40704 [35,36864,y.fl,27,y.ip]:=⟨_,rfl⟩
 obtain ⟨z,hz⟩:∃ z,z=nOut y v 61184 40684:=⟨_,rfl⟩
 have HE2:Hid (enterO M y v (-1) so=.ok M2 z):=by rw [hM2,hz];exact HE.out
 rw [← hM2,← hz] at HB
 have FF:=fl_all (k:=(gG 61184 v).k) (fl:=y.fl) (kG (by unfold Kg;decide) v) (by rw [yfl];exact hF.1) (by rw [yfl];exact hF.2.1) (by rw [yfl];exact hF.2.2)
 have zip:z.ip=24576+16*v:=by rw [hz];rfl
 have zcs:(z.sg 1).sel=8:=by rw [hz];rfl
 have zfl:z.fl=flD (gG 61184 v).k y.fl:=by rw [hz];rfl
 have ztf:bits .and .u32 z.fl 256=0:=by rw [zfl];exact FF.tf
 clear FF zfl hz hM2 HE ew hvv hu0 hu1 hv0 hv1 hso flx yr ys1 ys2 ysd ysh yha HTb hf hp y4 yip yfl
 have c4:=HX3.out.c (k:=4) rfl
 rw [show stX3.r 4=36864 from rfl] at c4
 go_upto_region 14 with fail
 clear c4
 have d0:w3.cell? ⟨X,0,none⟩=some (.int .u32 g0):=by rw [cell_at (HR3.out ())];rfl
 have d1:w3.cell? ⟨X,1,none⟩=some (.int .u32 g1):=by rw [cell_at (HR3.out ())];rfl
 have d2:w3.cell? ⟨X,2,none⟩=some (.int .u32 g2):=by rw [cell_at (HR3.out ())];rfl
 have d3:w3.cell? ⟨X,3,none⟩=some (.int .u32 g3):=by rw [cell_at (HR3.out ())];rfl
 have d4:w3.cell? ⟨X,4,none⟩=some (.int .u32 g4):=by rw [cell_at (HR3.out ())];rfl
 have d5:w3.cell? ⟨X,5,none⟩=some (.int .u32 g5):=by rw [cell_at (HR3.out ())];rfl
 have d6:w3.cell? ⟨X,6,none⟩=some (.int .u32 g6):=by rw [cell_at (HR3.out ())];rfl
 have d7:w3.cell? ⟨X,7,none⟩=some (.int .u32 g7):=by rw [cell_at (HR3.out ())];rfl
 have c0:=HX3.out.c (k:=0) rfl
 have c1:=HX3.out.c (k:=1) rfl
 have c2:=HX3.out.c (k:=2) rfl
 have c3:=HX3.out.c (k:=3) rfl
 have c4:=HX3.out.c (k:=4) rfl
 have c5:=HX3.out.c (k:=5) rfl
 have c6:=HX3.out.c (k:=6) rfl
 have c7:=HX3.out.c (k:=7) rfl
 have fz:=HX3.out.e.fz
 have c8:=HX3.out.c (k:=8) rfl
 have c9:=HX3.out.c (k:=9) rfl
 have kS:∀ (U:World) (o:Nat) (u:Value),Kp (fun j=>j=c.E) w3 U→Kp (fun j=>j=c.E) w3 (U.setCell ⟨c.E,o,none⟩ u):=fun U o u h=>h.trans (Kp.setCell (S:=fun j=>j=c.E) U (p:=⟨c.E,o,none⟩) rfl u)
 obtain ⟨W8,hW8⟩:∃ W,W=((((((((((((w3.setCell ⟨c.E,0,none⟩ (.int .u32 g0)).setCell ⟨c.E,1,none⟩ (.int .u32 g1)).setCell ⟨c.E,2,none⟩ (.int .u32 g2)).setCell ⟨c.E,3,none⟩ (.int .u32 g3)).setCell ⟨c.E,4,none⟩ (.int .u32 g4)).setCell ⟨c.E,5,none⟩ (.int .u32 g5)).setCell ⟨c.E,6,none⟩ (.int .u32 g6)).setCell ⟨c.E,7,none⟩ (.int .u32 g7)).setCell ⟨c.E,4,none⟩ (.int .u32 36864)).setCell ⟨c.E,8,none⟩ (.int .u32 place)).setCell ⟨c.E,9,none⟩ (.int .u32 f0)).setCell ⟨c.E,9,none⟩ (.int .u32 FL)):=⟨_,rfl⟩
 have e8:=((((((((((((HX3.out.e.set (k:=0) (by decide) (v:=.int .u32 g0) rfl).set (k:=1) (by decide) (v:=.int .u32 g1) rfl).set (k:=2) (by decide) (v:=.int .u32 g2) rfl).set (k:=3) (by decide) (v:=.int .u32 g3) rfl).set (k:=4) (by decide) (v:=.int .u32 g4) rfl).set (k:=5) (by decide) (v:=.int .u32 g5) rfl).set (k:=6) (by decide) (v:=.int .u32 g6) rfl).set (k:=7) (by decide) (v:=.int .u32 g7) rfl).set (k:=4) (by decide) (v:=.int .u32 36864) rfl).set (k:=8) (by decide) (v:=.int .u32 place) rfl).set (k:=9) (by decide) (v:=.int .u32 f0) rfl).set (k:=9) (by decide) (v:=.int .u32 FL) rfl)
 rw [← hW8] at e8
 rw [HECS.out ()] at e8
 have HK8:Hid (Kp (fun j=>j=c.E) w3 W8):=by rw [hW8];exact (kS _ _ _ (kS _ _ _ (kS _ _ _ (kS _ _ _ (kS _ _ _ (kS _ _ _ (kS _ _ _ (kS _ _ _ (kS _ _ _ (kS _ _ _ (kS _ _ _ (kS _ _ _ (Kp.refl _ _)))))))))))))
 have HE8:Hid _:=e8
 clear e8 kS
 obtain ⟨en,en',ea,ef0,ef1⟩:=HEA.out
 go_upto_region 20 with fail
 rw [← hW8]
 clear hW8 d0 d1 d2 d3 d4 d5 d6 d7 c0 c1 c2 c3 c4 c5 c6 c7 c8 c9 fz ef1 ef0 ea en en'
 have x8:XAt W8 c 0 y M:=⟨HE8.out,HX3.out.v.kp HK8.out (fun j hj e=>HX3.out.n (e ▸ (by rw [HX3.out.s] at hj;exact hj))),HX3.out.s,HX3.out.n,HYok.out⟩
 have HX8:Hid (XAt W8 c 0 y M):=x8
 have HW8:Hid (Kp noB w W8):=HK3.out.over HK8.out (fun j hj e=>by have:=HAL.out.1;omega)
 clear HE8 x8 HK8 HX3 HK3 HR3
 have hld:=HX8.out.e.get HV.out
 rw [← HCZ.out] at hld
 have pA0:PAt (W8.alloc (.cells Z T)) W8.heap.size Z:=HV.out.at HV.out.wf W8
 have hst:=VlP.put pA0 HWF.out
 obtain ⟨A,hA⟩:∃ A,A=W8.heap.size:=⟨_,rfl⟩
 obtain ⟨W9,hW9⟩:∃ W,W=(W8.alloc (.cells Z T)).setRow A cz:=⟨_,rfl⟩
 have P9:PAt W9 A cz:=by rw [hW9,hA];exact pA0.put HWF.out
 have k9:Kp noB W8 W9:=by
  rw [hW9]
  exact (Kp.alloc noB W8 _).over (Kp.setRow (S:=fun j=>j=A) (W8.alloc (.cells Z T)) rfl cz) (fun j hj e=>by omega)
 have x9:=HX8.out.kp0 k9
 have HA9:Hid (c.E < A∧(∀ j,c.all j→j < A)):=⟨by rw [hA];exact HX8.out.lt,fun j hj=>by rw [hA];exact HX8.out.in_all hj⟩
 have HP9:Hid (PAt W9 A cz∧Kp noB w W9):=⟨P9,HW8.out.trans k9⟩
 have HE1:Hid _:=Enter_any W9 c 0 y M x9 v (-1) so (by decide)
 rw [HE2.out] at HE1
 have HE3:Hid (Calls Tryz.prog 11 #[.pointer (some ⟨c.E,0,none⟩),.int .i64 v,.int .i64 (-1),.bool so] W9 fun e w'=>e=.returned (.agg #[.int .i64 (-1),.int .i64 (-1),.int .u32 0])∧(∃ t,t≤0+40∧XAt w' c t z M2)∧Kp (fun j=>c.md j∨j=c.E) W9 w'):=HE1.out
 go_upto_region 21 with fail
 rw [← hA,← hW9]
 clear hA hW9 hst hld pA0 P9 k9 x9 HX8 HW8 HE1 HE2
 go_wp2_with fail
 refine Calls.mono HE3.out ?_;rintro e w10 ⟨rfl,⟨t10,ht10,x10⟩,k10⟩
 have nE:∀ j,(c.md j∨j=c.E)→w.heap.size≤j∧j≠A:=fun j hj=>by
  rcases hj with e | e
  ·exact ⟨HAL.out.2.1 j (.inr e),by have:=HA9.out.2 j (.inr e);omega⟩
  ·have:=HAL.out.1;have:=HA9.out.1;exact ⟨by omega,by omega⟩
 obtain ⟨G,hG⟩:∃ G,G=w10.heap.size:=⟨_,rfl⟩
 obtain ⟨W11,hW11⟩:∃ W,W=w10.alloc (.cells #[.int .i64 (-1),.int .i64 (-1),.int .u32 0] 44):=⟨_,rfl⟩
 have r11:RowT W11 G ⟨-1,-1,0⟩:=by rw [hW11,hG];exact (MapKept.heap_alloc w10 _).1
 have k11:Kp noB w10 W11:=by rw [hW11];exact Kp.alloc _ _ _
 have x11:=x10.kp0 k11
 have HP11:Hid (PAt W11 A cz∧Kp noB w W11):=⟨(HP9.out.1.kp k10 (fun f=>(nE A f).2 rfl)).kp k11 id,(HP9.out.2.over k10 (fun j hj e=>(by have:=(nE j e).1;omega))).trans k11⟩
 have HN:Hid _:=nE
 have a0:=r11.c0
 have a8:=x11.c (k:=8) rfl
 have a9:=x11.c (k:=9) rfl
 have a19:=x11.c (k:=19) rfl
 rw [zip] at a8
 rw [zcs] at a19
 have HR:Hid _:=Return_any W11 c t10 z M2 x11 4 (by omega)
 rw [HB.out] at HR
 have HR2:Hid (Calls Tryz.prog 15 #[.pointer (some ⟨c.E,0,none⟩),.int .i64 4] W11 fun e w'=>e=.returned (.agg #[.int .i64 (-1),.int .i64 (-1),.int .u32 0])∧(∃ t,t≤t10+40∧XAt w' c t y M2)∧Kp (fun j=>c.md j∨j=c.E) W11 w'):=HR.out
 clear HR HB HE3 x10 k10 k11 x11 r11 HP9 ht10 nE
 go_upto_region 22 with fail
 rw [← hG,← hW11]
 clear hG hW11
 by_cases hif:bits .and .u32 z.fl 512=0
 ·have zif:=hif
  clear hif
  go_wp2_with fail
  refine Calls.mono HR2.out ?_;rintro e w12 ⟨rfl,⟨t12,ht12,x12⟩,k12⟩
  obtain ⟨H,hH⟩:∃ H,H=w12.heap.size:=⟨_,rfl⟩
  obtain ⟨W13,hW13⟩:∃ W,W=w12.alloc (.cells #[.int .i64 (-1),.int .i64 (-1),.int .u32 0] 44):=⟨_,rfl⟩
  have r13:RowT W13 H ⟨-1,-1,0⟩:=by rw [hW13,hH];exact (MapKept.heap_alloc w12 _).1
  have k13:Kp noB w12 W13:=by rw [hW13];exact Kp.alloc _ _ _
  have kd:Kp noB W13 W13.drew:=(Kp.refl noB W13).drew
  have P13:=((HP11.out.1.kp k12 (fun f=>(HN.out A f).2 rfl)).kp k13 id).kp kd id
  have HF13:Hid (Kp noB w W13.drew):=((HP11.out.2.over k12 (fun j hj e=>(by have:=(HN.out j e).1;omega))).trans k13).drew
  have q0:=(r13.kp kd id).c0
  have hl1:=((x12.kp0 k13).kp0 kd).e.get HV.out
  rw [← HCZ.out] at hl1
  have hl2:=HV.out.get P13
  have hq:=HQ.out
  clear k12 x12 r13 k13 kd P13 HP11 HR2 a0 a8 a9 a19 ht12
  go_upto_region 27 with fail
  rw [← hH,← hW13]
  clear hH hW13
  go_region
  go_wp2
  go_ret
  exact ⟨rfl,kBelow HF13.out⟩
 ·have zif:(bits .and .u32 z.fl 512 != 0)=true:=by simpa using hif
  go_wp2_with fail
  refine Calls.mono HR2.out ?_;rintro e w12 ⟨rfl,⟨t12,ht12,x12⟩,k12⟩
  obtain ⟨H,hH⟩:∃ H,H=w12.heap.size:=⟨_,rfl⟩
  obtain ⟨W13,hW13⟩:∃ W,W=w12.alloc (.cells #[.int .i64 (-1),.int .i64 (-1),.int .u32 0] 44):=⟨_,rfl⟩
  have r13:RowT W13 H ⟨-1,-1,0⟩:=by rw [hW13,hH];exact (MapKept.heap_alloc w12 _).1
  have k13:Kp noB w12 W13:=by rw [hW13];exact Kp.alloc _ _ _
  have kd:Kp noB W13 W13.drew:=(Kp.refl noB W13).drew
  have P13:=((HP11.out.1.kp k12 (fun f=>(HN.out A f).2 rfl)).kp k13 id).kp kd id
  have HF13:Hid (Kp noB w W13.drew):=((HP11.out.2.over k12 (fun j hj e=>(by have:=(HN.out j e).1;omega))).trans k13).drew
  have q0:=(r13.kp kd id).c0
  have hl1:=((x12.kp0 k13).kp0 kd).e.get HV.out
  rw [← HCZ.out] at hl1
  have hl2:=HV.out.get P13
  have hq:=HQ.out
  clear k12 x12 r13 k13 kd P13 HP11 HR2 a0 a8 a9 a19 ht12
  go_upto_region 27 with fail
  rw [← hH,← hW13]
  clear hH hW13
  go_region
  go_wp2
  go_ret
  exact ⟨rfl,kBelow HF13.out⟩
set_option maxHeartbeats 16000000 in
theorem back_of (w:World) (hC:Cls w) (vec:Int) (hv:I64 vec) (g0 g1 g2 g3 g4 g5 g6 g7:Int) (hg:U32 g0∧U32 g1∧U32 g2∧U32 g3∧U32 g4∧U32 g5∧U32 g6∧U32 g7) (flags:Int) (hf:U32 flags) (place:Int) (hp:U32 place):Calls Tryz.prog 4 #[.int .i64 vec,.bool true,.bool false,.agg #[.int .u32 g0,.int .u32 g1,.int .u32 g2,.int .u32 g3,.int .u32 g4,.int .u32 g5,.int .u32 g6,.int .u32 g7],.int .u32 flags,.int .u32 place] w fun e w'=>e=.returned (.bool true)∧Below w.heap.size w w':=by
 obtain ⟨T,nn,Z,hV⟩:=vlP
 obtain ⟨vl,vs,va,vb⟩:=hV.ops
 have vq:∀ x y,Op.binOp .eql 33 x y 33=Op.binOp .eql T x y T:=by rw [hV.t];exact fun _ _=>rfl
 have g1':=hV.agg;have g2':=hV.size;have g3':=hV.zero
 have gQ:Tryz.prog.eqGuardType Tryz.prog.depth T=false:=by rw [hV.t];kernel_rfl
 obtain ⟨n,hn⟩:∃ n:Nat,n=(flags%32768).toNat:=⟨_,rfl⟩
 have hn2:n < 32768:=by unfold U32 at hf;omega
 have hb:=fb_all n
 obtain ⟨FL,hFL⟩:∃ F,F=flBo n:=⟨_,rfl⟩
 have hF:0≤FL∧FL < 4096∧FL / 2%2=1:=by rw [hFL];exact hb.2
 have en:(flags%32768)=(n:Int):=by unfold U32 at hf;omega
 have en':flags.tmod 32768=(n:Int):=by rw [Int.tmod_eq_emod_of_nonneg hf.1];exact en
 have ea:=and12 n hn2
 obtain ⟨n12,hn12⟩:∃ m:Int,m=((n%4096:Nat):Int):=⟨_,rfl⟩
 rw [← hn12] at ea
 obtain ⟨nI,hnI⟩:∃ m:Int,m=(n:Int):=⟨_,rfl⟩
 rw [← hnI] at ea en en'
 obtain ⟨f0,hf0⟩:∃ f,f=flB n:=⟨_,rfl⟩
 have ef0:bits .or .u32 n12 2=f0:=by rw [hn12,hf0];rfl
 have ef1:bits .or .u32 f0 512=FL:=by rw [hFL,hf0];rfl
 have HEA:Hid (flags%32768=nI∧flags.tmod 32768=nI∧bits .andNot .u32 nI 28672=n12∧bits .or .u32 n12 2=f0∧bits .or .u32 f0 512=FL):=⟨en,en',ea,ef0,ef1⟩
 clear hb hn2 hf0 hFL hn12 hn hnI en en' ea ef0 ef1
 obtain ⟨y,hy⟩:∃ y:Cu,y=bkX stX3 (rgF g0 g1 g2 g3 36864 g5 g6 g7) place FL:=⟨_,rfl⟩
 have hyok:y.Ok:=by
  rw [hy]
  refine { stX3_ok with r:=fun i hi=>?_,ip:=hp,fl:=(⟨hF.1,by omega⟩:U32 FL) }
  obtain ⟨a0,a1,a2,a3,a4,a5,a6,a7⟩:=hg
  match i,hi with
  | 0,_=>exact a0
  | 1,_=>exact a1
  | 2,_=>exact a2
  | 3,_=>exact a3
  | 4,_=>exact (⟨by decide,by decide⟩:U32 36864)
  | 5,_=>exact a5
  | 6,_=>exact a6
  | 7,_=>exact a7
  | n+8,hi=>omega
 have ecs:(((((((((((stX3.cs.setIfInBounds 0 (.int .u32 g0)).setIfInBounds 1 (.int .u32 g1)).setIfInBounds 2 (.int .u32 g2)).setIfInBounds 3 (.int .u32 g3)).setIfInBounds 4 (.int .u32 g4)).setIfInBounds 5 (.int .u32 g5)).setIfInBounds 6 (.int .u32 g6)).setIfInBounds 7 (.int .u32 g7)).setIfInBounds 4 (.int .u32 36864)).setIfInBounds 8 (.int .u32 place)).setIfInBounds 9 (.int .u32 FL))=y.cs:=by rw [hy];kernel_rfl
 have ecs0:(((((((((((stX3.cs.setIfInBounds 0 (.int .u32 g0)).setIfInBounds 1 (.int .u32 g1)).setIfInBounds 2 (.int .u32 g2)).setIfInBounds 3 (.int .u32 g3)).setIfInBounds 4 (.int .u32 g4)).setIfInBounds 5 (.int .u32 g5)).setIfInBounds 6 (.int .u32 g6)).setIfInBounds 7 (.int .u32 g7)).setIfInBounds 4 (.int .u32 36864)).setIfInBounds 8 (.int .u32 place)).setIfInBounds 9 (.int .u32 f0)).setIfInBounds 9 (.int .u32 FL)=y.cs:=by rw [hy];kernel_rfl
 have flx:FlX y:=by
  rw [hy]
  exact ⟨flX_3.pg,rfl,rfl,rfl,rfl,rfl,rfl,flX_3.ss,flX_3.cs⟩
 have yr:y.rg=3:=by rw [hy];rfl
 have y4:y.r 4=36864:=by rw [hy];rfl
 have yip:y.ip=place:=by rw [hy];rfl
 have yfl:y.fl=FL:=by rw [hy];rfl
 have ysh:y.sh=false:=by rw [hy];rfl
 have yha:y.ha=false:=by rw [hy];rfl
 have ys1:y.sg 1=codD3.sg 27:=by rw [hy];rfl
 have ys2:y.sg 2=datD3.sg 35:=by rw [hy];rfl
 have ysd:∀ j,j=0∨j=3∨j=4∨j=5→(y.sg j).d=3:=by rw [hy];rintro j (e | e | e | e)<;>(rw [e];rfl)
 have HYok:Hid y.Ok:=hyok
 have HECS:Hid (Unit→_):=fun _=>ecs0
 have HYY:Hid (FlX y∧y.rg=3∧y.r 4=36864∧y.ip=place∧y.fl=FL∧y.sh=false∧y.ha=false∧(y.sg 1=codD3.sg 27∧y.sg 2=datD3.sg 35∧∀ j,j=0∨j=3∨j=4∨j=5→(y.sg j).d=3)):=⟨flx,yr,y4,yip,yfl,ysh,yha,ys1,ys2,ysd⟩
 clear flx yr y4 yip yfl ysh yha ys1 ys2 ysd ecs0 ecs
 clear hy hg
 obtain ⟨cz,hcz⟩:∃ q,q=y.cs:=⟨_,rfl⟩
 have HQ:Hid (∀ w,(Op.equalIn 10000 T (.agg cz) (.agg cz)).run Tryz.prog w=.ok true w):=by rw [hV.t,hcz];exact cu_equal hyok.toBd
 have HWF:Hid (WfC cz):=by rw [hcz];exact cu_wf _
 have hsz:cz.size=nn:=by rw [HWF.out.s,hV.s]
 have HCZ:Hid (cz=y.cs):=hcz
 obtain ⟨X,hX⟩:∃ X,w.heap.size=X:=⟨_,rfl⟩
 obtain ⟨W0,hW0⟩:∃ W,W=w.alloc (.cells #[.int .u32 g0,.int .u32 g1,.int .u32 g2,.int .u32 g3,.int .u32 g4,.int .u32 g5,.int .u32 g6,.int .u32 g7] 23):=⟨_,rfl⟩
 have k0:Kp noB w W0:=by rw [hW0];exact Kp.alloc noB w _
 have r0:W0.heap[X]?=some (.cells #[.int .u32 g0,.int .u32 g1,.int .u32 g2,.int .u32 g3,.int .u32 g4,.int .u32 g5,.int .u32 g6,.int .u32 g7] 23 (0,0)):=by rw [hW0,← hX];exact (MapKept.heap_alloc w _).1
 have HA:Hid _:=awake18 W0 (hC.kp0 k0)
 have HV:Hid _:=hV
 have HK0:Hid (Kp noB w W0):=k0
 have HR0:Hid (Unit→_):=fun _=>r0
 have HXs:Hid (w.heap.size=X):=hX
 obtain ⟨hu0,hu1⟩:=absI_bd hv
 unfold I64 at hv
 clear hV hC hcz k0 r0 hyok
 go_enter Tryz.func4,Tryz.ntmps4
 simp only [vl,vs,va,vq]
 go_wp2_with fail
 rw [← hW0]
 clear hW0 hX
 refine Calls.mono HA.out ?_;rintro e w1 ⟨rfl,k1⟩
 have HK1:Hid (Kp noB w w1):=HK0.out.trans k1
 have HR1:Hid (Unit→w1.heap[X]?=some (.cells #[.int .u32 g0,.int .u32 g1,.int .u32 g2,.int .u32 g3,.int .u32 g4,.int .u32 g5,.int .u32 g6,.int .u32 g7] 23 (0,0))):=fun _=>(k1.block X (Array.getElem?_eq_some_iff.1 (HR0.out ())).1 id).trans (HR0.out ())
 clear k1 HA HK0 HR0
 have HS:Hid _:=started3 w1 60928 (by unfold U32;decide)
 go_wp2_with fail
 refine Calls.mono HS.out ?_;rintro e w3 ⟨E,V,Kb,L,L',rfl,hst⟩
 obtain ⟨hx,hE,hall,kU⟩:=start_at stX3_ok (stM_same 60928).2 hst
 have k3:=Bs.noRm kU
 obtain ⟨M,hM⟩:∃ M,M=stM 60928:=⟨_,rfl⟩
 obtain ⟨c,hc⟩:∃ c:Ev,c=⟨E,V,Kb,L.M,8,(stM 60928).n,L.B⟩:=⟨_,rfl⟩
 have ecE:E=c.E:=by rw [hc]
 have HTb:Hid (Tb 60928 M):=by rw [hM];exact tb_st (by unfold U32;decide)
 rw [← hc] at hx hall
 rw [← hM] at hx
 rw [ecE] at hE ⊢
 have HX3:Hid (XAt w3 c 0 stX3 M):=hx
 have HK3:Hid (Kp noB w w3):=HK1.out.trans k3
 have HAL:Hid (w.heap.size≤c.E∧(∀ j,c.all j→w.heap.size≤j)∧X < c.E∧X < w3.heap.size):=⟨by have:=HK1.out.size;omega,fun j hj=>by have:=HK1.out.size;have:=hall j hj;omega,by have:=(Array.getElem?_eq_some_iff.1 (HR1.out ())).1;omega,by have:=(Array.getElem?_eq_some_iff.1 (HR1.out ())).1;have:=k3.size;omega⟩
 have HR3:Hid (Unit→w3.heap[X]?=some (.cells #[.int .u32 g0,.int .u32 g1,.int .u32 g2,.int .u32 g3,.int .u32 g4,.int .u32 g5,.int .u32 g6,.int .u32 g7] 23 (0,0))):=fun _=>(k3.block X (Array.getElem?_eq_some_iff.1 (HR1.out ())).1 id).trans (HR1.out ())
 clear hst hc hM kU k3 hx hE hall ecE HS HK1 HR1
 go_upto_if 34 with fail
 go_cut [0] from 21 (fun s0 wq=>s0=.int .i64 (absI vec)∧wq=w3)
 case first=>
  by_cases hn:vec < 0
  ·have hw1:IntKind.i64.wrap (vec+1)=vec+1:=by rw [IntKind.wrap_i64];omega
   have hw2:IntKind.i64.wrap (-(vec+1))=-(vec+1):=by rw [IntKind.wrap_i64];omega
   have HN:Hid _:=hn
   go_wp2
   go_meet
   case rel=>exact ⟨by unfold absI;rw [if_pos HN.out],rfl⟩
  ·have HN:Hid _:=hn
   go_wp2
   go_meet
   case rel=>exact ⟨by unfold absI;rw [if_neg HN.out],rfl⟩
 case rest=>
 obtain ⟨rfl,hwc⟩:=hcut
 replace hwc:=hwc.symm
 subst hwc
 generalize absI vec=u at *
 clear hv
 obtain ⟨v,hvv⟩:∃ v,v=u.tmod 64:=⟨_,rfl⟩
 have hv0:0≤v:=by rw [hvv];exact Int.tmod_nonneg _ hu0
 have hv1:v < 64:=by rw [hvv,Int.tmod_eq_emod_of_nonneg hu0];omega
 have e64:u.tmod 64=v:=hvv.symm
 have b1:IntKind.i64.wrap (16*v)=16*v:=by rw [IntKind.wrap_i64];omega
 have b2:IntKind.i64.wrap (24576+16*v)=24576+16*v:=by rw [IntKind.wrap_i64];omega
 have b3:IntKind.u32.wrap (24576+16*v)=24576+16*v:=by rw [IntKind.wrap_u32];omega
 have b4:(24576+16*v)%4294967296=24576+16*v:=by omega
 obtain ⟨flx,yr,y4,yip,yfl,ysh,yha,ys1,ys2,ysd⟩:=HYY.out
 obtain ⟨so,hso⟩:∃ b,b=decide (u.tmod 2=0):=⟨_,rfl⟩
 have eso:decide (u.tmod 2=0)=so:=hso.symm
 have eso':(u.tmod 2==0)=so:=by rw [hso];rfl
 have HE:Hid (enterO M y v (-1) so=.ok (layK M 40704 (wordsO y true (-1))) (nOut y v 60928 (40704 - 4*((wordsO y true (-1)).length:Int)))):=enter_out (kind:=60928) HTb.out flx (by unfold Kg;decide) yr hv0 hv1 (-1) so (by unfold badG gG;cases so<;>simp)
 have ew:wordsO y true (-1)=[35,36864,y.fl,27,y.ip]:=by
  unfold wordsO
  rw [ys1,ys2,y4]
  rfl
 have HB:Hid _:=back_out (kind:=60928) (v:=v) HTb.out flx (by unfold Kg;decide) ys1 ys2 ysd y4 (by rw [yip];exact hp) (by rw [yfl];exact hF.1) (by rw [yfl];exact hF.2.1) (by rw [yfl];exact hF.2.2) ysh yha
 rw [ew,show ((40704:Int) - 4*(([35,36864,y.fl,27,y.ip]:List Int).length:Int))=40684 by simp] at HE
 obtain ⟨M2,hM2⟩:∃ m,m=layK M 40704 [35,36864,y.fl,27,y.ip]:=⟨_,rfl⟩
 obtain ⟨z,hz⟩:∃ z,z=nOut y v 60928 40684:=⟨_,rfl⟩
 have HE2:Hid (enterO M y v (-1) so=.ok M2 z):=by rw [hM2,hz];exact HE.out
 rw [← hM2,← hz] at HB
 have FF:=fl_all (k:=(gG 60928 v).k) (fl:=y.fl) (kG (by unfold Kg;decide) v) (by rw [yfl];exact hF.1) (by rw [yfl];exact hF.2.1) (by rw [yfl];exact hF.2.2)
 have zip:z.ip=24576+16*v:=by rw [hz];rfl
 have zcs:(z.sg 1).sel=8:=by rw [hz];rfl
 have zfl:z.fl=flD (gG 60928 v).k y.fl:=by rw [hz];rfl
 have ztf:bits .and .u32 z.fl 256=0:=by rw [zfl];exact FF.tf
 have zif:bits .and .u32 z.fl 512=0:=by rw [zfl];exact FF.fi rfl
 clear FF zfl hz hM2 HE ew hvv hu0 hu1 hv0 hv1 hso flx yr ys1 ys2 ysd ysh yha HTb hf hp y4 yip yfl
 have c4:=HX3.out.c (k:=4) rfl
 rw [show stX3.r 4=36864 from rfl] at c4
 go_upto_region 14 with fail
 clear c4
 have d0:w3.cell? ⟨X,0,none⟩=some (.int .u32 g0):=by rw [cell_at (HR3.out ())];rfl
 have d1:w3.cell? ⟨X,1,none⟩=some (.int .u32 g1):=by rw [cell_at (HR3.out ())];rfl
 have d2:w3.cell? ⟨X,2,none⟩=some (.int .u32 g2):=by rw [cell_at (HR3.out ())];rfl
 have d3:w3.cell? ⟨X,3,none⟩=some (.int .u32 g3):=by rw [cell_at (HR3.out ())];rfl
 have d4:w3.cell? ⟨X,4,none⟩=some (.int .u32 g4):=by rw [cell_at (HR3.out ())];rfl
 have d5:w3.cell? ⟨X,5,none⟩=some (.int .u32 g5):=by rw [cell_at (HR3.out ())];rfl
 have d6:w3.cell? ⟨X,6,none⟩=some (.int .u32 g6):=by rw [cell_at (HR3.out ())];rfl
 have d7:w3.cell? ⟨X,7,none⟩=some (.int .u32 g7):=by rw [cell_at (HR3.out ())];rfl
 have c0:=HX3.out.c (k:=0) rfl
 have c1:=HX3.out.c (k:=1) rfl
 have c2:=HX3.out.c (k:=2) rfl
 have c3:=HX3.out.c (k:=3) rfl
 have c4:=HX3.out.c (k:=4) rfl
 have c5:=HX3.out.c (k:=5) rfl
 have c6:=HX3.out.c (k:=6) rfl
 have c7:=HX3.out.c (k:=7) rfl
 have fz:=HX3.out.e.fz
 have c8:=HX3.out.c (k:=8) rfl
 have c9:=HX3.out.c (k:=9) rfl
 have kS:∀ (U:World) (o:Nat) (u:Value),Kp (fun j=>j=c.E) w3 U→Kp (fun j=>j=c.E) w3 (U.setCell ⟨c.E,o,none⟩ u):=fun U o u h=>h.trans (Kp.setCell (S:=fun j=>j=c.E) U (p:=⟨c.E,o,none⟩) rfl u)
 obtain ⟨W8,hW8⟩:∃ W,W=((((((((((((w3.setCell ⟨c.E,0,none⟩ (.int .u32 g0)).setCell ⟨c.E,1,none⟩ (.int .u32 g1)).setCell ⟨c.E,2,none⟩ (.int .u32 g2)).setCell ⟨c.E,3,none⟩ (.int .u32 g3)).setCell ⟨c.E,4,none⟩ (.int .u32 g4)).setCell ⟨c.E,5,none⟩ (.int .u32 g5)).setCell ⟨c.E,6,none⟩ (.int .u32 g6)).setCell ⟨c.E,7,none⟩ (.int .u32 g7)).setCell ⟨c.E,4,none⟩ (.int .u32 36864)).setCell ⟨c.E,8,none⟩ (.int .u32 place)).setCell ⟨c.E,9,none⟩ (.int .u32 f0)).setCell ⟨c.E,9,none⟩ (.int .u32 FL)):=⟨_,rfl⟩
 have e8:=((((((((((((HX3.out.e.set (k:=0) (by decide) (v:=.int .u32 g0) rfl).set (k:=1) (by decide) (v:=.int .u32 g1) rfl).set (k:=2) (by decide) (v:=.int .u32 g2) rfl).set (k:=3) (by decide) (v:=.int .u32 g3) rfl).set (k:=4) (by decide) (v:=.int .u32 g4) rfl).set (k:=5) (by decide) (v:=.int .u32 g5) rfl).set (k:=6) (by decide) (v:=.int .u32 g6) rfl).set (k:=7) (by decide) (v:=.int .u32 g7) rfl).set (k:=4) (by decide) (v:=.int .u32 36864) rfl).set (k:=8) (by decide) (v:=.int .u32 place) rfl).set (k:=9) (by decide) (v:=.int .u32 f0) rfl).set (k:=9) (by decide) (v:=.int .u32 FL) rfl)
 rw [← hW8] at e8
 rw [HECS.out ()] at e8
 have HK8:Hid (Kp (fun j=>j=c.E) w3 W8):=by rw [hW8];exact (kS _ _ _ (kS _ _ _ (kS _ _ _ (kS _ _ _ (kS _ _ _ (kS _ _ _ (kS _ _ _ (kS _ _ _ (kS _ _ _ (kS _ _ _ (kS _ _ _ (kS _ _ _ (Kp.refl _ _)))))))))))))
 have HE8:Hid _:=e8
 clear e8 kS
 obtain ⟨en,en',ea,ef0,ef1⟩:=HEA.out
 go_upto_region 20 with fail
 rw [← hW8]
 clear hW8 d0 d1 d2 d3 d4 d5 d6 d7 c0 c1 c2 c3 c4 c5 c6 c7 c8 c9 fz ef1 ef0 ea en en'
 have x8:XAt W8 c 0 y M:=⟨HE8.out,HX3.out.v.kp HK8.out (fun j hj e=>HX3.out.n (e ▸ (by rw [HX3.out.s] at hj;exact hj))),HX3.out.s,HX3.out.n,HYok.out⟩
 have HX8:Hid (XAt W8 c 0 y M):=x8
 have HW8:Hid (Kp noB w W8):=HK3.out.over HK8.out (fun j hj e=>by have:=HAL.out.1;omega)
 clear HE8 x8 HK8 HX3 HK3 HR3
 have hld:=HX8.out.e.get HV.out
 rw [← HCZ.out] at hld
 have pA0:PAt (W8.alloc (.cells Z T)) W8.heap.size Z:=HV.out.at HV.out.wf W8
 have hst:=VlP.put pA0 HWF.out
 obtain ⟨A,hA⟩:∃ A,A=W8.heap.size:=⟨_,rfl⟩
 obtain ⟨W9,hW9⟩:∃ W,W=(W8.alloc (.cells Z T)).setRow A cz:=⟨_,rfl⟩
 have P9:PAt W9 A cz:=by rw [hW9,hA];exact pA0.put HWF.out
 have k9:Kp noB W8 W9:=by
  rw [hW9]
  exact (Kp.alloc noB W8 _).over (Kp.setRow (S:=fun j=>j=A) (W8.alloc (.cells Z T)) rfl cz) (fun j hj e=>by omega)
 have x9:=HX8.out.kp0 k9
 have HA9:Hid (c.E < A∧(∀ j,c.all j→j < A)):=⟨by rw [hA];exact HX8.out.lt,fun j hj=>by rw [hA];exact HX8.out.in_all hj⟩
 have HP9:Hid (PAt W9 A cz∧Kp noB w W9):=⟨P9,HW8.out.trans k9⟩
 have HE1:Hid _:=Enter_any W9 c 0 y M x9 v (-1) so (by decide)
 rw [HE2.out] at HE1
 have HE3:Hid (Calls Tryz.prog 11 #[.pointer (some ⟨c.E,0,none⟩),.int .i64 v,.int .i64 (-1),.bool so] W9 fun e w'=>e=.returned (.agg #[.int .i64 (-1),.int .i64 (-1),.int .u32 0])∧(∃ t,t≤0+40∧XAt w' c t z M2)∧Kp (fun j=>c.md j∨j=c.E) W9 w'):=HE1.out
 go_upto_region 21 with fail
 rw [← hA,← hW9]
 clear hA hW9 hst hld pA0 P9 k9 x9 HX8 HW8 HE1 HE2
 go_wp2_with fail
 refine Calls.mono HE3.out ?_;rintro e w10 ⟨rfl,⟨t10,ht10,x10⟩,k10⟩
 have nE:∀ j,(c.md j∨j=c.E)→w.heap.size≤j∧j≠A:=fun j hj=>by
  rcases hj with e | e
  ·exact ⟨HAL.out.2.1 j (.inr e),by have:=HA9.out.2 j (.inr e);omega⟩
  ·have:=HAL.out.1;have:=HA9.out.1;exact ⟨by omega,by omega⟩
 obtain ⟨G,hG⟩:∃ G,G=w10.heap.size:=⟨_,rfl⟩
 obtain ⟨W11,hW11⟩:∃ W,W=w10.alloc (.cells #[.int .i64 (-1),.int .i64 (-1),.int .u32 0] 44):=⟨_,rfl⟩
 have r11:RowT W11 G ⟨-1,-1,0⟩:=by rw [hW11,hG];exact (MapKept.heap_alloc w10 _).1
 have k11:Kp noB w10 W11:=by rw [hW11];exact Kp.alloc _ _ _
 have x11:=x10.kp0 k11
 have HP11:Hid (PAt W11 A cz∧Kp noB w W11):=⟨(HP9.out.1.kp k10 (fun f=>(nE A f).2 rfl)).kp k11 id,(HP9.out.2.over k10 (fun j hj e=>(by have:=(nE j e).1;omega))).trans k11⟩
 have HN:Hid _:=nE
 have a0:=r11.c0
 have a8:=x11.c (k:=8) rfl
 have a9:=x11.c (k:=9) rfl
 have a19:=x11.c (k:=19) rfl
 rw [zip] at a8
 rw [zcs] at a19
 have HR:Hid _:=Return_any W11 c t10 z M2 x11 4 (by omega)
 rw [HB.out] at HR
 have HR2:Hid (Calls Tryz.prog 15 #[.pointer (some ⟨c.E,0,none⟩),.int .i64 4] W11 fun e w'=>e=.returned (.agg #[.int .i64 (-1),.int .i64 (-1),.int .u32 0])∧(∃ t,t≤t10+40∧XAt w' c t y M2)∧Kp (fun j=>c.md j∨j=c.E) W11 w'):=HR.out
 clear HR HB HE3 x10 k10 k11 x11 r11 HP9 ht10 nE
 go_upto_region 22 with fail
 rw [← hG,← hW11]
 clear hG hW11
 go_wp2_with fail
 refine Calls.mono HR2.out ?_;rintro e w12 ⟨rfl,⟨t12,ht12,x12⟩,k12⟩
 obtain ⟨H,hH⟩:∃ H,H=w12.heap.size:=⟨_,rfl⟩
 obtain ⟨W13,hW13⟩:∃ W,W=w12.alloc (.cells #[.int .i64 (-1),.int .i64 (-1),.int .u32 0] 44):=⟨_,rfl⟩
 have r13:RowT W13 H ⟨-1,-1,0⟩:=by rw [hW13,hH];exact (MapKept.heap_alloc w12 _).1
 have k13:Kp noB w12 W13:=by rw [hW13];exact Kp.alloc _ _ _
 have kd:Kp noB W13 W13.drew:=(Kp.refl noB W13).drew
 have P13:=((HP11.out.1.kp k12 (fun f=>(HN.out A f).2 rfl)).kp k13 id).kp kd id
 have HF13:Hid (Kp noB w W13.drew):=((HP11.out.2.over k12 (fun j hj e=>(by have:=(HN.out j e).1;omega))).trans k13).drew
 have q0:=(r13.kp kd id).c0
 have hl1:=((x12.kp0 k13).kp0 kd).e.get HV.out
 rw [← HCZ.out] at hl1
 have hl2:=HV.out.get P13
 have hq:=HQ.out
 clear k12 x12 r13 k13 kd P13 HP11 HR2 a0 a8 a9 a19 ht12
 go_upto_region 27 with fail
 rw [← hH,← hW13]
 clear hH hW13
 go_region
 go_wp2
 go_ret
 exact ⟨rfl,kBelow HF13.out⟩
set_option maxHeartbeats 16000000 in
theorem back_it (w:World) (hC:Cls w) (vec:Int) (hv:I64 vec) (g0 g1 g2 g3 g4 g5 g6 g7:Int) (hg:U32 g0∧U32 g1∧U32 g2∧U32 g3∧U32 g4∧U32 g5∧U32 g6∧U32 g7) (flags:Int) (hf:U32 flags) (place:Int) (hp:U32 place):Calls Tryz.prog 4 #[.int .i64 vec,.bool false,.bool true,.agg #[.int .u32 g0,.int .u32 g1,.int .u32 g2,.int .u32 g3,.int .u32 g4,.int .u32 g5,.int .u32 g6,.int .u32 g7],.int .u32 flags,.int .u32 place] w fun e w'=>e=.returned (.bool true)∧Below w.heap.size w w':=by
 obtain ⟨T,nn,Z,hV⟩:=vlP
 obtain ⟨vl,vs,va,vb⟩:=hV.ops
 have vq:∀ x y,Op.binOp .eql 33 x y 33=Op.binOp .eql T x y T:=by rw [hV.t];exact fun _ _=>rfl
 have g1':=hV.agg;have g2':=hV.size;have g3':=hV.zero
 have gQ:Tryz.prog.eqGuardType Tryz.prog.depth T=false:=by rw [hV.t];kernel_rfl
 obtain ⟨n,hn⟩:∃ n:Nat,n=(flags%32768).toNat:=⟨_,rfl⟩
 have hn2:n < 32768:=by unfold U32 at hf;omega
 have hb:=fb_all n
 obtain ⟨FL,hFL⟩:∃ F,F=flB n:=⟨_,rfl⟩
 have hF:0≤FL∧FL < 4096∧FL / 2%2=1:=by rw [hFL];exact hb.1
 have en:(flags%32768)=(n:Int):=by unfold U32 at hf;omega
 have en':flags.tmod 32768=(n:Int):=by rw [Int.tmod_eq_emod_of_nonneg hf.1];exact en
 have ea:=and12 n hn2
 obtain ⟨n12,hn12⟩:∃ m:Int,m=((n%4096:Nat):Int):=⟨_,rfl⟩
 rw [← hn12] at ea
 obtain ⟨nI,hnI⟩:∃ m:Int,m=(n:Int):=⟨_,rfl⟩
 rw [← hnI] at ea en en'
 obtain ⟨f0,hf0⟩:∃ f,f=flB n:=⟨_,rfl⟩
 have ef0:bits .or .u32 n12 2=f0:=by rw [hn12,hf0];rfl
 have ef1:f0=FL:=by rw [hFL,hf0]
 have HEA:Hid (flags%32768=nI∧flags.tmod 32768=nI∧bits .andNot .u32 nI 28672=n12∧bits .or .u32 n12 2=f0∧f0=FL):=⟨en,en',ea,ef0,ef1⟩
 clear hb hn2 hf0 hFL hn12 hn hnI en en' ea ef0 ef1
 obtain ⟨y,hy⟩:∃ y:Cu,y=bkX stX0 (rgF g0 g1 g2 g3 36864 g5 g6 g7) place FL:=⟨_,rfl⟩
 have hyok:y.Ok:=by
  rw [hy]
  refine { stX0_ok with r:=fun i hi=>?_,ip:=hp,fl:=(⟨hF.1,by omega⟩:U32 FL) }
  obtain ⟨a0,a1,a2,a3,a4,a5,a6,a7⟩:=hg
  match i,hi with
  | 0,_=>exact a0
  | 1,_=>exact a1
  | 2,_=>exact a2
  | 3,_=>exact a3
  | 4,_=>exact (⟨by decide,by decide⟩:U32 36864)
  | 5,_=>exact a5
  | 6,_=>exact a6
  | 7,_=>exact a7
  | n+8,hi=>omega
 have ecs:(((((((((((stX0.cs.setIfInBounds 0 (.int .u32 g0)).setIfInBounds 1 (.int .u32 g1)).setIfInBounds 2 (.int .u32 g2)).setIfInBounds 3 (.int .u32 g3)).setIfInBounds 4 (.int .u32 g4)).setIfInBounds 5 (.int .u32 g5)).setIfInBounds 6 (.int .u32 g6)).setIfInBounds 7 (.int .u32 g7)).setIfInBounds 4 (.int .u32 36864)).setIfInBounds 8 (.int .u32 place)).setIfInBounds 9 (.int .u32 FL))=y.cs:=by rw [hy];kernel_rfl
 have flx:FlX y:=by
  rw [hy]
  exact ⟨flX_0.pg,rfl,rfl,rfl,rfl,rfl,rfl,flX_0.ss,flX_0.cs⟩
 have yr:y.rg=0:=by rw [hy];rfl
 have y4:y.r 4=36864:=by rw [hy];rfl
 have yip:y.ip=place:=by rw [hy];rfl
 have yfl:y.fl=FL:=by rw [hy];rfl
 have ysh:y.sh=false:=by rw [hy];rfl
 have yha:y.ha=false:=by rw [hy];rfl
 have ys1:y.sg 1=codD.sg 8:=by rw [hy];rfl
 have HYok:Hid y.Ok:=hyok
 have HECS:Hid (Unit→_):=fun _=>ecs
 have HYY:Hid (FlX y∧y.rg=0∧y.r 4=36864∧y.ip=place∧y.fl=FL∧y.sh=false∧y.ha=false∧y.sg 1=codD.sg 8):=⟨flx,yr,y4,yip,yfl,ysh,yha,ys1⟩
 clear flx yr y4 yip yfl ysh yha ys1  ecs
 clear hy hg
 obtain ⟨cz,hcz⟩:∃ q,q=y.cs:=⟨_,rfl⟩
 have HQ:Hid (∀ w,(Op.equalIn 10000 T (.agg cz) (.agg cz)).run Tryz.prog w=.ok true w):=by rw [hV.t,hcz];exact cu_equal hyok.toBd
 have HWF:Hid (WfC cz):=by rw [hcz];exact cu_wf _
 have hsz:cz.size=nn:=by rw [HWF.out.s,hV.s]
 have HCZ:Hid (cz=y.cs):=hcz
 obtain ⟨X,hX⟩:∃ X,w.heap.size=X:=⟨_,rfl⟩
 obtain ⟨W0,hW0⟩:∃ W,W=w.alloc (.cells #[.int .u32 g0,.int .u32 g1,.int .u32 g2,.int .u32 g3,.int .u32 g4,.int .u32 g5,.int .u32 g6,.int .u32 g7] 23):=⟨_,rfl⟩
 have k0:Kp noB w W0:=by rw [hW0];exact Kp.alloc noB w _
 have r0:W0.heap[X]?=some (.cells #[.int .u32 g0,.int .u32 g1,.int .u32 g2,.int .u32 g3,.int .u32 g4,.int .u32 g5,.int .u32 g6,.int .u32 g7] 23 (0,0)):=by rw [hW0,← hX];exact (MapKept.heap_alloc w _).1
 have HA:Hid _:=awake18 W0 (hC.kp0 k0)
 have HV:Hid _:=hV
 have HK0:Hid (Kp noB w W0):=k0
 have HR0:Hid (Unit→_):=fun _=>r0
 have HXs:Hid (w.heap.size=X):=hX
 obtain ⟨hu0,hu1⟩:=absI_bd hv
 unfold I64 at hv
 clear hV hC hcz k0 r0 hyok
 go_enter Tryz.func4,Tryz.ntmps4
 simp only [vl,vs,va,vq]
 go_wp2_with fail
 rw [← hW0]
 clear hW0 hX
 refine Calls.mono HA.out ?_;rintro e w1 ⟨rfl,k1⟩
 have HK1:Hid (Kp noB w w1):=HK0.out.trans k1
 have HR1:Hid (Unit→w1.heap[X]?=some (.cells #[.int .u32 g0,.int .u32 g1,.int .u32 g2,.int .u32 g3,.int .u32 g4,.int .u32 g5,.int .u32 g6,.int .u32 g7] 23 (0,0))):=fun _=>(k1.block X (Array.getElem?_eq_some_iff.1 (HR0.out ())).1 id).trans (HR0.out ())
 clear k1 HA HK0 HR0
 have HS:Hid _:=started0 w1 61184 (by unfold U32;decide)
 go_wp2_with fail
 refine Calls.mono HS.out ?_;rintro e w3 ⟨E,V,Kb,L,L',rfl,hst⟩
 obtain ⟨hx,hE,hall,kU⟩:=start_at stX0_ok (stM_same 61184).2 hst
 have k3:=Bs.noRm kU
 obtain ⟨M,hM⟩:∃ M,M=stM 61184:=⟨_,rfl⟩
 obtain ⟨c,hc⟩:∃ c:Ev,c=⟨E,V,Kb,L.M,8,(stM 61184).n,L.B⟩:=⟨_,rfl⟩
 have ecE:E=c.E:=by rw [hc]
 have HTb:Hid (Tb 61184 M):=by rw [hM];exact tb_st (by unfold U32;decide)
 rw [← hc] at hx hall
 rw [← hM] at hx
 rw [ecE] at hE ⊢
 have HX3:Hid (XAt w3 c 0 stX0 M):=hx
 have HK3:Hid (Kp noB w w3):=HK1.out.trans k3
 have HAL:Hid (w.heap.size≤c.E∧(∀ j,c.all j→w.heap.size≤j)∧X < c.E∧X < w3.heap.size):=⟨by have:=HK1.out.size;omega,fun j hj=>by have:=HK1.out.size;have:=hall j hj;omega,by have:=(Array.getElem?_eq_some_iff.1 (HR1.out ())).1;omega,by have:=(Array.getElem?_eq_some_iff.1 (HR1.out ())).1;have:=k3.size;omega⟩
 have HR3:Hid (Unit→w3.heap[X]?=some (.cells #[.int .u32 g0,.int .u32 g1,.int .u32 g2,.int .u32 g3,.int .u32 g4,.int .u32 g5,.int .u32 g6,.int .u32 g7] 23 (0,0))):=fun _=>(k3.block X (Array.getElem?_eq_some_iff.1 (HR1.out ())).1 id).trans (HR1.out ())
 clear hst hc hM kU k3 hx hE hall ecE HS HK1 HR1
 go_upto_if 34 with fail
 go_cut [0] from 21 (fun s0 wq=>s0=.int .i64 (absI vec)∧wq=w3)
 case first=>
  by_cases hn:vec < 0
  ·have hw1:IntKind.i64.wrap (vec+1)=vec+1:=by rw [IntKind.wrap_i64];omega
   have hw2:IntKind.i64.wrap (-(vec+1))=-(vec+1):=by rw [IntKind.wrap_i64];omega
   have HN:Hid _:=hn
   go_wp2
   go_meet
   case rel=>exact ⟨by unfold absI;rw [if_pos HN.out],rfl⟩
  ·have HN:Hid _:=hn
   go_wp2
   go_meet
   case rel=>exact ⟨by unfold absI;rw [if_neg HN.out],rfl⟩
 case rest=>
 obtain ⟨rfl,hwc⟩:=hcut
 replace hwc:=hwc.symm
 subst hwc
 generalize absI vec=u at *
 clear hv
 obtain ⟨v,hvv⟩:∃ v,v=u.tmod 64:=⟨_,rfl⟩
 have hv0:0≤v:=by rw [hvv];exact Int.tmod_nonneg _ hu0
 have hv1:v < 64:=by rw [hvv,Int.tmod_eq_emod_of_nonneg hu0];omega
 have e64:u.tmod 64=v:=hvv.symm
 have b1:IntKind.i64.wrap (16*v)=16*v:=by rw [IntKind.wrap_i64];omega
 have b2:IntKind.i64.wrap (24576+16*v)=24576+16*v:=by rw [IntKind.wrap_i64];omega
 have b3:IntKind.u32.wrap (24576+16*v)=24576+16*v:=by rw [IntKind.wrap_u32];omega
 have b4:(24576+16*v)%4294967296=24576+16*v:=by omega
 obtain ⟨flx,yr,y4,yip,yfl,ysh,yha,ys1⟩:=HYY.out
 obtain ⟨so,hso⟩:∃ b,b=decide (u.tmod 2=0):=⟨_,rfl⟩
 have eso:decide (u.tmod 2=0)=so:=hso.symm
 have eso':(u.tmod 2==0)=so:=by rw [hso];rfl
 have HE:Hid (enterO M y v (-1) so=.ok (layK M 36864 (wordsO y false (-1))) (nIn y v 61184 (36864 - 4*((wordsO y false (-1)).length:Int)))):=enter_in (kind:=61184) HTb.out flx (by unfold Kg;decide) yr hv0 hv1 (-1) so y4 (by decide) (by decide)
 have ew:wordsO y false (-1)=[y.fl,8,y.ip]:=by
  unfold wordsO
  rw [ys1]
  rfl
 have HB:Hid _:=back_in (kind:=61184) (v:=v) HTb.out flx (by unfold Kg;decide) ys1 y4 (by rw [yip];exact hp) (by rw [yfl];exact hF.1) (by rw [yfl];exact hF.2.1) (by rw [yfl];exact hF.2.2) ysh yha
 rw [ew,show ((36864:Int) - 4*(([y.fl,8,y.ip]:List Int).length:Int))=36852 by simp] at HE
 obtain ⟨M2,hM2⟩:∃ m,m=layK M 36864 [y.fl,8,y.ip]:=⟨_,rfl⟩
 obtain ⟨z,hz⟩:∃ z,z=nIn y v 61184 36852:=⟨_,rfl⟩
 have HE2:Hid (enterO M y v (-1) so=.ok M2 z):=by rw [hM2,hz];exact HE.out
 rw [← hM2,← hz] at HB
 have FF:=fl_all (k:=(gG 61184 v).k) (fl:=y.fl) (kG (by unfold Kg;decide) v) (by rw [yfl];exact hF.1) (by rw [yfl];exact hF.2.1) (by rw [yfl];exact hF.2.2)
 have zip:z.ip=24576+16*v:=by rw [hz];rfl
 have zcs:(z.sg 1).sel=8:=by rw [hz];rfl
 have zfl:z.fl=flD (gG 61184 v).k y.fl:=by rw [hz];rfl
 have ztf:bits .and .u32 z.fl 256=0:=by rw [zfl];exact FF.tf
 clear FF zfl hz hM2 HE ew hvv hu0 hu1 hv0 hv1 hso flx yr ys1 ysh yha HTb hf hp y4 yip yfl
 have c4:=HX3.out.c (k:=4) rfl
 rw [show stX0.r 4=36864 from rfl] at c4
 go_upto_region 14 with fail
 clear c4
 have d0:w3.cell? ⟨X,0,none⟩=some (.int .u32 g0):=by rw [cell_at (HR3.out ())];rfl
 have d1:w3.cell? ⟨X,1,none⟩=some (.int .u32 g1):=by rw [cell_at (HR3.out ())];rfl
 have d2:w3.cell? ⟨X,2,none⟩=some (.int .u32 g2):=by rw [cell_at (HR3.out ())];rfl
 have d3:w3.cell? ⟨X,3,none⟩=some (.int .u32 g3):=by rw [cell_at (HR3.out ())];rfl
 have d4:w3.cell? ⟨X,4,none⟩=some (.int .u32 g4):=by rw [cell_at (HR3.out ())];rfl
 have d5:w3.cell? ⟨X,5,none⟩=some (.int .u32 g5):=by rw [cell_at (HR3.out ())];rfl
 have d6:w3.cell? ⟨X,6,none⟩=some (.int .u32 g6):=by rw [cell_at (HR3.out ())];rfl
 have d7:w3.cell? ⟨X,7,none⟩=some (.int .u32 g7):=by rw [cell_at (HR3.out ())];rfl
 have c0:=HX3.out.c (k:=0) rfl
 have c1:=HX3.out.c (k:=1) rfl
 have c2:=HX3.out.c (k:=2) rfl
 have c3:=HX3.out.c (k:=3) rfl
 have c4:=HX3.out.c (k:=4) rfl
 have c5:=HX3.out.c (k:=5) rfl
 have c6:=HX3.out.c (k:=6) rfl
 have c7:=HX3.out.c (k:=7) rfl
 have fz:=HX3.out.e.fz
 have c8:=HX3.out.c (k:=8) rfl
 have c9:=HX3.out.c (k:=9) rfl
 have kS:∀ (U:World) (o:Nat) (u:Value),Kp (fun j=>j=c.E) w3 U→Kp (fun j=>j=c.E) w3 (U.setCell ⟨c.E,o,none⟩ u):=fun U o u h=>h.trans (Kp.setCell (S:=fun j=>j=c.E) U (p:=⟨c.E,o,none⟩) rfl u)
 obtain ⟨W8,hW8⟩:∃ W,W=(((((((((((w3.setCell ⟨c.E,0,none⟩ (.int .u32 g0)).setCell ⟨c.E,1,none⟩ (.int .u32 g1)).setCell ⟨c.E,2,none⟩ (.int .u32 g2)).setCell ⟨c.E,3,none⟩ (.int .u32 g3)).setCell ⟨c.E,4,none⟩ (.int .u32 g4)).setCell ⟨c.E,5,none⟩ (.int .u32 g5)).setCell ⟨c.E,6,none⟩ (.int .u32 g6)).setCell ⟨c.E,7,none⟩ (.int .u32 g7)).setCell ⟨c.E,4,none⟩ (.int .u32 36864)).setCell ⟨c.E,8,none⟩ (.int .u32 place)).setCell ⟨c.E,9,none⟩ (.int .u32 FL)):=⟨_,rfl⟩
 have e8:=(((((((((((HX3.out.e.set (k:=0) (by decide) (v:=.int .u32 g0) rfl).set (k:=1) (by decide) (v:=.int .u32 g1) rfl).set (k:=2) (by decide) (v:=.int .u32 g2) rfl).set (k:=3) (by decide) (v:=.int .u32 g3) rfl).set (k:=4) (by decide) (v:=.int .u32 g4) rfl).set (k:=5) (by decide) (v:=.int .u32 g5) rfl).set (k:=6) (by decide) (v:=.int .u32 g6) rfl).set (k:=7) (by decide) (v:=.int .u32 g7) rfl).set (k:=4) (by decide) (v:=.int .u32 36864) rfl).set (k:=8) (by decide) (v:=.int .u32 place) rfl).set (k:=9) (by decide) (v:=.int .u32 FL) rfl)
 rw [← hW8] at e8
 rw [HECS.out ()] at e8
 have HK8:Hid (Kp (fun j=>j=c.E) w3 W8):=by rw [hW8];exact (kS _ _ _ (kS _ _ _ (kS _ _ _ (kS _ _ _ (kS _ _ _ (kS _ _ _ (kS _ _ _ (kS _ _ _ (kS _ _ _ (kS _ _ _ (kS _ _ _ (Kp.refl _ _))))))))))))
 have HE8:Hid _:=e8
 clear e8 kS
 obtain ⟨en,en',ea,ef0,efl⟩:=HEA.out
 go_upto_region 20 with fail
 rw [← hW8]
 clear hW8 d0 d1 d2 d3 d4 d5 d6 d7 c0 c1 c2 c3 c4 c5 c6 c7 c8 c9 fz efl ef0 ea en en'
 have x8:XAt W8 c 0 y M:=⟨HE8.out,HX3.out.v.kp HK8.out (fun j hj e=>HX3.out.n (e ▸ (by rw [HX3.out.s] at hj;exact hj))),HX3.out.s,HX3.out.n,HYok.out⟩
 have HX8:Hid (XAt W8 c 0 y M):=x8
 have HW8:Hid (Kp noB w W8):=HK3.out.over HK8.out (fun j hj e=>by have:=HAL.out.1;omega)
 clear HE8 x8 HK8 HX3 HK3 HR3
 have hld:=HX8.out.e.get HV.out
 rw [← HCZ.out] at hld
 have pA0:PAt (W8.alloc (.cells Z T)) W8.heap.size Z:=HV.out.at HV.out.wf W8
 have hst:=VlP.put pA0 HWF.out
 obtain ⟨A,hA⟩:∃ A,A=W8.heap.size:=⟨_,rfl⟩
 obtain ⟨W9,hW9⟩:∃ W,W=(W8.alloc (.cells Z T)).setRow A cz:=⟨_,rfl⟩
 have P9:PAt W9 A cz:=by rw [hW9,hA];exact pA0.put HWF.out
 have k9:Kp noB W8 W9:=by
  rw [hW9]
  exact (Kp.alloc noB W8 _).over (Kp.setRow (S:=fun j=>j=A) (W8.alloc (.cells Z T)) rfl cz) (fun j hj e=>by omega)
 have x9:=HX8.out.kp0 k9
 have HA9:Hid (c.E < A∧(∀ j,c.all j→j < A)):=⟨by rw [hA];exact HX8.out.lt,fun j hj=>by rw [hA];exact HX8.out.in_all hj⟩
 have HP9:Hid (PAt W9 A cz∧Kp noB w W9):=⟨P9,HW8.out.trans k9⟩
 have HE1:Hid _:=Enter_any W9 c 0 y M x9 v (-1) so (by decide)
 rw [HE2.out] at HE1
 have HE3:Hid (Calls Tryz.prog 11 #[.pointer (some ⟨c.E,0,none⟩),.int .i64 v,.int .i64 (-1),.bool so] W9 fun e w'=>e=.returned (.agg #[.int .i64 (-1),.int .i64 (-1),.int .u32 0])∧(∃ t,t≤0+40∧XAt w' c t z M2)∧Kp (fun j=>c.md j∨j=c.E) W9 w'):=HE1.out
 go_upto_region 21 with fail
 rw [← hA,← hW9]
 clear hA hW9 hst hld pA0 P9 k9 x9 HX8 HW8 HE1 HE2
 go_wp2_with fail
 refine Calls.mono HE3.out ?_;rintro e w10 ⟨rfl,⟨t10,ht10,x10⟩,k10⟩
 have nE:∀ j,(c.md j∨j=c.E)→w.heap.size≤j∧j≠A:=fun j hj=>by
  rcases hj with e | e
  ·exact ⟨HAL.out.2.1 j (.inr e),by have:=HA9.out.2 j (.inr e);omega⟩
  ·have:=HAL.out.1;have:=HA9.out.1;exact ⟨by omega,by omega⟩
 obtain ⟨G,hG⟩:∃ G,G=w10.heap.size:=⟨_,rfl⟩
 obtain ⟨W11,hW11⟩:∃ W,W=w10.alloc (.cells #[.int .i64 (-1),.int .i64 (-1),.int .u32 0] 44):=⟨_,rfl⟩
 have r11:RowT W11 G ⟨-1,-1,0⟩:=by rw [hW11,hG];exact (MapKept.heap_alloc w10 _).1
 have k11:Kp noB w10 W11:=by rw [hW11];exact Kp.alloc _ _ _
 have x11:=x10.kp0 k11
 have HP11:Hid (PAt W11 A cz∧Kp noB w W11):=⟨(HP9.out.1.kp k10 (fun f=>(nE A f).2 rfl)).kp k11 id,(HP9.out.2.over k10 (fun j hj e=>(by have:=(nE j e).1;omega))).trans k11⟩
 have HN:Hid _:=nE
 have a0:=r11.c0
 have a8:=x11.c (k:=8) rfl
 have a9:=x11.c (k:=9) rfl
 have a19:=x11.c (k:=19) rfl
 rw [zip] at a8
 rw [zcs] at a19
 have HR:Hid _:=Return_any W11 c t10 z M2 x11 4 (by omega)
 rw [HB.out] at HR
 have HR2:Hid (Calls Tryz.prog 15 #[.pointer (some ⟨c.E,0,none⟩),.int .i64 4] W11 fun e w'=>e=.returned (.agg #[.int .i64 (-1),.int .i64 (-1),.int .u32 0])∧(∃ t,t≤t10+40∧XAt w' c t y M2)∧Kp (fun j=>c.md j∨j=c.E) W11 w'):=HR.out
 clear HR HB HE3 x10 k10 k11 x11 r11 HP9 ht10 nE
 go_upto_region 22 with fail
 rw [← hG,← hW11]
 clear hG hW11
 by_cases hif:bits .and .u32 z.fl 512=0
 ·have zif:=hif
  clear hif
  go_wp2_with fail
  refine Calls.mono HR2.out ?_;rintro e w12 ⟨rfl,⟨t12,ht12,x12⟩,k12⟩
  obtain ⟨H,hH⟩:∃ H,H=w12.heap.size:=⟨_,rfl⟩
  obtain ⟨W13,hW13⟩:∃ W,W=w12.alloc (.cells #[.int .i64 (-1),.int .i64 (-1),.int .u32 0] 44):=⟨_,rfl⟩
  have r13:RowT W13 H ⟨-1,-1,0⟩:=by rw [hW13,hH];exact (MapKept.heap_alloc w12 _).1
  have k13:Kp noB w12 W13:=by rw [hW13];exact Kp.alloc _ _ _
  have kd:Kp noB W13 W13.drew:=(Kp.refl noB W13).drew
  have P13:=((HP11.out.1.kp k12 (fun f=>(HN.out A f).2 rfl)).kp k13 id).kp kd id
  have HF13:Hid (Kp noB w W13.drew):=((HP11.out.2.over k12 (fun j hj e=>(by have:=(HN.out j e).1;omega))).trans k13).drew
  have q0:=(r13.kp kd id).c0
  have hl1:=((x12.kp0 k13).kp0 kd).e.get HV.out
  rw [← HCZ.out] at hl1
  have hl2:=HV.out.get P13
  have hq:=HQ.out
  clear k12 x12 r13 k13 kd P13 HP11 HR2 a0 a8 a9 a19 ht12
  go_upto_region 27 with fail
  rw [← hH,← hW13]
  clear hH hW13
  go_region
  go_wp2
  go_ret
  exact ⟨rfl,kBelow HF13.out⟩
 ·have zif:(bits .and .u32 z.fl 512 != 0)=true:=by simpa using hif
  go_wp2_with fail
  refine Calls.mono HR2.out ?_;rintro e w12 ⟨rfl,⟨t12,ht12,x12⟩,k12⟩
  obtain ⟨H,hH⟩:∃ H,H=w12.heap.size:=⟨_,rfl⟩
  obtain ⟨W13,hW13⟩:∃ W,W=w12.alloc (.cells #[.int .i64 (-1),.int .i64 (-1),.int .u32 0] 44):=⟨_,rfl⟩
  have r13:RowT W13 H ⟨-1,-1,0⟩:=by rw [hW13,hH];exact (MapKept.heap_alloc w12 _).1
  have k13:Kp noB w12 W13:=by rw [hW13];exact Kp.alloc _ _ _
  have kd:Kp noB W13 W13.drew:=(Kp.refl noB W13).drew
  have P13:=((HP11.out.1.kp k12 (fun f=>(HN.out A f).2 rfl)).kp k13 id).kp kd id
  have HF13:Hid (Kp noB w W13.drew):=((HP11.out.2.over k12 (fun j hj e=>(by have:=(HN.out j e).1;omega))).trans k13).drew
  have q0:=(r13.kp kd id).c0
  have hl1:=((x12.kp0 k13).kp0 kd).e.get HV.out
  rw [← HCZ.out] at hl1
  have hl2:=HV.out.get P13
  have hq:=HQ.out
  clear k12 x12 r13 k13 kd P13 HP11 HR2 a0 a8 a9 a19 ht12
  go_upto_region 27 with fail
  rw [← hH,← hW13]
  clear hH hW13
  go_region
  go_wp2
  go_ret
  exact ⟨rfl,kBelow HF13.out⟩
set_option maxHeartbeats 16000000 in
theorem back_if (w:World) (hC:Cls w) (vec:Int) (hv:I64 vec) (g0 g1 g2 g3 g4 g5 g6 g7:Int) (hg:U32 g0∧U32 g1∧U32 g2∧U32 g3∧U32 g4∧U32 g5∧U32 g6∧U32 g7) (flags:Int) (hf:U32 flags) (place:Int) (hp:U32 place):Calls Tryz.prog 4 #[.int .i64 vec,.bool false,.bool false,.agg #[.int .u32 g0,.int .u32 g1,.int .u32 g2,.int .u32 g3,.int .u32 g4,.int .u32 g5,.int .u32 g6,.int .u32 g7],.int .u32 flags,.int .u32 place] w fun e w'=>e=.returned (.bool true)∧Below w.heap.size w w':=by
 obtain ⟨T,nn,Z,hV⟩:=vlP
 obtain ⟨vl,vs,va,vb⟩:=hV.ops
 have vq:∀ x y,Op.binOp .eql 33 x y 33=Op.binOp .eql T x y T:=by rw [hV.t];exact fun _ _=>rfl
 have g1':=hV.agg;have g2':=hV.size;have g3':=hV.zero
 have gQ:Tryz.prog.eqGuardType Tryz.prog.depth T=false:=by rw [hV.t];kernel_rfl
 obtain ⟨n,hn⟩:∃ n:Nat,n=(flags%32768).toNat:=⟨_,rfl⟩
 have hn2:n < 32768:=by unfold U32 at hf;omega
 have hb:=fb_all n
 obtain ⟨FL,hFL⟩:∃ F,F=flB n:=⟨_,rfl⟩
 have hF:0≤FL∧FL < 4096∧FL / 2%2=1:=by rw [hFL];exact hb.1
 have en:(flags%32768)=(n:Int):=by unfold U32 at hf;omega
 have en':flags.tmod 32768=(n:Int):=by rw [Int.tmod_eq_emod_of_nonneg hf.1];exact en
 have ea:=and12 n hn2
 obtain ⟨n12,hn12⟩:∃ m:Int,m=((n%4096:Nat):Int):=⟨_,rfl⟩
 rw [← hn12] at ea
 obtain ⟨nI,hnI⟩:∃ m:Int,m=(n:Int):=⟨_,rfl⟩
 rw [← hnI] at ea en en'
 obtain ⟨f0,hf0⟩:∃ f,f=flB n:=⟨_,rfl⟩
 have ef0:bits .or .u32 n12 2=f0:=by rw [hn12,hf0];rfl
 have ef1:f0=FL:=by rw [hFL,hf0]
 have HEA:Hid (flags%32768=nI∧flags.tmod 32768=nI∧bits .andNot .u32 nI 28672=n12∧bits .or .u32 n12 2=f0∧f0=FL):=⟨en,en',ea,ef0,ef1⟩
 clear hb hn2 hf0 hFL hn12 hn hnI en en' ea ef0 ef1
 obtain ⟨y,hy⟩:∃ y:Cu,y=bkX stX0 (rgF g0 g1 g2 g3 36864 g5 g6 g7) place FL:=⟨_,rfl⟩
 have hyok:y.Ok:=by
  rw [hy]
  refine { stX0_ok with r:=fun i hi=>?_,ip:=hp,fl:=(⟨hF.1,by omega⟩:U32 FL) }
  obtain ⟨a0,a1,a2,a3,a4,a5,a6,a7⟩:=hg
  match i,hi with
  | 0,_=>exact a0
  | 1,_=>exact a1
  | 2,_=>exact a2
  | 3,_=>exact a3
  | 4,_=>exact (⟨by decide,by decide⟩:U32 36864)
  | 5,_=>exact a5
  | 6,_=>exact a6
  | 7,_=>exact a7
  | n+8,hi=>omega
 have ecs:(((((((((((stX0.cs.setIfInBounds 0 (.int .u32 g0)).setIfInBounds 1 (.int .u32 g1)).setIfInBounds 2 (.int .u32 g2)).setIfInBounds 3 (.int .u32 g3)).setIfInBounds 4 (.int .u32 g4)).setIfInBounds 5 (.int .u32 g5)).setIfInBounds 6 (.int .u32 g6)).setIfInBounds 7 (.int .u32 g7)).setIfInBounds 4 (.int .u32 36864)).setIfInBounds 8 (.int .u32 place)).setIfInBounds 9 (.int .u32 FL))=y.cs:=by rw [hy];kernel_rfl
 have flx:FlX y:=by
  rw [hy]
  exact ⟨flX_0.pg,rfl,rfl,rfl,rfl,rfl,rfl,flX_0.ss,flX_0.cs⟩
 have yr:y.rg=0:=by rw [hy];rfl
 have y4:y.r 4=36864:=by rw [hy];rfl
 have yip:y.ip=place:=by rw [hy];rfl
 have yfl:y.fl=FL:=by rw [hy];rfl
 have ysh:y.sh=false:=by rw [hy];rfl
 have yha:y.ha=false:=by rw [hy];rfl
 have ys1:y.sg 1=codD.sg 8:=by rw [hy];rfl
 have HYok:Hid y.Ok:=hyok
 have HECS:Hid (Unit→_):=fun _=>ecs
 have HYY:Hid (FlX y∧y.rg=0∧y.r 4=36864∧y.ip=place∧y.fl=FL∧y.sh=false∧y.ha=false∧y.sg 1=codD.sg 8):=⟨flx,yr,y4,yip,yfl,ysh,yha,ys1⟩
 clear flx yr y4 yip yfl ysh yha ys1  ecs
 clear hy hg
 obtain ⟨cz,hcz⟩:∃ q,q=y.cs:=⟨_,rfl⟩
 have HQ:Hid (∀ w,(Op.equalIn 10000 T (.agg cz) (.agg cz)).run Tryz.prog w=.ok true w):=by rw [hV.t,hcz];exact cu_equal hyok.toBd
 have HWF:Hid (WfC cz):=by rw [hcz];exact cu_wf _
 have hsz:cz.size=nn:=by rw [HWF.out.s,hV.s]
 have HCZ:Hid (cz=y.cs):=hcz
 obtain ⟨X,hX⟩:∃ X,w.heap.size=X:=⟨_,rfl⟩
 obtain ⟨W0,hW0⟩:∃ W,W=w.alloc (.cells #[.int .u32 g0,.int .u32 g1,.int .u32 g2,.int .u32 g3,.int .u32 g4,.int .u32 g5,.int .u32 g6,.int .u32 g7] 23):=⟨_,rfl⟩
 have k0:Kp noB w W0:=by rw [hW0];exact Kp.alloc noB w _
 have r0:W0.heap[X]?=some (.cells #[.int .u32 g0,.int .u32 g1,.int .u32 g2,.int .u32 g3,.int .u32 g4,.int .u32 g5,.int .u32 g6,.int .u32 g7] 23 (0,0)):=by rw [hW0,← hX];exact (MapKept.heap_alloc w _).1
 have HA:Hid _:=awake18 W0 (hC.kp0 k0)
 have HV:Hid _:=hV
 have HK0:Hid (Kp noB w W0):=k0
 have HR0:Hid (Unit→_):=fun _=>r0
 have HXs:Hid (w.heap.size=X):=hX
 obtain ⟨hu0,hu1⟩:=absI_bd hv
 unfold I64 at hv
 clear hV hC hcz k0 r0 hyok
 go_enter Tryz.func4,Tryz.ntmps4
 simp only [vl,vs,va,vq]
 go_wp2_with fail
 rw [← hW0]
 clear hW0 hX
 refine Calls.mono HA.out ?_;rintro e w1 ⟨rfl,k1⟩
 have HK1:Hid (Kp noB w w1):=HK0.out.trans k1
 have HR1:Hid (Unit→w1.heap[X]?=some (.cells #[.int .u32 g0,.int .u32 g1,.int .u32 g2,.int .u32 g3,.int .u32 g4,.int .u32 g5,.int .u32 g6,.int .u32 g7] 23 (0,0))):=fun _=>(k1.block X (Array.getElem?_eq_some_iff.1 (HR0.out ())).1 id).trans (HR0.out ())
 clear k1 HA HK0 HR0
 have HS:Hid _:=started0 w1 60928 (by unfold U32;decide)
 go_wp2_with fail
 refine Calls.mono HS.out ?_;rintro e w3 ⟨E,V,Kb,L,L',rfl,hst⟩
 obtain ⟨hx,hE,hall,kU⟩:=start_at stX0_ok (stM_same 60928).2 hst
 have k3:=Bs.noRm kU
 obtain ⟨M,hM⟩:∃ M,M=stM 60928:=⟨_,rfl⟩
 obtain ⟨c,hc⟩:∃ c:Ev,c=⟨E,V,Kb,L.M,8,(stM 60928).n,L.B⟩:=⟨_,rfl⟩
 have ecE:E=c.E:=by rw [hc]
 have HTb:Hid (Tb 60928 M):=by rw [hM];exact tb_st (by unfold U32;decide)
 rw [← hc] at hx hall
 rw [← hM] at hx
 rw [ecE] at hE ⊢
 have HX3:Hid (XAt w3 c 0 stX0 M):=hx
 have HK3:Hid (Kp noB w w3):=HK1.out.trans k3
 have HAL:Hid (w.heap.size≤c.E∧(∀ j,c.all j→w.heap.size≤j)∧X < c.E∧X < w3.heap.size):=⟨by have:=HK1.out.size;omega,fun j hj=>by have:=HK1.out.size;have:=hall j hj;omega,by have:=(Array.getElem?_eq_some_iff.1 (HR1.out ())).1;omega,by have:=(Array.getElem?_eq_some_iff.1 (HR1.out ())).1;have:=k3.size;omega⟩
 have HR3:Hid (Unit→w3.heap[X]?=some (.cells #[.int .u32 g0,.int .u32 g1,.int .u32 g2,.int .u32 g3,.int .u32 g4,.int .u32 g5,.int .u32 g6,.int .u32 g7] 23 (0,0))):=fun _=>(k3.block X (Array.getElem?_eq_some_iff.1 (HR1.out ())).1 id).trans (HR1.out ())
 clear hst hc hM kU k3 hx hE hall ecE HS HK1 HR1
 go_upto_if 34 with fail
 go_cut [0] from 21 (fun s0 wq=>s0=.int .i64 (absI vec)∧wq=w3)
 case first=>
  by_cases hn:vec < 0
  ·have hw1:IntKind.i64.wrap (vec+1)=vec+1:=by rw [IntKind.wrap_i64];omega
   have hw2:IntKind.i64.wrap (-(vec+1))=-(vec+1):=by rw [IntKind.wrap_i64];omega
   have HN:Hid _:=hn
   go_wp2
   go_meet
   case rel=>exact ⟨by unfold absI;rw [if_pos HN.out],rfl⟩
  ·have HN:Hid _:=hn
   go_wp2
   go_meet
   case rel=>exact ⟨by unfold absI;rw [if_neg HN.out],rfl⟩
 case rest=>
 obtain ⟨rfl,hwc⟩:=hcut
 replace hwc:=hwc.symm
 subst hwc
 generalize absI vec=u at *
 clear hv
 obtain ⟨v,hvv⟩:∃ v,v=u.tmod 64:=⟨_,rfl⟩
 have hv0:0≤v:=by rw [hvv];exact Int.tmod_nonneg _ hu0
 have hv1:v < 64:=by rw [hvv,Int.tmod_eq_emod_of_nonneg hu0];omega
 have e64:u.tmod 64=v:=hvv.symm
 have b1:IntKind.i64.wrap (16*v)=16*v:=by rw [IntKind.wrap_i64];omega
 have b2:IntKind.i64.wrap (24576+16*v)=24576+16*v:=by rw [IntKind.wrap_i64];omega
 have b3:IntKind.u32.wrap (24576+16*v)=24576+16*v:=by rw [IntKind.wrap_u32];omega
 have b4:(24576+16*v)%4294967296=24576+16*v:=by omega
 obtain ⟨flx,yr,y4,yip,yfl,ysh,yha,ys1⟩:=HYY.out
 obtain ⟨so,hso⟩:∃ b,b=decide (u.tmod 2=0):=⟨_,rfl⟩
 have eso:decide (u.tmod 2=0)=so:=hso.symm
 have eso':(u.tmod 2==0)=so:=by rw [hso];rfl
 have HE:Hid (enterO M y v (-1) so=.ok (layK M 36864 (wordsO y false (-1))) (nIn y v 60928 (36864 - 4*((wordsO y false (-1)).length:Int)))):=enter_in (kind:=60928) HTb.out flx (by unfold Kg;decide) yr hv0 hv1 (-1) so y4 (by decide) (by decide)
 have ew:wordsO y false (-1)=[y.fl,8,y.ip]:=by
  unfold wordsO
  rw [ys1]
  rfl
 have HB:Hid _:=back_in (kind:=60928) (v:=v) HTb.out flx (by unfold Kg;decide) ys1 y4 (by rw [yip];exact hp) (by rw [yfl];exact hF.1) (by rw [yfl];exact hF.2.1) (by rw [yfl];exact hF.2.2) ysh yha
 rw [ew,show ((36864:Int) - 4*(([y.fl,8,y.ip]:List Int).length:Int))=36852 by simp] at HE
 obtain ⟨M2,hM2⟩:∃ m,m=layK M 36864 [y.fl,8,y.ip]:=⟨_,rfl⟩
 obtain ⟨z,hz⟩:∃ z,z=nIn y v 60928 36852:=⟨_,rfl⟩
 have HE2:Hid (enterO M y v (-1) so=.ok M2 z):=by rw [hM2,hz];exact HE.out
 rw [← hM2,← hz] at HB
 have FF:=fl_all (k:=(gG 60928 v).k) (fl:=y.fl) (kG (by unfold Kg;decide) v) (by rw [yfl];exact hF.1) (by rw [yfl];exact hF.2.1) (by rw [yfl];exact hF.2.2)
 have zip:z.ip=24576+16*v:=by rw [hz];rfl
 have zcs:(z.sg 1).sel=8:=by rw [hz];rfl
 have zfl:z.fl=flD (gG 60928 v).k y.fl:=by rw [hz];rfl
 have ztf:bits .and .u32 z.fl 256=0:=by rw [zfl];exact FF.tf
 have zif:bits .and .u32 z.fl 512=0:=by rw [zfl];exact FF.fi rfl
 clear FF zfl hz hM2 HE ew hvv hu0 hu1 hv0 hv1 hso flx yr ys1 ysh yha HTb hf hp y4 yip yfl
 have c4:=HX3.out.c (k:=4) rfl
 rw [show stX0.r 4=36864 from rfl] at c4
 go_upto_region 14 with fail
 clear c4
 have d0:w3.cell? ⟨X,0,none⟩=some (.int .u32 g0):=by rw [cell_at (HR3.out ())];rfl
 have d1:w3.cell? ⟨X,1,none⟩=some (.int .u32 g1):=by rw [cell_at (HR3.out ())];rfl
 have d2:w3.cell? ⟨X,2,none⟩=some (.int .u32 g2):=by rw [cell_at (HR3.out ())];rfl
 have d3:w3.cell? ⟨X,3,none⟩=some (.int .u32 g3):=by rw [cell_at (HR3.out ())];rfl
 have d4:w3.cell? ⟨X,4,none⟩=some (.int .u32 g4):=by rw [cell_at (HR3.out ())];rfl
 have d5:w3.cell? ⟨X,5,none⟩=some (.int .u32 g5):=by rw [cell_at (HR3.out ())];rfl
 have d6:w3.cell? ⟨X,6,none⟩=some (.int .u32 g6):=by rw [cell_at (HR3.out ())];rfl
 have d7:w3.cell? ⟨X,7,none⟩=some (.int .u32 g7):=by rw [cell_at (HR3.out ())];rfl
 have c0:=HX3.out.c (k:=0) rfl
 have c1:=HX3.out.c (k:=1) rfl
 have c2:=HX3.out.c (k:=2) rfl
 have c3:=HX3.out.c (k:=3) rfl
 have c4:=HX3.out.c (k:=4) rfl
 have c5:=HX3.out.c (k:=5) rfl
 have c6:=HX3.out.c (k:=6) rfl
 have c7:=HX3.out.c (k:=7) rfl
 have fz:=HX3.out.e.fz
 have c8:=HX3.out.c (k:=8) rfl
 have c9:=HX3.out.c (k:=9) rfl
 have kS:∀ (U:World) (o:Nat) (u:Value),Kp (fun j=>j=c.E) w3 U→Kp (fun j=>j=c.E) w3 (U.setCell ⟨c.E,o,none⟩ u):=fun U o u h=>h.trans (Kp.setCell (S:=fun j=>j=c.E) U (p:=⟨c.E,o,none⟩) rfl u)
 obtain ⟨W8,hW8⟩:∃ W,W=(((((((((((w3.setCell ⟨c.E,0,none⟩ (.int .u32 g0)).setCell ⟨c.E,1,none⟩ (.int .u32 g1)).setCell ⟨c.E,2,none⟩ (.int .u32 g2)).setCell ⟨c.E,3,none⟩ (.int .u32 g3)).setCell ⟨c.E,4,none⟩ (.int .u32 g4)).setCell ⟨c.E,5,none⟩ (.int .u32 g5)).setCell ⟨c.E,6,none⟩ (.int .u32 g6)).setCell ⟨c.E,7,none⟩ (.int .u32 g7)).setCell ⟨c.E,4,none⟩ (.int .u32 36864)).setCell ⟨c.E,8,none⟩ (.int .u32 place)).setCell ⟨c.E,9,none⟩ (.int .u32 FL)):=⟨_,rfl⟩
 have e8:=(((((((((((HX3.out.e.set (k:=0) (by decide) (v:=.int .u32 g0) rfl).set (k:=1) (by decide) (v:=.int .u32 g1) rfl).set (k:=2) (by decide) (v:=.int .u32 g2) rfl).set (k:=3) (by decide) (v:=.int .u32 g3) rfl).set (k:=4) (by decide) (v:=.int .u32 g4) rfl).set (k:=5) (by decide) (v:=.int .u32 g5) rfl).set (k:=6) (by decide) (v:=.int .u32 g6) rfl).set (k:=7) (by decide) (v:=.int .u32 g7) rfl).set (k:=4) (by decide) (v:=.int .u32 36864) rfl).set (k:=8) (by decide) (v:=.int .u32 place) rfl).set (k:=9) (by decide) (v:=.int .u32 FL) rfl)
 rw [← hW8] at e8
 rw [HECS.out ()] at e8
 have HK8:Hid (Kp (fun j=>j=c.E) w3 W8):=by rw [hW8];exact (kS _ _ _ (kS _ _ _ (kS _ _ _ (kS _ _ _ (kS _ _ _ (kS _ _ _ (kS _ _ _ (kS _ _ _ (kS _ _ _ (kS _ _ _ (kS _ _ _ (Kp.refl _ _))))))))))))
 have HE8:Hid _:=e8
 clear e8 kS
 obtain ⟨en,en',ea,ef0,efl⟩:=HEA.out
 go_upto_region 20 with fail
 rw [← hW8]
 clear hW8 d0 d1 d2 d3 d4 d5 d6 d7 c0 c1 c2 c3 c4 c5 c6 c7 c8 c9 fz efl ef0 ea en en'
 have x8:XAt W8 c 0 y M:=⟨HE8.out,HX3.out.v.kp HK8.out (fun j hj e=>HX3.out.n (e ▸ (by rw [HX3.out.s] at hj;exact hj))),HX3.out.s,HX3.out.n,HYok.out⟩
 have HX8:Hid (XAt W8 c 0 y M):=x8
 have HW8:Hid (Kp noB w W8):=HK3.out.over HK8.out (fun j hj e=>by have:=HAL.out.1;omega)
 clear HE8 x8 HK8 HX3 HK3 HR3
 have hld:=HX8.out.e.get HV.out
 rw [← HCZ.out] at hld
 have pA0:PAt (W8.alloc (.cells Z T)) W8.heap.size Z:=HV.out.at HV.out.wf W8
 have hst:=VlP.put pA0 HWF.out
 obtain ⟨A,hA⟩:∃ A,A=W8.heap.size:=⟨_,rfl⟩
 obtain ⟨W9,hW9⟩:∃ W,W=(W8.alloc (.cells Z T)).setRow A cz:=⟨_,rfl⟩
 have P9:PAt W9 A cz:=by rw [hW9,hA];exact pA0.put HWF.out
 have k9:Kp noB W8 W9:=by
  rw [hW9]
  exact (Kp.alloc noB W8 _).over (Kp.setRow (S:=fun j=>j=A) (W8.alloc (.cells Z T)) rfl cz) (fun j hj e=>by omega)
 have x9:=HX8.out.kp0 k9
 have HA9:Hid (c.E < A∧(∀ j,c.all j→j < A)):=⟨by rw [hA];exact HX8.out.lt,fun j hj=>by rw [hA];exact HX8.out.in_all hj⟩
 have HP9:Hid (PAt W9 A cz∧Kp noB w W9):=⟨P9,HW8.out.trans k9⟩
 have HE1:Hid _:=Enter_any W9 c 0 y M x9 v (-1) so (by decide)
 rw [HE2.out] at HE1
 have HE3:Hid (Calls Tryz.prog 11 #[.pointer (some ⟨c.E,0,none⟩),.int .i64 v,.int .i64 (-1),.bool so] W9 fun e w'=>e=.returned (.agg #[.int .i64 (-1),.int .i64 (-1),.int .u32 0])∧(∃ t,t≤0+40∧XAt w' c t z M2)∧Kp (fun j=>c.md j∨j=c.E) W9 w'):=HE1.out
 go_upto_region 21 with fail
 rw [← hA,← hW9]
 clear hA hW9 hst hld pA0 P9 k9 x9 HX8 HW8 HE1 HE2
 go_wp2_with fail
 refine Calls.mono HE3.out ?_;rintro e w10 ⟨rfl,⟨t10,ht10,x10⟩,k10⟩
 have nE:∀ j,(c.md j∨j=c.E)→w.heap.size≤j∧j≠A:=fun j hj=>by
  rcases hj with e | e
  ·exact ⟨HAL.out.2.1 j (.inr e),by have:=HA9.out.2 j (.inr e);omega⟩
  ·have:=HAL.out.1;have:=HA9.out.1;exact ⟨by omega,by omega⟩
 obtain ⟨G,hG⟩:∃ G,G=w10.heap.size:=⟨_,rfl⟩
 obtain ⟨W11,hW11⟩:∃ W,W=w10.alloc (.cells #[.int .i64 (-1),.int .i64 (-1),.int .u32 0] 44):=⟨_,rfl⟩
 have r11:RowT W11 G ⟨-1,-1,0⟩:=by rw [hW11,hG];exact (MapKept.heap_alloc w10 _).1
 have k11:Kp noB w10 W11:=by rw [hW11];exact Kp.alloc _ _ _
 have x11:=x10.kp0 k11
 have HP11:Hid (PAt W11 A cz∧Kp noB w W11):=⟨(HP9.out.1.kp k10 (fun f=>(nE A f).2 rfl)).kp k11 id,(HP9.out.2.over k10 (fun j hj e=>(by have:=(nE j e).1;omega))).trans k11⟩
 have HN:Hid _:=nE
 have a0:=r11.c0
 have a8:=x11.c (k:=8) rfl
 have a9:=x11.c (k:=9) rfl
 have a19:=x11.c (k:=19) rfl
 rw [zip] at a8
 rw [zcs] at a19
 have HR:Hid _:=Return_any W11 c t10 z M2 x11 4 (by omega)
 rw [HB.out] at HR
 have HR2:Hid (Calls Tryz.prog 15 #[.pointer (some ⟨c.E,0,none⟩),.int .i64 4] W11 fun e w'=>e=.returned (.agg #[.int .i64 (-1),.int .i64 (-1),.int .u32 0])∧(∃ t,t≤t10+40∧XAt w' c t y M2)∧Kp (fun j=>c.md j∨j=c.E) W11 w'):=HR.out
 clear HR HB HE3 x10 k10 k11 x11 r11 HP9 ht10 nE
 go_upto_region 22 with fail
 rw [← hG,← hW11]
 clear hG hW11
 go_wp2_with fail
 refine Calls.mono HR2.out ?_;rintro e w12 ⟨rfl,⟨t12,ht12,x12⟩,k12⟩
 obtain ⟨H,hH⟩:∃ H,H=w12.heap.size:=⟨_,rfl⟩
 obtain ⟨W13,hW13⟩:∃ W,W=w12.alloc (.cells #[.int .i64 (-1),.int .i64 (-1),.int .u32 0] 44):=⟨_,rfl⟩
 have r13:RowT W13 H ⟨-1,-1,0⟩:=by rw [hW13,hH];exact (MapKept.heap_alloc w12 _).1
 have k13:Kp noB w12 W13:=by rw [hW13];exact Kp.alloc _ _ _
 have kd:Kp noB W13 W13.drew:=(Kp.refl noB W13).drew
 have P13:=((HP11.out.1.kp k12 (fun f=>(HN.out A f).2 rfl)).kp k13 id).kp kd id
 have HF13:Hid (Kp noB w W13.drew):=((HP11.out.2.over k12 (fun j hj e=>(by have:=(HN.out j e).1;omega))).trans k13).drew
 have q0:=(r13.kp kd id).c0
 have hl1:=((x12.kp0 k13).kp0 kd).e.get HV.out
 rw [← HCZ.out] at hl1
 have hl2:=HV.out.get P13
 have hq:=HQ.out
 clear k12 x12 r13 k13 kd P13 HP11 HR2 a0 a8 a9 a19 ht12
 go_upto_region 27 with fail
 rw [← hH,← hW13]
 clear hH hW13
 go_region
 go_wp2
 go_ret
 exact ⟨rfl,kBelow HF13.out⟩
theorem ExceptBack_walk (w:World) (hC:Cls w) (vec:Int) (hv:I64 vec) (outer trap:Bool) (g0 g1 g2 g3 g4 g5 g6 g7:Int) (hg:U32 g0∧U32 g1∧U32 g2∧U32 g3∧U32 g4∧U32 g5∧U32 g6∧U32 g7) (flags:Int) (hf:U32 flags) (place:Int) (hp:U32 place):Calls Tryz.prog 4 #[.int .i64 vec,.bool outer,.bool trap,.agg #[.int .u32 g0,.int .u32 g1,.int .u32 g2,.int .u32 g3,.int .u32 g4,.int .u32 g5,.int .u32 g6,.int .u32 g7],.int .u32 flags,.int .u32 place] w fun e w'=>e=.returned (.bool true)∧Below w.heap.size w w':=by
 cases outer<;>cases trap
 ·exact back_if w hC vec hv g0 g1 g2 g3 g4 g5 g6 g7 hg flags hf place hp
 ·exact back_it w hC vec hv g0 g1 g2 g3 g4 g5 g6 g7 hg flags hf place hp
 ·exact back_of w hC vec hv g0 g1 g2 g3 g4 g5 g6 g7 hg flags hf place hp
 ·exact back_ot w hC vec hv g0 g1 g2 g3 g4 g5 g6 g7 hg flags hf place hp
end Go.Proofs.YtacgmoikegcopaaGreatDoor.Rm
