/- Delivery and its end over the laws' tables, in the plain model. -/
import Derived.Test.YtacgmoikegcopaaGreatDoorXcFlowP
namespace Go.Proofs.YtacgmoikegcopaaGreatDoor.Rm
open Go.ChangeShapes Go.WideShapes Go.ChangeAt Go.RowKit Go.Maps
set_option linter.unusedVariables false
set_option maxRecDepth 20000
variable {M:Mem} {kind:Int} {x:Cu}
def putN (fl v:Int):Int:=
 let a:=if 0≤bits .and .u32 fl 12288 / 4096 then bits .or .u32 19925 512 else 19925
 bits .or .u32 (bits .or .u32 (bits .andNot .u32 fl (bits .or .u32 a 12288)) (bits .and .u32 v (bits .or .u32 a 12288))) 2
theorem putF_0 (x:Cu) (v:Int) (h0:x.rg=0):putF x v=putN x.fl v:=by
 unfold putF putN namF
 rw [h0]
 simp
def flOk (n:Nat):Bool:=[(14:Int),15].all fun k=>decide (bits .and .u32 (flD k n) 16384=0)&&decide (putN (flD k n) n=(n:Int))&&decide (bits .and .u32 (flD k n) 256=0)&&(decide (k=15)||decide (bits .and .u32 (flD k n) 512=0))
def flGo:Nat→Bool
 | 0=>true
 | n+1=>(decide (n / 2%2=0)||flOk n)&&flGo n
theorem flGo_4096:flGo 4096=true:=by kernel_rfl
theorem flGo_all:∀ N,flGo N=true→∀ n,n < N→n / 2%2=1→flOk n=true
 | 0,_,n,h,_=>by omega
 | N+1,hg,n,h,h2=>by
  unfold flGo at hg
  simp only [Bool.and_eq_true,Bool.or_eq_true,decide_eq_true_eq] at hg
  by_cases e:n=N
  ·subst e
   rcases hg.1 with f | f
   ·omega
   ·exact f
  ·exact flGo_all N hg.2 n (by omega) h2
structure Fl (k fl:Int):Prop where
 nt:bits .and .u32 (flD k fl) 16384=0
 back:putN (flD k fl) fl=fl
 tf:bits .and .u32 (flD k fl) 256=0
 fi:k=14→bits .and .u32 (flD k fl) 512=0
theorem fl_all {k fl:Int} (hk:k=14∨k=15) (h0:0≤fl) (h1:fl < 4096) (h2:fl / 2%2=1):Fl k fl:=by
 have h:=flGo_all 4096 flGo_4096 fl.toNat (by omega) (by omega)
 unfold flOk at h
 simp only [List.all_cons,List.all_nil,Bool.and_true,Bool.and_eq_true,Bool.or_eq_true,decide_eq_true_eq,show (fl.toNat:Int)=fl by omega] at h
 rcases hk with e | e
 ·rw [e]
  exact ⟨h.1.1.1.1,h.1.1.1.2,h.1.1.2,fun _=>by rcases h.1.2 with f | f;exact absurd f (by decide);exact f⟩
 ·rw [e]
  exact ⟨h.2.1.1.1,h.2.1.1.2,h.2.1.2,fun f=>absurd f (by decide)⟩
theorem cu_ext {x y:Cu} (hr:x.r=y.r) (hi:x.ip=y.ip) (hf:x.fl=y.fl) (hs:x.sg=y.sg) (h0:x.z0=y.z0) (h2:x.z2=y.z2) (h3:x.z3=y.z3) (g1:x.gb=y.gb) (g2:x.gl=y.gl) (i1:x.ib=y.ib) (i2:x.il=y.il) (ht:x.tr=y.tr) (a:x.sh=y.sh) (b:x.ha=y.ha) (c:x.de=y.de):x=y:=by
 cases x;cases y;simp_all
theorem kG {kind:Int} (h:Kg kind) (v:Int):(gG kind v).k=14∨(gG kind v).k=15:=by
 show kind / 256%32=14∨kind / 256%32=15
 unfold Kg at h
 rcases h with e | e | e | e<;>rw [e]<;>decide
theorem back_in (h:Tb kind M) (hx:FlX x) (hk:Kg kind) (hc:x.sg 1=codD.sg 8) {v:Int} (hr:x.r 4=36864) (hi:U32 x.ip) (h0:0≤x.fl) (h1:x.fl < 4096) (h2:x.fl / 2%2=1) (hsh:x.sh=false) (hha:x.ha=false):
  leaveO (layK M 36864 [x.fl,8,x.ip]) (nIn x v kind 36852) (nIn x v kind 36852) 4=.ok (layK M 36864 [x.fl,8,x.ip]) x:=by
 have F:=fl_all (kG hk v) h0 h1 h2
 have u1:U32 x.fl:=⟨h0,by omega⟩
 have t1:=h.lay (a:=36860) (v:=x.fl) (by decide) (by decide) u1
 have t2:=t1.lay (a:=36856) (v:=8) (by decide) (by decide) ⟨by decide,by decide⟩
 have t3:=t2.lay (a:=36852) (v:=x.ip) (by decide) (by decide) hi
 have eM:layK M 36864 [x.fl,8,x.ip]=lay4 (lay4 (lay4 M 36860 x.fl) 36856 8) 36852 x.ip:=rfl
 rw [eM]
 obtain ⟨N,hN⟩:∃ N,N=lay4 (lay4 (lay4 M 36860 x.fl) 36856 8) 36852 x.ip:=⟨_,rfl⟩
 have w1:wd N 36852=x.ip:=by rw [hN];exact t2.pn.wd_same (by decide) (by decide) hi.1 hi.2
 have w2:wd N 36856=8:=by rw [hN,t2.pn.wd_far (by decide) (by decide) hi.1 hi.2 (by decide) (by decide)];exact t1.pn.wd_same (by decide) (by decide) (by decide) (by decide)
 have w3:wd N 36860=x.fl:=by
  rw [hN,t2.pn.wd_far (by decide) (by decide) hi.1 hi.2 (by decide) (by decide),t1.pn.wd_far (by decide) (by decide) (by decide) (by decide) (by decide) (by decide)]
  exact h.pn.wd_same (by decide) (by decide) u1.1 u1.2
 rw [← hN] at t3 ⊢
 clear hN t1 t2 eM
 obtain ⟨y,hy⟩:∃ y,y=nIn x v kind 36852:=⟨_,rfl⟩
 have e4:y.r 4=36852:=by rw [hy];rfl
 have eg:y.rg=0:=by rw [hy];rfl
 have ef:y.fl=flD (gG kind v).k x.fl:=by rw [hy];rfl
 have hX:FlX y:=by rw [hy];exact ⟨hx.pg,hx.gb,hx.gl,hx.ib,hx.il,hx.tb,hx.tl,hx.ss,(⟨by decide,by decide⟩:U16 8)⟩
 rw [← hy]
 unfold leaveO
 rw [if_neg (by rw [ef];rintro (a | a);exact a.2 rfl;exact a F.nt)]
 rw [show a32n y 0 4=36852 by unfold a32n;rw [e4];decide,show a32n y 1 4=36856 by unfold a32n;rw [e4];decide,show a32n y 2 4=36860 by unfold a32n;rw [e4];decide,lodO_4 hX.pg hX.ss (by decide) (by decide)]
 rw [Ou.ok_bind]
 rw [lodO_4 hX.pg hX.ss (by decide) (by decide)]
 rw [Ou.ok_bind]
 rw [lodO_4 hX.pg hX.ss (by decide) (by decide),w1,w2,w3]
 rw [Ou.ok_bind]
 have ei:interO N y 8=.ok N codD:=by
  unfold interO
  rw [eg,if_neg (by decide),tfind_of hX (find_8 t3 hX) (by decide) (by decide)]
  rfl
 rw [show (8:Int)%65536=8 by decide,ei,Ou.ok_bind]
 have eo:outerO N y y 8 4=.ok N (y.setR 4 36864):=by
  unfold outerO
  rw [eg,if_neg (by decide),e4]
  rfl
 rw [eo,Ou.ok_bind]
 show laveB N y (y.setR 4 36864) codD x.ip 8 x.fl=_
 unfold laveB
 have:=hi.2
 rw [if_neg (by show ¬ (4294967295:Int) < x.ip;omega),putF_0 _ _ eg,ef,F.back]
 congr 1
 refine cu_ext ?_ rfl rfl ?_ (by rw [hy];rfl) (by rw [hy];rfl) (by rw [hy];rfl) (by rw [hy];rfl) (by rw [hy];rfl) (by rw [hy];rfl) (by rw [hy];rfl) (by rw [hy];rfl) hsh.symm (by rw [hy];exact hha.symm) (by rw [hy];rfl)
 ·funext j
  show (if j=4 then (36864:Int) else y.r j)=x.r j
  by_cases e:j=4
  ·rw [if_pos e,e,hr]
  ·rw [if_neg e,hy]
   show (if j=4 then _ else x.r j)=x.r j
   rw [if_neg e]
 ·funext j
  show (if j=1 then codD.sg 8 else y.sg j)=x.sg j
  by_cases e:j=1
  ·rw [if_pos e,e,hc]
  ·rw [if_neg e,hy]
   show (if j=1 then _ else x.sg j)=x.sg j
   rw [if_neg e]
theorem back_out (h:Tb kind M) (hx:FlX x) (hk:Kg kind) (hc:x.sg 1=codD3.sg 27) (hs:x.sg 2=datD3.sg 35) (hd:∀ j,j=0∨j=3∨j=4∨j=5→(x.sg j).d=3) {v:Int} (hr:x.r 4=36864) (hi:U32 x.ip) (h0:0≤x.fl) (h1:x.fl < 4096) (h2:x.fl / 2%2=1) (hsh:x.sh=false) (hha:x.ha=false):
  leaveO (layK M 40704 [35,36864,x.fl,27,x.ip]) (nOut x v kind 40684) (nOut x v kind 40684) 4=.ok (layK M 40704 [35,36864,x.fl,27,x.ip]) x:=by
 have F:=fl_all (kG hk v) h0 h1 h2
 have u1:U32 x.fl:=⟨h0,by omega⟩
 have a1:=h.lay (a:=40700) (v:=35) (by decide) (by decide) ⟨by decide,by decide⟩
 have a2:=a1.lay (a:=40696) (v:=36864) (by decide) (by decide) ⟨by decide,by decide⟩
 have a3:=a2.lay (a:=40692) (v:=x.fl) (by decide) (by decide) u1
 have a4:=a3.lay (a:=40688) (v:=27) (by decide) (by decide) ⟨by decide,by decide⟩
 have a5:=a4.lay (a:=40684) (v:=x.ip) (by decide) (by decide) hi
 have eM:layK M 40704 [35,36864,x.fl,27,x.ip]=lay4 (lay4 (lay4 (lay4 (lay4 M 40700 35) 40696 36864) 40692 x.fl) 40688 27) 40684 x.ip:=rfl
 rw [eM]
 obtain ⟨N,hN⟩:∃ N,N=lay4 (lay4 (lay4 (lay4 (lay4 M 40700 35) 40696 36864) 40692 x.fl) 40688 27) 40684 x.ip:=⟨_,rfl⟩
 have w1:wd N 40684=x.ip:=by rw [hN];exact a4.pn.wd_same (by decide) (by decide) hi.1 hi.2
 have w2:wd N 40688=27:=by rw [hN,a4.pn.wd_far (by decide) (by decide) hi.1 hi.2 (by decide) (by decide)];exact a3.pn.wd_same (by decide) (by decide) (by decide) (by decide)
 have w3:wd N 40692=x.fl:=by
  rw [hN,a4.pn.wd_far (by decide) (by decide) hi.1 hi.2 (by decide) (by decide),a3.pn.wd_far (by decide) (by decide) (by decide) (by decide) (by decide) (by decide)]
  exact a2.pn.wd_same (by decide) (by decide) u1.1 u1.2
 have w4:wd N 40696=36864:=by
  rw [hN,a4.pn.wd_far (by decide) (by decide) hi.1 hi.2 (by decide) (by decide),a3.pn.wd_far (by decide) (by decide) (by decide) (by decide) (by decide) (by decide),a2.pn.wd_far (by decide) (by decide) u1.1 u1.2 (by decide) (by decide)]
  exact a1.pn.wd_same (by decide) (by decide) (by decide) (by decide)
 have w5:wd N 40700=35:=by
  rw [hN,a4.pn.wd_far (by decide) (by decide) hi.1 hi.2 (by decide) (by decide),a3.pn.wd_far (by decide) (by decide) (by decide) (by decide) (by decide) (by decide),a2.pn.wd_far (by decide) (by decide) u1.1 u1.2 (by decide) (by decide),a1.pn.wd_far (by decide) (by decide) (by decide) (by decide) (by decide) (by decide)]
  exact h.pn.wd_same (by decide) (by decide) (by decide) (by decide)
 rw [← hN] at a5 ⊢
 clear hN a1 a2 a3 a4 eM
 obtain ⟨y,hy⟩:∃ y,y=nOut x v kind 40684:=⟨_,rfl⟩
 have e4:y.r 4=40684:=by rw [hy];rfl
 have eg:y.rg=0:=by rw [hy];rfl
 have ef:y.fl=flD (gG kind v).k x.fl:=by rw [hy];rfl
 have hX:FlX y:=by rw [hy];exact ⟨hx.pg,hx.gb,hx.gl,hx.ib,hx.il,hx.tb,hx.tl,⟨rfl,rfl,rfl,rfl,rfl,rfl,rfl⟩,(⟨by decide,by decide⟩:U16 8)⟩
 rw [← hy]
 unfold leaveO
 rw [if_neg (by rw [ef];rintro (a | a);exact a.2 rfl;exact a F.nt)]
 rw [show a32n y 0 4=40684 by unfold a32n;rw [e4];decide,show a32n y 1 4=40688 by unfold a32n;rw [e4];decide,show a32n y 2 4=40692 by unfold a32n;rw [e4];decide,lodO_4 hX.pg hX.ss (by decide) (by decide)]
 rw [Ou.ok_bind]
 rw [lodO_4 hX.pg hX.ss (by decide) (by decide)]
 rw [Ou.ok_bind]
 rw [lodO_4 hX.pg hX.ss (by decide) (by decide),w1,w2,w3]
 rw [Ou.ok_bind]
 have ei:interO N y 27=.ok N codD3:=by
  unfold interO
  rw [eg,if_neg (by decide),tfind_of hX (find_27 a5 hX) (by decide) (by decide)]
  rfl
 rw [show (27:Int)%65536=27 by decide,ei,Ou.ok_bind]
 have eo:outerO N y y 27 4=.ok N (hideC ((y.setS 2 (datD3.sg 35)).setR 4 36864) 3):=by
  unfold outerO giveO
  rw [eg,if_pos (by decide),show a32n y 3 4=40696 by unfold a32n;rw [e4];decide,show a32n y 4 4=40700 by unfold a32n;rw [e4];decide,lodO_4 hX.pg hX.ss (by decide) (by decide)]
  rw [Ou.ok_bind]
  rw [lodO_4 hX.pg hX.ss (by decide) (by decide),w4,w5]
  rw [Ou.ok_bind]
  rw [show (35:Int)%65536=35 by decide]
  unfold stackO
  rw [tfind_of hX (find_35 a5 hX) (by decide) (by decide)]
  rfl
 rw [eo,Ou.ok_bind]
 show laveB N y (hideC ((y.setS 2 (datD3.sg 35)).setR 4 36864) 3) codD3 x.ip 27 x.fl=_
 have hh:∀ j,j=0∨j=3∨j=4∨j=5→hid1 (x.sg j) 3=x.sg j:=fun j hj=>by
  unfold hid1 hidB
  rw [hd j hj]
  simp
 unfold laveB
 have:=hi.2
 rw [if_neg (by show ¬ (4294967295:Int) < x.ip;omega),putF_0 _ _ eg,ef,F.back]
 congr 1
 refine cu_ext ?_ rfl rfl ?_ (by rw [hy];rfl) (by rw [hy];rfl) (by rw [hy];rfl) (by rw [hy];rfl) (by rw [hy];rfl) (by rw [hy];rfl) (by rw [hy];rfl) (by rw [hy];rfl) hsh.symm (by rw [hy];exact hha.symm) (by rw [hy];rfl)
 ·funext j
  show (if j=4 then (36864:Int) else y.r j)=x.r j
  by_cases e:j=4
  ·rw [if_pos e,e,hr]
  ·rw [if_neg e,hy]
   show (if j=4 then _ else if j=4 then _ else x.r j)=x.r j
   rw [if_neg e,if_neg e]
 ·funext j
  have ys:∀ j,j≠1→j≠2→y.sg j=x.sg j:=fun j e1 e2=>by
   rw [hy]
   show (if j=1 then _ else if j=2 then _ else x.sg j)=x.sg j
   rw [if_neg e1,if_neg e2]
  show (if j=1 then codD3.sg 27 else (hideC ((y.setS 2 (datD3.sg 35)).setR 4 36864) 3).sg j)=x.sg j
  by_cases e1:j=1
  ·rw [if_pos e1,e1,hc]
  rw [if_neg e1]
  show (if j=5 then hid1 (y.sg 5) 3 else if j=4 then hid1 (y.sg 4) 3 else if j=3 then hid1 (y.sg 3) 3 else if j=0 then hid1 (y.sg 0) 3 else if j=2 then datD3.sg 35 else y.sg j)=x.sg j
  rw [ys 5 (by decide) (by decide),ys 4 (by decide) (by decide),ys 3 (by decide) (by decide),ys 0 (by decide) (by decide),hh 5 (by decide),hh 4 (by decide),hh 3 (by decide),hh 0 (by decide)]
  by_cases e5:j=5
  ·rw [if_pos e5,e5]
  by_cases e4:j=4
  ·rw [if_neg e5,if_pos e4,e4]
  by_cases e3:j=3
  ·rw [if_neg e5,if_neg e4,if_pos e3,e3]
  by_cases e0:j=0
  ·rw [if_neg e5,if_neg e4,if_neg e3,if_pos e0,e0]
  by_cases e2:j=2
  ·rw [if_neg e5,if_neg e4,if_neg e3,if_neg e0,if_pos e2,e2,hs]
  rw [if_neg e5,if_neg e4,if_neg e3,if_neg e0,if_neg e2,ys j e1 e2]
end Go.Proofs.YtacgmoikegcopaaGreatDoor.Rm
