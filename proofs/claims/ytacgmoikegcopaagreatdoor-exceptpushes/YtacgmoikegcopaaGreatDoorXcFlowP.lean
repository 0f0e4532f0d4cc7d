/- Delivery over the laws' tables, in the plain model. -/
import Derived.Test.YtacgmoikegcopaaGreatDoorEc35
import Derived.Test.YtacgmoikegcopaaGreatDoorEc18
namespace Go.Proofs.YtacgmoikegcopaaGreatDoor.Rm
open Go.ChangeShapes Go.WideShapes Go.ChangeAt Go.RowKit Go.Maps
set_option linter.unusedVariables false
set_option maxRecDepth 20000
variable {M:Mem} {kind:Int} {x:Cu}
structure Tb (kind:Int) (M:Mem):Prop where
 pn:Pn M
 lo:∀ v:Int,0≤v→v < 64→wd M (3072+8*v)=524288+(24576+16*v)
 hi:∀ v:Int,0≤v→v < 64→wd M (3076+8*v)=kind
 w:∀ i,i < 10→wd M (tab0[i]?.getD (0,0)).1=(tab0[i]?.getD (0,0)).2
theorem tb_st (hk:U32 kind):Tb kind (stM kind):=⟨stM_pn hk,fun v a b=>stM_lo hk a b,fun v a b=>stM_hi hk a b,fun i h=>stM_0 hk i h⟩
theorem Tb.lay (h:Tb kind M) {a v:Int} (a0:4096≤a) (a1:a+4≤65536) (hv:U32 v):Tb kind (lay4 M a v) where
 pn:=h.pn.lay4 (by omega) a1 hv.1 hv.2
 lo:=fun v' v0 v1=>(h.pn.wd_far (by omega) a1 hv.1 hv.2 (by omega) (by omega)).trans (h.lo v' v0 v1)
 hi:=fun v' v0 v1=>(h.pn.wd_far (by omega) a1 hv.1 hv.2 (by omega) (by omega)).trans (h.hi v' v0 v1)
 w:=fun i hi=>by
  have:=(tab0_up i hi).1
  exact (h.pn.wd_far (by omega) a1 hv.1 hv.2 (by omega) (by omega)).trans (h.w i hi)
structure FlX (x:Cu):Prop where
 pg:x.cp.pg=false
 gb:x.gb=2048
 gl:x.gl=47
 ib:x.ib=3072
 il:x.il=511
 tb:x.tr.b=2560
 tl:x.tr.l=103
 ss:FlS (x.sg 2)
 cs:U16 (x.sg 1).sel
def codD:Dsc:=⟨0,4294967295,10,false,0,true,true⟩
def datD:Dsc:=⟨0,4294967295,2,false,0,true,true⟩
def codD3:Dsc:=⟨0,4294967295,10,false,3,true,true⟩
def datD3:Dsc:=⟨0,4294967295,2,false,3,true,true⟩
theorem find_8 (h:Tb kind M) (hx:FlX x):findO M x 8=.ok M codD:=by
 unfold findO farS
 rw [hx.gl,hx.gb,if_neg (by decide),show a32 2048 (8 - 8%8)=2056 by decide,show a32 2056 4=2060 by decide,sysO_4 hx.pg (by decide) (by decide)]
 rw [Ou.ok_bind]
 rw [sysO_4 hx.pg (by decide) (by decide),show wd M 2056=65535 from h.w 0 (by decide),show wd M 2060=13605376 from h.w 1 (by decide)]
 rfl
theorem find_16 (h:Tb kind M) (hx:FlX x):findO M x 16=.ok M datD:=by
 unfold findO farS
 rw [hx.gl,hx.gb,if_neg (by decide),show a32 2048 (16 - 16%8)=2064 by decide,show a32 2064 4=2068 by decide,sysO_4 hx.pg (by decide) (by decide)]
 rw [Ou.ok_bind]
 rw [sysO_4 hx.pg (by decide) (by decide),show wd M 2064=65535 from h.w 2 (by decide),show wd M 2068=13603328 from h.w 3 (by decide)]
 rfl
theorem find_27 (h:Tb kind M) (hx:FlX x):findO M x 27=.ok M codD3:=by
 unfold findO farS
 rw [hx.gl,hx.gb,if_neg (by decide),show a32 2048 (27 - 27%8)=2072 by decide,show a32 2072 4=2076 by decide,sysO_4 hx.pg (by decide) (by decide)]
 rw [Ou.ok_bind]
 rw [sysO_4 hx.pg (by decide) (by decide),show wd M 2072=65535 from h.w 4 (by decide),show wd M 2076=13629952 from h.w 5 (by decide)]
 rfl
theorem find_35 (h:Tb kind M) (hx:FlX x):findO M x 35=.ok M datD3:=by
 unfold findO farS
 rw [hx.gl,hx.gb,if_neg (by decide),show a32 2048 (35 - 35%8)=2080 by decide,show a32 2080 4=2084 by decide,sysO_4 hx.pg (by decide) (by decide)]
 rw [Ou.ok_bind]
 rw [sysO_4 hx.pg (by decide) (by decide),show wd M 2080=65535 from h.w 6 (by decide),show wd M 2084=13627904 from h.w 7 (by decide)]
 rfl
theorem tfind_of {d:Dsc} {s v c:Int} (hx:FlX x) (h:findO M x s=.ok M d) (h1:cdO s≠0) (h2:farS s 47=false):tfindO M x s v c=.ok M d:=by
 unfold tfindO
 rw [hx.gl,if_neg (by rw [h2];simpa using h1),h]
def gG (kind v:Int):Gt:=⟨8,24576+16*v,kind / 256%32,kind / 8192%4,decide (kind / 32768%2=1)⟩
def Kd (kind:Int):Prop:=kind=36352∨kind=36608∨kind=60928∨kind=61184∨kind=3584∨kind=35840∨kind=40448
theorem Kd.u {kind:Int} (h:Kd kind):U32 kind:=by unfold Kd at h;unfold U32;omega
theorem plG_all:∀ k,k ∈ [36352,36608,60928,61184,3584,35840,40448]→∀ v:Nat,v < 64→plG (524288+(24576+16*(v:Int))) k=24576+16*(v:Int):=by decide +kernel
theorem plG_v (hk:Kd kind) {v:Int} (v0:0≤v) (v1:v < 64):plG (524288+(24576+16*v)) kind=24576+16*v:=by
 have:=plG_all kind (by unfold Kd at hk;simpa using hk) v.toNat (by omega)
 rwa [show (v.toNat:Int)=v by omega] at this
theorem gateD_v (hk:Kd kind) {v:Int} (v0:0≤v) (v1:v < 64):gateD (524288+(24576+16*v)) kind=gG kind v:=by
 unfold gateD gG
 rw [plG_v hk v0 v1,show (524288+(24576+16*v)) / 65536=8 by omega]
theorem gate_v (h:Tb kind M) (hx:FlX x) (hk:Kd kind) {v:Int} (v0:0≤v) (v1:v < 64) (so:Bool) (c:Int):
  gateO M x v so c=if badG (gG kind v) so x.rg then .no M 13 c else if (gG kind v).p=false then .no M 11 c else .ok M (gG kind v):=by
 unfold gateO
 rw [hx.il,hx.ib,if_neg (by omega),show a32 3072 (8*v)=3072+8*v by unfold a32;omega,show a32 (3072+8*v) 4=3076+8*v by unfold a32;omega,sysO_4 hx.pg (by omega) (by omega)]
 rw [Ou.ok_bind]
 rw [sysO_4 hx.pg (by omega) (by omega),h.lo v v0 v1,h.hi v v0 v1]
 rw [Ou.ok_bind,gateD_v hk v0 v1]
theorem gate_far (hx:FlX x) {v:Int} (v1:64≤v) (so:Bool) (c:Int):gateO M x v so c=.no M 13 c:=by
 unfold gateO
 rw [hx.il,if_pos (by omega)]
theorem rg_4 (hx:FlX x):0≤x.rg∧x.rg < 4:=by have:=hx.cs;unfold Cu.rg;omega
theorem hand_v (h:Tb kind M) (hx:FlX x) {v:Int} (v0:0≤v) (v1:v < 64) (o:Int):handO M x (gG kind v) o=.ok M codD:=by
 unfold handO
 rw [show (gG kind v).s=8 from rfl,tfind_of hx (find_8 h hx) (by decide) (by decide)]
 rw [Ou.ok_bind]
 have:=rg_4 hx
 have e:min codD.d x.rg=0:=by show min (0:Int) x.rg=0;omega
 rw [e,if_neg (by decide),if_neg (by show ¬ (4294967295:Int) < 24576+16*v;omega)]
theorem push_4 {n:Cu} (hp:n.cp.pg=false) (hs:FlS (n.sg 2)) {r:Int} (hr:n.r 4=r) (r0:4≤r) (r1:r≤65536) (v:Int):pushO M n v=.ok (lay4 M (r - 4) v) (n.setR 4 (r - 4)):=by
 unfold pushO
 rw [hr,show a32 r (-4)=r - 4 by unfold a32;omega,stoO_4 hp hs (by omega) (by omega)]
 rfl
theorem setR_twice (n:Cu) (a b:Int):(n.setR 4 a).setR 4 b=n.setR 4 b:=by
 unfold Cu.setR
 congr 1
 funext j
 dsimp only
 by_cases e:j=4
 ·rw [if_pos e,if_pos e]
 ·rw [if_neg e,if_neg e,if_neg e]
def layK (M:Mem) (r:Int):List Int→Mem
 | []=>M
 | v::l=>layK (lay4 M (r - 4) v) (r - 4) l
theorem pushes_4:∀ (l:List Int) {M:Mem} {n:Cu},n.cp.pg=false→FlS (n.sg 2)→∀ {r:Int},n.r 4=r→4*(l.length:Int)≤r→r≤65536→pushesO M n l=.ok (layK M r l) (n.setR 4 (r - 4*l.length))
 | [],M,n,hp,hs,r,hr,r0,r1=>by
  unfold pushesO layK
  have e:n.setR 4 (r - 4*(([]:List Int).length:Int))=n:=by
   unfold Cu.setR
   simp only [List.length_nil]
   rw [← hr]
   cases n
   congr 1
   funext j
   dsimp only
   split
   ·rename_i e;rw [e];simp
   ·rfl
  rw [e]
 | v::l,M,n,hp,hs,r,hr,r0,r1=>by
  simp only [List.length_cons] at r0
  unfold pushesO layK
  rw [push_4 hp hs hr (by omega) r1 v]
  rw [Ou.ok_bind]
  rw [pushes_4 l (M:=lay4 M (r - 4) v) (n:=n.setR 4 (r - 4)) hp hs (r:=r - 4) rfl (by omega) (by omega),setR_twice,List.length_cons]
  congr 2
  omega
def Kg (kind:Int):Prop:=kind=36352∨kind=36608∨kind=60928∨kind=61184
theorem Kg.d {kind:Int} (h:Kg kind):Kd kind:=by unfold Kg at h;unfold Kd;omega
def nIn (x:Cu) (v kind sp:Int):Cu:=endD x ((toCs x (gG kind v) codD 0).setR 4 sp) (gG kind v)
theorem enter_in (h:Tb kind M) (hx:FlX x) (hk:Kg kind) (h0:x.rg=0) {v:Int} (v0:0≤v) (v1:v < 64) (c:Int) (so:Bool) {r:Int} (hr:x.r 4=r) (r0:4096≤r) (r1:r≤65536):
  enterO M x v c so=.ok (layK M r (wordsO x false c)) (nIn x v kind (r - 4*(wordsO x false c).length)):=by
 have hl:(wordsO x false c).length≤4:=by unfold wordsO;by_cases e:0≤c<;>simp [e]
 have hb:badG (gG kind v) so x.rg=false:=by
  rw [h0]
  show (decide (kind / 256%32≠14∧kind / 256%32≠15)||(so&&decide (kind / 8192%4 < 0)))=false
  unfold Kg at hk
  rcases hk with e | e | e | e<;>rw [e]<;>cases so<;>decide
 have hp:(gG kind v).p=true:=by
  show decide (kind / 32768%2=1)=true
  unfold Kg at hk
  rcases hk with e | e | e | e<;>rw [e]<;>decide
 unfold enterO
 rw [if_neg (by omega),gate_v h hx hk.d v0 v1,hb,hp]
 rw [if_neg (by decide),if_neg (by decide),Ou.ok_bind,hand_v h hx v0 v1,Ou.ok_bind]
 have hi:innB x codD=false:=by unfold innB;rw [h0];decide
 have hg:rgN x codD=0:=by unfold rgN;rw [hi,h0];rfl
 rw [hi,hg,if_neg (by decide),Ou.ok_bind]
 rw [pushes_4 _ (n:=toCs x (gG kind v) codD 0) hx.pg hx.ss (r:=r) hr (by omega) r1,Ou.ok_bind]
 unfold nIn
 rfl
def nOut (x:Cu) (v kind sp:Int):Cu:=endD x ((toCs ((x.setS 2 (datD.sg 16)).setR 4 40704) (gG kind v) codD 0).setR 4 sp) (gG kind v)
theorem take_out (h:Tb kind M) (hx:FlX x) (o:Int):takeO M x x 0 o=.ok M ((x.setS 2 (datD.sg 16)).setR 4 40704):=by
 unfold takeO
 rw [hx.tl,hx.tb,if_neg (by decide),show a32 2560 (4+8*0)=2564 by decide,show a32 2564 4=2568 by decide,sysO_4 hx.pg (by decide) (by decide)]
 rw [Ou.ok_bind]
 rw [sysO_2 h.pn hx.pg (by decide) (by decide)]
 rw [Ou.ok_bind]
 rw [show wd M 2568=16 from h.w 9 (by decide),show (16:Int)%65536%65536=16 by decide]
 unfold stackO
 rw [tfind_of hx (find_16 h hx) (by decide) (by decide)]
 rw [Ou.ok_bind]
 rw [if_neg (by decide),if_neg (by decide),show wd M 2564=40704 from h.w 8 (by decide)]
 rfl
theorem enter_out (h:Tb kind M) (hx:FlX x) (hk:Kg kind) (h3:x.rg=3) {v:Int} (v0:0≤v) (v1:v < 64) (c:Int) (so:Bool) (hb:badG (gG kind v) so 3=false):
  enterO M x v c so=.ok (layK M 40704 (wordsO x true c)) (nOut x v kind (40704 - 4*(wordsO x true c).length)):=by
 have hl:(wordsO x true c).length≤6:=by unfold wordsO;by_cases e:0≤c<;>simp [e]
 have hp:(gG kind v).p=true:=by
  show decide (kind / 32768%2=1)=true
  unfold Kg at hk
  rcases hk with e | e | e | e<;>rw [e]<;>decide
 unfold enterO
 rw [if_neg (by omega),gate_v h hx hk.d v0 v1,h3,hb,hp]
 rw [if_neg (by decide),if_neg (by decide),Ou.ok_bind,hand_v h hx v0 v1,Ou.ok_bind]
 have hi:innB x codD=true:=by unfold innB;rw [h3];decide
 have hg:rgN x codD=0:=by unfold rgN;rw [hi];rfl
 rw [hi,hg,if_pos rfl,show codD.d=0 from rfl,take_out h hx,Ou.ok_bind]
 have hf:FlS (datD.sg 16):=⟨rfl,rfl,rfl,rfl,rfl,rfl,rfl⟩
 rw [pushes_4 _ (n:=toCs ((x.setS 2 (datD.sg 16)).setR 4 40704) (gG kind v) codD 0) hx.pg hf (r:=40704) rfl (by omega) (by decide),Ou.ok_bind]
 unfold nOut
 rfl
theorem enter_far (hx:FlX x) {v:Int} (v1:64≤v) (v2:v < 256) (c:Int) (so:Bool):enterO M x v c so=.no M 13 (8*v+2+outX so):=by
 unfold enterO
 rw [if_neg (by omega),gate_far hx v1]
 rfl
theorem enter_bad (h:Tb kind M) (hx:FlX x) (hk:Kd kind) {v:Int} (v0:0≤v) (v1:v < 64) (c:Int) (so:Bool) (hb:badG (gG kind v) so x.rg=true):enterO M x v c so=.no M 13 (8*v+2+outX so):=by
 unfold enterO
 rw [if_neg (by omega),gate_v h hx hk v0 v1,hb]
 rfl
theorem enter_np (h:Tb kind M) (hx:FlX x) (hk:Kd kind) {v:Int} (v0:0≤v) (v1:v < 64) (c:Int) (so:Bool) (hb:badG (gG kind v) so x.rg=false) (hp:(gG kind v).p=false):enterO M x v c so=.no M 11 (8*v+2+outX so):=by
 unfold enterO
 rw [if_neg (by omega),gate_v h hx hk v0 v1,hb,hp]
 rfl
theorem flX_0:FlX stX0:=⟨by decide,rfl,rfl,rfl,rfl,rfl,rfl,⟨rfl,rfl,rfl,rfl,rfl,rfl,rfl⟩,by unfold U16;decide⟩
theorem flX_3:FlX stX3:=⟨by decide,rfl,rfl,rfl,rfl,rfl,rfl,⟨rfl,rfl,rfl,rfl,rfl,rfl,rfl⟩,by unfold U16;decide⟩
end Go.Proofs.YtacgmoikegcopaaGreatDoor.Rm
