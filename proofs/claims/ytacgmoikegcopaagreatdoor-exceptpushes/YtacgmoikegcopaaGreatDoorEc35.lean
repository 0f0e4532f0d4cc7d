/- The bus and its devices: XcWords, BsOut33, XcStartN, XcHas, XcAwF, XcAwake, XcNone, XcPlain, VmOpenN, XcInN. -/
import Derived.Test.YtacgmoikegcopaaGreatDoorEc34
import Derived.Test.YtacgmoikegcopaaGreatDoorEc30
import Derived.Test.YtacgmoikegcopaaGreatDoorEc29
import Derived.LoopN
import Derived.Test.YtacgmoikegcopaaGreatDoorEc05
import Derived.Test.YtacgmoikegcopaaGreatDoorRows
import Derived.Laws.BytesArg
import Derived.Deep.RegionHeld3
import Derived.Test.YtacgmoikegcopaaGreatDoorEc04
import Derived.WalkKit
import Derived.ProofKit
import Derived.OpenShut
import Derived.Carry
import Derived.Deep.Slices
namespace Go.Proofs.YtacgmoikegcopaaGreatDoor.Rm
open Go.ChangeShapes Go.WideShapes Go.ChangeAt Go.RowKit Go.Maps
set_option linter.unusedVariables false
set_option maxRecDepth 20000
def fstW (l:List (Int × Int)) (i:Nat):Int:=(l[i]?.getD (0,0)).1
def sndW (l:List (Int × Int)) (i:Nat):Int:=(l[i]?.getD (0,0)).2
theorem wdL_at:∀ (l:List (Int × Int)) (i:Nat),i < l.length→(wdL l)[i*2]?=some (.int .u32 (fstW l i))∧(wdL l)[i*2+1]?=some (.int .u32 (sndW l i))
 | [],i,h=>absurd h (by simp)
 | p::l,0,h=>⟨rfl,rfl⟩
 | p::l,i+1,h=>by
  have:=wdL_at l i (by simpa using h)
  rw [show (i+1)*2=i*2+1+1 by omega]
  exact ⟨by simpa [wdL,fstW] using this.1,by simpa [wdL,sndW] using this.2⟩
def WdOk (p:Int × Int):Prop:=U32 p.1∧U32 p.2
theorem tabG_ok {kind:Int} (hk:U32 kind):∀ i:Nat,i≤64→(∀ p ∈ tabG kind i,WdOk p)∧(tabG kind i).length=10+2*i
 | 0,_=>⟨fun p hp=>by
   simp only [tabG,tab0,List.mem_cons,List.not_mem_nil,or_false] at hp
   rcases hp with rfl | rfl | rfl | rfl | rfl | rfl | rfl | rfl | rfl | rfl<;>exact ⟨⟨by decide,by decide⟩,⟨by decide,by decide⟩⟩,rfl⟩
 | i+1,h=>by
  obtain ⟨a,b⟩:=tabG_ok hk i (by omega)
  refine ⟨fun p hp=>?_,by simp only [tabG,List.length_append,List.length_cons,List.length_nil,b];omega⟩
  simp only [tabG,List.mem_append,List.mem_cons,List.not_mem_nil,or_false] at hp
  rcases hp with hp | rfl | rfl
  ·exact a p hp
  ·exact ⟨⟨by simp only;omega,by simp only;omega⟩,⟨by simp only;omega,by simp only;omega⟩⟩
  ·exact ⟨⟨by simp only;omega,by simp only;omega⟩,hk⟩
theorem tabs_in {W:World} {base:Nat} {v:Value} {kind:Int} (hk:U32 kind) (h:W.ownsRow base 120 2 v 138 (wdL (tabG kind 64))):
  ∃ b cap,v=.slice (some ⟨b,0,none⟩) 138 cap∧∀ i,i < 138→WordIn W (some ⟨b,0,none⟩) (fstW (tabG kind 64)) (sndW (tabG kind 64)) i:=by
 obtain ⟨hok,hlen⟩:=tabG_ok hk 64 (by omega)
 rcases h.2 with ⟨_,h2⟩ | ⟨g,cap,cur,rfl,hb,hg,hn,hc,hs,ht⟩
 ·exact absurd h2 (by decide)
 refine ⟨g,cap,rfl,fun i hi=>⟨g,0,rfl,(Array.getElem?_eq_some_iff.1 hg).1,?_,?_,?_⟩⟩
 ·have a:=(wdL_at (tabG kind 64) i (by omega)).1
  rw [← ht,List.getElem?_take_of_lt (by omega)] at a
  rw [cell_at hg,Nat.zero_add]
  simpa using a
 ·have a:=(wdL_at (tabG kind 64) i (by omega)).2
  rw [← ht,List.getElem?_take_of_lt (by omega)] at a
  rw [cell_at hg,Nat.zero_add]
  simpa using a
 ·have hp:=hok ((tabG kind 64)[i]'(by omega)) (List.getElem_mem _)
  have e:(tabG kind 64)[i]?.getD (0,0)=(tabG kind 64)[i]'(by omega):=by rw [List.getElem?_eq_getElem (by omega)];rfl
  unfold fstW sndW
  rw [e]
  exact ⟨hp.1.1,hp.1.2,hp.2.1,hp.2.2⟩
end Go.Proofs.YtacgmoikegcopaaGreatDoor.Rm
namespace Go.Proofs.YtacgmoikegcopaaGreatDoor.Bs
open Go.ChangeShapes Go.WideShapes Go.ChangeAt Go.RowKit
open Go.Proofs.YtacgmoikegcopaaGreatDoor.Ut (Kp heap_lt heap_kept heap_set heap_new noB isB kpB)
set_option linter.unusedVariables false
set_option maxRecDepth 20000
theorem check_1 (w:World) (b:Addr):Calls Tryz.prog 113 #[.pointer (some b),.int .i64 1] w fun e w'=>e=.returned (.int .i64 0)∧w'=w:=by
 go_enter Tryz.func113,Tryz.ntmps113
 go_wp2
 go_ret
 exact ⟨rfl,rfl⟩
def px (x:Bm):Bm:={ x with p:=x.p.out 1 255 }
theorem px_ok {x:Bm} (h:x.Ok):(px x).Ok:={ h with p:=h.p.out ⟨by decide,by decide⟩,st:=out_st h.p ⟨by decide,by decide⟩ }
theorem out_px (x:Bm):x.out 33 1 255=(px x).tell:=by kernel_rfl
set_option maxHeartbeats 4000000 in
theorem write_33 {w:World} {S:Nat→Prop} {L:Loc} {x:Bm} (h:BW w S L x) (k:x.Ok):Calls Tryz.prog 115 #[.pointer (some ⟨L.B,0,none⟩),.int .u16 33,.int .i64 1,.int .u32 255] w fun e w'=>e=.returned (.tuple #[])∧BNx w S L (px x) w':=by
 have hl:=look_port h.map 33
 rw [show portOf 33=some (.pic,1) from rfl] at hl
 unfold portRow portV entV ptr at hl
 have c7:=h.c7
 have HO:Hid (∀ W S,BW W S L x→Calls Tryz.prog 124 #[.pointer (some ⟨L.P,0,none⟩),.int .i64 1,.int .u8 255] W fun e w'=>(∃ y,e=.returned (.int .i64 y))∧BNx W S L (px x) w'):=fun W S h=>pic_out (a:=1) h k ⟨by decide,by decide⟩ ⟨by decide,by decide⟩
 obtain ⟨W1,hW1⟩:∃ W,W=w.alloc (.cells #[.int .i64 1,.func (.func 124) #[.pointer (some ⟨L.P,0,none⟩)] #[],.func (.func 125) #[.pointer (some ⟨L.P,0,none⟩)] #[]] 235):=⟨_,rfl⟩
 have k1:Kp noB w W1:=by rw [hW1];exact Kp.alloc _ _ _
 have Q:Hid (BW W1 S L x):=h.keep k1
 have NQ:Hid (Nx w S W1 S):=(Nx.refl _ _).trans (Nx.keep k1)
 clear h k k1
 go_enter Tryz.func115,Tryz.ntmps115
 go_wp2
 refine wp_loop_rounds 3 ?_
 rw [rounds_succ]
 go_wp2_with fail
 rw [← hW1]
 refine Calls.mono (HO.out _ _ Q.out) ?_;rintro e z1 ⟨⟨y,rfl⟩,S2,q2,n2⟩
 have Q2:Hid (BW z1 S2 L (px x)∧Nx w S z1 S2):=⟨q2,NQ.out.trans n2⟩
 clear q2 n2 Q HO hW1 NQ hl c7
 go_wp2_with fail
 rw [rounds_succ]
 go_wp2
 go_end0
 exact ⟨rfl,S2,Q2.out.1,Q2.out.2⟩
theorem out33 {w:World} {S:Nat→Prop} {L:Loc} {x:Bm} (h:BW w S L x) (k:x.Ok):Calls Tryz.prog 46 #[.pointer (some ⟨L.B,0,none⟩),.int .u16 33,.int .i64 1,.int .u32 255] w fun e w'=>e=.returned (.int .i64 (erS 1))∧BNx w S L (x.out 33 1 255) w':=by
 rw [out_px]
 have HC:Hid _:=check_1 w ⟨L.B,0,none⟩
 have HT:Hid (∀ W S1,BW W S1 L (px x)→_):=fun W S1 h=>tell_ok h (px_ok k)
 have HA:Hid _:=write_33 h k
 generalize px x=X at *
 clear h k
 go_enter Tryz.func46,Tryz.ntmps46
 go_wp2_with fail
 refine Calls.mono HC.out ?_;rintro e z0 ⟨rfl,hz⟩;replace hz:=hz.symm;subst hz
 go_wp2_with fail
 refine Calls.mono HA.out ?_;rintro e z1 ⟨rfl,S1,q1,n1⟩
 have N1:Hid _:=n1
 have Q1:Hid _:=q1
 clear q1 n1 HA HC
 go_wp2_with fail
 refine Calls.mono (HT.out _ _ Q1.out) ?_;rintro e z2 ⟨rfl,hz⟩
 have HZ:Hid (BNx w S L X.tell z2):=.trans N1.out hz
 clear hz N1 Q1 HT
 go_wp2
 go_ret
 exact ⟨rfl,HZ.out⟩
end Go.Proofs.YtacgmoikegcopaaGreatDoor.Bs
namespace Go.Proofs.YtacgmoikegcopaaGreatDoor.Rm
open Go.ChangeShapes Go.WideShapes Go.ChangeAt Go.RowKit Go.Maps
set_option linter.unusedVariables false
set_option maxRecDepth 20000
theorem x17M_ok (m:Mem):(Bs.x17M m).Ok:=by
 have okd:(Dk.id0 (1024 / 512) (Dk.dB 1024 (Dk.dskS 0))).Ok:=Dk.idN_ok (by decide) (fun j _=>Dk.dskS_byt 0 j)
 exact (Bs.bm0_ok okd).tell
theorem Hs_from {w w1 W:World} {Rs:Nat→Bs.Res} (k:Ut.Kp Ut.noB w w1) (h:Bs.Hs w1 W Rs):Bs.Hs w W Rs:=⟨by obtain ⟨S,a,b⟩:=h.ex;exact ⟨S,a,fun j g=>Nat.le_trans k.size (b j g)⟩,k.trans h.kp⟩
def envO (x:Cu) (V B:Nat):Obj:=.cells (x.cs++#[.pointer (some ⟨V,0,none⟩),.pointer (some ⟨B,0,none⟩)]) 54 (0,0)
def startR (L:Bs.Loc) (L':Bs.LocR) (V K E:Nat) (x:Cu) (y:Bs.Bm) (y':Bs.Bm):Nat→Bs.Res:=Bs.updR (Bs.updR (Bs.three (Bs.busR L y) (Bs.docR L' y) (Bs.tlR V K L.M 8 0)) 3 (Bs.Res.blk E (envO x V L.B))) 0 (Bs.busR L y')
def stM (kind:Int):Mem:=Bs.memW (fstW (tabG kind 64)) (sndW (tabG kind 64)) 138
def StI (w3:World) (kind:Int) (cs:Array Value) (t:Value × Nat × Nat) (a b:Bool) (W:World):Prop:=
 Kp noB w3 W∧(a=true→∃ base,W.ownsRow base 120 2 t.1 138 (wdL (tabG kind 64))) ∧
  (b=true→∃ V K L w1 w6,Kp noB w3 w1∧Bs.Made w1 w6 W t.2.1 V K L (Bs.x17M (stM kind)) cs)
set_option maxHeartbeats 8000000 in
theorem started0 (w:World) (kind:Int) (hk:U32 kind):
  Calls Tryz.prog 18 #[.int .i64 0,.int .u32 kind] w fun e w'=>∃ E V K L L',e=.returned (.pointer (some ⟨E,0,none⟩))∧Bs.Hs w w' (startR L L' V K E stX0 (Bs.x17M (stM kind)) ((Bs.x17M (stM kind)).out 33 1 255)):=by
 obtain ⟨T,nn,Z,hV⟩:=vlP
 obtain ⟨vl,vs,va,vb⟩:=hV.ops
 have g1:=hV.agg;have g2:=hV.size;have g3:=hV.zero
 have HV:Hid _:=hV
 have HF:Hid _:=flat17 w 0 (by decide) (by decide)
 have HKd:Hid (U32 kind):=hk
 clear hV hk
 go_enter Tryz.func18,Tryz.ntmps18
 simp only [vl,vs,va]
 go_wp2_with fail
 refine Calls.mono HF.out ?_;rintro e w1 ⟨cs,rfl,wf,hc,⟨c9,cr⟩,k1⟩
 have ew:IntKind.u16.wrap ((0:Int).tmod 4)=0:=by decide
 have et:(0:Int).tmod 4=0:=by decide
 rw [ew,et] at hc
 have ecs:=flatX_of wf hc c9 cr
 have hsz:cs.size=nn:=by rw [wf.s,HV.out.s]
 have pA0:PAt (w1.alloc (.cells Z T)) w1.heap.size Z:=HV.out.at HV.out.wf w1
 have hst:=VlP.put pA0 wf
 obtain ⟨A,hA⟩:∃ A,A=w1.heap.size:=⟨_,rfl⟩
 obtain ⟨W2,hW2⟩:∃ W,W=(w1.alloc (.cells Z T)).setRow A cs:=⟨_,rfl⟩
 have P2:PAt W2 A (flatX 0 0).cs:=by rw [hW2,← ecs,hA];exact pA0.put wf
 have HE:Hid (cs=(flatX 0 0).cs):=ecs
 clear ecs hc c9 cr ew et pA0 HF
 go_upto_region 2 with fail
 rw [← hA,← hW2]
 have kS:=Kp.setRow (S:=fun j=>j=A) (w1.alloc (.cells Z T)) rfl cs
 have sz:=k1.size
 have k2:Kp noB w W2:=by
  rw [hW2]
  exact (k1.trans (Kp.alloc noB w1 _)).over kS (fun j hj e=>by omega)
 clear wf kS hst hsz hW2 HE
 obtain ⟨u67,c67⟩:=P2.some (k:=67) (by decide)
 obtain ⟨u68,c68⟩:=P2.some (k:=68) (by decide)
 obtain ⟨u69,c69⟩:=P2.some (k:=69) (by decide)
 obtain ⟨u70,c70⟩:=P2.some (k:=70) (by decide)
 obtain ⟨u4,c4⟩:=P2.some (k:=4) (by decide)
 obtain ⟨u8,c8⟩:=P2.some (k:=8) (by decide)
 obtain ⟨u9,c9⟩:=P2.some (k:=9) (by decide)
 obtain ⟨u71,c71⟩:=P2.some (k:=71) (by decide)
 obtain ⟨u72,c72⟩:=P2.some (k:=72) (by decide)
 obtain ⟨u73,c73⟩:=P2.some (k:=73) (by decide)
 obtain ⟨u74,c74⟩:=P2.some (k:=74) (by decide)
 obtain ⟨u75,c75⟩:=P2.some (k:=75) (by decide)
 obtain ⟨u76,c76⟩:=P2.some (k:=76) (by decide)
 obtain ⟨u77,c77⟩:=P2.some (k:=77) (by decide)
 obtain ⟨u78,c78⟩:=P2.some (k:=78) (by decide)
 obtain ⟨u79,c79⟩:=P2.some (k:=79) (by decide)
 have f2:=P2.fz
 obtain ⟨W3,hW3⟩:∃ W,W=((((((((((((((((W2.setCell ⟨A,67,none⟩ (.int .u32 2048)).setCell ⟨A,68,none⟩ (.int .u16 47)).setCell ⟨A,69,none⟩ (.int .u32 3072)).setCell ⟨A,70,none⟩ (.int .u16 511)).setCell ⟨A,4,none⟩ (.int .u32 36864)).setCell ⟨A,8,none⟩ (.int .u32 256)).setCell ⟨A,9,none⟩ (.int .u32 514)).setCell ⟨A,71,none⟩ (.int .u16 40)).setCell ⟨A,72,none⟩ (.bool false)).setCell ⟨A,73,none⟩ (.int .u32 2560)).setCell ⟨A,74,none⟩ (.int .u32 103)).setCell ⟨A,75,none⟩ (.int .i64 9)).setCell ⟨A,76,none⟩ (.bool true)).setCell ⟨A,77,none⟩ (.int .i64 0)).setCell ⟨A,78,none⟩ (.bool true)).setCell ⟨A,79,none⟩ (.bool false)):=⟨_,rfl⟩
 have P3:PAt W3 A stX0.cs:=by rw [hW3,← edits_0];exact ((((((((((((((((P2.set 67 (v:=.int .u32 2048) rfl).set 68 (v:=.int .u16 47) rfl).set 69 (v:=.int .u32 3072) rfl).set 70 (v:=.int .u16 511) rfl).set 4 (v:=.int .u32 36864) rfl).set 8 (v:=.int .u32 256) rfl).set 9 (v:=.int .u32 514) rfl).set 71 (v:=.int .u16 40) rfl).set 72 (v:=.bool false) rfl).set 73 (v:=.int .u32 2560) rfl).set 74 (v:=.int .u32 103) rfl).set 75 (v:=.int .i64 9) rfl).set 76 (v:=.bool true) rfl).set 77 (v:=.int .i64 0) rfl).set 78 (v:=.bool true) rfl).set 79 (v:=.bool false) rfl)
 have k3:Kp noB w W3:=by
  have kk:∀ (U:World) (o:Nat) (v:Value),Kp noB w U→Kp noB w (U.setCell ⟨A,o,none⟩ v):=fun U o v h=>h.over (Kp.setCell (S:=fun j=>j=A) U (p:=⟨A,o,none⟩) rfl v) (fun j hj e=>by omega)
  rw [hW3]
  exact kk _ _ _ (kk _ _ _ (kk _ _ _ (kk _ _ _ (kk _ _ _ (kk _ _ _ (kk _ _ _ (kk _ _ _ (kk _ _ _ (kk _ _ _ (kk _ _ _ (kk _ _ _ (kk _ _ _ (kk _ _ _ (kk _ _ _ (kk _ _ _ (k2))))))))))))))))
 have HP3:Hid (PAt W3 A stX0.cs):=P3
 have HK3:Hid _:=k3
 clear P3 k3 k2 k1 sz P2 hA
 obtain ⟨cz,hcz⟩:∃ q,q=stX0.cs:=⟨_,rfl⟩
 have HCZ:Hid (cz=stX0.cs):=hcz
 have HLd:Hid (∀ W,Kp noB W3 W→(loadCellsFrom ⟨A,0,none⟩ 0 nn #[]).run Tryz.prog W=.ok cz W):=fun W k=>by rw [hcz];exact HV.out.get (HP3.out.kp k id)
 have HTb:Hid (∀ W,Calls Tryz.prog 45 #[.int .u32 kind] W fun e w'=>∃ v,e=.returned v∧w'.ownsRow W.heap.size 120 2 v 138 (wdL (tabG kind 64))∧Kp noB W w'):=fun W=>tables_any W kind
 have HBo:Hid (∀ W v base,W.ownsRow base 120 2 v 138 (wdL (tabG kind 64))→∃ b cap,v=.slice (some ⟨b,0,none⟩) 138 cap∧Calls Tryz.prog 10 #[.agg cz,.slice (some ⟨b,0,none⟩) 138 cap] W fun e w'=>∃ E R V K L w6,e=.returned (.tuple #[.pointer (some ⟨E,0,none⟩),.pointer (some ⟨R,0,none⟩)])∧Bs.Made W w6 w' E V K L (Bs.x17M (stM kind)) cz):=fun W v base ho=>by
  obtain ⟨b,cap,e,hw⟩:=tabs_in HKd.out ho
  refine ⟨b,cap,e,?_⟩
  rw [hcz]
  exact Bs.both17L W (some ⟨b,0,none⟩) 138 cap _ _ (by decide) hw stX0.cs (cu_wf stX0)
 have HI0:Hid (StI W3 kind cz (.bool false,0,0) false false W3.drew):=⟨(Kp.refl noB W3).drew,fun f=>(by cases f),fun f=>(by cases f)⟩
 clear hcz HP3
 go_upto_region 15 with fail
 rw [← hW3]
 clear hW3 c67 u67 c68 u68 c69 u69 c70 u70 c4 u4 c8 u8 c9 u9 c71 u71 c72 u72 c73 u73 c74 u74 c75 u75 c76 u76 c77 u77 c78 u78 c79 u79 f2
 refine OrdFree.region_vals (τ:=Value × Nat × Nat) (fun t=>[.agg cz,.int .u32 kind,t.1,Value.tuple #[.pointer (some ⟨t.2.1,0,none⟩),.pointer (some ⟨t.2.2,0,none⟩)],Value.tuple #[.pointer (some ⟨t.2.1,0,none⟩),.pointer (some ⟨t.2.2,0,none⟩)],.pointer (some ⟨t.2.1,0,none⟩),.pointer (some ⟨t.2.2,0,none⟩),.pointer (some ⟨t.2.1,0,none⟩),.pointer (some ⟨t.2.2,0,none⟩)]) (fun t listed W=>StI W3 kind cz t (listed.getD 2 false) (listed.getD 3 false) W) (.bool false,0,0) (by kernel_rfl) (by kernel_rfl) (by kernel_rfl) (by kernel_rfl) (fun _=>rfl) (fun t=>by simp only [OrdFree.puts,Act.put,List.setIfInBounds_toArray,List.set_cons_zero,List.set_cons_succ];rfl) HI0.out ?_ ?_
 ·refine ⟨?_,?_,?_,?_,?_,?_,?_,?_,?_,trivial⟩
  all_goals (intro t listed W hz hSh hl hI hb K hK hK0;obtain ⟨kk,hrow,hmade⟩:=hI;have hld:=HLd.out W kk)
  case refine_3=>
   have n3:=OrdFree.shut_no (j:=3) hSh hl (by kernel_rfl)
   go_simp
   refine Calls.mono (HTb.out W) ?_;rintro e w' ⟨v,rfl,ho,kv⟩
   exact hK _ _ ⟨(v,t.2),rfl,OrdFree.vals_two (i:=2) (k:=2) (u:=v) (v:=v) rfl hl hl,⟨kk.trans kv,fun _=>⟨_,ho⟩,fun h=>by rw [getD_set_ne false (by decide),n3] at h;cases h⟩⟩
  case refine_4=>
   have h2:=hb { on:=2,ground:=.data } (by simp) rfl
   obtain ⟨base,ho⟩:=hrow h2
   have hc:Calls Tryz.prog 10 #[.agg cz,t.1] W fun e w'=>∃ E R V K L w6,e=.returned (.tuple #[.pointer (some ⟨E,0,none⟩),.pointer (some ⟨R,0,none⟩)])∧Bs.Made W w6 w' E V K L (Bs.x17M (stM kind)) cz:=by
    obtain ⟨b,cap,ev,hc⟩:=HBo.out W t.1 base ho
    rw [ev];exact hc
   have n4:=OrdFree.shut_no (j:=4) hSh hl (by kernel_rfl)
   have n5:=OrdFree.shut_no (j:=5) hSh n4 (by kernel_rfl)
   have n6:=OrdFree.shut_no (j:=6) hSh n4 (by kernel_rfl)
   have n7:=OrdFree.shut_no (j:=7) hSh n5 (by kernel_rfl)
   have n8:=OrdFree.shut_no (j:=8) hSh n6 (by kernel_rfl)
   go_simp
   refine Calls.mono hc ?_;rintro e w' ⟨E,R,V,Kb,L,w6,rfl,hm⟩
   have kq:Kp noB W w':=by obtain ⟨L',hs⟩:=hm.hs;exact (Bs.noRm hs.kp).trans (Bs.noRm hm.kp)
   refine hK _ _ ⟨(t.1,E,R),rfl,fun j hj=>?_,⟨kk.trans kq,fun _=>⟨base,ownsRow_kp ho kq⟩,fun _=>⟨V,Kb,L,W,w6,kk,hm⟩⟩⟩
   rcases j with _ | _ | _ | _ | _ | _ | _ | _ | _ | j
   ·rfl
   ·rfl
   ·rfl
   ·rw [hl] at hj;cases hj
   ·rw [n4] at hj;cases hj
   ·rw [n5] at hj;cases hj
   ·rw [n6] at hj;cases hj
   ·rw [n7] at hj;cases hj
   ·rw [n8] at hj;cases hj
   ·rfl
  all_goals (go_simp;exact hK0 W ⟨kk,fun h=>hrow (by rwa [getD_set_ne false (by decide)] at h),fun h=>hmade (by rwa [getD_set_ne false (by decide)] at h)⟩)
 rename_i Kx hKx
 rintro t listed W hal ⟨kk,_,hmade⟩
 obtain ⟨V,Kb,L,w1',w6,k13,hm⟩:=hmade (hal 3 (by exact (by decide:3 < 9)))
 obtain ⟨L',hs⟩:=hm.hs
 obtain ⟨E,hE⟩:∃ E,E=t.2.1:=⟨_,rfl⟩
 obtain ⟨R,hR⟩:∃ R,R=t.2.2:=⟨_,rfl⟩
 rw [← hE] at hm
 refine hKx _ _ ?_
 rw [← hE,← hR]
 clear hE hR hal
 have ea:=hm.ea
 rw [HCZ.out] at ea
 have hn:=hs.new (i:=3) (r':=Bs.Res.blk E (envO stX0 V L.B)) rfl (T':=Ut.isB E) ⟨rfl,ea.1⟩ (fun k (g:k=E)=>⟨by rw [g];exact hm.lt,by rw [g];exact ea.lt⟩) hm.kp
 have hO:Hid (Calls Tryz.prog 46 #[.pointer (some ⟨L.B,0,none⟩),.int .u16 33,.int .i64 1,.int .u32 255] W fun e w'=>e=.returned (.int .i64 (Bs.erS 1))∧Bs.Hs w w' (startR L L' V Kb E stX0 (Bs.x17M (stM kind)) ((Bs.x17M (stM kind)).out 33 1 255))):=
  (Hs_from (Bs.rmNo (HK3.out.trans k13)) hn).bus 0 rfl (fun S b=>Bs.out33 b (x17M_ok _))
 have c84:W.cell? ⟨E,84,none⟩=some (.pointer (some ⟨L.B,0,none⟩)):=ea.bp
 clear hn hs hm ea  kk k13 hmade HK3
 go_wp2_with fail
 refine Calls.mono hO.out ?_;rintro e w9 ⟨rfl,h9⟩
 have H9:Hid _:=h9
 clear h9 hO
 go_wp2
 go_ret
 exact ⟨E,V,Kb,L,L',rfl,H9.out⟩
theorem kBelow {w w':World} (k:Kp noB w w'):Below w.heap.size w w':=k.below (Nat.le_refl _) (fun _ f=>f.elim)
def absI (a:Int):Int:=if a < 0 then -(a+1) else a
theorem absI_bd {a:Int} (h:I64 a):0≤absI a∧absI a < 9223372036854775808:=by
 unfold I64 at h
 unfold absI
 split<;>omega
theorem stM_same (kind:Int):(stM kind).n=16∧(stM kind).closed=false:=by
 have h:=wordsM_same (mem0 16) (fstW (tabG kind 64)) (sndW (tabG kind 64)) 138
 exact ⟨h.1,h.2.2⟩
theorem memO_same {m:Mem} (h:m.closed=false):Bs.memO m=m:=by
 cases m;simp only at h;subst h;rfl
theorem out_m (m:Mem):((Bs.x17M m).out 33 1 255).m=Bs.memO m:=by kernel_rfl
theorem tl_ne {w:World} {K B pl tn V:Nat} {D:DataW Unit} (h:TlbD w K B pl tn D) {o:Array Value} {t:TypeId} (hV:w.heap[V]?=some (.cells o t (0,0))) (ht:t≠212):¬ inTlb K V:=by
 rintro (e | e)
 ·subst e
  obtain ⟨es,ck,hx,_⟩:=h.m
  rw [hV] at hx
  cases hx
 ·subst e
  have:=h.c
  rw [hV] at this
  simp only [Option.some.injEq,Obj.cells.injEq] at this
  exact ht this.2.1
theorem start_at {w W:World} {E V K:Nat} {L:Bs.Loc} {L':Bs.LocR} {x:Cu} (hx:x.Ok) {m:Mem} (hm:m.closed=false) {y:Bs.Bm} (h:Bs.Hs w W (startR L L' V K E x y ((Bs.x17M m).out 33 1 255))):
  XAt W ⟨E,V,K,L.M,8,m.n,L.B⟩ 0 x m∧w.heap.size≤E∧(∀ j,(⟨E,V,K,L.M,8,m.n,L.B⟩:Ev).all j→w.heap.size≤j)∧Ut.Kp Ut.noB w W:=by
 obtain ⟨S,⟨own,hs⟩,hb⟩:=h.ex
 obtain ⟨T0,a0,b0⟩:=hs 0
 obtain ⟨T2,a2,b2⟩:=hs 2
 obtain ⟨T3,a3,b3⟩:=hs 3
 have r0:Bs.Sys W T0 (Bs.busRs L ((Bs.x17M m).out 33 1 255)):=a0
 obtain ⟨own6,h6⟩:=r0
 obtain ⟨T6,a6,b6⟩:=h6 6
 have r6:RamAt W L.M ((Bs.x17M m).out 33 1 255).m∧∀ k,inRam L.M ((Bs.x17M m).out 33 1 255).m.n k→T6 k:=a6
 rw [out_m,memO_same hm] at r6
 have r2:(T2 V∧∀ j,inTlb K j→T2 j)∧W.heap[V]?=some (.cells #[.pointer (some ⟨L.M+3,0,none⟩),.pointer (some ⟨K+1,0,none⟩)] 108 (0,0))∧∃ D,TlbD W K L.M 8 0 D:=a2
 have r3:T3 E∧W.heap[E]?=some (envO x V L.B):=a3
 obtain ⟨⟨tV,tT⟩,cV,D,hD⟩:=r2
 have oR:∀ j,inRam L.M m.n j→own j=0∧S j:=fun j hj=>by have:=b0 j (b6 j (r6.2 j hj)).2.1;exact ⟨this.1,this.2.1⟩
 have oT:∀ j,inTlb K j→own j=2∧S j:=fun j hj=>by have:=b2 j (tT j hj);exact ⟨this.1,this.2.1⟩
 have oV:=b2 V tV
 have oE:=b3 E r3.1
 have hall:∀ j,(⟨E,V,K,L.M,8,m.n,L.B⟩:Ev).all j→S j∧own j≠3:=fun j hj=>by
  rcases hj with e | e | e
  ·rw [e];exact ⟨oV.2.1,by rw [oV.1];decide⟩
  ·exact ⟨(oR j e).2,by rw [(oR j e).1];decide⟩
  ·exact ⟨(oT j e).2,by rw [(oT j e).1];decide⟩
 refine ⟨⟨⟨r3.2,cu_wf x⟩,⟨cV,⟨D,hD⟩,r6.1,hm,fun j hj f=>?_,?_⟩,rfl,fun f=>(hall E f).2 oE.1,hx⟩,hb E oE.2.1,fun j hj=>hb j (hall j hj).1,h.kp⟩
 ·have:=(oT j hj).1;have:=(oR j f).1;omega
 ·rintro (f | f)
  ·have:=(oR V f).1;have:=oV.1;omega
  ·exact tl_ne hD cV (by decide) f
set_option maxRecDepth 100000
def w1O:Ou Cu:=enterO (stM 36352) stX0 3 (-1) false
def x1A:Cu:=xO stX0 w1O
def w2O:Ou Cu:=leaveO w1O.m x1A x1A 4
def x2A:Cu:=xO x1A w2O
def w3O:Ou Cu:=enterO w2O.m x2A 200 (-1) true
def x3A:Cu:=xO x2A w3O
def x4A:Cu:={ x3A with il:=0 }
def w4O:Ou Cu:=fltO 4 w3O.m x4A ⟨6,-1,0⟩
def deO (o:Ou Cu):Bool:=match o.r with | .inr n=>n.de | .inl _=>false
theorem aw_f1:ftO w1O=noFt:=by kernel_rfl
theorem aw_ip:x1A.ip=24624:=by kernel_rfl
theorem aw_sp:x1A.r 4=36852:=by kernel_rfl
theorem aw_fl:x1A.fl=2:=by kernel_rfl
theorem aw_f2:ftO w2O=noFt:=by kernel_rfl
theorem aw_cs:x2A.cs=stX0.cs:=by kernel_rfl
theorem aw_f3:ftO w3O=⟨13,1602,0⟩:=by kernel_rfl
theorem aw_de:deO w4O=true:=by kernel_rfl
theorem ok_il0 {x:Cu} (h:x.Ok):Cu.Ok { x with il:=0 }:={ h with il:=⟨by dsimp only;omega,by dsimp only;omega⟩ }
theorem il0 (x:Cu):x.cs.setIfInBounds 70 (.int .u16 0)=Cu.cs { x with il:=0 }:=by kernel_rfl
set_option maxHeartbeats 8000000 in
theorem awake18 (w:World) (hC:Cls w):Calls Tryz.prog 9 #[] w fun e w'=>e=.returned (.bool true)∧Kp noB w w':=by
 have q1:∀ w,(binOp .eql 44 (.agg #[.int .i64 (-1),.int .i64 (-1),.int .u32 0]) (.agg #[.int .i64 (-1),.int .i64 (-1),.int .u32 0])).run Tryz.prog w=.ok (.bool true) w:=fun w=>by kernel_rfl
 have q2:∀ w,(binOp .eql 44 (.agg #[.int .i64 13,.int .i64 1602,.int .u32 0]) (.agg #[.int .i64 13,.int .i64 1602,.int .u32 0])).run Tryz.prog w=.ok (.bool true) w:=fun w=>by kernel_rfl
 obtain ⟨T,nn,Z,hV⟩:=vlP
 obtain ⟨vl,vs,va,vb⟩:=hV.ops
 have g1:=hV.agg;have g2:=hV.size;have g3:=hV.zero
 have HV:Hid _:=hV
 have HS:Hid _:=started0 w 36352 (by unfold U32;decide)
 have HC:Hid (Cls w):=hC
 have HQ:Hid (∀ w,(binOp .eql 33 (.agg stX0.cs) (.agg stX0.cs)).run Tryz.prog w=.ok (.bool true) w):=fun w=>by kernel_rfl
 clear hV hC
 go_enter Tryz.func9,Tryz.ntmps9
 simp only [vl,vs,va]
 go_wp2_with fail
 refine Calls.mono HS.out ?_;rintro e w1 ⟨E,V,K,L,L',rfl,h⟩
 obtain ⟨hx,hE,hall,kU⟩:=start_at stX0_ok (stM_same 36352).2 h
 have k1:=Bs.noRm kU
 obtain ⟨c,hc⟩:∃ c:Ev,c=⟨E,V,K,L.M,8,(stM 36352).n,L.B⟩:=⟨_,rfl⟩
 have ecE:E=c.E:=by rw [hc]
 rw [← hc] at hx hall
 rw [ecE] at hE ⊢
 clear h hc kU HS ecE
 have HB0:Hid (¬ c.all 0∧c.E≠0):=⟨fun f=>by have:=hall 0 f;have:=HC.out.1;omega,by have:=HC.out.1;omega⟩
 obtain ⟨cz,hcz⟩:∃ q,q=stX0.cs:=⟨_,rfl⟩
 have hld:=hx.e.get HV.out
 rw [← hcz] at hld
 have wfz:WfC cz:=by rw [hcz];exact cu_wf _
 have hsz:cz.size=nn:=by rw [wfz.s,HV.out.s]
 have pA0:PAt (w1.alloc (.cells Z T)) w1.heap.size Z:=HV.out.at HV.out.wf w1
 have hst:=VlP.put pA0 wfz
 obtain ⟨A,hA⟩:∃ A,A=w1.heap.size:=⟨_,rfl⟩
 obtain ⟨W2,hW2⟩:∃ W,W=(w1.alloc (.cells Z T)).setRow A cz:=⟨_,rfl⟩
 have P2:PAt W2 A cz:=by rw [hW2,hA];exact pA0.put wfz
 have kA1:Kp noB w1 W2:=by
  rw [hW2]
  exact (Kp.alloc noB w1 _).over (Kp.setRow (S:=fun j=>j=A) (w1.alloc (.cells Z T)) rfl cz) (fun j hj e=>by omega)
 have hx2:=hx.kp0 kA1
 have HCZ:Hid (cz=stX0.cs):=hcz
 have HALL:Hid (c.E < A∧(∀ j,c.all j→j < A)∧w.heap.size≤A∧w.heap.size≤c.E∧∀ j,c.all j→w.heap.size≤j):=⟨by rw [hA];exact hx.lt,fun j hj=>by rw [hA];exact hx.in_all hj,by rw [hA];exact k1.size,hE,hall⟩
 have HE1:=Enter_any W2 c 0 stX0 (stM 36352) hx2 3 (-1) false (by decide)
 have e1:enterO (stM 36352) stX0 3 (-1) false=w1O:=rfl
 rw [e1,aw_f1] at HE1
 have e2:xO stX0 w1O=x1A:=rfl
 rw [e2] at HE1
 have HE1':Hid _:=HE1
 have HP2:Hid (PAt W2 A cz∧Kp noB w W2):=⟨P2,k1.trans kA1⟩
 clear hcz wfz pA0 hx hx2 hall hE HE1 e1 e2 P2 kA1 k1
 go_upto_region 5 with fail
 rw [← hA,← hW2]
 clear hA hW2 hst hld hsz
 go_wp2_with fail
 unfold Ft.val noFt at HE1'
 refine Calls.mono HE1'.out ?_;rintro e w3 ⟨rfl,⟨t3,ht3,x3⟩,k3⟩
 obtain ⟨X,hX⟩:∃ X,X=w3.heap.size:=⟨_,rfl⟩
 obtain ⟨W4,hW4⟩:∃ W,W=w3.alloc (.cells #[.int .i64 (-1),.int .i64 (-1),.int .u32 0] 44):=⟨_,rfl⟩
 have r4:RowT W4 X noFt:=by rw [hW4,hX];exact (MapKept.heap_alloc w3 _).1
 have k34:Kp noB w3 W4:=by rw [hW4];exact Kp.alloc _ _ _
 have x4:=x3.kp0 k34
 have hX1:c.E < X∧(∀ j,c.all j→j < X)∧A < X:=by
  refine ⟨by rw [hX];exact x3.lt,fun j hj=>by rw [hX];exact x3.in_all hj,?_⟩
  have a:=k3.size
  have b:=(Array.getElem?_eq_some_iff.1 HP2.out.1.1).1
  omega
 have nEA:∀ j,(c.md j∨j=c.E)→j≠A:=fun j hj e=>by
  rcases hj with hj | hj
  ·have:=HALL.out.2.1 j (.inr hj);omega
  ·have:=HALL.out.1;omega
 have P4:PAt W4 A cz:=(HP2.out.1.kp k3 (fun f=>nEA A f rfl)).kp k34 id
 have k4:Kp noB w W4:=(HP2.out.2.over k3 (fun j hj e=>by
  rcases e with e | e
  ·have:=HALL.out.2.2.2.2 j (.inr e);omega
  ·have:=HALL.out.2.2.2.1;omega)).trans k34
 have d0:=x4.c (k:=8) rfl;have d4:=x4.c (k:=4) rfl;have d9:=x4.c (k:=9) rfl
 rw [aw_ip] at d0
 rw [aw_sp] at d4
 rw [aw_fl] at d9
 have y0:=r4.c0;have y1:=r4.c1;have y2:=r4.c2
 simp only [show noFt.vec=-1 from rfl,show noFt.code=-1 from rfl,show noFt.cr2=0 from rfl] at y0 y1 y2
 have HR:=Return_any W4 c t3 x1A w1O.m x4 4 (by omega)
 have e1:leaveO w1O.m x1A x1A 4=w2O:=rfl
 rw [e1,aw_f2] at HR
 have e2:xO x1A w2O=x2A:=rfl
 rw [e2] at HR
 unfold Ft.val noFt at HR
 have HR':Hid _:=HR
 have H4:Hid (RowT W4 X noFt∧PAt W4 A cz∧Kp noB w W4∧t3≤40):=⟨r4,P4,k4,by omega⟩
 have HN:Hid (∀ j,(c.md j∨j=c.E)→j≠A∧w.heap.size≤j∧j≠X):=fun j hj=>⟨nEA j hj,by
  rcases hj with e | e
  ·exact HALL.out.2.2.2.2 j (.inr e)
  ·have:=HALL.out.2.2.2.1;omega,fun e=>by
  rcases hj with f | f
  ·have:=hX1.2.1 j (.inr f);omega
  ·have:=hX1.1;omega⟩
 have HX:Hid _:=hX1
 clear r4 P4 k4 k34 k3 x3 x4 nEA hX1 HR e1 e2 ht3
 go_upto_region 6 with fail
 rw [← hW4,← hX]
 clear hW4 hX
 go_wp2_with fail
 refine Calls.mono HR'.out ?_;rintro e w5 ⟨rfl,⟨t5,ht5,x5⟩,k5⟩
 have r5:=RowT.kp H4.out.1 k5 (fun f=>(HN.out X f).2.2 rfl)
 have y0:=r5.c0;have y1:=r5.c1;have y2:=r5.c2
 have f0:=r5.fz 0;have f1:=r5.fz 1;have f2:=r5.fz 2
 have r6:=r5.set noFt
 have kF:=kp_setFt w5 X noFt
 have x6:=x5.kp kF (by have:=HX.out.1;omega) (fun j hj=>by have:=HX.out.2.1 j hj;omega)
 have P6:PAt (setFt w5 X noFt) A cz:=(H4.out.2.1.kp k5 (fun f=>(HN.out A f).1 rfl)).kp kF (by have:=HX.out.2.2;omega)
 have k6:Kp noB w (setFt w5 X noFt):=(H4.out.2.2.1.over k5 (fun j hj e=>by have:=(HN.out j e).2.1;omega)).over kF (fun j hj e=>by have:=HX.out.1;have:=HALL.out.2.2.2.1;omega)
 obtain ⟨W6,hW6⟩:∃ W,W=setFt w5 X noFt:=⟨_,rfl⟩
 rw [← hW6] at r6 x6 P6 k6
 unfold setFt at hW6
 simp only [show noFt.vec=-1 from rfl,show noFt.code=-1 from rfl,show noFt.cr2=0 from rfl] at hW6
 clear kF x5 k5 HR'
 go_upto_region 8 with fail
 rw [← hW6]
 clear hW6 y0 y1 y2 f0 f1 f2 r5 d0 d4 d9
 have y0:=r6.c0;have y1:=r6.c1;have y2:=r6.c2
 simp only [show noFt.vec=-1 from rfl,show noFt.code=-1 from rfl,show noFt.cr2=0 from rfl] at y0 y1 y2
 have H6:Hid (RowT W6.drew X noFt∧Kp noB w W6.drew∧t5≤80∧XAt W6.drew c t5 x2A w2O.m):=⟨r6.kp (Kp.refl noB W6).drew id,k6.trans (Kp.refl noB W6).drew,by have:=H4.out.2.2.2;omega,x6.kp0 (Kp.refl noB W6).drew⟩
 have hE1:=H6.out.2.2.2.e.get HV.out
 have hA1:=HV.out.get (P6.kp (Kp.refl noB W6).drew id)
 rw [aw_cs,← HCZ.out] at hE1
 have hq:∀ w,(binOp .eql 33 (.agg cz) (.agg cz)).run Tryz.prog w=.ok (.bool true) w:=by rw [HCZ.out];exact HQ.out
 have gE:=x6.e.1
 clear r6 P6 k6 x6 ht5 gE
 go_region
 obtain ⟨W8,hW8⟩:∃ W,W=W6.drew:=⟨_,rfl⟩
 rw [← hW8]
 rw [← hW8] at H6
 clear hE1 hA1 hq hW8 y0 y1 y2
 have HE3:=Enter_any W8 c t5 x2A w2O.m H6.out.2.2.2 200 (-1) true (by have:=H6.out.2.2.1;omega)
 have e1:enterO w2O.m x2A 200 (-1) true=w3O:=rfl
 rw [e1,aw_f3] at HE3
 have e2:xO x2A w3O=x3A:=rfl
 rw [e2] at HE3
 unfold Ft.val at HE3
 simp only at HE3
 have HE3':Hid _:=HE3
 clear HE3 e1 e2
 go_wp2_with fail
 refine Calls.mono HE3'.out ?_;rintro e w9 ⟨rfl,⟨t9,ht9,x9⟩,k9⟩
 have r9:=RowT.kp H6.out.1 k9 (fun f=>(HN.out X f).2.2 rfl)
 have y0:=r9.c0;have y1:=r9.c1;have y2:=r9.c2
 have f0:=r9.fz 0;have f1:=r9.fz 1;have f2:=r9.fz 2
 have r10:=r9.set ⟨13,1602,0⟩
 have kF:=kp_setFt w9 X ⟨13,1602,0⟩
 have x10:=x9.kp kF (by have:=HX.out.1;omega) (fun j hj=>by have:=HX.out.2.1 j hj;omega)
 have k10:Kp noB w (setFt w9 X ⟨13,1602,0⟩):=(H6.out.2.1.over k9 (fun j hj e=>by have:=(HN.out j e).2.1;omega)).over kF (fun j hj e=>by have:=HX.out.1;have:=HALL.out.2.2.2.1;omega)
 obtain ⟨W10,hW10⟩:∃ W,W=setFt w9 X ⟨13,1602,0⟩:=⟨_,rfl⟩
 rw [← hW10] at r10 x10 k10
 unfold setFt at hW10
 simp only at hW10
 have ht10:t9≤120:=by have:=H6.out.2.2.1;omega
 clear kF x9 k9 HE3' ht9
 go_upto_region 10 with fail
 rw [← hW10]
 clear hW10 y0 y1 y2 f0 f1 f2 r9
 have y0:=r10.c0;have y1:=r10.c1;have y2:=r10.c2
 simp only at y0 y1 y2
 have i70:=x10.c (k:=70) rfl
 have f70:=x10.e.fz 70
 have kI:=Kp.setCell (S:=fun j=>j=c.E) W10 (p:=⟨c.E,70,none⟩) rfl (.int .u16 0)
 have e11:=x10.e.set (k:=70) (by decide) (v:=.int .u16 0) rfl
 have ecs:x3A.cs.setIfInBounds 70 (.int .u16 0)=x4A.cs:=il0 x3A
 rw [ecs] at e11
 obtain ⟨W11,hW11⟩:∃ W,W=W10.setCell ⟨c.E,70,none⟩ (.int .u16 0):=⟨_,rfl⟩
 rw [← hW11] at kI e11
 have x11:XAt W11 c t9 x4A w3O.m:=⟨e11,x10.v.kp kI (fun j hj e=>x10.n (e ▸ (by rw [x10.s] at hj;exact hj))),x10.s,x10.n,ok_il0 x10.ok⟩
 have k11:Kp noB w W11:=k10.over kI (fun j hj e=>by have:=HALL.out.2.2.2.1;omega)
 have HFl:=Fault_any W11 c t9 x4A w3O.m x11 (HC.out.kp0 k11) HB0.out ⟨6,-1,0⟩ ⟨by decide,by decide⟩ (by omega)
 have e4:fltO 4 w3O.m x4A ⟨6,-1,0⟩=w4O:=rfl
 rw [e4] at HFl
 unfold Ft.val at HFl
 simp only at HFl
 have HFl':Hid _:=HFl
 have HK11:Hid (Kp noB w W11):=k11
 clear HFl e4 kI e11 x11 k11 x10 k10 r10 ecs ht10
 go_upto_region 12 with fail
 rw [← hW11]
 clear hW11 y0 y1 y2 i70 f70
 go_wp2_with fail
 refine Calls.mono HFl'.out ?_;rintro e w12 ⟨rfl,⟨t12,ht12,x',M',ho,x12⟩,k12⟩
 have hde:x'.de=true:=by have:=aw_de;rw [ho] at this;exact this
 have d82:=x12.c (k:=82) rfl
 rw [hde] at d82
 have HF:Hid (Kp noB w w12):=HK11.out.over k12 (fun j hj e=>by have:=(HN.out j e).2.1;omega)
 clear x12 k12 ho hde ht12
 go_wp2
 go_ret
 exact ⟨rfl,HF.out⟩
set_option maxHeartbeats 4000000 in
theorem attempt_none (w:World) (p:Option Addr) (fn:Fn) (cap:Array Value) (HL:Hid (∀ W,Kp noB w W→Calls Tryz.prog 32 #[.pointer p] W fun e w'=>e=.returned (.bool true)∧w'=W)):
  Calls Tryz.prog 26 #[.pointer p,.func fn #[] cap] w fun e w'=>e=.returned (.agg #[.int .i64 13,.int .i64 0,.int .u32 0])∧Kp noB w w':=by
 obtain ⟨TC,nn,Z,hV⟩:=vlP
 obtain ⟨vl,vs,va,vb⟩:=hV.ops
 obtain ⟨X,hX⟩:∃ X,X=w.heap.size:=⟨_,rfl⟩
 obtain ⟨W0,hW0⟩:∃ W,W=w.alloc (.cells #[.int .i64 0,.int .i64 0,.int .u32 0] 44):=⟨_,rfl⟩
 have k0:Kp noB w W0:=by rw [hW0];exact Kp.alloc _ _ _
 have rX:RowT W0 X ⟨0,0,0⟩:=by rw [hW0,hX];exact (MapKept.heap_alloc w _).1
 have HC:=HL.out W0 k0
 have HC':Hid _:=HC
 have HR:Hid (RowT W0 X ⟨0,0,0⟩∧Kp noB w W0∧w.heap.size≤X):=⟨rX,k0,by omega⟩
 clear HC k0 rX hV
 go_enter_defers Tryz.func26,Tryz.ntmps26
 simp only [vl,vs]
 go_wp2_with fail
 rw [← hW0,← hX]
 clear hW0 hX
 refine Calls.mono HC'.out ?_;rintro e w' ⟨rfl,hw⟩;replace hw:=hw.symm;subst hw
 go_wp2_with fail
 refine (cProt_any _).mono ?_;rintro e w2 ⟨rfl,k2⟩
 have r2:=RowT.kp HR.out.1 k2 (fun f=>f)
 have c0:=r2.c0;have c1:=r2.c1;have c2:=r2.c2
 have f0:=r2.fz 0;have f1:=r2.fz 1;have f2:=r2.fz 2
 have r3:=r2.set ⟨13,0,0⟩
 have kF:=kp_setFt w2 X ⟨13,0,0⟩
 have HF:Hid (Kp noB w (setFt w2 X ⟨13,0,0⟩)):=(HR.out.2.1.trans k2).over kF (fun j hj e=>by have:=HR.out.2.2;omega)
 have d0:=r3.c0;have d1:=r3.c1;have d2:=r3.c2
 unfold setFt at d0 d1 d2 HF
 simp only at c0 c1 c2 d0 d1 d2 HF
 clear r2 r3 kF k2
 go_wp2
 simp [bodyPostD,Leaves,results,Tryz.results26,go_sem,d0,d1,d2]
 exact HF.out
theorem Enter_none (w:World) (p:Option Addr) (v cd:Int) (so:Bool) (HL:Hid (∀ W,Kp noB w W→Calls Tryz.prog 32 #[.pointer p] W fun e w'=>e=.returned (.bool true)∧w'=W)):
  Calls Tryz.prog 11 #[.pointer p,.int .i64 v,.int .i64 cd,.bool so] w fun e w'=>e=.returned (.agg #[.int .i64 13,.int .i64 0,.int .u32 0])∧Kp noB w w':=by
 have hmf:∀ (fn:Fn) (first cap:Array Value) (w:World),(Instr.makeFunc fn first cap).run Tryz.prog w=.ok (.func fn first cap) w:=fun _ _ _ _=>rfl
 obtain ⟨X,hX⟩:∃ X,w.heap.size=X:=⟨_,rfl⟩
 obtain ⟨W0,hW0⟩:∃ W,W=(((w.alloc (.cells #[.int .i64 v] 3)).alloc (.cells #[.int .i64 cd] 3)).alloc (.cells #[.bool so] 4)).alloc (.cells #[.int .i64 0,.int .i64 0,.int .u32 0] 44):=⟨_,rfl⟩
 have k0:Kp noB w W0:=by rw [hW0];exact (((Kp.alloc noB w _).trans (Kp.alloc noB _ _)).trans (Kp.alloc noB _ _)).trans (Kp.alloc noB _ _)
 have rX:RowT W0 (X+1+1+1) ⟨0,0,0⟩:=by
  have:=(MapKept.heap_alloc ((((w.alloc (.cells #[.int .i64 v] 3)).alloc (.cells #[.int .i64 cd] 3)).alloc (.cells #[.bool so] 4))) (.cells #[.int .i64 0,.int .i64 0,.int .u32 0] 44)).1
  simp only [World.size_alloc,hX] at this
  rw [hW0];exact this
 have HC:=attempt_none W0 p (.func 27) #[.pointer (some ⟨X,0,none⟩),.pointer (some ⟨X+1,0,none⟩),.pointer (some ⟨X+1+1,0,none⟩)] (fun W k=>HL.out W (k0.trans k))
 have HC':Hid _:=HC
 have HR:Hid (RowT W0 (X+1+1+1) ⟨0,0,0⟩∧Kp noB w W0∧w.heap.size=X):=⟨rX,k0,hX⟩
 clear HC k0 rX HL
 go_enter Tryz.func11,Tryz.ntmps11
 go_wp2_with fail
 rw [← hW0]
 clear hW0 hX
 refine Calls.mono HC'.out ?_;rintro e w2 ⟨rfl,k2⟩
 have r2:=RowT.kp HR.out.1 k2 (fun f=>f)
 have c0:=r2.c0;have c1:=r2.c1;have c2:=r2.c2
 have f0:=r2.fz 0;have f1:=r2.fz 1;have f2:=r2.fz 2
 have r3:=r2.set ⟨13,0,0⟩
 have kF:=kp_setFt w2 (X+1+1+1) ⟨13,0,0⟩
 have HF:Hid (Kp noB w (setFt w2 (X+1+1+1) ⟨13,0,0⟩)):=(HR.out.2.1.trans k2).over kF (fun j hj e=>by have:=HR.out.2.2;omega)
 have d0:=r3.c0;have d1:=r3.c1;have d2:=r3.c2
 unfold setFt at d0 d1 d2 HF
 simp only at c0 c1 c2 d0 d1 d2 HF
 clear r2 r3 kF k2
 go_wp2
 refine bodyPost_ret (v:=.agg #[.int .i64 13,.int .i64 0,.int .u32 0]) (by simp [results,Tryz.results11,go_sem,d0,d1,d2]) rfl ⟨rfl,HF.out⟩
theorem Return_none (w:World) (p:Option Addr) (z:Int) (HL:Hid (∀ W,Kp noB w W→Calls Tryz.prog 32 #[.pointer p] W fun e w'=>e=.returned (.bool true)∧w'=W)):
  Calls Tryz.prog 15 #[.pointer p,.int .i64 z] w fun e w'=>e=.returned (.agg #[.int .i64 13,.int .i64 0,.int .u32 0])∧Kp noB w w':=by
 have hmf:∀ (fn:Fn) (first cap:Array Value) (w:World),(Instr.makeFunc fn first cap).run Tryz.prog w=.ok (.func fn first cap) w:=fun _ _ _ _=>rfl
 obtain ⟨X,hX⟩:∃ X,w.heap.size=X:=⟨_,rfl⟩
 obtain ⟨W0,hW0⟩:∃ W,W=(w.alloc (.cells #[.int .i64 z] 3)).alloc (.cells #[.int .i64 0,.int .i64 0,.int .u32 0] 44):=⟨_,rfl⟩
 have k0:Kp noB w W0:=by rw [hW0];exact (Kp.alloc noB w _).trans (Kp.alloc noB _ _)
 have rX:RowT W0 (X+1) ⟨0,0,0⟩:=by
  have:=(MapKept.heap_alloc ((w.alloc (.cells #[.int .i64 z] 3))) (.cells #[.int .i64 0,.int .i64 0,.int .u32 0] 44)).1
  simp only [World.size_alloc,hX] at this
  rw [hW0];exact this
 have HC:=attempt_none W0 p (.func 36) #[.pointer (some ⟨X,0,none⟩)] (fun W k=>HL.out W (k0.trans k))
 have HC':Hid _:=HC
 have HR:Hid (RowT W0 (X+1) ⟨0,0,0⟩∧Kp noB w W0∧w.heap.size=X):=⟨rX,k0,hX⟩
 clear HC k0 rX HL
 go_enter Tryz.func15,Tryz.ntmps15
 go_wp2_with fail
 rw [← hW0]
 clear hW0 hX
 refine Calls.mono HC'.out ?_;rintro e w2 ⟨rfl,k2⟩
 have r2:=RowT.kp HR.out.1 k2 (fun f=>f)
 have c0:=r2.c0;have c1:=r2.c1;have c2:=r2.c2
 have f0:=r2.fz 0;have f1:=r2.fz 1;have f2:=r2.fz 2
 have r3:=r2.set ⟨13,0,0⟩
 have kF:=kp_setFt w2 (X+1) ⟨13,0,0⟩
 have HF:Hid (Kp noB w (setFt w2 (X+1) ⟨13,0,0⟩)):=(HR.out.2.1.trans k2).over kF (fun j hj e=>by have:=HR.out.2.2;omega)
 have d0:=r3.c0;have d1:=r3.c1;have d2:=r3.c2
 unfold setFt at d0 d1 d2 HF
 simp only at c0 c1 c2 d0 d1 d2 HF
 clear r2 r3 kF k2
 go_wp2
 refine bodyPost_ret (v:=.agg #[.int .i64 13,.int .i64 0,.int .u32 0]) (by simp [results,Tryz.results15,go_sem,d0,d1,d2]) rfl ⟨rfl,HF.out⟩
theorem Fault_none (w:World) (p:Option Addr) (f:Ft) (HL:Hid (∀ W,Kp noB w W→Calls Tryz.prog 32 #[.pointer p] W fun e w'=>e=.returned (.bool true)∧w'=W)):
  Calls Tryz.prog 13 #[.pointer p,f.val] w fun e w'=>e=.returned (.tuple #[])∧Kp noB w w':=by
 unfold Ft.val
 obtain ⟨W0,hW0⟩:∃ W,W=w.alloc (.cells #[.int .i64 f.vec,.int .i64 f.code,.int .u32 f.cr2] 44):=⟨_,rfl⟩
 have k0:Kp noB w W0:=by rw [hW0];exact Kp.alloc noB w _
 have HC':Hid _:=HL.out W0 k0
 have HK:Hid (Kp noB w W0):=k0
 clear HL k0
 go_enter Tryz.func13,Tryz.ntmps13
 go_wp2_with fail
 rw [← hW0]
 clear hW0
 refine Calls.mono HC'.out ?_;rintro e w' ⟨rfl,hw⟩;replace hw:=hw.symm;subst hw
 go_wp2
 refine bodyPost_ret (v:=.tuple #[]) (by simp [results,Tryz.results13]) rfl ⟨rfl,HK.out⟩
structure Pn (M:Mem):Prop where
 n:M.n=16
 o:∀ i,M.only i=false
 c:M.closed=false
 b:∀ i,0≤M.byte i∧M.byte i < 256
variable {M:Mem}
theorem Pn.place (h:Pn M) (a:Int):M.place a=a:=by unfold Mem.place;simp [h.c]
theorem Pn.rd (h:Pn M) {a:Int} (a1:a < 65536):M.rd a=M.byte a.toNat:=by
 unfold Mem.rd;rw [h.place,h.n,if_pos (by omega)]
theorem Pn.rd_bd (h:Pn M) {a:Int} (a1:a < 65536):0≤M.rd a∧M.rd a < 256:=by rw [h.rd a1];exact h.b _
theorem Pn.put (h:Pn M) {a v:Int} (v0:0≤v) (v1:v < 256):Pn (M.put false a v) where
 n:=(put_n M false a v).trans h.n
 o:=fun i=>by rw [put_only];exact h.o i
 c:=(put_closed M false a v).trans h.c
 b:=fun i=>by
  unfold Mem.put
  split
  ·dsimp only
   split
   ·exact ⟨v0,v1⟩
   ·exact h.b i
  ·exact h.b i
theorem Pn.rd_put (h:Pn M) {a v b:Int} (a0:0≤a) (a1:a < 65536) (b0:0≤b):(M.put false a v).rd b=if b=a then v else M.rd b:=by
 have e:(M.put false a v).rd b=if b < 4096*(16:Nat) then (M.put false a v).byte b.toNat else 255:=by
  unfold Mem.rd
  rw [put_place,h.place,put_n,h.n]
 have e2:M.rd b=if b < 4096*(16:Nat) then M.byte b.toNat else 255:=by
  unfold Mem.rd
  rw [h.place,h.n]
 have hb:(M.put false a v).byte=fun x=>if x=a.toNat then v else M.byte x:=by
  unfold Mem.put
  rw [if_pos (by rw [h.place,h.n];exact ⟨by omega,.inr (h.o _)⟩),h.place]
 rw [e,e2,hb]
 dsimp only
 by_cases q:b=a
 ·rw [if_pos q,if_pos (by rw [q];omega),if_pos (by rw [q])]
 ·rw [if_neg q,if_neg (by omega:¬ b.toNat=a.toNat)]
def wd (M:Mem) (a:Int):Int:=M.rd a+M.rd (a+1)*256+M.rd (a+2)*65536+M.rd (a+3)*16777216
def lay4 (M:Mem) (a v:Int):Mem:=M.lay false a (bytesV v)
theorem lay4_eq (M:Mem) (v:Int) {a:Int} (a0:0≤a) (a1:a+4≤65536):lay4 M a v=(((M.put false a (v%256)).put false (a+1) (v / 256%256)).put false (a+2) (v / 65536%256)).put false (a+3) (v / 16777216):=by
 unfold lay4 bytesV
 simp only [Mem.lay]
 rw [show (a+1)%4294967296=a+1 by omega,show (a+1+1)%4294967296=a+2 by omega,show (a+2+1)%4294967296=a+3 by omega]
theorem Pn.lay4 (h:Pn M) {a v:Int} (a0:0≤a) (a1:a+4≤65536) (v0:0≤v) (v1:v < 4294967296):Pn (lay4 M a v):=by
 rw [lay4_eq M v a0 a1]
 exact (((h.put (by omega) (by omega)).put (by omega) (by omega)).put (by omega) (by omega)).put (by omega) (by omega)
theorem Pn.rd_lay4 (h:Pn M) {a v b:Int} (a0:0≤a) (a1:a+4≤65536) (v0:0≤v) (v1:v < 4294967296) (b0:0≤b):(Rm.lay4 M a v).rd b=if b=a+3 then v / 16777216 else if b=a+2 then v / 65536%256 else if b=a+1 then v / 256%256 else if b=a then v%256 else M.rd b:=by
 rw [lay4_eq M v a0 a1]
 have h1:=h.put (a:=a) (v:=v%256) (by omega) (by omega)
 have h2:=h1.put (a:=a+1) (v:=v / 256%256) (by omega) (by omega)
 have h3:=h2.put (a:=a+2) (v:=v / 65536%256) (by omega) (by omega)
 rw [h3.rd_put (by omega) (by omega) b0,h2.rd_put (by omega) (by omega) b0,h1.rd_put (by omega) (by omega) b0,h.rd_put (by omega) (by omega) b0]
theorem Pn.wd_same (h:Pn M) {a v:Int} (a0:0≤a) (a1:a+4≤65536) (v0:0≤v) (v1:v < 4294967296):wd (Rm.lay4 M a v) a=v:=by
 unfold wd
 rw [h.rd_lay4 a0 a1 v0 v1 a0,h.rd_lay4 a0 a1 v0 v1 (by omega),h.rd_lay4 a0 a1 v0 v1 (by omega),h.rd_lay4 a0 a1 v0 v1 (by omega)]
 rw [if_neg (by omega),if_neg (by omega),if_neg (by omega),if_pos rfl,if_neg (by omega),if_neg (by omega),if_pos rfl,if_neg (by omega),if_pos rfl,if_pos rfl]
 omega
theorem Pn.rd_far (h:Pn M) {a v b:Int} (a0:0≤a) (a1:a+4≤65536) (v0:0≤v) (v1:v < 4294967296) (b0:0≤b) (hf:b < a∨a+4≤b):(Rm.lay4 M a v).rd b=M.rd b:=by
 rw [h.rd_lay4 a0 a1 v0 v1 b0,if_neg (by omega),if_neg (by omega),if_neg (by omega),if_neg (by omega)]
theorem Pn.wd_far (h:Pn M) {a v b:Int} (a0:0≤a) (a1:a+4≤65536) (v0:0≤v) (v1:v < 4294967296) (b0:0≤b) (hf:b+4≤a∨a+4≤b):wd (Rm.lay4 M a v) b=wd M b:=by
 unfold wd
 rw [h.rd_far a0 a1 v0 v1 b0 (by omega),h.rd_far a0 a1 v0 v1 (by omega) (by omega),h.rd_far a0 a1 v0 v1 (by omega) (by omega),h.rd_far a0 a1 v0 v1 (by omega) (by omega)]
theorem Pn.rd2 (h:Pn M) {a:Int} (a1:a+4≤65536):M.rd a+M.rd (a+1)*256=wd M a%65536:=by
 have b0:=h.rd_bd (a:=a) (by omega)
 have b1:=h.rd_bd (a:=a+1) (by omega)
 have b2:=h.rd_bd (a:=a+2) (by omega)
 have b3:=h.rd_bd (a:=a+3) (by omega)
 unfold wd
 omega
theorem pn_mem0:Pn (mem0 16):=⟨rfl,fun _=>rfl,rfl,fun _=>⟨Int.le_refl 0,(by decide:(0:Int) < 256)⟩⟩
theorem pn_words (h:Pn M) (f g:Nat→Int):∀ L,(∀ i,i < L→(0≤f i∧f i+4≤65536)∧U32 (g i))→Pn (wordsM M f g L)
 | 0,_=>h
 | L+1,hf=>by
  have q:=hf L (by omega)
  exact (pn_words h f g L (fun i hi=>hf i (by omega))).lay4 q.1.1 q.1.2 q.2.1 q.2.2
theorem wd_words (h:Pn M) (f g:Nat→Int):∀ L,(∀ i,i < L→(0≤f i∧f i+4≤65536)∧U32 (g i))→∀ i,i < L→(∀ j,i < j→j < L→f i+4≤f j)→wd (wordsM M f g L) (f i)=g i
 | 0,_,i,hi,_=>by omega
 | L+1,hf,i,hi,hd=>by
  have q:=hf L (by omega)
  have hp:=pn_words h f g L (fun i hi=>hf i (by omega))
  by_cases e:i=L
  ·subst e
   exact hp.wd_same q.1.1 q.1.2 q.2.1 q.2.2
  ·have r:=hf i hi
   have:=hd L (by omega) (by omega)
   exact (hp.wd_far q.1.1 q.1.2 q.2.1 q.2.2 r.1.1 (by omega)).trans (wd_words h f g L (fun i hi=>hf i (by omega)) i (by omega) (fun j a b=>hd j a (by omega)))
theorem tabG_len (kind:Int):∀ k,(tabG kind k).length=10+2*k
 | 0=>rfl
 | k+1=>by unfold tabG;rw [List.length_append,tabG_len kind k];simp;omega
theorem tabG_head (kind:Int):∀ k i,i < 10→(tabG kind k)[i]?=tab0[i]?
 | 0,i,_=>rfl
 | k+1,i,h=>by unfold tabG;rw [List.getElem?_append_left (by rw [tabG_len];omega)];exact tabG_head kind k i h
theorem tabG_gate (kind:Int):∀ (k i:Nat),i < k→(tabG kind k)[10+2*i]?=some (3072+8*(i:Int),524288+(24576+16*(i:Int)))∧(tabG kind k)[11+2*i]?=some (3076+8*(i:Int),kind)
 | 0,i,h=>by omega
 | k+1,i,h=>by
  unfold tabG
  by_cases e:i=k
  ·subst e
   rw [List.getElem?_append_right (by rw [tabG_len];omega),List.getElem?_append_right (by rw [tabG_len];omega),tabG_len,show 10+2*i - (10+2*i)=0 by omega,show 11+2*i - (10+2*i)=1 by omega]
   exact ⟨rfl,rfl⟩
  ·rw [List.getElem?_append_left (by rw [tabG_len];omega),List.getElem?_append_left (by rw [tabG_len];omega)]
   exact tabG_gate kind k i (by omega)
def tF (kind:Int):Nat→Int:=fstW (tabG kind 64)
def tS (kind:Int):Nat→Int:=sndW (tabG kind 64)
theorem tF_head (kind:Int) {i:Nat} (h:i < 10):tF kind i=(tab0[i]?.getD (0,0)).1∧tS kind i=(tab0[i]?.getD (0,0)).2:=by
 unfold tF tS fstW sndW
 rw [tabG_head kind 64 i h]
 exact ⟨rfl,rfl⟩
theorem tF_gate (kind:Int) {i:Nat} (h:i < 64):(tF kind (10+2*i)=3072+8*(i:Int)∧tS kind (10+2*i)=524288+(24576+16*(i:Int)))∧tF kind (11+2*i)=3076+8*(i:Int)∧tS kind (11+2*i)=kind:=by
 obtain ⟨a,b⟩:=tabG_gate kind 64 i h
 unfold tF tS fstW sndW
 rw [a,b]
 exact ⟨⟨rfl,rfl⟩,rfl,rfl⟩
theorem tF_even {i:Nat} (kind:Int) (h1:10≤i) (h2:i < 138):tF kind i=3072+4*((i:Int) - 10)∧(tS kind i=kind∨(0≤tS kind i∧tS kind i < 600000)):=by
 obtain ⟨k,e⟩:∃ k,i=10+2*k∨i=11+2*k:=⟨(i - 10) / 2,by omega⟩
 rcases e with e | e
 ·obtain ⟨⟨a,b⟩,_⟩:=tF_gate kind (i:=k) (by omega)
  rw [← e] at a b
  rw [a,b]
  exact ⟨by omega,.inr (by omega)⟩
 ·obtain ⟨_,a,b⟩:=tF_gate kind (i:=k) (by omega)
  rw [← e] at a b
  rw [a]
  exact ⟨by omega,.inl b⟩
theorem tab0_up:∀ i,i < 10→(0≤(tab0[i]?.getD (0,0)).1∧(tab0[i]?.getD (0,0)).1+4≤3072)∧(0≤(tab0[i]?.getD (0,0)).2∧(tab0[i]?.getD (0,0)).2 < 4294967296)∧∀ j,j < 10→i < j→(tab0[i]?.getD (0,0)).1+4≤(tab0[j]?.getD (0,0)).1:=by decide
theorem tF_up (kind:Int) {i j:Nat} (hij:i < j) (hj:j < 138):tF kind i+4≤tF kind j:=by
 by_cases a:j < 10
 ·rw [(tF_head kind a).1,(tF_head kind (by omega:i < 10)).1]
  exact (tab0_up i (by omega)).2.2 j a hij
 ·rw [(tF_even kind (by omega) hj).1]
  by_cases b:i < 10
  ·rw [(tF_head kind b).1]
   have:=(tab0_up i b).1.2
   omega
  ·rw [(tF_even kind (by omega) (by omega)).1];omega
theorem tF_in {kind:Int} (hk:U32 kind):∀ i,i < 138→(0≤tF kind i∧tF kind i+4≤65536)∧U32 (tS kind i):=fun i hi=>by
 unfold U32 at *
 by_cases a:i < 10
 ·rw [(tF_head kind a).1,(tF_head kind a).2]
  have:=tab0_up i a
  exact ⟨⟨this.1.1,by omega⟩,this.2.1⟩
 ·obtain ⟨e,f⟩:=tF_even kind (by omega:10≤i) hi
  rw [e]
  refine ⟨⟨by omega,by omega⟩,?_⟩
  rcases f with f | f
  ·rw [f];exact hk
  ·omega
theorem stM_eq (kind:Int):stM kind=wordsM (mem0 16) (tF kind) (tS kind) 138:=by unfold stM Bs.memW tF tS;rfl
theorem stM_pn {kind:Int} (hk:U32 kind):Pn (stM kind):=by rw [stM_eq];exact pn_words pn_mem0 _ _ 138 (tF_in hk)
theorem stM_wd {kind:Int} (hk:U32 kind) {i:Nat} (hi:i < 138):wd (stM kind) (tF kind i)=tS kind i:=by rw [stM_eq];exact wd_words pn_mem0 _ _ 138 (tF_in hk) i hi (fun j a b=>tF_up kind a b)
theorem stM_0 {kind:Int} (hk:U32 kind) (i:Nat) (h:i < 10):wd (stM kind) (tab0[i]?.getD (0,0)).1=(tab0[i]?.getD (0,0)).2:=by
 have:=stM_wd hk (i:=i) (by omega)
 rwa [(tF_head kind h).1,(tF_head kind h).2] at this
theorem stM_lo {kind:Int} (hk:U32 kind) {v:Int} (v0:0≤v) (v1:v < 64):wd (stM kind) (3072+8*v)=524288+(24576+16*v):=by
 have:=stM_wd hk (i:=10+2*v.toNat) (by omega)
 obtain ⟨⟨a,b⟩,_⟩:=tF_gate kind (i:=v.toNat) (by omega)
 rw [a,b] at this
 rw [show (v.toNat:Int)=v by omega] at this
 exact this
theorem stM_hi {kind:Int} (hk:U32 kind) {v:Int} (v0:0≤v) (v1:v < 64):wd (stM kind) (3076+8*v)=kind:=by
 have:=stM_wd hk (i:=11+2*v.toNat) (by omega)
 obtain ⟨_,a,b⟩:=tF_gate kind (i:=v.toNat) (by omega)
 rw [a,b] at this
 rw [show (v.toNat:Int)=v by omega] at this
 exact this
theorem Ou.ok_bind {α β:Type} (M:Mem) (a:α) (f:Mem→α→Ou β):(Ou.ok M a).bind f=f M a:=rfl
theorem Mem.rdS_4 (M:Mem) {l:Int} (l0:0≤l) (l1:l+4≤65536):M.rdS ⟨l,0,4,4⟩=wd M l:=by
 unfold Mem.rdS Mem.spB Sp.at wd
 simp
 rw [show (l+1)%4294967296=l+1 by omega,show (l+2)%4294967296=l+2 by omega,show (l+3)%4294967296=l+3 by omega,show l%4294967296=l by omega]
theorem Mem.rdS_2 (M:Mem) {l:Int} (l0:0≤l) (l1:l+4≤65536):M.rdS ⟨l,0,2,2⟩=M.rd l+M.rd (l+1)*256:=by
 unfold Mem.rdS Mem.spB Sp.at
 simp
 rw [show (l+1)%4294967296=l+1 by omega,show l%4294967296=l by omega]
theorem sysO_4 {c:Cp} (hp:c.pg=false) {l:Int} (l0:0≤l) (l1:l+4≤65536):sysO M c l 4=.ok M (wd M l):=by
 have e:sysQ M c l 4 false=⟨none,M,⟨l,0,4,4⟩⟩:=by
  unfold sysQ findQ
  rw [if_neg (by decide),if_pos hp]
  rfl
 unfold sysO Qy.ou Qy.val
 rw [e]
 show (⟨M,.inr (M.rdS ⟨l,0,4,4⟩)⟩:Ou Int)=_
 rw [M.rdS_4 l0 l1]
 rfl
theorem sysO_2 (h:Pn M) {c:Cp} (hp:c.pg=false) {l:Int} (l0:0≤l) (l1:l+4≤65536):sysO M c l 2=.ok M (wd M l%65536):=by
 have e:sysQ M c l 2 false=⟨none,M,⟨l,0,2,2⟩⟩:=by
  unfold sysQ findQ
  rw [if_neg (by decide),if_pos hp]
  rfl
 unfold sysO Qy.ou Qy.val
 rw [e]
 show (⟨M,.inr (M.rdS ⟨l,0,2,2⟩)⟩:Ou Int)=_
 rw [M.rdS_2 l0 l1,h.rd2 l1]
 rfl
structure FlS (r:SgR):Prop where
 nl:r.nl=false
 b:r.b=0
 l:r.l=4294967295
 t:r.t=2
 s:r.s=false
 p:r.p=true
 g:r.g=true
theorem FlS.reach {s:SgR} (h:FlS s) {off:Int} (l0:0≤off) (l1:off+4≤65536) (wr:Bool):Sg.reachB s.l s.t s.s s.p s.g off 4 wr=true:=by
 rw [h.l,h.t,h.s,h.p,h.g]
 have e1:Sg.rR false 2=true:=by decide
 have e2:Sg.rW false 2=true:=by decide
 have e3:Sg.rD false 2=false:=by decide
 unfold Sg.reachB Sg.reachX
 rw [e1,e2,e3]
 simp [Sg.szB]
 omega
theorem segQ_4 {c:Cp} (hp:c.pg=false) (hs:FlS (c.seg 2)) {off:Int} (l0:0≤off) (l1:off+4≤65536) (wr:Bool):segQ M c 2 off 4 wr=⟨none,M,⟨off,0,4,4⟩⟩:=by
 unfold segQ findQ
 rw [if_neg (by decide),show ((2:Int).toNat)=2 from rfl,hs.reach l0 l1 wr,hs.nl,if_neg (by decide),if_pos hp,hs.b]
 unfold linB
 rw [show (0+off)%4294967296=off by omega]
 rfl
theorem lodO_4 {c:Cp} (hp:c.pg=false) (hs:FlS (c.seg 2)) {off:Int} (l0:0≤off) (l1:off+4≤65536):lodO M c off 4=.ok M (wd M off):=by
 unfold lodO Qy.ou Qy.val
 rw [segQ_4 hp hs l0 l1]
 show (⟨M,.inr (M.rdS ⟨off,0,4,4⟩)⟩:Ou Int)=_
 rw [M.rdS_4 l0 l1]
 rfl
theorem stoO_4 {c:Cp} (hp:c.pg=false) (hs:FlS (c.seg 2)) {off v:Int} (l0:0≤off) (l1:off+4≤65536):stoO M c off v=.ok (lay4 M off v) ():=by
 have e:M.wrS ⟨off,0,4,4⟩ v=lay4 M off v:=by
  unfold Mem.wrS Mem.wrK Mem.wrK Mem.wrK Mem.wrK Mem.wrK lay4 bytesV Sp.at
  simp [Mem.lay]
  rw [show (off+1)%4294967296=off+1 by omega,show off%4294967296=off by omega,show (off+1+1)%4294967296=off+2 by omega,show (off+2)%4294967296=off+2 by omega,show (off+1+1+1)%4294967296=off+3 by omega,show (off+3)%4294967296=off+3 by omega]
 unfold stoO Qy.put
 rw [segQ_4 hp hs l0 l1]
 show (⟨M.wrS ⟨off,0,4,4⟩ v,.inr ()⟩:Ou Unit)=_
 rw [e]
 rfl
open Go.ChangeShapes Go.WideShapes Go.ChangeAt Go.RowKit
theorem ok_int {P:Program} {w:World} {r:Reach} {b:Nat} {t:TypeId} {k:IntKind} {v:Value} (ht:P.underlying t=some (.int k)) (h:Cell.okWide P w r b t v):∃ n,v=.int k n∧k.has n:=by
 unfold Cell.okWide Cell.ok at h
 rw [ht] at h
 cases v<;>simp at h
 rename_i k' n
 exact ⟨n,by rw [h.1],h.2⟩
theorem ok_bool {P:Program} {w:World} {r:Reach} {b:Nat} {t:TypeId} {v:Value} (ht:P.underlying t=some .bool) (h:Cell.okWide P w r b t v):∃ x,v=.bool x:=by
 unfold Cell.okWide Cell.ok at h
 rw [ht] at h
 cases v<;>simp at h
 exact ⟨_,rfl⟩
def sgT:List TypeId:=[24,4,22,22,3,4,3,4,4]
def cpuT:List TypeId:=List.replicate 10 22++(sgT++sgT++sgT++sgT++sgT++sgT)++[22,22,22,22,24,22,24]++sgT++[4,4,4]
theorem cpu_types:Tryz.prog.cellTypes Tryz.prog.depth 33=some cpuT:=by kernel_rfl
theorem cpuT_len:cpuT.length=83:=by kernel_rfl
theorem cpu_size:Tryz.prog.cellsOf 33=83:=by kernel_rfl
def numC (cs:Array Value) (k:Nat):Int:=match cs[k]? with | some (.int _ n)=>n | _=>0
def booC (cs:Array Value) (k:Nat):Bool:=match cs[k]? with | some (.bool b)=>b | _=>false
section
variable {W:World} {b:Nat} {cs:Array Value}
theorem at_int (h:Row.okWide Tryz.prog W .any b 33 cs) (hs:cs.size=83) {i:Nat} {k:IntKind} {t:TypeId} (hi:i < 83) (ht:cpuT[i]?=some t) (hk:Tryz.prog.underlying t=some (.int k)):cs[i]?=some (.int k (numC cs i))∧k.has (numC cs i):=by
 obtain ⟨ts,e,_,hc⟩:=h
 rw [cpu_types] at e
 obtain rfl:=Option.some.inj e
 have hv:=Array.getElem?_eq_getElem (xs:=cs) (i:=i) (by omega)
 obtain ⟨u,hu,ho⟩:=hc i _ hv
 rw [cpuT_len,Nat.mod_eq_of_lt hi,ht] at hu
 obtain rfl:=Option.some.inj hu
 obtain ⟨n,en,hn⟩:=ok_int hk ho
 rw [en] at hv
 have:numC cs i=n:=by unfold numC;rw [hv]
 rw [this]
 exact ⟨hv,hn⟩
theorem at_bool (h:Row.okWide Tryz.prog W .any b 33 cs) (hs:cs.size=83) {i:Nat} (hi:i < 83) (ht:cpuT[i]?=some 4):cs[i]?=some (.bool (booC cs i)):=by
 obtain ⟨ts,e,_,hc⟩:=h
 rw [cpu_types] at e
 obtain rfl:=Option.some.inj e
 have hv:=Array.getElem?_eq_getElem (xs:=cs) (i:=i) (by omega)
 obtain ⟨u,hu,ho⟩:=hc i _ hv
 rw [cpuT_len,Nat.mod_eq_of_lt hi,ht] at hu
 obtain rfl:=Option.some.inj hu
 obtain ⟨x,ex⟩:=ok_bool Tryz.underlying4 ho
 rw [ex] at hv
 have:booC cs i=x:=by unfold booC;rw [hv]
 rw [this]
 exact hv
theorem has32 {n:Int} (h:IntKind.u32.has n):0≤n∧n < 4294967296:=by
 simp [IntKind.has,IntKind.min,IntKind.max,IntKind.signed,IntKind.bits] at h;omega
theorem has16 {n:Int} (h:IntKind.u16.has n):0≤n∧n < 65536:=by
 simp [IntKind.has,IntKind.min,IntKind.max,IntKind.signed,IntKind.bits] at h;omega
theorem has64 {n:Int} (h:IntKind.i64.has n):-9223372036854775808≤n∧n < 9223372036854775808:=by
 simp [IntKind.has,IntKind.min,IntKind.max,IntKind.signed,IntKind.bits] at h;omega
end
theorem has_u32 {n:Int} (h:IntKind.u32.has n):U32 n:=by
 have:=has32 h;exact this
theorem has_u16 {n:Int} (h:IntKind.u16.has n):U16 n:=by
 have:=has16 h;exact this
theorem has_i64 {n:Int} (h:IntKind.i64.has n):I64 n:=by
 have:=has64 h;exact this
structure Cel (cs:Array Value):Prop where
 u:∀ k:Nat,cpuT[k]?=some 22→∃ n,cs[k]?=some (.int .u32 n)∧U32 n
 h:∀ k:Nat,cpuT[k]?=some 24→∃ n,cs[k]?=some (.int .u16 n)∧U16 n
 i:∀ k:Nat,cpuT[k]?=some 3→∃ n,cs[k]?=some (.int .i64 n)∧I64 n
 b:∀ k:Nat,cpuT[k]?=some 4→∃ n,cs[k]?=some (.bool n)
theorem cel_in {W:World} {b:Nat} {cs:Array Value} (h:Row.okWide Tryz.prog W .any b 33 cs) (hs:cs.size=83):Cel cs:=by
 have lt:∀ (k:Nat) (t:TypeId),cpuT[k]?=some t→k < 83:=fun k t ht=>by
  have:=(List.getElem?_eq_some_iff.1 ht).1;rw [cpuT_len] at this;exact this
 refine ⟨fun k hk=>?_,fun k hk=>?_,fun k hk=>?_,fun k hk=>?_⟩
 ·have:=at_int h hs (lt k _ hk) hk Tryz.underlying22
  exact ⟨_,this.1,has_u32 this.2⟩
 ·have:=at_int h hs (lt k _ hk) hk Tryz.underlying24
  exact ⟨_,this.1,has_u16 this.2⟩
 ·have:=at_int h hs (lt k _ hk) hk Tryz.underlying3
  exact ⟨_,this.1,has_i64 this.2⟩
 ·exact ⟨_,at_bool h hs (lt k _ hk) hk⟩
structure SgA (cs:Array Value) (o:Nat) (s:SgR):Prop where
 a0:cs[o]?=some (.int .u16 s.sel)
 a1:cs[o+1]?=some (.bool s.nl)
 a2:cs[o+2]?=some (.int .u32 s.b)
 a3:cs[o+3]?=some (.int .u32 s.l)
 a4:cs[o+4]?=some (.int .i64 s.t)
 a5:cs[o+5]?=some (.bool s.s)
 a6:cs[o+6]?=some (.int .i64 s.d)
 a7:cs[o+7]?=some (.bool s.p)
 a8:cs[o+8]?=some (.bool s.g)
theorem sg_in {cs:Array Value} (h:Cel cs) (o:Nat) (h0:cpuT[o]?=some 24) (h1:cpuT[o+1]?=some 4) (h2:cpuT[o+2]?=some 22) (h3:cpuT[o+3]?=some 22) (h4:cpuT[o+4]?=some 3) (h5:cpuT[o+5]?=some 4) (h6:cpuT[o+6]?=some 3) (h7:cpuT[o+7]?=some 4) (h8:cpuT[o+8]?=some 4):∃ s:SgR,SgA cs o s∧s.Wf:=by
 obtain ⟨n0,e0,b0⟩:=h.h _ h0
 obtain ⟨n1,e1⟩:=h.b _ h1
 obtain ⟨n2,e2,b2⟩:=h.u _ h2
 obtain ⟨n3,e3,b3⟩:=h.u _ h3
 obtain ⟨n4,e4,b4⟩:=h.i _ h4
 obtain ⟨n5,e5⟩:=h.b _ h5
 obtain ⟨n6,e6,b6⟩:=h.i _ h6
 obtain ⟨n7,e7⟩:=h.b _ h7
 obtain ⟨n8,e8⟩:=h.b _ h8
 exact ⟨⟨n0,n1,n2,n3,n4,n5,n6,n7,n8⟩,⟨e0,e1,e2,e3,e4,e5,e6,e7,e8⟩,⟨⟨b0.1,b0.2,b2.1,b2.2,b3.1,b3.2,b4.1,b4.2⟩,b6⟩⟩
def nulA:SgR:=⟨0,true,0,0,0,false,0,false,false⟩
set_option maxHeartbeats 4000000 in
theorem cu_in {W:World} {b:Nat} {cs:Array Value} (h:Row.okWide Tryz.prog W .any b 33 cs) (hs:cs.size=83):∃ x:Cu,cs=x.cs∧x.Bd:=by
 have H:=cel_in h hs
 obtain ⟨n0,e0,b0⟩:=H.u 0 (by decide)
 obtain ⟨n1,e1,b1⟩:=H.u 1 (by decide)
 obtain ⟨n2,e2,b2⟩:=H.u 2 (by decide)
 obtain ⟨n3,e3,b3⟩:=H.u 3 (by decide)
 obtain ⟨n4,e4,b4⟩:=H.u 4 (by decide)
 obtain ⟨n5,e5,b5⟩:=H.u 5 (by decide)
 obtain ⟨n6,e6,b6⟩:=H.u 6 (by decide)
 obtain ⟨n7,e7,b7⟩:=H.u 7 (by decide)
 obtain ⟨n8,e8,b8⟩:=H.u 8 (by decide)
 obtain ⟨n9,e9,b9⟩:=H.u 9 (by decide)
 obtain ⟨n64,e64,b64⟩:=H.u 64 (by decide)
 obtain ⟨n65,e65,b65⟩:=H.u 65 (by decide)
 obtain ⟨n66,e66,b66⟩:=H.u 66 (by decide)
 obtain ⟨n67,e67,b67⟩:=H.u 67 (by decide)
 obtain ⟨n69,e69,b69⟩:=H.u 69 (by decide)
 obtain ⟨n68,e68,b68⟩:=H.h 68 (by decide)
 obtain ⟨n70,e70,b70⟩:=H.h 70 (by decide)
 obtain ⟨n80,e80⟩:=H.b 80 (by decide)
 obtain ⟨n81,e81⟩:=H.b 81 (by decide)
 obtain ⟨n82,e82⟩:=H.b 82 (by decide)
 obtain ⟨s0,a0,w0⟩:=sg_in H 10 (by decide) (by decide) (by decide) (by decide) (by decide) (by decide) (by decide) (by decide) (by decide)
 obtain ⟨s1,a1,w1⟩:=sg_in H 19 (by decide) (by decide) (by decide) (by decide) (by decide) (by decide) (by decide) (by decide) (by decide)
 obtain ⟨s2,a2,w2⟩:=sg_in H 28 (by decide) (by decide) (by decide) (by decide) (by decide) (by decide) (by decide) (by decide) (by decide)
 obtain ⟨s3,a3,w3⟩:=sg_in H 37 (by decide) (by decide) (by decide) (by decide) (by decide) (by decide) (by decide) (by decide) (by decide)
 obtain ⟨s4,a4,w4⟩:=sg_in H 46 (by decide) (by decide) (by decide) (by decide) (by decide) (by decide) (by decide) (by decide) (by decide)
 obtain ⟨s5,a5,w5⟩:=sg_in H 55 (by decide) (by decide) (by decide) (by decide) (by decide) (by decide) (by decide) (by decide) (by decide)
 obtain ⟨s6,a6,w6⟩:=sg_in H 71 (by decide) (by decide) (by decide) (by decide) (by decide) (by decide) (by decide) (by decide) (by decide)
 refine ⟨⟨fun i=>match i with | 0=>n0 | 1=>n1 | 2=>n2 | 3=>n3 | 4=>n4 | 5=>n5 | 6=>n6 | 7=>n7 | _=>0,n8,n9,fun i=>match i with | 0=>s0 | 1=>s1 | 2=>s2 | 3=>s3 | 4=>s4 | 5=>s5 | _=>nulA,n64,n65,n66,n67,n68,n69,n70,s6,n80,n81,n82⟩,arr83 hs rfl (fun k hk=>?_),?_⟩
 ·match k,hk with
  | 0,_=>exact e0
  | 1,_=>exact e1
  | 2,_=>exact e2
  | 3,_=>exact e3
  | 4,_=>exact e4
  | 5,_=>exact e5
  | 6,_=>exact e6
  | 7,_=>exact e7
  | 8,_=>exact e8
  | 9,_=>exact e9
  | 10,_=>exact a0.a0
  | 11,_=>exact a0.a1
  | 12,_=>exact a0.a2
  | 13,_=>exact a0.a3
  | 14,_=>exact a0.a4
  | 15,_=>exact a0.a5
  | 16,_=>exact a0.a6
  | 17,_=>exact a0.a7
  | 18,_=>exact a0.a8
  | 19,_=>exact a1.a0
  | 20,_=>exact a1.a1
  | 21,_=>exact a1.a2
  | 22,_=>exact a1.a3
  | 23,_=>exact a1.a4
  | 24,_=>exact a1.a5
  | 25,_=>exact a1.a6
  | 26,_=>exact a1.a7
  | 27,_=>exact a1.a8
  | 28,_=>exact a2.a0
  | 29,_=>exact a2.a1
  | 30,_=>exact a2.a2
  | 31,_=>exact a2.a3
  | 32,_=>exact a2.a4
  | 33,_=>exact a2.a5
  | 34,_=>exact a2.a6
  | 35,_=>exact a2.a7
  | 36,_=>exact a2.a8
  | 37,_=>exact a3.a0
  | 38,_=>exact a3.a1
  | 39,_=>exact a3.a2
  | 40,_=>exact a3.a3
  | 41,_=>exact a3.a4
  | 42,_=>exact a3.a5
  | 43,_=>exact a3.a6
  | 44,_=>exact a3.a7
  | 45,_=>exact a3.a8
  | 46,_=>exact a4.a0
  | 47,_=>exact a4.a1
  | 48,_=>exact a4.a2
  | 49,_=>exact a4.a3
  | 50,_=>exact a4.a4
  | 51,_=>exact a4.a5
  | 52,_=>exact a4.a6
  | 53,_=>exact a4.a7
  | 54,_=>exact a4.a8
  | 55,_=>exact a5.a0
  | 56,_=>exact a5.a1
  | 57,_=>exact a5.a2
  | 58,_=>exact a5.a3
  | 59,_=>exact a5.a4
  | 60,_=>exact a5.a5
  | 61,_=>exact a5.a6
  | 62,_=>exact a5.a7
  | 63,_=>exact a5.a8
  | 64,_=>exact e64
  | 65,_=>exact e65
  | 66,_=>exact e66
  | 67,_=>exact e67
  | 68,_=>exact e68
  | 69,_=>exact e69
  | 70,_=>exact e70
  | 71,_=>exact a6.a0
  | 72,_=>exact a6.a1
  | 73,_=>exact a6.a2
  | 74,_=>exact a6.a3
  | 75,_=>exact a6.a4
  | 76,_=>exact a6.a5
  | 77,_=>exact a6.a6
  | 78,_=>exact a6.a7
  | 79,_=>exact a6.a8
  | 80,_=>exact e80
  | 81,_=>exact e81
  | 82,_=>exact e82
  | n+83,hk=>omega
 ·refine ⟨fun i hi=>?_,b8,b9,fun i hi=>?_,b64,b65,b66,b67,b68,b69,b70,w6⟩
  ·match i,hi with
   | 0,_=>exact b0
   | 1,_=>exact b1
   | 2,_=>exact b2
   | 3,_=>exact b3
   | 4,_=>exact b4
   | 5,_=>exact b5
   | 6,_=>exact b6
   | 7,_=>exact b7
   | n+8,hi=>omega
  ·match i,hi with
   | 0,_=>exact w0
   | 1,_=>exact w1
   | 2,_=>exact w2
   | 3,_=>exact w3
   | 4,_=>exact w4
   | 5,_=>exact w5
   | n+6,hi=>omega
end Go.Proofs.YtacgmoikegcopaaGreatDoor.Rm
