/- Delivery: the laws' environment of the outer ring. -/
import Derived.Test.YtacgmoikegcopaaGreatDoorEc35
import Derived.LoopN
namespace Go.Proofs.YtacgmoikegcopaaGreatDoor.Rm
open Go.ChangeShapes Go.WideShapes Go.ChangeAt Go.RowKit Go.Maps
set_option linter.unusedVariables false
set_option maxRecDepth 20000
set_option maxHeartbeats 8000000 in
theorem started3 (w:World) (kind:Int) (hk:U32 kind):
  Calls Tryz.prog 18 #[.int .i64 3,.int .u32 kind] w fun e w'=>∃ E V K L L',e=.returned (.pointer (some ⟨E,0,none⟩))∧Bs.Hs w w' (startR L L' V K E stX3 (Bs.x17M (stM kind)) ((Bs.x17M (stM kind)).out 33 1 255)):=by
 obtain ⟨T,nn,Z,hV⟩:=vlP
 obtain ⟨vl,vs,va,vb⟩:=hV.ops
 have g1:=hV.agg;have g2:=hV.size;have g3:=hV.zero
 have HV:Hid _:=hV
 have HF:Hid _:=flat17 w 3 (by decide) (by decide)
 have HKd:Hid (U32 kind):=hk
 clear hV hk
 go_enter Tryz.func18,Tryz.ntmps18
 simp only [vl,vs,va]
 go_wp2_with fail
 refine Calls.mono HF.out ?_;rintro e w1 ⟨cs,rfl,wf,hc,⟨c9,cr⟩,k1⟩
 have ew:IntKind.u16.wrap ((3:Int).tmod 4)=3:=by decide
 have et:(3:Int).tmod 4=3:=by decide
 rw [ew,et] at hc
 have ecs:=flatX_of wf hc c9 cr
 have hsz:cs.size=nn:=by rw [wf.s,HV.out.s]
 have pA0:PAt (w1.alloc (.cells Z T)) w1.heap.size Z:=HV.out.at HV.out.wf w1
 have hst:=VlP.put pA0 wf
 obtain ⟨A,hA⟩:∃ A,A=w1.heap.size:=⟨_,rfl⟩
 obtain ⟨W2,hW2⟩:∃ W,W=(w1.alloc (.cells Z T)).setRow A cs:=⟨_,rfl⟩
 have P2:PAt W2 A (flatX 3 3).cs:=by rw [hW2,← ecs,hA];exact pA0.put wf
 have HE:Hid (cs=(flatX 3 3).cs):=ecs
 clear ecs hc c9 cr ew et pA0 HF
 go_upto_region 2 with fail
 rw [← hA,← hW2]
 have kS:=Kp.setRow (S:=fun j=>j=A) (w1.alloc (.cells Z T)) rfl cs
 have sz:=k1.size
 have k2:Kp noB w W2:=by
  rw [hW2]
  exact (k1.trans (Kp.alloc noB w1 _)).over kS (fun j hj e=>by omega)
 clear wf kS hst hsz hW2 HE
 obtain ⟨u67,c67⟩:=P2.some (k:=67) (by decide)
 obtain ⟨u68,c68⟩:=P2.some (k:=68) (by decide)
 obtain ⟨u69,c69⟩:=P2.some (k:=69) (by decide)
 obtain ⟨u70,c70⟩:=P2.some (k:=70) (by decide)
 obtain ⟨u4,c4⟩:=P2.some (k:=4) (by decide)
 obtain ⟨u8,c8⟩:=P2.some (k:=8) (by decide)
 obtain ⟨u9,c9⟩:=P2.some (k:=9) (by decide)
 obtain ⟨u71,c71⟩:=P2.some (k:=71) (by decide)
 obtain ⟨u72,c72⟩:=P2.some (k:=72) (by decide)
 obtain ⟨u73,c73⟩:=P2.some (k:=73) (by decide)
 obtain ⟨u74,c74⟩:=P2.some (k:=74) (by decide)
 obtain ⟨u75,c75⟩:=P2.some (k:=75) (by decide)
 obtain ⟨u76,c76⟩:=P2.some (k:=76) (by decide)
 obtain ⟨u77,c77⟩:=P2.some (k:=77) (by decide)
 obtain ⟨u78,c78⟩:=P2.some (k:=78) (by decide)
 obtain ⟨u79,c79⟩:=P2.some (k:=79) (by decide)
 have f2:=P2.fz
 obtain ⟨W3,hW3⟩:∃ W,W=((((((((((((((((W2.setCell ⟨A,67,none⟩ (.int .u32 2048)).setCell ⟨A,68,none⟩ (.int .u16 47)).setCell ⟨A,69,none⟩ (.int .u32 3072)).setCell ⟨A,70,none⟩ (.int .u16 511)).setCell ⟨A,4,none⟩ (.int .u32 36864)).setCell ⟨A,8,none⟩ (.int .u32 256)).setCell ⟨A,9,none⟩ (.int .u32 514)).setCell ⟨A,71,none⟩ (.int .u16 40)).setCell ⟨A,72,none⟩ (.bool false)).setCell ⟨A,73,none⟩ (.int .u32 2560)).setCell ⟨A,74,none⟩ (.int .u32 103)).setCell ⟨A,75,none⟩ (.int .i64 9)).setCell ⟨A,76,none⟩ (.bool true)).setCell ⟨A,77,none⟩ (.int .i64 0)).setCell ⟨A,78,none⟩ (.bool true)).setCell ⟨A,79,none⟩ (.bool false)):=⟨_,rfl⟩
 have P3:PAt W3 A (edits (flatX 3 3).cs):=by rw [hW3];exact ((((((((((((((((P2.set 67 (v:=.int .u32 2048) rfl).set 68 (v:=.int .u16 47) rfl).set 69 (v:=.int .u32 3072) rfl).set 70 (v:=.int .u16 511) rfl).set 4 (v:=.int .u32 36864) rfl).set 8 (v:=.int .u32 256) rfl).set 9 (v:=.int .u32 514) rfl).set 71 (v:=.int .u16 40) rfl).set 72 (v:=.bool false) rfl).set 73 (v:=.int .u32 2560) rfl).set 74 (v:=.int .u32 103) rfl).set 75 (v:=.int .i64 9) rfl).set 76 (v:=.bool true) rfl).set 77 (v:=.int .i64 0) rfl).set 78 (v:=.bool true) rfl).set 79 (v:=.bool false) rfl)
 have k3:Kp noB w W3:=by
  have kk:∀ (U:World) (o:Nat) (v:Value),Kp noB w U→Kp noB w (U.setCell ⟨A,o,none⟩ v):=fun U o v h=>h.over (Kp.setCell (S:=fun j=>j=A) U (p:=⟨A,o,none⟩) rfl v) (fun j hj e=>by omega)
  rw [hW3]
  exact kk _ _ _ (kk _ _ _ (kk _ _ _ (kk _ _ _ (kk _ _ _ (kk _ _ _ (kk _ _ _ (kk _ _ _ (kk _ _ _ (kk _ _ _ (kk _ _ _ (kk _ _ _ (kk _ _ _ (kk _ _ _ (kk _ _ _ (kk _ _ _ (k2))))))))))))))))
 have HA:Hid (w.heap.size≤A):=by rw [hA];exact sz
 clear k2 k1 sz P2 hA
 obtain ⟨c0,hc0⟩:∃ q,q=edits (flatX 3 3).cs:=⟨_,rfl⟩
 rw [← hc0] at P3
 have HC0:Hid (c0=edits (flatX 3 3).cs):=hc0
 have HP3:Hid (PAt W3 A c0):=P3
 have HK3:Hid (Kp noB w W3):=k3
 clear P3 k3 hc0
 go_upto_region 9 with fail
 rw [← hW3]
 clear hW3 c67 u67 c68 u68 c69 u69 c70 u70 c4 u4 c8 u8 c9 u9 c71 u71 c72 u72 c73 u73 c74 u74 c75 u75 c76 u76 c77 u77 c78 u78 c79 u79 f2
 obtain ⟨u,cu⟩:=HP3.out.some (k:=19) (by decide)
 have fu:=HP3.out.fz 19
 obtain ⟨W4,hW4⟩:∃ W,W=W3.setCell ⟨A,19,none⟩ (.int .u16 27):=⟨_,rfl⟩
 have HP4:Hid (PAt W4 A (c0.setIfInBounds 19 (.int .u16 27))):=by rw [hW4];exact HP3.out.set 19 (v:=.int .u16 27) rfl
 have HK4:Hid (Kp noB w W4):=by rw [hW4];exact HK3.out.over (Kp.setCell (S:=fun j=>j=A) W3 (p:=⟨A,19,none⟩) rfl _) (fun j hj e=>by have:=HA.out;omega)
 go_upto_region 10 with fail
 rw [← hW4]
 clear hW4 cu fu u HP3 HK3
 go_wp2_with fail
 refine wp_loop_rounds 8 ?_
 obtain ⟨u,cu⟩:=HP4.out.some (k:=10) (by decide)
 have fu:=HP4.out.fz 10
 obtain ⟨W5,hW5⟩:∃ W,W=W4.setCell ⟨A,10,none⟩ (.int .u16 35):=⟨_,rfl⟩
 have HP5:Hid (PAt W5 A ((c0.setIfInBounds 19 (.int .u16 27)).setIfInBounds 10 (.int .u16 35))):=by rw [hW5];exact HP4.out.set 10 (v:=.int .u16 35) rfl
 have HK5:Hid (Kp noB w W5):=by rw [hW5];exact HK4.out.over (Kp.setCell (S:=fun j=>j=A) W4 (p:=⟨A,10,none⟩) rfl _) (fun j hj e=>by have:=HA.out;omega)
 rw [rounds_succ]
 go_upto_region 12 with fail
 rw [← hW5]
 clear hW5 cu fu u HP4 HK4
 go_wp2_with fail
 rw [rounds_succ]
 go_wp2_with fail
 obtain ⟨u,cu⟩:=HP5.out.some (k:=28) (by decide)
 have fu:=HP5.out.fz 28
 obtain ⟨W6,hW6⟩:∃ W,W=W5.setCell ⟨A,28,none⟩ (.int .u16 35):=⟨_,rfl⟩
 have HP6:Hid (PAt W6 A (((c0.setIfInBounds 19 (.int .u16 27)).setIfInBounds 10 (.int .u16 35)).setIfInBounds 28 (.int .u16 35))):=by rw [hW6];exact HP5.out.set 28 (v:=.int .u16 35) rfl
 have HK6:Hid (Kp noB w W6):=by rw [hW6];exact HK5.out.over (Kp.setCell (S:=fun j=>j=A) W5 (p:=⟨A,28,none⟩) rfl _) (fun j hj e=>by have:=HA.out;omega)
 rw [rounds_succ]
 go_upto_region 12 with fail
 rw [← hW6]
 clear hW6 cu fu u HP5 HK5
 go_wp2_with fail
 obtain ⟨u,cu⟩:=HP6.out.some (k:=37) (by decide)
 have fu:=HP6.out.fz 37
 obtain ⟨W7,hW7⟩:∃ W,W=W6.setCell ⟨A,37,none⟩ (.int .u16 35):=⟨_,rfl⟩
 have HP7:Hid (PAt W7 A ((((c0.setIfInBounds 19 (.int .u16 27)).setIfInBounds 10 (.int .u16 35)).setIfInBounds 28 (.int .u16 35)).setIfInBounds 37 (.int .u16 35))):=by rw [hW7];exact HP6.out.set 37 (v:=.int .u16 35) rfl
 have HK7:Hid (Kp noB w W7):=by rw [hW7];exact HK6.out.over (Kp.setCell (S:=fun j=>j=A) W6 (p:=⟨A,37,none⟩) rfl _) (fun j hj e=>by have:=HA.out;omega)
 rw [rounds_succ]
 go_upto_region 12 with fail
 rw [← hW7]
 clear hW7 cu fu u HP6 HK6
 go_wp2_with fail
 obtain ⟨u,cu⟩:=HP7.out.some (k:=46) (by decide)
 have fu:=HP7.out.fz 46
 obtain ⟨W8,hW8⟩:∃ W,W=W7.setCell ⟨A,46,none⟩ (.int .u16 35):=⟨_,rfl⟩
 have HP8:Hid (PAt W8 A (((((c0.setIfInBounds 19 (.int .u16 27)).setIfInBounds 10 (.int .u16 35)).setIfInBounds 28 (.int .u16 35)).setIfInBounds 37 (.int .u16 35)).setIfInBounds 46 (.int .u16 35))):=by rw [hW8];exact HP7.out.set 46 (v:=.int .u16 35) rfl
 have HK8:Hid (Kp noB w W8):=by rw [hW8];exact HK7.out.over (Kp.setCell (S:=fun j=>j=A) W7 (p:=⟨A,46,none⟩) rfl _) (fun j hj e=>by have:=HA.out;omega)
 rw [rounds_succ]
 go_upto_region 12 with fail
 rw [← hW8]
 clear hW8 cu fu u HP7 HK7
 go_wp2_with fail
 obtain ⟨u,cu⟩:=HP8.out.some (k:=55) (by decide)
 have fu:=HP8.out.fz 55
 obtain ⟨W9,hW9⟩:∃ W,W=W8.setCell ⟨A,55,none⟩ (.int .u16 35):=⟨_,rfl⟩
 have HP9:Hid (PAt W9 A ((((((c0.setIfInBounds 19 (.int .u16 27)).setIfInBounds 10 (.int .u16 35)).setIfInBounds 28 (.int .u16 35)).setIfInBounds 37 (.int .u16 35)).setIfInBounds 46 (.int .u16 35)).setIfInBounds 55 (.int .u16 35))):=by rw [hW9];exact HP8.out.set 55 (v:=.int .u16 35) rfl
 have HK9:Hid (Kp noB w W9):=by rw [hW9];exact HK8.out.over (Kp.setCell (S:=fun j=>j=A) W8 (p:=⟨A,55,none⟩) rfl _) (fun j hj e=>by have:=HA.out;omega)
 rw [rounds_succ]
 go_upto_region 12 with fail
 rw [← hW9]
 clear hW9 cu fu u HP8 HK8
 go_wp2_with fail
 rw [rounds_succ]
 have hz:=HP9.out
 rw [HC0.out,edits_3] at hz
 replace HP9:Hid (PAt W9 A stX3.cs):=hz
 clear hz HC0
 obtain ⟨cz,hcz⟩:∃ q,q=stX3.cs:=⟨_,rfl⟩
 have HCZ:Hid (cz=stX3.cs):=hcz
 have HLd:Hid (∀ W,Kp noB W9 W→(loadCellsFrom ⟨A,0,none⟩ 0 nn #[]).run Tryz.prog W=.ok cz W):=fun W k=>by rw [hcz];exact HV.out.get (HP9.out.kp k id)
 have HTb:Hid (∀ W,Calls Tryz.prog 45 #[.int .u32 kind] W fun e w'=>∃ v,e=.returned v∧w'.ownsRow W.heap.size 120 2 v 138 (wdL (tabG kind 64))∧Kp noB W w'):=fun W=>tables_any W kind
 have HBo:Hid (∀ W v base,W.ownsRow base 120 2 v 138 (wdL (tabG kind 64))→∃ b cap,v=.slice (some ⟨b,0,none⟩) 138 cap∧Calls Tryz.prog 10 #[.agg cz,.slice (some ⟨b,0,none⟩) 138 cap] W fun e w'=>∃ E R V K L w6,e=.returned (.tuple #[.pointer (some ⟨E,0,none⟩),.pointer (some ⟨R,0,none⟩)])∧Bs.Made W w6 w' E V K L (Bs.x17M (stM kind)) cz):=fun W v base ho=>by
  obtain ⟨b,cap,e,hw⟩:=tabs_in HKd.out ho
  refine ⟨b,cap,e,?_⟩
  rw [hcz]
  exact Bs.both17L W (some ⟨b,0,none⟩) 138 cap _ _ (by decide) hw stX3.cs (cu_wf stX3)
 have HI0:Hid (StI W9 kind cz (.bool false,0,0) false false W9.drew):=⟨(Kp.refl noB W9).drew,fun f=>(by cases f),fun f=>(by cases f)⟩
 clear hcz HP9
 go_upto_region 15 with fail
 refine OrdFree.region_vals (τ:=Value × Nat × Nat) (fun t=>[.agg cz,.int .u32 kind,t.1,Value.tuple #[.pointer (some ⟨t.2.1,0,none⟩),.pointer (some ⟨t.2.2,0,none⟩)],Value.tuple #[.pointer (some ⟨t.2.1,0,none⟩),.pointer (some ⟨t.2.2,0,none⟩)],.pointer (some ⟨t.2.1,0,none⟩),.pointer (some ⟨t.2.2,0,none⟩),.pointer (some ⟨t.2.1,0,none⟩),.pointer (some ⟨t.2.2,0,none⟩)]) (fun t listed W=>StI W9 kind cz t (listed.getD 2 false) (listed.getD 3 false) W) (.bool false,0,0) (by kernel_rfl) (by kernel_rfl) (by kernel_rfl) (by kernel_rfl) (fun _=>rfl) (fun t=>by simp only [OrdFree.puts,Act.put,List.setIfInBounds_toArray,List.set_cons_zero,List.set_cons_succ];rfl) HI0.out ?_ ?_
 ·refine ⟨?_,?_,?_,?_,?_,?_,?_,?_,?_,trivial⟩
  all_goals (intro t listed W hz hSh hl hI hb K hK hK0;obtain ⟨kk,hrow,hmade⟩:=hI;have hld:=HLd.out W kk)
  case refine_3=>
   have n3:=OrdFree.shut_no (j:=3) hSh hl (by kernel_rfl)
   go_simp
   refine Calls.mono (HTb.out W) ?_;rintro e w' ⟨v,rfl,ho,kv⟩
   exact hK _ _ ⟨(v,t.2),rfl,OrdFree.vals_two (i:=2) (k:=2) (u:=v) (v:=v) rfl hl hl,⟨kk.trans kv,fun _=>⟨_,ho⟩,fun h=>by rw [getD_set_ne false (by decide),n3] at h;cases h⟩⟩
  case refine_4=>
   have h2:=hb { on:=2,ground:=.data } (by simp) rfl
   obtain ⟨base,ho⟩:=hrow h2
   have hc:Calls Tryz.prog 10 #[.agg cz,t.1] W fun e w'=>∃ E R V K L w6,e=.returned (.tuple #[.pointer (some ⟨E,0,none⟩),.pointer (some ⟨R,0,none⟩)])∧Bs.Made W w6 w' E V K L (Bs.x17M (stM kind)) cz:=by
    obtain ⟨b,cap,ev,hc⟩:=HBo.out W t.1 base ho
    rw [ev];exact hc
   have n4:=OrdFree.shut_no (j:=4) hSh hl (by kernel_rfl)
   have n5:=OrdFree.shut_no (j:=5) hSh n4 (by kernel_rfl)
   have n6:=OrdFree.shut_no (j:=6) hSh n4 (by kernel_rfl)
   have n7:=OrdFree.shut_no (j:=7) hSh n5 (by kernel_rfl)
   have n8:=OrdFree.shut_no (j:=8) hSh n6 (by kernel_rfl)
   go_simp
   refine Calls.mono hc ?_;rintro e w' ⟨E,R,V,Kb,L,w6,rfl,hm⟩
   have kq:Kp noB W w':=by obtain ⟨L',hs⟩:=hm.hs;exact (Bs.noRm hs.kp).trans (Bs.noRm hm.kp)
   refine hK _ _ ⟨(t.1,E,R),rfl,fun j hj=>?_,⟨kk.trans kq,fun _=>⟨base,ownsRow_kp ho kq⟩,fun _=>⟨V,Kb,L,W,w6,kk,hm⟩⟩⟩
   rcases j with _ | _ | _ | _ | _ | _ | _ | _ | _ | j
   ·rfl
   ·rfl
   ·rfl
   ·rw [hl] at hj;cases hj
   ·rw [n4] at hj;cases hj
   ·rw [n5] at hj;cases hj
   ·rw [n6] at hj;cases hj
   ·rw [n7] at hj;cases hj
   ·rw [n8] at hj;cases hj
   ·rfl
  all_goals (go_simp;exact hK0 W ⟨kk,fun h=>hrow (by rwa [getD_set_ne false (by decide)] at h),fun h=>hmade (by rwa [getD_set_ne false (by decide)] at h)⟩)
 rename_i Kx hKx
 rintro t listed W hal ⟨kk,_,hmade⟩
 obtain ⟨V,Kb,L,w1',w6,k13,hm⟩:=hmade (hal 3 (by exact (by decide:3 < 9)))
 obtain ⟨L',hs⟩:=hm.hs
 obtain ⟨E,hE⟩:∃ E,E=t.2.1:=⟨_,rfl⟩
 obtain ⟨R,hR⟩:∃ R,R=t.2.2:=⟨_,rfl⟩
 rw [← hE] at hm
 refine hKx _ _ ?_
 rw [← hE,← hR]
 clear hE hR hal
 have ea:=hm.ea
 rw [HCZ.out] at ea
 have hn:=hs.new (i:=3) (r':=Bs.Res.blk E (envO stX3 V L.B)) rfl (T':=Ut.isB E) ⟨rfl,ea.1⟩ (fun k (g:k=E)=>⟨by rw [g];exact hm.lt,by rw [g];exact ea.lt⟩) hm.kp
 have hO:Hid (Calls Tryz.prog 46 #[.pointer (some ⟨L.B,0,none⟩),.int .u16 33,.int .i64 1,.int .u32 255] W fun e w'=>e=.returned (.int .i64 (Bs.erS 1))∧Bs.Hs w w' (startR L L' V Kb E stX3 (Bs.x17M (stM kind)) ((Bs.x17M (stM kind)).out 33 1 255))):=
  (Hs_from (Bs.rmNo (HK9.out.trans k13)) hn).bus 0 rfl (fun S b=>Bs.out33 b (x17M_ok _))
 have c84:W.cell? ⟨E,84,none⟩=some (.pointer (some ⟨L.B,0,none⟩)):=ea.bp
 clear hn hs hm ea  kk k13 hmade HK9
 go_wp2_with fail
 refine Calls.mono hO.out ?_;rintro e w9 ⟨rfl,h9⟩
 have H9:Hid _:=h9
 clear h9 hO
 go_wp2
 go_ret
 exact ⟨E,V,Kb,L,L',rfl,H9.out⟩
end Go.Proofs.YtacgmoikegcopaaGreatDoor.Rm
