/- The bus and its devices: XcTake, XcTry. -/
import Derived.Test.YtacgmoikegcopaaGreatDoorEc13
import Derived.Recover
namespace Go.Proofs.YtacgmoikegcopaaGreatDoor.Rm
open Go.ChangeShapes Go.WideShapes Go.ChangeAt Go.RowKit Go.Maps
set_option linter.unusedVariables false
set_option maxRecDepth 20000
def IS (w0:World) (c:Ev) (tn k T:Nat) (x n:Cu) (M M':Mem) (s:SgR) (a d:Bool) (W:World):Prop:=
 (∃ t,t≤tn+(if a then k+4 else k)∧Tn W c t T x (if d then n.setS 2 s else n) (if a then M' else M))∧Kp (c.mdT T) w0 W
theorem IS.call {w0 W W':World} {c:Ev} {tn k T:Nat} {x n:Cu} {M M':Mem} {s:SgR} (h:IS w0 c tn k T x n M M' s false false W) {t:Nat} (ht:t≤tn+k) (p:Px W c t T x n M' 4 W'):IS w0 c tn k T x n M M' s true false W':=by
 obtain ⟨_,kk⟩:=h
 obtain ⟨⟨t',ht',b⟩,k'⟩:=p
 exact ⟨⟨t',by show t'≤tn+(k+4);omega,b⟩,kk.trans (k'.mono (fun _ _ f=>.inl f))⟩
theorem IS.store {w0 W:World} {c:Ev} {tn k T:Nat} {x n:Cu} {M M':Mem} {s:SgR} (h:IS w0 c tn k T x n M M' s true false W) (hs:s.Wf):IS w0 c tn k T x n M M' s true true (putSs W T s):=by
 obtain ⟨⟨t,ht,b⟩,kk⟩:=h
 have kE:=kp_putSs W T s
 exact ⟨⟨t,ht,⟨b.a.kp kE (fun e=>b.nE e.symm) (fun j hj e=>b.nV (e ▸ hj)),b.t.setSs s,b.nE,b.nV,b.ok.setS 2 hs⟩⟩,kk.trans (kE.mono (fun _ _ f=>.inr f))⟩
set_option maxHeartbeats 8000000 in
theorem take_any (w:World) (c:Ev) (tn T:Nat) (x n:Cu) (M:Mem) (h:Tn w c tn T x n M) (r o:Int) (hr:0≤r∧r < 4) (ho:0≤o∧o < 2) (htn:tn < 18446744073709551500):
  Calls Tryz.prog 74 #[.pointer (some ⟨T,0,none⟩),.int .i64 r,.int .i64 o] w fun e w'=>e=OE vC (takeO M x n r o)∧Py w c tn T x (takeO M x n r o) 8 w':=by
 have HWas:Hid (Calls Tryz.prog 85 #[.pointer (some ⟨T,0,none⟩)] w fun e w'=>e=.returned (.pointer (some ⟨c.E,0,none⟩))∧w'=w):=cWas_any w T c.E h.t.e h.a.lt
 have e0:=h.a.c (k:=71) rfl;have e1:=h.a.c (k:=72) rfl;have e2:=h.a.c (k:=73) rfl;have e3:=h.a.c (k:=74) rfl;have e4:=h.a.c (k:=75) rfl;have e5:=h.a.c (k:=76) rfl;have e6:=h.a.c (k:=77) rfl;have e7:=h.a.c (k:=78) rfl;have e8:=h.a.c (k:=79) rfl
 obtain ⟨X,hX⟩:∃ X,X=w.heap.size:=⟨_,rfl⟩
 obtain ⟨W0,hW0⟩:∃ W,W=w.alloc (.cells #[.int .u16 x.tr.sel,.bool x.tr.nl,.int .u32 x.tr.b,.int .u32 x.tr.l,.int .i64 x.tr.t,.bool x.tr.s,.int .i64 x.tr.d,.bool x.tr.p,.bool x.tr.g] 28):=⟨_,rfl⟩
 have sA:SrAt W0 X x.tr:=by rw [hW0,hX];exact (MapKept.heap_alloc w _).1
 have k0:Kp noB w W0:=by rw [hW0];exact Kp.alloc _ _ _
 have h0:=h.kp0 k0
 have w1:IntKind.u32.wrap r=r:=by have:=IntKind.wrap_u32 r;omega
 have w2:IntKind.u32.wrap (8*r)=8*r:=by have:=IntKind.wrap_u32 (8*r);omega
 have w3:IntKind.u32.wrap (4+8*r)=4+8*r:=by have:=IntKind.wrap_u32 (4+8*r);omega
 have w4:IntKind.u32.wrap (4+8*r+7)=4+8*r+7:=by have:=IntKind.wrap_u32 (4+8*r+7);omega
 obtain ⟨z0,z1,z2,z3,z4,z5,z6,z7,z8⟩:=sA.c
 have htr:=h.a.ok.tr.ok
 have hts:U16 x.tr.sel:=⟨htr.s0,htr.s1⟩
 have HK0:Hid (Kp noB w W0):=k0
 have HA:Hid (SrAt W0 X x.tr∧¬ c.md X∧X≠T):=⟨sA,fun f=>(by have:=h.a.in_md f;omega),by have:=h.t.lt;omega⟩
 by_cases hlim:x.tr.l < 4+8*r+7
 ·have e:takeO M x n r o=⟨M,.inl ⟨10,cdO x.tr.sel+o,0⟩⟩:=by unfold takeO;rw [if_pos hlim];rfl
  have hd:decide (x.tr.l < 4+8*r+7)=true:=decide_eq_true hlim
  have hc0:0≤cdO x.tr.sel∧cdO x.tr.sel < 65536:=by have:=hts.1;have:=hts.2;unfold cdO;omega
  have wc:IntKind.i64.wrap (cdO x.tr.sel+o)=cdO x.tr.sel+o:=by have:=IntKind.wrap_i64 (cdO x.tr.sel+o);omega
  have HCd:Hid (Calls Tryz.prog 145 #[.int .u16 x.tr.sel] W0 fun e w'=>e=.returned (.int .i64 (cdO x.tr.sel))∧w'=W0):=cCode_any x.tr.sel W0 hts
  rw [e]
  have HH:Hid (Tn W0 c tn T x n M):=h0
  clear h h0 sA k0 hlim e htr hts hc0 hr ho
  go_enter Tryz.func74,Tryz.ntmps74
  go_wp2_with fail
  refine Calls.mono HWas.out ?_;rintro e w' ⟨rfl,hw⟩;replace hw:=hw.symm;subst hw
  go_wp2_with fail
  rw [← hW0]
  clear hW0
  refine Calls.mono HCd.out ?_;rintro e w' ⟨rfl,hw⟩;replace hw:=hw.symm;subst hw
  go_wp2_with (go_at_call 143;refine Calls.mono (cFault_any _ _ _) ?_;rintro e w5 ⟨rfl,k5⟩)
  exact ⟨rfl,rfl,⟨⟨tn,by omega,(HH.out.kp0 k5).a,fun n' e=>by cases e⟩,(HK0.out.trans k5).mono (fun _ _ f=>f.elim)⟩⟩
 have hd:decide (x.tr.l < 4+8*r+7)=false:=decide_eq_false hlim
 obtain ⟨a1,ha1⟩:∃ a,a=a32 x.tr.b (4+8*r):=⟨_,rfl⟩
 have hb1:U32 a1:=by rw [ha1];exact a32_bd _ _
 have v1:IntKind.u32.wrap (x.tr.b+(4+8*r))=a1:=by rw [ha1];exact a32_wrap _ _
 have v2:=a32_wrap a1 4
 have HO1:=own_any W0 c tn T x n M h0 a1 4 hb1 (by omega)
 have hG:takeO M x n r o=(sysO M x.cp a1 4).bind fun M sp=>(sysO M x.cp (a32 a1 4) 2).bind fun M s=>(stackO M x (s%65536) r 10 (cdO (s%65536)+o)).bind fun M g=>.ok M ((n.setS 2 g).setR 4 sp):=by unfold takeO;rw [if_neg hlim,ha1]
 have f1:=fine_sys h.a.v.ram.rdB x.cp a1 4
 obtain ⟨o1,ho1⟩:∃ o,o=sysO M x.cp a1 4:=⟨_,rfl⟩
 rw [← ho1] at hG HO1 f1
 clear h h0 sA k0 hlim htr hts ha1 hb1 ho1
 cases hr1:o1.r with
 | inl f=>
  have HC:Hid (Calls Tryz.prog 144 #[.pointer (some ⟨T,0,none⟩),.int .u32 a1,.int .i64 4] W0 fun e w'=>e=.panicked (pan f)∧Px W0 c tn T x n o1.m 2 w'):=HO1.mono (fun e w' ⟨a,p⟩=>⟨by rw [a];unfold OE;rw [hr1],p⟩)
  have hS2:takeO M x n r o=⟨o1.m,.inl f⟩:=by rw [hG];unfold Ou.bind;rw [hr1]
  have HS:Hid _:=hS2
  clear hG HO1 f1 hr1 hS2 hr ho
  go_enter Tryz.func74,Tryz.ntmps74
  go_wp2_with fail
  refine Calls.mono HWas.out ?_;rintro e w' ⟨rfl,hw⟩;replace hw:=hw.symm;subst hw
  go_wp2_with fail
  rw [← hW0]
  clear hW0
  refine Calls.mono HC.out ?_;rintro e w2 ⟨rfl,p2⟩
  exact ⟨rfl,by rw [HS.out];rfl,by rw [HS.out];exact (Px.py (o:=⟨o1.m,.inl f⟩) (p2.pre HK0.out) (fun n' e=>by cases e)).more (by omega)⟩
 | inr sp=>
  have HC:Hid (Calls Tryz.prog 144 #[.pointer (some ⟨T,0,none⟩),.int .u32 a1,.int .i64 4] W0 fun e w'=>e=.returned (.int .u32 sp)∧Px W0 c tn T x n o1.m 2 w'):=HO1.mono (fun e w' ⟨a,p⟩=>⟨by rw [a];unfold OE;rw [hr1];rfl,p⟩)
  have hsp:=f1.ok sp hr1
  have f2:=fine_sys f1.rd x.cp (a32 a1 4) 2
  have HO2:Hid (∀ W t,t≤tn+2→Tn W c t T x n o1.m→Calls Tryz.prog 144 #[.pointer (some ⟨T,0,none⟩),.int .u32 (a32 a1 4),.int .i64 2] W fun e w'=>e=OE vI32 (sysO o1.m x.cp (a32 a1 4) 2)∧Px W c t T x n (sysO o1.m x.cp (a32 a1 4) 2).m 2 w'):=fun W t ht q=>own_any W c t T x n o1.m q (a32 a1 4) 2 (a32_bd _ _) (by have:=htn;clear w1 w2 w3 w4;omega)
  obtain ⟨o2,ho2⟩:∃ o,o=sysO o1.m x.cp (a32 a1 4) 2:=⟨_,rfl⟩
  have hG2:takeO M x n r o=o2.bind fun M s=>(stackO M x (s%65536) r 10 (cdO (s%65536)+o)).bind fun M g=>.ok M ((n.setS 2 g).setR 4 sp):=by rw [hG,ho2];unfold Ou.bind;rw [hr1]
  rw [← ho2] at f2 HO2
  clear hG HO1 f1 hr1 ho2
  cases hr2:o2.r with
  | inl f=>
   have HC2:Hid (∀ W t,t≤tn+2→Tn W c t T x n o1.m→Calls Tryz.prog 144 #[.pointer (some ⟨T,0,none⟩),.int .u32 (a32 a1 4),.int .i64 2] W fun e w'=>e=.panicked (pan f)∧Px W c t T x n o2.m 2 w'):=fun W t ht q=>(HO2.out W t ht q).mono (fun e w' ⟨a,p⟩=>⟨by rw [a];unfold OE;rw [hr2],p⟩)
   have hS2:takeO M x n r o=⟨o2.m,.inl f⟩:=by rw [hG2];unfold Ou.bind;rw [hr2]
   have HS:Hid _:=hS2
   clear hG2 HO2 f2 hr2 hS2 hr ho hsp
   go_enter Tryz.func74,Tryz.ntmps74
   go_wp2_with fail
   refine Calls.mono HWas.out ?_;rintro e w' ⟨rfl,hw⟩;replace hw:=hw.symm;subst hw
   go_wp2_with fail
   rw [← hW0,← hX]
   clear hW0 hX
   refine Calls.mono HC.out ?_;rintro e w2' ⟨rfl,p2⟩
   obtain ⟨⟨t2,ht2,hT2⟩,kk2⟩:=p2
   have hc2:=HC2.out w2' t2 ht2 hT2
   have y2:=(SrAt.c (HA.out.1.kp kk2 HA.out.2.1)).2.2.1
   clear hT2
   go_wp2_with fail
   refine Calls.mono hc2 ?_;rintro e w3' ⟨rfl,p3⟩
   have HP:Hid (Px w c tn T x n o2.m 4 w3'):=by
    obtain ⟨⟨t3,ht3,hT3⟩,kk3⟩:=p3
    exact ⟨⟨t3,by omega,hT3⟩,((HK0.out.mono (fun _ _ f=>f.elim)).trans kk2).trans kk3⟩
   exact ⟨rfl,by rw [HS.out];rfl,by rw [HS.out];exact (Px.py (o:=⟨o2.m,.inl f⟩) HP.out (fun n' e=>by cases e)).more (by omega)⟩
  | inr sv=>
   have HC2:Hid (∀ W t,t≤tn+2→Tn W c t T x n o1.m→Calls Tryz.prog 144 #[.pointer (some ⟨T,0,none⟩),.int .u32 (a32 a1 4),.int .i64 2] W fun e w'=>e=.returned (.int .u32 sv)∧Px W c t T x n o2.m 2 w'):=fun W t ht q=>(HO2.out W t ht q).mono (fun e w' ⟨a,p⟩=>⟨by rw [a];unfold OE;rw [hr2];rfl,p⟩)
   obtain ⟨s,hsv⟩:∃ s,s=sv%65536:=⟨_,rfl⟩
   have hs16:U16 s:=by rw [hsv];unfold U16;omega
   have x1:IntKind.u16.wrap sv=s:=by rw [hsv];exact IntKind.wrap_u16 sv
   have hc0:0≤cdO s∧cdO s < 65536:=by have:=hs16.1;have:=hs16.2;unfold cdO;omega
   have wc:IntKind.i64.wrap (cdO s+o)=cdO s+o:=by have:=IntKind.wrap_i64 (cdO s+o);omega
   have HCd:Hid (∀ W,Calls Tryz.prog 145 #[.int .u16 s] W fun e w'=>e=.returned (.int .i64 (cdO s))∧w'=W):=fun W=>cCode_any s W hs16
   have f3:=fine_stack f2.rd x s r 10 (cdO s+o) hs16 (by unfold Ft3;simp)
   have HO3:Hid (∀ W t,t≤tn+4→Tn W c t T x n o2.m→Calls Tryz.prog 148 #[.pointer (some ⟨T,0,none⟩),.int .u16 s,.int .i64 r,.int .i64 10,.int .i64 (cdO s+o)] W fun e w'=>e=OE SgR.val (stackO o2.m x s r 10 (cdO s+o))∧Px W c t T x n (stackO o2.m x s r 10 (cdO s+o)).m 4 w'):=fun W t ht q=>stack_any W c t T x n o2.m q s r 10 (cdO s+o) hs16 (by unfold Ft3;simp) (by have:=htn;clear w1 w2 w3 w4;omega)
   obtain ⟨o3,ho3⟩:∃ q,q=stackO o2.m x s r 10 (cdO s+o):=⟨_,rfl⟩
   have hG3:takeO M x n r o=o3.bind fun M g=>.ok M ((n.setS 2 g).setR 4 sp):=by rw [hG2,ho3,hsv];unfold Ou.bind;rw [hr2]
   rw [← ho3] at f3 HO3
   clear hG2 HO2 f2 hr2 ho3 hsv hs16 hc0
   cases hr3:o3.r with
   | inl f=>
   have HO3':Hid (∀ W t,t≤tn+4→Tn W c t T x n o2.m→Calls Tryz.prog 148 #[.pointer (some ⟨T,0,none⟩),.int .u16 s,.int .i64 r,.int .i64 10,.int .i64 (cdO s+o)] W fun e w'=>e=.panicked (pan f)∧Px W c t T x n o3.m 4 w'):=fun W t ht q=>(HO3.out W t ht q).mono (fun e w' ⟨a,p⟩=>⟨by rw [a];unfold OE;rw [hr3],p⟩)
   have hS2:takeO M x n r o=⟨o3.m,.inl f⟩:=by rw [hG3];unfold Ou.bind;rw [hr3]
   have HS:Hid _:=hS2
   clear hG3 HO3 f3 hr3 hS2 hr ho hsp
   go_enter Tryz.func74,Tryz.ntmps74
   go_wp2_with fail
   refine Calls.mono HWas.out ?_;rintro e w' ⟨rfl,hw⟩;replace hw:=hw.symm;subst hw
   go_wp2_with fail
   rw [← hW0,← hX]
   clear hW0 hX
   refine Calls.mono HC.out ?_;rintro e w2' ⟨rfl,p2⟩
   obtain ⟨⟨t2,ht2,hT2⟩,kk2⟩:=p2
   have hc2:=HC2.out w2' t2 ht2 hT2
   have y2:=(SrAt.c (HA.out.1.kp kk2 HA.out.2.1)).2.2.1
   clear hT2
   go_wp2_with fail
   refine Calls.mono hc2 ?_;rintro e w3' ⟨rfl,p3⟩
   obtain ⟨⟨t3,ht3,hT3⟩,kk3⟩:=p3
   have HK3:Hid (t3≤tn+4∧Kp (c.mdT T) w w3'):=⟨by omega,((HK0.out.mono (fun _ _ f=>f.elim)).trans (kk2.mono (fun _ _ f=>.inl f))).trans (kk3.mono (fun _ _ f=>.inl f))⟩
   have hTd:=hT3.kp0 (Kp.refl noB w3').drew
   clear kk2 kk3 ht3 hT3 hc2 y2 HC HC2 HWas HA z0 z1 z2 z3 z4 z5 z6 z7 z8 e0 e1 e2 e3 e4 e5 e6 e7 e8
   go_upto_region 5 with fail
   obtain ⟨Wb,hWb⟩:∃ W,W=w3'.drew:=⟨_,rfl⟩
   obtain ⟨tb,htb⟩:∃ t,t=t3:=⟨_,rfl⟩
   rw [← hWb] at hTd
   have HC3:Hid (Calls Tryz.prog 148 #[.pointer (some ⟨T,0,none⟩),.int .u16 s,.int .i64 r,.int .i64 10,.int .i64 (cdO s+o)] Wb fun e w'=>e=.panicked (pan f)∧Px Wb c tb T x n o3.m 4 w'):=by rw [htb];exact HO3'.out Wb t3 HK3.out.1 hTd
   have HWb:Hid (w3'.drew=Wb):=hWb.symm
   have HTb:Hid (tb≤tn+4):=by rw [htb];exact HK3.out.1
   clear hTd hWb htb
   refine OrdP.region_vals (τ:=Unit) (fun ch w'=>ch=pan f∧Px Wb c tb T x n o3.m 4 w') (fun _=>[.pointer (some ⟨T,0,none⟩),.pointer (some ⟨T,0,none⟩),.int .u16 s,.int .i64 r,.int .u16 s,.int .i64 (cdO s),.int .i64 o,.int .i64 (cdO s+o),undef,.pointer (some ⟨T,0,none⟩),.pointer (some ⟨T,1,none⟩),.pointer (some ⟨T,11,none⟩),.pointer (some ⟨T,29,none⟩),undef]) (fun _ listed W'=>W'=Wb∧listed.getD 8 false=false) () ?_ (by kernel_rfl) (by kernel_rfl) (by kernel_rfl) (by kernel_rfl) (fun _=>rfl) (fun t=>by simp only [OrdG.puts,Act.put,List.setIfInBounds_toArray,List.set_cons_zero,List.set_cons_succ];rfl) (fun _=>by kernel_rfl) ⟨HWb.out,rfl⟩ ?_ ?_
   ·rintro ch a' w' hd ⟨rfl,p⟩
    refine ⟨hd,by rw [HS.out];rfl,by
     rw [HS.out]
     have p2:Py Wb c tb T x ⟨o3.m,.inl f⟩ 4 w':=Px.py (o:=⟨o3.m,.inl f⟩) p (fun n' e=>by cases e)
     have kb:Kp (c.mdT T) w Wb:=by rw [← HWb.out];exact HK3.out.2.trans ((Kp.refl noB w3').drew.mono (fun _ _ f=>f.elim))
     exact Py.after kb HTb.out p2⟩
   ·refine ⟨?_,?_,?_,?_,?_,?_,?_,?_,?_,?_,?_,?_,?_,?_,trivial⟩
    all_goals (intro t listed W' hz hSh hl hI hb K hK hK0;obtain ⟨hw,h7⟩:=hI;subst hw)
    case refine_6=>
     go_simp
     refine Calls.mono (HCd.out _) ?_;rintro e w' ⟨rfl,hq⟩;replace hq:=hq.symm;subst hq
     exact hK0 _ ⟨rfl,OrdP.keep h7 (by decide)⟩
    case refine_9=>
     go_simp
     refine Calls.mono HC3.out ?_;rintro e w4 ⟨rfl,r⟩
     exact ⟨rfl,r⟩
    case refine_14=>exact absurd (OrdG.on_of (i:=8) hb (by kernel_rfl)) (by rw [h7];decide)
    all_goals (go_simp;exact hK0 _ ⟨rfl,OrdP.keep h7 (by decide)⟩)
   ·rintro t listed w' hal ⟨_,h7⟩
    have:=hal 8 (by exact (by decide:8 < 14))
    rw [h7] at this
    cases this
   | inr s3=>
   have HO3':Hid (∀ W t,t≤tn+4→Tn W c t T x n o2.m→Calls Tryz.prog 148 #[.pointer (some ⟨T,0,none⟩),.int .u16 s,.int .i64 r,.int .i64 10,.int .i64 (cdO s+o)] W fun e w'=>e=.returned s3.val∧Px W c t T x n o3.m 4 w'):=fun W t ht q=>(HO3.out W t ht q).mono (fun e w' ⟨a,p⟩=>⟨by rw [a];unfold OE;rw [hr3],p⟩)
   have hS2:takeO M x n r o=⟨o3.m,.inr ((n.setS 2 s3).setR 4 sp)⟩:=by rw [hG3];unfold Ou.bind;rw [hr3];rfl
   have HS:Hid _:=hS2
   have HWf:Hid s3.Wf:=f3.ok s3 hr3
   have HSP:Hid (U32 sp):=hsp
   clear hG3 HO3 f3 hr3 hS2 hr ho hsp
   go_enter Tryz.func74,Tryz.ntmps74
   go_wp2_with fail
   refine Calls.mono HWas.out ?_;rintro e w' ⟨rfl,hw⟩;replace hw:=hw.symm;subst hw
   go_wp2_with fail
   rw [← hW0,← hX]
   clear hW0 hX
   refine Calls.mono HC.out ?_;rintro e w2' ⟨rfl,p2⟩
   obtain ⟨⟨t2,ht2,hT2⟩,kk2⟩:=p2
   have hc2:=HC2.out w2' t2 ht2 hT2
   have y2:=(SrAt.c (HA.out.1.kp kk2 HA.out.2.1)).2.2.1
   clear hT2
   go_wp2_with fail
   refine Calls.mono hc2 ?_;rintro e w3' ⟨rfl,p3⟩
   obtain ⟨⟨t3,ht3,hT3⟩,kk3⟩:=p3
   have HK3:Hid (t3≤tn+4∧Kp (c.mdT T) w w3'):=⟨by omega,((HK0.out.mono (fun _ _ f=>f.elim)).trans (kk2.mono (fun _ _ f=>.inl f))).trans (kk3.mono (fun _ _ f=>.inl f))⟩
   have hTd:=hT3.kp0 (Kp.refl noB w3').drew
   clear kk2 kk3 ht3 hT3 hc2 y2 HC HC2 HWas HA z0 z1 z2 z3 z4 z5 z6 z7 z8 e0 e1 e2 e3 e4 e5 e6 e7 e8
   go_upto_region 5 with fail
   obtain ⟨Wb,hWb⟩:∃ W,W=w3'.drew:=⟨_,rfl⟩
   obtain ⟨tb,htb⟩:∃ t,t=t3:=⟨_,rfl⟩
   obtain ⟨Mb,hMb⟩:∃ t,t=o2.m:=⟨_,rfl⟩
   rw [← hWb,← htb,← hMb] at hTd
   have HTb:Hid (tb≤tn+4):=by rw [htb];exact HK3.out.1
   have HC3:Hid (∀ W t,t≤tb+0→Tn W c t T x n Mb→Calls Tryz.prog 148 #[.pointer (some ⟨T,0,none⟩),.int .u16 s,.int .i64 r,.int .i64 10,.int .i64 (cdO s+o)] W fun e w'=>e=.returned s3.val∧Px W c t T x n o3.m 4 w'):=fun W t ht q=>HO3'.out W t (by have:=HTb.out;omega) (by rw [← hMb];exact q)
   have HI0:Hid (IS Wb c tb 0 T x n Mb o3.m s3 false false w3'.drew):=by rw [← hWb];exact ⟨⟨tb,by simp,hTd⟩,Kp.refl _ _⟩
   have HKb:Hid (Kp (c.mdT T) w Wb):=by rw [hWb];exact HK3.out.2.trans ((Kp.refl noB w3').drew.mono (fun _ _ f=>f.elim))
   clear hTd hWb htb hMb HO3' HK3
   refine OrdFree.region_vals (τ:=Unit) (fun t=>[.pointer (some ⟨T,0,none⟩),.pointer (some ⟨T,0,none⟩),.int .u16 s,.int .i64 r,.int .u16 s,.int .i64 (cdO s),.int .i64 o,.int .i64 (cdO s+o),s3.val,.pointer (some ⟨T,0,none⟩),.pointer (some ⟨T,1,none⟩),.pointer (some ⟨T,11,none⟩),.pointer (some ⟨T,29,none⟩),undef]) (fun t listed W=>IS Wb c tb 0 T x n Mb o3.m s3 (listed.getD 8 false) (listed.getD 13 false) W) () (by kernel_rfl) (by kernel_rfl) (by kernel_rfl) (by kernel_rfl) (fun _=>rfl) (fun t=>by simp only [OrdFree.puts,Act.put,List.setIfInBounds_toArray,List.set_cons_zero,List.set_cons_succ];rfl) HI0.out ?_ ?_
   ·refine ⟨?_,?_,?_,?_,?_,?_,?_,?_,?_,?_,?_,?_,?_,?_,trivial⟩
    all_goals (intro t listed W hz hSh hl hI hb K hK hK0)
    case refine_6=>
     go_simp
     refine Calls.mono (HCd.out W) ?_;rintro e w' ⟨rfl,hq⟩;replace hq:=hq.symm;subst hq
     exact hK0 W (by show IS _ _ _ _ _ _ _ _ _ _ _ _ _;rw [getD_set_ne false (by decide),getD_set_ne false (by decide)];exact hI)
    case refine_9=>
     have nst:=OrdFree.shut_no (j:=13) hSh hl (by kernel_rfl)
     rw [hl,nst] at hI
     obtain ⟨⟨t0,ht0,hx⟩,_⟩:=id hI
     have hc:=HC3.out W t0 ht0 hx
     clear hx
     go_simp
     refine Calls.mono hc ?_;rintro e w' ⟨rfl,p⟩
     exact hK0 w' (by show IS _ _ _ _ _ _ _ _ _ _ _ _ _;rw [getD_set_self (by rw [hz];exact (by decide:8 < 14)),getD_set_ne false (by decide),nst];exact IS.call hI ht0 p)
    case refine_14=>
     have h8:=hb { on:=8,ground:=.data } (by simp) rfl
     rw [h8,hl] at hI
     obtain ⟨⟨t0,ht0,hx⟩,_⟩:=id hI
     have ht:=hx.t
     have c0:=ht.c (k:=29) rfl;have c1:=ht.c (k:=30) rfl;have c2:=ht.c (k:=31) rfl;have c3:=ht.c (k:=32) rfl;have c4:=ht.c (k:=33) rfl;have c5:=ht.c (k:=34) rfl;have c6:=ht.c (k:=35) rfl;have c7:=ht.c (k:=36) rfl;have c8:=ht.c (k:=37) rfl
     have f0:=ht.fz 29;have f1:=ht.fz 30;have f2:=ht.fz 31;have f3:=ht.fz 32;have f4:=ht.fz 33;have f5:=ht.fz 34;have f6:=ht.fz 35;have f7:=ht.fz 36;have f8:=ht.fz 37
     have HS:Hid _:=IS.store hI HWf.out
     clear hx ht hI
     unfold putSs at HS
     unfold SgR.val
     go_simp
     exact hK0 _ (by show IS _ _ _ _ _ _ _ _ _ _ _ _ _;rw [getD_set_self (by rw [hz];exact (by decide:13 < 14)),getD_set_ne false (by decide),h8];exact HS.out)
    all_goals (go_simp;exact hK0 W (by show IS _ _ _ _ _ _ _ _ _ _ _ _ _;rw [getD_set_ne false (by decide),getD_set_ne false (by decide)];exact hI))
   rename_i Kx hKx
   rintro _ listed W5 hal hI
   have hI':IS Wb c tb 0 T x n Mb o3.m s3 (listed.getD 8 false) (listed.getD 13 false) W5:=hI
   rw [hal 8 (by exact (by decide:8 < 14)),hal 13 (by exact (by decide:13 < 14))] at hI'
   obtain ⟨⟨t5,ht5,b5⟩,k5⟩:=hI'
   clear hI hal HI0 HC3 HCd
   refine hKx _ _ ?_
   have g5:=b5.t.c (k:=5) rfl
   have f5:=b5.t.fz 5
   have g0:=b5.t.e
   have kE:Kp (fun j=>j=T) W5 (W5.setCell ⟨T,5,none⟩ (.int .u32 sp)):=Kp.setCell (S:=fun j=>j=T) W5 (p:=⟨T,5,none⟩) rfl _
   have HF:Hid (Py w c tn T x ⟨o3.m,.inr ((n.setS 2 s3).setR 4 sp)⟩ 8 (W5.setCell ⟨T,5,none⟩ (.int .u32 sp))):=by
    have a':=b5.a.kp kE (fun e=>b5.nE e.symm) (fun j hj e=>b5.nV (e ▸ hj))
    refine ⟨⟨t5,by have:=HTb.out;simp at ht5;omega,a',fun n' e=>?_⟩,(HKb.out.trans k5).trans (kE.mono (fun _ _ f=>.inr f))⟩
    cases e
    exact ⟨a',b5.t.setR sp,b5.nE,b5.nV,b5.ok.setR 4 HSP.out⟩
   unfold ptr at g0
   clear kE b5 k5 ht5
   go_wp2
   go_end0
   exact ⟨by rw [HS.out];rfl,by rw [HS.out];exact HF.out⟩
theorem acatch_pan (X:Nat) (g f:Ft) (older:List PanicEntry) (w:World) (h:RowT w X g):
  CallsD Tryz.prog 70 #[.pointer (some ⟨X,0,none⟩)] (.panicking ({ v:=.iface 44 f.val,recovered:=false }::older)) w fun e u' w'=>
   e=.returned (.tuple #[])∧u'=.panicking ({ v:=.iface 44 f.val,recovered:=true }::older)∧w'=setFt w X f:=by
 have c0:=h.c0;have c1:=h.c1;have c2:=h.c2
 have f0:=h.fz 0;have f1:=h.fz 1;have f2:=h.fz 2
 unfold Ft.val setFt
 refine callsD_of_wpS Tryz.func70 rfl fun c₀ cs hu=>?_
 apply wpS_seq
 apply wpS_region
 simp [wpOpsS,go_sem,recoverD,hu,Tryz.ntmps70,Exit.thenS]
 obtain ⟨v,hv⟩:∃ v:Value,v=.agg #[.int .i64 f.vec,.int .i64 f.code,.int .u32 f.cr2]:=⟨_,rfl⟩
 rw [← hv]
 change Code.wpS _ _ _ { tmps:=#[.pointer (some ⟨X,0,none⟩),.iface 44 v,.iface 44 v,undef,undef,undef,undef],defers:=[] } _ _
 refine wpS_of_wp ?_
 rw [hv]
 have hta:∀ (x:Value) (w:World),(Instr.typeAssert (.iface 44 x) 20 44 false).run Tryz.prog w=.ok x w:=fun _ _=>by kernel_rfl
 go_wp2
 simp [bodyPostS,results,Tryz.results70]
theorem acatch_idle (X:Nat) (w:World):
  CallsD Tryz.prog 70 #[.pointer (some ⟨X,0,none⟩)] .returning w fun e u' w'=>e=.returned (.tuple #[])∧u'=.returning∧w'=w:=by
 refine callsD_of_wpS Tryz.func70 rfl fun c₀ cs hu=>?_
 apply wpS_seq
 apply wpS_region
 simp [wpOpsS,go_sem,recoverD,hu,Tryz.ntmps70,Exit.thenS]
 change Code.wpS _ _ _ { tmps:=#[.pointer (some ⟨X,0,none⟩),.nilIface,.nilIface,undef,undef,undef,undef],defers:=[] } _ _
 refine wpS_of_wp ?_
 go_wp2
 cases c₀
 simp_all [bodyPostS,results,Tryz.results70]
theorem TAt.get {T:TypeId} {nn:Nat} {Z:Array Value} (hv:VlP T nn Z) {w:World} {q E:Nat} {n:Cu} (h:TAt w q E n):(loadCellsFrom ⟨q,1,none⟩ 0 nn #[]).run Tryz.prog w=.ok n.cs w:=by
 have e:=run_loadCells_list (P:=Tryz.prog) w ⟨q,1,none⟩ n.list (fun j v hv=>by
  rw [Addr.add_mid]
  exact h.c (by rw [Nat.add_comm];exact hv))
 rw [hv.s]
 have:n.list.length=83:=by kernel_rfl
 rw [this] at e
 exact e
theorem run_of_buildT {P:Program} {t:TypeId} {parts:Array (Nat × Operand)} {ps:Array (Nat × Value)} {o:Oper} {ev:Operand→Value} {v:Value} {w:World} (ho:o.op=.build t parts) (hp:(parts.map fun (i,x)=>(i,ev x))=ps) (h:(Instr.build t ps).run P w=.ok v w):(execOp ev o).run P w=.ok (.value v) w:=by
 unfold execOp
 simp only [ho,Sem.run_bind,hp,h,Result.andThen_ok]
 rfl
def turnA (E:Nat) (x:Cu):Array Value:=(ptr E::x.list).toArray
theorem turn_build (E:Nat) (x:Cu) (W:World):(Instr.build 154 #[(0,.pointer (some ⟨E,0,none⟩)),(1,.agg x.cs)]).run Tryz.prog W=.ok (.agg (turnA E x)) W:=
 run_build W _ _ _ (by kernel_rfl)
theorem turnA_size (E:Nat) (x:Cu):(turnA E x).size=84:=by kernel_rfl
set_option maxHeartbeats 4000000 in
theorem attempt_ok3 (w:World) (c:Ev) (tn:Nat) (x:Cu) (M:Mem) (h:XAt w c tn x M) (b1 b2 b3:Nat) (n:Cu) (m:Mem) (b:Nat)
  (H:Hid (∀ W T,Kp noB w W→w.heap.size≤T→Tn W c tn T x x M→Calls Tryz.prog 27 #[.pointer (some ⟨T,0,none⟩),.pointer (some ⟨b1,0,none⟩),.pointer (some ⟨b2,0,none⟩),.pointer (some ⟨b3,0,none⟩)] W fun e w'=>e=.returned (.tuple #[])∧(∃ t,t≤tn+b∧Tn w' c t T x n m)∧Kp (c.mdT T) W w')):
  Calls Tryz.prog 26 #[.pointer (some ⟨c.E,0,none⟩),.func (.func 27) #[] #[.pointer (some ⟨b1,0,none⟩),.pointer (some ⟨b2,0,none⟩),.pointer (some ⟨b3,0,none⟩)]] w fun e w'=>e=.returned noFt.val∧(∃ t,t≤tn+b∧XAt w' c t n m)∧Kp (fun j=>c.md j∨j=c.E) w w':=by
 have hmf:∀ (fn:Fn) (first cap:Array Value) (w:World),(Instr.makeFunc fn first cap).run Tryz.prog w=.ok (.func fn first cap) w:=fun _ _ _ _=>rfl
 obtain ⟨TC,nn,Z,hV⟩:=vlP
 obtain ⟨vl,vs,va,vb⟩:=hV.ops
 have g1:=hV.agg;have g2:=hV.size
 obtain ⟨T9,hT9⟩:∃ t,t=154:=⟨_,rfl⟩
 have b9:∀ y,Op.box 154 y=Op.box T9 y:=by rw [hT9];exact fun _=>rfl
 have u9:∀ y,Op.build 154 y=Op.build T9 y:=by rw [hT9];exact fun _=>rfl
 have a9:∀ w,(isAgg T9).run Tryz.prog w=.ok true w:=by rw [hT9];exact fun w=>by kernel_rfl
 have s9:∀ w,(sizeOf T9).run Tryz.prog w=.ok 84 w:=by rw [hT9];exact fun w=>by kernel_rfl
 have hb:=turn_build c.E x
 have hz:=turnA_size c.E x
 obtain ⟨A,hA⟩:∃ A,A=turnA c.E x:=⟨_,rfl⟩
 obtain ⟨cs,hcs⟩:∃ q,q=x.cs:=⟨_,rfl⟩
 obtain ⟨X,hX⟩:∃ X,X=w.heap.size:=⟨_,rfl⟩
 obtain ⟨W0,hW0⟩:∃ W,W=w.alloc (.cells #[.int .i64 0,.int .i64 0,.int .u32 0] 44):=⟨_,rfl⟩
 have k0:Kp noB w W0:=by rw [hW0];exact Kp.alloc _ _ _
 have rX:RowT W0 X ⟨0,0,0⟩:=by rw [hW0,hX];exact (MapKept.heap_alloc w _).1
 have h0:=h.kp0 k0
 have HL:Hid _:=cLacks_no W0 c.E c.V c.bp x.cs h0.e
 have g4:(loadCellsFrom ⟨c.E,0,none⟩ 0 nn #[]).run Tryz.prog W0=.ok cs W0:=by rw [hcs];exact h0.e.get hV
 have g6:cs.size=nn:=by rw [hcs,hV.s];exact (cu_wf x).s
 have hs0:W0.heap.size=X+1:=by rw [hW0,hX];simp
 obtain ⟨W1,hW1⟩:∃ W,W=W0.alloc (.cells A T9):=⟨_,rfl⟩
 have k1:Kp noB W0 W1:=by rw [hW1];exact Kp.alloc _ _ _
 have t1:TAt W1 (X+1) c.E x:=by
  have:=(MapKept.heap_alloc W0 (.cells A T9)).1
  rw [hs0] at this
  unfold TAt
  rw [hW1,this,hA,hT9]
  rfl
 have h1:=h0.kp0 k1
 have T1:Tn W1 c tn (X+1) x x M:=⟨h1,t1,by have:=h.lt;omega,fun e=>by have:=h.in_all e;omega,h.ok⟩
 rw [← hA] at hb hz
 rw [← hcs,← hT9] at hb
 have r1:=rX.kp k1 id
 have HV:Hid _:=hV
 have HX:Hid (X=w.heap.size∧(∀ j,c.all j→j < X)∧c.E < X):=⟨hX,fun j hj=>by have:=h.in_all hj;omega,by have:=h.lt;omega⟩
 have HK1:Hid (Kp noB w W1):=k0.trans k1
 have HT1:Hid (Tn W1 c tn (X+1) x x M):=T1
 have HR1:Hid (RowT W1 X ⟨0,0,0⟩):=r1
 clear hV h h0 h1 t1 T1 r1 rX k0 k1 hA hcs hT9
 go_enter_defers Tryz.func26,Tryz.ntmps26
 simp only [vl,vs,b9,u9]
 go_wp2_with fail
 rw [← hW0,← hX]
 clear hW0 hX
 refine Calls.mono HL.out ?_;rintro e w' ⟨rfl,hw⟩;replace hw:=hw.symm;subst hw
 clear HL
 rename_i K1 hK1
 refine hK1 _ _ ?_
 clear hmf
 iterate 25 go_step
 rename_i K2 hK2
 refine OrdFree.wp_of_run (v:=.agg A) (w':=W0) (run_of_buildT (ps:=#[(0,.pointer (some ⟨c.E,0,none⟩)),(1,.agg cs)]) rfl (by kernel_rfl) (hb W0)) (hK2 _ _ ?_)
 have hmf:∀ (fn:Fn) (first cap:Array Value) (w:World),(Instr.makeFunc fn first cap).run Tryz.prog w=.ok (.func fn first cap) w:=fun _ _ _ _=>rfl
 go_wp2_with fail
 rw [← hW1]
 clear hW1 hb g4
 refine (none_any _).mono ?_;rintro e w2 ⟨rfl,k2⟩
 have r2:=RowT.kp HR1.out k2 (fun f=>f)
 have c0:=r2.c0;have c1:=r2.c1;have c2:=r2.c2
 have f0:=r2.fz 0;have f1:=r2.fz 1;have f2:=r2.fz 2
 have k3:Kp noB w (setFt w2 X noFt):=by
  have:=HK1.out.trans k2
  exact (((this.own' (i:=0) (by have:=HX.out.1;omega) _).own' (i:=1) (by have:=HX.out.1;omega) _).own' (i:=2) (by have:=HX.out.1;omega) _)
 have r3:=r2.set noFt
 have T3:Tn (setFt w2 X noFt) c tn (X+1) x x M:=(HT1.out.kp0 k2).kp (kp_setFt w2 X noFt) (fun e=>by have:=HX.out.2.2;omega) (by omega) (fun j hj e=>by have:=HX.out.2.1 j hj;omega)
 have HT3:Hid _:=T3
 have HC:=H.out _ (X+1) k3 (by have:=HX.out.1;omega) T3
 have HR3:Hid (RowT (setFt w2 X noFt) X noFt):=r3
 have HK3:Hid (Kp noB w (setFt w2 X noFt)):=k3
 clear r2 r3 k2 k3 T3 H HT1 HR1
 unfold setFt at HC HK3 HR3
 simp only [show noFt.vec=-1 from rfl,show noFt.code=-1 from rfl,show noFt.cr2=0 from rfl] at HC HK3 HR3
 go_wp2_with fail
 refine Calls.mono HC ?_;rintro e w4 ⟨rfl,⟨t,ht,b4⟩,k4⟩
 have r4:=RowT.kp HR3.out k4 (fun e=>by
  rcases e with e | e
  ·have:=HX.out.2.1 X (.inr e);omega
  ·omega)
 have gT:=b4.t.get HV.out
 have gS:=EAt.lay b4.a.e (cu_wf n)
 have kS:=Kp.setRow (S:=fun j=>j=c.E) w4 rfl (n.cs++#[.pointer (some ⟨c.V,0,none⟩),.pointer (some ⟨c.bp,0,none⟩)])
 have e5:=EAt.laid b4.a.e (cu_wf n)
 obtain ⟨W5,hW5⟩:∃ W,W=w4.setRow c.E (n.cs++#[.pointer (some ⟨c.V,0,none⟩),.pointer (some ⟨c.bp,0,none⟩)]):=⟨_,rfl⟩
 rw [← hW5] at gS kS e5
 have x5:XAt W5 c t n m:=⟨e5,b4.a.v.kp kS (by rw [b4.a.s];exact fun j hj e=>b4.a.n (e ▸ hj)),b4.a.s,b4.a.n,b4.ok⟩
 have r5:=r4.kp kS (by have:=HX.out.2.2;omega)
 have c0:=r5.c0;have c1:=r5.c1;have c2:=r5.c2
 have f0:=r5.fz 0;have f1:=r5.fz 1;have f2:=r5.fz 2
 have kk:Kp (fun j=>c.mdT (X+1) j∨j=c.E) w W5:=((HK3.out.mono (fun _ _ f=>f.elim)).trans (k4.mono (fun _ _ e=>.inl e))).trans (kS.mono (fun _ _ e=>.inr e))
 have kw:Kp (fun j=>c.md j∨j=c.E) w W5:=⟨kk.os,kk.tape,kk.output,kk.size,fun i hi hn=>kk.block i hi (fun e=>by
  rcases e with (e | e) | e
  ·exact hn (.inl e)
  ·have:=HX.out.1;omega
  ·exact hn (.inr e))⟩
 have r6:=r5.set noFt
 have kF:=kp_setFt W5 X noFt
 have HF:Hid ((∃ t,t≤tn+b∧XAt (setFt W5 X noFt) c t n m)∧Kp (fun j=>c.md j∨j=c.E) w (setFt W5 X noFt)):=⟨⟨t,ht,x5.kp kF (by have:=HX.out.2.2;omega) (fun j hj=>by have:=HX.out.2.1 j hj;omega)⟩,kw.over kF (fun j hj e=>absurd hj (by have:=HX.out.1;omega))⟩
 have d0:=r6.c0;have d1:=r6.c1;have d2:=r6.c2
 unfold setFt at d0 d1 d2 HF
 simp only [show noFt.vec=-1 from rfl,show noFt.code=-1 from rfl,show noFt.cr2=0 from rfl] at c0 c1 c2 d0 d1 d2 HF
 have gN:n.cs.size=nn:=by rw [HV.out.s];exact (cu_wf n).s
 clear r4 r5 r6 kF kw kk x5 e5 kS hW5 k4 b4 HC HR3 HK3 HT3
 go_wp2
 refine leaves_cons (f:=70) (args:=#[.pointer (some ⟨X,0,none⟩)]) (by simp) (by simp [go_sem]) ?_
 refine (acatch_idle X _).mono ?_
 rintro e u' w'' ⟨rfl,rfl,rfl⟩
 simp [Leaves,settle,results,Tryz.results26,go_sem,d0,d1,d2]
 exact ⟨rfl,HF.out⟩
set_option maxHeartbeats 4000000 in
theorem attempt_no3 (w:World) (c:Ev) (tn:Nat) (x:Cu) (M:Mem) (h:XAt w c tn x M) (b1 b2 b3:Nat) (f:Ft) (m:Mem) (b:Nat)
  (H:Hid (∀ W T,Kp noB w W→w.heap.size≤T→Tn W c tn T x x M→Calls Tryz.prog 27 #[.pointer (some ⟨T,0,none⟩),.pointer (some ⟨b1,0,none⟩),.pointer (some ⟨b2,0,none⟩),.pointer (some ⟨b3,0,none⟩)] W fun e w'=>e=.panicked (pan f)∧(∃ t,t≤tn+b∧XAt w' c t x m)∧Kp (c.mdT T) W w')):
  Calls Tryz.prog 26 #[.pointer (some ⟨c.E,0,none⟩),.func (.func 27) #[] #[.pointer (some ⟨b1,0,none⟩),.pointer (some ⟨b2,0,none⟩),.pointer (some ⟨b3,0,none⟩)]] w fun e w'=>e=.returned f.val∧(∃ t,t≤tn+b∧XAt w' c t x m)∧Kp (fun j=>c.md j∨j=c.E) w w':=by
 have hmf:∀ (fn:Fn) (first cap:Array Value) (w:World),(Instr.makeFunc fn first cap).run Tryz.prog w=.ok (.func fn first cap) w:=fun _ _ _ _=>rfl
 obtain ⟨TC,nn,Z,hV⟩:=vlP
 obtain ⟨vl,vs,va,vb⟩:=hV.ops
 have g1:=hV.agg;have g2:=hV.size
 obtain ⟨T9,hT9⟩:∃ t,t=154:=⟨_,rfl⟩
 have b9:∀ y,Op.box 154 y=Op.box T9 y:=by rw [hT9];exact fun _=>rfl
 have u9:∀ y,Op.build 154 y=Op.build T9 y:=by rw [hT9];exact fun _=>rfl
 have a9:∀ w,(isAgg T9).run Tryz.prog w=.ok true w:=by rw [hT9];exact fun w=>by kernel_rfl
 have s9:∀ w,(sizeOf T9).run Tryz.prog w=.ok 84 w:=by rw [hT9];exact fun w=>by kernel_rfl
 have hb:=turn_build c.E x
 have hz:=turnA_size c.E x
 obtain ⟨A,hA⟩:∃ A,A=turnA c.E x:=⟨_,rfl⟩
 obtain ⟨cs,hcs⟩:∃ q,q=x.cs:=⟨_,rfl⟩
 obtain ⟨X,hX⟩:∃ X,X=w.heap.size:=⟨_,rfl⟩
 obtain ⟨W0,hW0⟩:∃ W,W=w.alloc (.cells #[.int .i64 0,.int .i64 0,.int .u32 0] 44):=⟨_,rfl⟩
 have k0:Kp noB w W0:=by rw [hW0];exact Kp.alloc _ _ _
 have rX:RowT W0 X ⟨0,0,0⟩:=by rw [hW0,hX];exact (MapKept.heap_alloc w _).1
 have h0:=h.kp0 k0
 have HL:Hid _:=cLacks_no W0 c.E c.V c.bp x.cs h0.e
 have g4:(loadCellsFrom ⟨c.E,0,none⟩ 0 nn #[]).run Tryz.prog W0=.ok cs W0:=by rw [hcs];exact h0.e.get hV
 have g6:cs.size=nn:=by rw [hcs,hV.s];exact (cu_wf x).s
 have hs0:W0.heap.size=X+1:=by rw [hW0,hX];simp
 obtain ⟨W1,hW1⟩:∃ W,W=W0.alloc (.cells A T9):=⟨_,rfl⟩
 have k1:Kp noB W0 W1:=by rw [hW1];exact Kp.alloc _ _ _
 have t1:TAt W1 (X+1) c.E x:=by
  have:=(MapKept.heap_alloc W0 (.cells A T9)).1
  rw [hs0] at this
  unfold TAt
  rw [hW1,this,hA,hT9]
  rfl
 have h1:=h0.kp0 k1
 have T1:Tn W1 c tn (X+1) x x M:=⟨h1,t1,by have:=h.lt;omega,fun e=>by have:=h.in_all e;omega,h.ok⟩
 rw [← hA] at hb hz
 rw [← hcs,← hT9] at hb
 have r1:=rX.kp k1 id
 have HV:Hid _:=hV
 have HX:Hid (X=w.heap.size∧(∀ j,c.all j→j < X)∧c.E < X):=⟨hX,fun j hj=>by have:=h.in_all hj;omega,by have:=h.lt;omega⟩
 have HK1:Hid (Kp noB w W1):=k0.trans k1
 have HT1:Hid (Tn W1 c tn (X+1) x x M):=T1
 have HR1:Hid (RowT W1 X ⟨0,0,0⟩):=r1
 clear hV h h0 h1 t1 T1 r1 rX k0 k1 hA hcs hT9
 go_enter_defers Tryz.func26,Tryz.ntmps26
 simp only [vl,vs,b9,u9]
 go_wp2_with fail
 rw [← hW0,← hX]
 clear hW0 hX
 refine Calls.mono HL.out ?_;rintro e w' ⟨rfl,hw⟩;replace hw:=hw.symm;subst hw
 clear HL
 rename_i K1 hK1
 refine hK1 _ _ ?_
 clear hmf
 iterate 25 go_step
 rename_i K2 hK2
 refine OrdFree.wp_of_run (v:=.agg A) (w':=W0) (run_of_buildT (ps:=#[(0,.pointer (some ⟨c.E,0,none⟩)),(1,.agg cs)]) rfl (by kernel_rfl) (hb W0)) (hK2 _ _ ?_)
 have hmf:∀ (fn:Fn) (first cap:Array Value) (w:World),(Instr.makeFunc fn first cap).run Tryz.prog w=.ok (.func fn first cap) w:=fun _ _ _ _=>rfl
 go_wp2_with fail
 rw [← hW1]
 clear hW1 hb g4
 refine (none_any _).mono ?_;rintro e w2 ⟨rfl,k2⟩
 have r2:=RowT.kp HR1.out k2 (fun f=>f)
 have c0:=r2.c0;have c1:=r2.c1;have c2:=r2.c2
 have f0:=r2.fz 0;have f1:=r2.fz 1;have f2:=r2.fz 2
 have k3:Kp noB w (setFt w2 X noFt):=by
  have:=HK1.out.trans k2
  exact (((this.own' (i:=0) (by have:=HX.out.1;omega) _).own' (i:=1) (by have:=HX.out.1;omega) _).own' (i:=2) (by have:=HX.out.1;omega) _)
 have r3:=r2.set noFt
 have T3:Tn (setFt w2 X noFt) c tn (X+1) x x M:=(HT1.out.kp0 k2).kp (kp_setFt w2 X noFt) (fun e=>by have:=HX.out.2.2;omega) (by omega) (fun j hj e=>by have:=HX.out.2.1 j hj;omega)
 have HT3:Hid _:=T3
 have HC:=H.out _ (X+1) k3 (by have:=HX.out.1;omega) T3
 have HR3:Hid (RowT (setFt w2 X noFt) X noFt):=r3
 have HK3:Hid (Kp noB w (setFt w2 X noFt)):=k3
 clear r2 r3 k2 k3 T3 H HT1 HR1
 unfold setFt at HC HK3 HR3
 simp only [show noFt.vec=-1 from rfl,show noFt.code=-1 from rfl,show noFt.cr2=0 from rfl] at HC HK3 HR3
 go_wp2_with fail
 refine Calls.mono HC ?_;rintro e w4 ⟨rfl,⟨t,ht,b4⟩,k4⟩
 have r4:=RowT.kp HR3.out k4 (fun e=>by
  rcases e with e | e
  ·have:=HX.out.2.1 X (.inr e);omega
  ·omega)
 have kk:Kp (c.mdT (X+1)) w w4:=(HK3.out.mono (fun _ _ f=>f.elim)).trans k4
 have kw:Kp (fun j=>c.md j∨j=c.E) w w4:=⟨kk.os,kk.tape,kk.output,kk.size,fun i hi hn=>kk.block i hi (fun e=>by
  rcases e with e | e
  ·exact hn (.inl e)
  ·have:=HX.out.1;omega)⟩
 have r6:=r4.set f
 have kF:=kp_setFt w4 X f
 have HF:Hid ((∃ t,t≤tn+b∧XAt (setFt w4 X f) c t x m)∧Kp (fun j=>c.md j∨j=c.E) w (setFt w4 X f)):=⟨⟨t,ht,b4.kp kF (by have:=HX.out.2.2;omega) (fun j hj=>by have:=HX.out.2.1 j hj;omega)⟩,kw.over kF (fun j hj e=>absurd hj (by have:=HX.out.1;omega))⟩
 have d0:=r6.c0;have d1:=r6.c1;have d2:=r6.c2
 refine leaves_cons (f:=70) (args:=#[.pointer (some ⟨X,0,none⟩)]) (by simp) (by simp [go_sem]) ?_
 refine (acatch_pan X noFt f [] _ r4).mono ?_
 rintro e u' w'' ⟨rfl,rfl,rfl⟩
 simp [Leaves,settle,results,Tryz.results26,go_sem,d0,d1,d2]
 exact ⟨rfl,HF.out⟩
end Go.Proofs.YtacgmoikegcopaaGreatDoor.Rm
