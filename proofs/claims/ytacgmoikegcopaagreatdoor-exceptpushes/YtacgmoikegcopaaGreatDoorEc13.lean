/- The bus and its devices: XcHand, XcPush, XcPushA. -/
import Derived.Test.YtacgmoikegcopaaGreatDoorEc12
namespace Go.Proofs.YtacgmoikegcopaaGreatDoor.Rm
open Go.ChangeShapes Go.WideShapes Go.ChangeAt Go.RowKit Go.Maps
set_option linter.unusedVariables false
set_option maxRecDepth 20000
set_option maxHeartbeats 4000000 in
theorem hand_any (w:World) (c:Ev) (tn T:Nat) (x n:Cu) (M:Mem) (h:Tn w c tn T x n M) (g:Gt) (hg:g.Ok) (o:Int) (ho:0≤o∧o < 2) (htn:tn < 18446744073709551500):
  Calls Tryz.prog 72 #[.pointer (some ⟨T,0,none⟩),g.val,.int .i64 o] w fun e w'=>e=OE Dsc.val (handO M x g o)∧Px w c tn T x n (handO M x g o).m 4 w':=by
 unfold Gt.val
 obtain ⟨X,hX⟩:∃ X,w.heap.size=X:=⟨_,rfl⟩
 obtain ⟨W0,hW0⟩:∃ W,W=(w.alloc (.cells #[.int .u16 g.s,.int .u32 g.pl,.int .i64 g.k,.int .i64 g.r,.bool g.p] 156)).alloc (.cells #[.int .u32 0,.int .u32 0,.int .i64 0,.bool false,.int .i64 0,.bool false,.bool false] 26):=⟨_,rfl⟩
 have kB:=Kp.alloc noB (w.alloc (.cells #[.int .u16 g.s,.int .u32 g.pl,.int .i64 g.k,.int .i64 g.r,.bool g.p] 156)) (.cells #[.int .u32 0,.int .u32 0,.int .i64 0,.bool false,.int .i64 0,.bool false,.bool false] 26)
 have k0:Kp noB w W0:=by rw [hW0];exact (Kp.alloc noB w _).trans kB
 have gA:GtAt W0 X g:=by
  have:GtAt (w.alloc (.cells #[.int .u16 g.s,.int .u32 g.pl,.int .i64 g.k,.int .i64 g.r,.bool g.p] 156)) X g:=by rw [← hX];exact (MapKept.heap_alloc w _).1
  rw [hW0];exact this.kp kB id
 have dA:DsAt W0 (X+1) zD:=by
  have:=(MapKept.heap_alloc (w.alloc (.cells #[.int .u16 g.s,.int .u32 g.pl,.int .i64 g.k,.int .i64 g.r,.bool g.p] 156)) (.cells #[.int .u32 0,.int .u32 0,.int .i64 0,.bool false,.int .i64 0,.bool false,.bool false] 26)).1
  simp only [World.size_alloc,hX] at this
  rw [hW0];exact this
 have hs0:W0.heap.size=X+1+1:=by rw [hW0];simp [hX]
 have h0:=h.kp0 k0
 have hsel:=hg.s
 have HCd:Hid (∀ W,Calls Tryz.prog 145 #[.int .u16 g.s] W fun e w'=>e=.returned (.int .i64 (cdO g.s))∧w'=W):=fun W=>cCode_any g.s W hsel
 have hc0:0≤cdO g.s∧cdO g.s < 65536:=by have:=hsel.1;have:=hsel.2;unfold cdO;omega
 have wc:IntKind.i64.wrap (cdO g.s+o)=cdO g.s+o:=by have:=IntKind.wrap_i64 (cdO g.s+o);omega
 have HT:=tfind_any W0 c tn T x n M h0 g.s 13 (cdO g.s+o) hsel (by omega)
 have hfn:=fine_tfind h.a.v.ram.rdB x g.s 13 (cdO g.s+o) (ft3_13 _)
 obtain ⟨q,hq⟩:∃ q,q=tfindO M x g.s 13 (cdO g.s+o):=⟨_,rfl⟩
 have hS:handO M x g o=q.bind fun M d=>if 0≤Sg.codeB d.t d.d d.s d.p d.g 0 (min d.d x.rg) then .no M (Sg.codeB d.t d.d d.s d.p d.g 0 (min d.d x.rg)) (cdO g.s+o) else if d.l < g.pl then .no M 13 o else .ok M d:=by rw [hq];rfl
 rw [← hq] at HT hfn
 have HX:Hid (GtAt W0 X g∧DsAt W0 (X+1) zD∧(∀ j,c.all j→j < X)∧c.E < X∧T < X∧w.heap.size=X):=⟨gA,dA,fun j hj=>by have:=h.a.in_all hj;omega,by have:=h.a.lt;omega,by have:=h.t.lt;omega,hX⟩
 have HK0:Hid (Kp noB w W0):=k0
 obtain ⟨a0,a1,a2,a3,a4⟩:=gA.c
 cases hr:q.r with
 | inl f=>
  have HC:Hid (Calls Tryz.prog 146 #[.pointer (some ⟨T,0,none⟩),.int .u16 g.s,.int .i64 13,.int .i64 (cdO g.s+o)] W0 fun e w'=>e=.panicked (pan f)∧Px W0 c tn T x n q.m 4 w'):=HT.mono (fun e w' ⟨a,p⟩=>⟨by rw [a];unfold OE;rw [hr],p⟩)
  have hS2:handO M x g o=⟨q.m,.inl f⟩:=by rw [hS];unfold Ou.bind;rw [hr]
  have HS:Hid _:=hS2
  clear HT hfn h h0 k0 gA dA kB hS hS2 hq
  go_enter Tryz.func72,Tryz.ntmps72
  go_wp2_with fail
  rw [← hW0]
  clear hW0
  refine Calls.mono (HCd.out _) ?_;rintro e w' ⟨rfl,hw⟩;replace hw:=hw.symm;subst hw
  go_wp2_with fail
  refine Calls.mono HC.out ?_;rintro e w2 ⟨rfl,p2⟩
  exact ⟨rfl,by rw [HS.out];rfl,by rw [HS.out];exact p2.pre HK0.out⟩
 | inr d=>
  have HC:Hid (Calls Tryz.prog 146 #[.pointer (some ⟨T,0,none⟩),.int .u16 g.s,.int .i64 13,.int .i64 (cdO g.s+o)] W0 fun e w'=>e=.returned (.agg #[.int .u32 d.b,.int .u32 d.l,.int .i64 d.t,.bool d.s,.int .i64 d.d,.bool d.p,.bool d.g])∧Px W0 c tn T x n q.m 4 w'):=HT.mono (fun e w' ⟨a,p⟩=>⟨by rw [a];unfold OE;rw [hr];rfl,p⟩)
  have hd:=hfn.ok d hr
  have t0:=hd.t.1;have t1:=hd.t.2
  have hs3':U16 (g.s - g.s%4):=by have:=hsel.1;have:=hsel.2;unfold U16;omega
  have hm4':(g.s - g.s%4)%4=0:=by omega
  obtain ⟨rg,hrg⟩:∃ rg,rg=x.rg:=⟨_,rfl⟩
  have hmin:(if rg < d.d then rg else d.d)=min d.d rg:=by split<;>omega
  rw [← hrg] at hS
  obtain ⟨mn,hmn⟩:∃ mn,mn=min d.d rg:=⟨_,rfl⟩
  have HRG:Hid _:=hrg
  obtain ⟨cv,hcv⟩:∃ cv,cv=Sg.codeB d.t d.d d.s d.p d.g 0 mn:=⟨_,rfl⟩
  obtain ⟨s3,hs3e⟩:∃ s3,s3=g.s - g.s%4:=⟨_,rfl⟩
  have hs3:U16 s3:=by rw [hs3e];exact hs3'
  have hm4:s3%4=0:=by rw [hs3e];exact hm4'
  have HCo:Hid (∀ W,Calls Tryz.prog 147 #[.int .u16 s3,.agg #[.int .u32 d.b,.int .u32 d.l,.int .i64 d.t,.bool d.s,.int .i64 d.d,.bool d.p,.bool d.g],  .int .i64 mn] W fun e w'=>e=.returned (.int .i64 cv)∧Kp noB W w'):=fun W=>(Sg.code_any d.b d.l d.t d.s d.d d.p d.g s3 mn W (by omega) (by omega) hs3.1 hs3.2).mono (fun e w' ⟨a,b⟩=>⟨by rw [a,hm4,hcv],kp_grown b⟩)
  have n3:=s_not3 hsel
  rw [← hs3e] at n3
  rw [← hmn] at hmin
  have hS2:handO M x g o=if 0≤cv then .no q.m cv (cdO g.s+o) else if d.l < g.pl then .no q.m 13 o else .ok q.m d:=by rw [hS,hcv,hmn];unfold Ou.bind;rw [hr]
  have HS:Hid _:=hS2
  clear HT hfn h h0 k0 gA dA kB hS hS2 hq hd t0 t1 hcv hs3 hm4 hs3' hm4' hs3e hmn hrg hsel hc0 hg ho
  go_enter Tryz.func72,Tryz.ntmps72
  go_wp2_with fail
  rw [← hW0]
  clear hW0
  refine Calls.mono (HCd.out _) ?_;rintro e w' ⟨rfl,hw⟩;replace hw:=hw.symm;subst hw
  go_wp2_with fail
  refine Calls.mono HC.out ?_;rintro e w2 ⟨rfl,p2⟩
  obtain ⟨F,hF⟩:∃ F,F=w2.heap.size:=⟨_,rfl⟩
  obtain ⟨W3,hW3⟩:∃ W,W=w2.alloc (.cells #[.int .u32 d.b,.int .u32 d.l,.int .i64 d.t,.bool d.s,.int .i64 d.d,.bool d.p,.bool d.g] 26):=⟨_,rfl⟩
  have k23:Kp noB w2 W3:=by rw [hW3];exact Kp.alloc _ _ _
  have nmd:∀ j,X≤j→¬ c.md j:=fun j hj f=>by have:=HX.out.2.2.1 j (.inr f);omega
  have HP:Hid (Px W0 c tn T x n q.m 4 W3∧GtAt W3 X g∧DsAt W3 (X+1) zD∧DsAt W3 F d):=⟨p2.kp0 k23,(HX.out.1.kp p2.2 (nmd _ (by omega))).kp k23 id,(HX.out.2.1.kp p2.2 (nmd _ (by omega))).kp k23 id,by rw [hW3,hF];exact (MapKept.heap_alloc w2 _).1⟩
  clear p2 k23 nmd HC HCd a0 a1 a2 a3 a4
  have HRr:Hid (∀ W,Kp noB W3 W→Calls Tryz.prog 73 #[.pointer (some ⟨T,0,none⟩)] W fun e w'=>e=.returned (.int .i64 rg)∧w'=W):=fun W k=>by
   rw [HRG.out]
   obtain ⟨⟨t,_,q⟩,_⟩:=HP.out.1
   have q':=q.kp0 k
   exact cRg_any _ T c.E _ ⟨(q'.a.ok.sg 1 (by decide)).ok.s0,(q'.a.ok.sg 1 (by decide)).ok.s1⟩ q'.t.e (q'.a.c rfl) q'.a.lt
  have HS0:Hid (∀ W,Kp noB W3 W→W.cell? ⟨X,0,none⟩=some (.int .u16 g.s)∧W.cell? ⟨F,0,none⟩=some (.int .u32 d.b)∧W.cell? ⟨F,1,none⟩=some (.int .u32 d.l)∧W.cell? ⟨F,2,none⟩=some (.int .i64 d.t)∧W.cell? ⟨F,3,none⟩=some (.bool d.s)∧W.cell? ⟨F,4,none⟩=some (.int .i64 d.d)∧W.cell? ⟨F,5,none⟩=some (.bool d.p)∧W.cell? ⟨F,6,none⟩=some (.bool d.g)):=fun W k=>by
   obtain ⟨_,pg,_,pd⟩:=HP.out
   obtain ⟨g0,g1,g2,g3,g4,g5,g6⟩:=(pd.kp k id).c
   exact ⟨(pg.kp k id).c.1,g0,g1,g2,g3,g4,g5,g6⟩
  have HKd:Hid (Kp noB W3 W3.drew):=(Kp.refl noB W3).drew
  go_upto_region 3 with fail
  rw [← hW3,← hF]
  clear hW3 hF
  go_region_held3 (fun W=>W.cell? ⟨X,0,none⟩=some (.int .u16 g.s)∧W.cell? ⟨F,0,none⟩=some (.int .u32 d.b)∧W.cell? ⟨F,1,none⟩=some (.int .u32 d.l)∧W.cell? ⟨F,2,none⟩=some (.int .i64 d.t)∧W.cell? ⟨F,3,none⟩=some (.bool d.s)∧W.cell? ⟨F,4,none⟩=some (.int .i64 d.d)∧W.cell? ⟨F,5,none⟩=some (.bool d.p)∧W.cell? ⟨F,6,none⟩=some (.bool d.g))
   (first | with_reducible exact HS0.out _ HKd.out | with_reducible exact HS0.out _ (HKd.out.trans k9))
   (first | (go_at_call 73;refine Calls.mono (HRr.out _ HKd.out) ?_;rintro e w' ⟨rfl,hw⟩;replace hw:=hw.symm;subst hw) | (go_at_call 147;refine Calls.mono (HCo.out _) ?_;rintro e w9 ⟨rfl,k9⟩))
  have k39:Kp noB W3 w9:=HKd.out.trans k9
  have P9:=HP.out.1.kp0 k39
  have G9:=HP.out.2.1.kp k39 id
  have D9:=HP.out.2.2.1.kp k39 id
  have E9:=HP.out.2.2.2.kp k39 id
  have HP9:Hid (Px w c tn T x n q.m 4 w9):=P9.pre HK0.out
  have gpl:=(GtAt.c G9).2.1
  obtain ⟨g0,g1,g2,g3,g4,g5,g6⟩:=DsAt.c E9
  obtain ⟨u0,u1,u2,u3,u4,u5,u6⟩:=DsAt.c D9
  unfold zD at u0 u1 u2 u3 u4 u5 u6
  have f0:=DsAt.fz D9 0;have f1:=DsAt.fz D9 1;have f2:=DsAt.fz D9 2;have f3:=DsAt.fz D9 3;have f4:=DsAt.fz D9 4;have f5:=DsAt.fz D9 5;have f6:=DsAt.fz D9 6
  have dE:=DsAt.set D9 d
  obtain ⟨v0,v1,v2,v3,v4,v5,v6⟩:=dE.c
  have HPE:Hid (Px w c tn T x n q.m 4 (putD w9 (X+1) d)):=Px.own HP9.out (by have:=HX.out.2.2.2.2.2;omega) (fun j hj=>by have:=HX.out.2.2.1 j hj;have:=HX.out.2.2.2.2.2;omega) (by have:=HX.out.2.2.2.1;have:=HX.out.2.2.2.2.2;omega) (by have:=HX.out.2.2.2.2.1;have:=HX.out.2.2.2.2.2;omega) (kp_putD w9 (X+1) d)
  unfold putD at v0 v1 v2 v3 v4 v5 v6 HPE
  clear P9 G9 D9 E9 dE k39 k9 HS0 HRr HKd HCo HX
  by_cases hc:0≤cv
  ·have HS3:Hid (handO M x g o=.no q.m cv (cdO g.s+o)):=HS.out.trans (if_pos hc)
   have hd1:decide (0≤cv)=true:=decide_eq_true hc
   clear hc
   go_wp2_with (go_at_call 143;refine Calls.mono (cFault_any _ _ _) ?_;rintro e w5 ⟨rfl,k5⟩)
   exact ⟨rfl,by rw [HS3.out];rfl,by rw [HS3.out];exact Px.kp0 HP9.out k5⟩
  ·have hd1:decide (0≤cv)=false:=decide_eq_false hc
   by_cases hl:d.l < g.pl
   ·have HS3:Hid (handO M x g o=.no q.m 13 o):=HS.out.trans ((if_neg hc).trans (if_pos hl))
    have hd2:decide (d.l < g.pl)=true:=decide_eq_true hl
    clear hc hl
    go_wp2_with (go_at_call 143;refine Calls.mono (cFault_any _ _ _) ?_;rintro e w5 ⟨rfl,k5⟩)
    exact ⟨rfl,by rw [HS3.out];rfl,by rw [HS3.out];exact Px.kp0 HP9.out k5⟩
   ·have HS3:Hid (handO M x g o=.ok q.m d):=HS.out.trans ((if_neg hc).trans (if_neg hl))
    have hd2:decide (d.l < g.pl)=false:=decide_eq_false hl
    clear hc hl
    go_wp2
    refine bodyPost_ret (v:=d.val) (by unfold Dsc.val;simp [results,Tryz.results72,go_sem,v0,v1,v2,v3,v4,v5,v6]) rfl ⟨by rw [HS3.out];rfl,by rw [HS3.out];exact HPE.out⟩
theorem Px.py {w w':World} {c:Ev} {tn T k:Nat} {x n:Cu} {o:Ou Cu} (h:Px w c tn T x n o.m k w') (hr:∀ n',o.r=.inr n'→n'=n):Py w c tn T x o k w':=by
 obtain ⟨⟨t,a,b⟩,kk⟩:=h
 exact ⟨⟨t,a,b.a,fun n' e=>by rw [hr n' e];exact b⟩,kk.mono (fun _ _ f=>.inl f)⟩
def PI (w0:World) (c:Ev) (tn T:Nat) (x n:Cu) (M':Mem) (a b:Bool) (W:World):Prop:=(a=false→W=w0)∧(a=true→Px w0 c tn T x n M' 2 W)∧b=false
set_option maxHeartbeats 2000000 in
theorem push_any (w:World) (c:Ev) (tn T:Nat) (x n:Cu) (M:Mem) (h:Tn w c tn T x n M) (v:Int) (hv:U32 v) (htn:tn < 18446744073709551600):
  Calls Tryz.prog 149 #[.pointer (some ⟨T,0,none⟩),.int .u32 v] w fun e w'=>e=OE vC (pushO M n v)∧Py w c tn T x (pushO M n v) 2 w':=by
 obtain ⟨to,hto⟩:∃ to,to=a32 (n.r 4) (-4):=⟨_,rfl⟩
 have hb:U32 to:=by rw [hto];exact a32_bd _ _
 have ew:IntKind.u32.wrap (n.r 4 - 4)=to:=by rw [hto,IntKind.wrap_u32];unfold a32;rfl
 have c0:=h.t.e
 have c5:=h.t.c (k:=5) rfl
 have hD:=h.kp0 (Kp.refl noB w).drew
 have HC:Hid _:=xstore w.drew c tn T x n M hD to v hb hv (by omega)
 obtain ⟨q,hq⟩:∃ q,q=segQ M n.cp 2 to 4 true:=⟨_,rfl⟩
 have hO:pushO M n v=(match q.f with | some f=>(⟨q.put v,.inl f⟩:Ou Cu) | none=>⟨q.put v,.inr (n.setR 4 to)⟩):=by
  unfold pushO stoO Ou.bind
  rw [← hto,← hq]
  cases q.f<;>rfl
 rw [← hq] at HC
 have HO:Hid _:=hO
 have HQ:Hid _:=hq
 have HT:Hid (TAt w.drew T c.E n∧¬ c.md T∧Tn w.drew c tn T x n M∧U32 to):=⟨hD.t,fun f=>h.nV (.inr f),hD,hb⟩
 have HS0:Hid (w.drew.cell? ⟨T,0,none⟩=some (.pointer (some ⟨c.E,0,none⟩))∧w.drew.cell? ⟨c.E,83,none⟩=some (.pointer (some ⟨c.V,0,none⟩))):=⟨hD.t.e,hD.a.mp⟩
 have HSK:Hid (∀ W,Px w.drew c tn T x n (q.put v) 2 W→W.cell? ⟨T,0,none⟩=some (.pointer (some ⟨c.E,0,none⟩))∧W.cell? ⟨c.E,83,none⟩=some (.pointer (some ⟨c.V,0,none⟩))):=fun W p=>by
  obtain ⟨⟨t,_,b⟩,_⟩:=p
  exact ⟨b.t.e,b.a.mp⟩
 unfold ptr at c0
 clear hO hq h hD hb hto hv
 cases hf:q.f with
 | none=>
  have e1:=ft_ok hf
  rw [e1] at HC
  have HO2:Hid (pushO M n v=⟨q.put v,.inr (n.setR 4 to)⟩):=by rw [HO.out,hf];exact rfl
  have HR:Hid (∀ W,_):=fun W=>cRaise_ok W
  unfold noFt Ft.val at HC HR
  clear HO hf e1
  go_enter Tryz.func149,Tryz.ntmps149
  go_upto_region 1 with fail
  go_region_held3 (fun W=>W.cell? ⟨T,0,none⟩=some (.pointer (some ⟨c.E,0,none⟩))∧W.cell? ⟨c.E,83,none⟩=some (.pointer (some ⟨c.V,0,none⟩)))
   (first | with_reducible exact HS0.out | with_reducible exact HSK.out _ p2 | with_reducible exact HSK.out _ (Px.kp0 p2 k3))
   (first | (go_at_call 197;refine Calls.mono HC.out ?_;rintro e w2 ⟨rfl,p2⟩) | (go_at_call 154;refine Calls.mono (HR.out _) ?_;rintro e w3 ⟨rfl,k3⟩))
  have P3:=Px.kp0 p2 k3
  obtain ⟨⟨t,ht,b⟩,kk⟩:=P3
  have c0':=b.t.e
  have f5:=b.t.fz 5
  have c5':=b.t.c (k:=5) rfl
  have tE:=b.t.setR to
  have kE:Kp (fun j=>j=T) w3 (w3.setCell ⟨T,5,none⟩ (.int .u32 to)):=Kp.setCell (S:=fun j=>j=T) w3 (p:=⟨T,5,none⟩) rfl _
  have HF:Hid (Py w c tn T x ⟨q.put v,.inr (n.setR 4 to)⟩ 2 (w3.setCell ⟨T,5,none⟩ (.int .u32 to))):=by
   have a':=b.a.kp kE (fun e=>b.nE e.symm) (fun j hj e=>b.nV (e ▸ hj))
   refine ⟨⟨t,ht,a',fun n' e=>?_⟩,(((Kp.refl noB w).drew.mono (fun _ _ f=>f.elim)).trans (kk.mono (fun _ _ f=>.inl f))).trans (kE.mono (fun _ _ f=>.inr f))⟩
   cases e
   exact ⟨a',tE,b.nE,b.nV,b.ok.setR 4 HT.out.2.2.2⟩
  unfold ptr at c0'
  clear kE tE b kk p2 k3 HSK HS0 HC HR
  go_wp2
  go_end0
  exact ⟨by rw [HO2.out];rfl,by rw [HO2.out];exact HF.out⟩
 | some f=>
  have e1:=ft_no hf
  rw [e1] at HC
  have HO2:Hid (pushO M n v=⟨q.put v,.inl f⟩):=by rw [HO.out,hf];exact rfl
  have HR:Hid (∀ W,_):=fun W=>cRaise_no W f (by rw [HQ.out] at hf;exact (segQ_ft hf).ne)
  obtain ⟨fv,hfv⟩:∃ fv,fv=f.val:=⟨_,rfl⟩
  rw [← hfv] at HC HR
  clear hfv
  clear HO hf e1
  go_enter Tryz.func149,Tryz.ntmps149
  go_upto_region 1 with fail
  have HZ:Hid (∀ a b W',PI w.drew c tn T x n (q.put v) a b W'→W'.cell? ⟨T,0,none⟩=some (.pointer (some ⟨c.E,0,none⟩))∧W'.cell? ⟨c.E,83,none⟩=some (.pointer (some ⟨c.V,0,none⟩))):=by
   rintro a b W' ⟨i1,i2,_⟩
   cases a with
   | false=>rw [i1 rfl];exact HS0.out
   | true=>exact HSK.out _ (i2 rfl)
  refine OrdP.region_vals (τ:=Unit) (fun ch w'=>ch=pan f∧Px w.drew c tn T x n (q.put v) 2 w') (fun _=>[.pointer (some ⟨T,0,none⟩),.pointer (some ⟨T,0,none⟩),.pointer (some ⟨T,0,none⟩),.pointer (some ⟨c.E,0,none⟩),.pointer (some ⟨c.E,0,none⟩),.pointer (some ⟨c.E,83,none⟩),.pointer (some ⟨c.V,0,none⟩),.pointer (some ⟨T,0,none⟩),.pointer (some ⟨T,0,none⟩),.pointer (some ⟨T,1,none⟩),.int .u32 to,.int .u32 v,fv,undef]) (fun _ listed W'=>PI w.drew c tn T x n (q.put v) (listed.getD 12 false) (listed.getD 13 false) W') () ?_ (by kernel_rfl) (by kernel_rfl) (by kernel_rfl) (by kernel_rfl) (fun _=>rfl) (fun t=>by simp only [OrdG.puts,Act.put,List.setIfInBounds_toArray,List.set_cons_zero,List.set_cons_succ];rfl) (fun _=>by kernel_rfl) ⟨fun _=>rfl,fun e=>(by cases e),rfl⟩ ?_ ?_
  ·rintro ch a' w' hd ⟨rfl,p⟩
   refine ⟨hd,by rw [HO2.out];rfl,?_⟩
   rw [HO2.out]
   obtain ⟨a,b⟩:=p
   exact Px.py (o:=⟨q.put v,.inl f⟩) ⟨a,((Kp.refl noB w).drew.mono (fun _ _ f=>f.elim)).trans b⟩ (fun n' e=>by cases e)
  ·refine ⟨?_,?_,?_,?_,?_,?_,?_,?_,?_,?_,?_,?_,?_,?_,trivial⟩
   all_goals (intro t listed W' hz hSh hl hI hb K hK hK0;obtain ⟨y0,y1⟩:=HZ.out _ _ _ hI)
   case refine_13=>
    obtain ⟨i1,i2,i3⟩:=hI
    have e:=i1 hl
    subst e
    go_simp
    refine Calls.mono HC.out ?_;rintro e w4 ⟨rfl,p⟩
    exact hK0 w4 (by show PI _ _ _ _ _ _ _ _ _ _;rw [getD_set_self (by rw [hz];exact (by decide:12 < 14)),getD_set_ne false (by decide)];exact ⟨fun e=>(by cases e),fun _=>p,i3⟩)
   case refine_14=>
    have h12:=hb { on:=12,ground:=.data } (by simp) rfl
    have p:=hI.2.1 h12
    go_simp
    refine Calls.mono (HR.out _) ?_;rintro e w5 ⟨rfl,k5⟩
    exact ⟨rfl,Px.kp0 p k5⟩
   all_goals (go_simp;exact hK0 W' (by show PI _ _ _ _ _ _ _ _ _ _;rw [getD_set_ne false (by decide),getD_set_ne false (by decide)];exact hI))
  ·rintro t listed w' hal ⟨_,_,h13⟩
   have:=hal 13 (by exact (by decide:13 < 14))
   rw [h13] at this
   cases this
theorem pushes_no {M:Mem} {n:Cu} {v:Int} {l:List Int} {o:Ou Cu} {f:Ft} (ho:o=pushO M n v) (hr:o.r=.inl f):pushesO M n (v::l)=⟨o.m,.inl f⟩:=by
 show (pushO M n v).bind _=_
 rw [← ho]
 unfold Ou.bind
 rw [hr]
theorem pushes_ok {M:Mem} {n n':Cu} {v:Int} {l:List Int} {o:Ou Cu} (ho:o=pushO M n v) (hr:o.r=.inr n'):pushesO M n (v::l)=pushesO o.m n' l:=by
 show (pushO M n v).bind _=_
 rw [← ho]
 unfold Ou.bind
 rw [hr]
theorem Py.no {w w':World} {c:Ev} {tn T k:Nat} {x:Cu} {o:Ou Cu} (h:Py w c tn T x o k w') {m:Mem} {f:Ft} (hm:o.m=m):Py w c tn T x ⟨m,.inl f⟩ k w':=by
 obtain ⟨⟨t,a,b,_⟩,kk⟩:=h
 subst hm
 exact ⟨⟨t,a,b,fun n e=>by cases e⟩,kk⟩
theorem Py.after {w w1 w':World} {c:Ev} {tn t T k j:Nat} {x:Cu} {o:Ou Cu} (kk:Kp (c.mdT T) w w1) (ht:t≤tn+j) (h:Py w1 c t T x o k w'):Py w c tn T x o (j+k) w':=by
 obtain ⟨⟨t',a,b⟩,k'⟩:=h
 exact ⟨⟨t',by omega,b⟩,kk.trans k'⟩
theorem Py.more {w w':World} {c:Ev} {tn T k k':Nat} {x:Cu} {o:Ou Cu} (h:Py w c tn T x o k w') (hk:k≤k'):Py w c tn T x o k' w':=by
 obtain ⟨⟨t,a,b⟩,kk⟩:=h
 exact ⟨⟨t,by omega,b⟩,kk⟩
set_option maxHeartbeats 4000000 in
theorem pushAll_ff (w:World) (c:Ev) (tn T:Nat) (x n:Cu) (M:Mem) (h:Tn w c tn T x n M) (cd:Int) (hc:¬ 0≤cd) (htn:tn < 18446744073709551500):
  Calls Tryz.prog 75 #[.pointer (some ⟨T,0,none⟩),.bool false,.int .i64 cd] w fun e w'=>e=OE vC (pushesO M n [x.fl,(x.sg 1).sel,x.ip])∧Py w c tn T x (pushesO M n [x.fl,(x.sg 1).sel,x.ip]) 12 w':=by
 have s1:=(h.a.ok.sg 1 (by decide)).ok
 have s2:=(h.a.ok.sg 2 (by decide)).ok
 have hss:U32 (x.sg 2).sel:=⟨s2.s0,by have:=s2.s1;omega⟩
 have hcs:U32 (x.sg 1).sel:=⟨s1.s0,by have:=s1.s1;omega⟩
 have hsp:=h.a.ok.r 4 (by decide)
 have hfl:=h.a.ok.fl
 have hip:=h.a.ok.ip
 have hcd:U32 (cd%4294967296):=by unfold U32;omega
 have w1:IntKind.u32.wrap (x.sg 1).sel=(x.sg 1).sel:=by have:=IntKind.wrap_u32 (x.sg 1).sel;have:=hcs.1;have:=hcs.2;omega
 have w2:IntKind.u32.wrap (x.sg 2).sel=(x.sg 2).sel:=by have:=IntKind.wrap_u32 (x.sg 2).sel;have:=hss.1;have:=hss.2;omega
 have w3:IntKind.u32.wrap cd=cd%4294967296:=IntKind.wrap_u32 cd
 have hd:decide (0≤cd)=false:=decide_eq_false hc
 have HWas:Hid (Calls Tryz.prog 85 #[.pointer (some ⟨T,0,none⟩)] w fun e w'=>e=.returned (.pointer (some ⟨c.E,0,none⟩))∧w'=w):=cWas_any w T c.E h.t.e h.a.lt
 have HL:Hid (pushesO M n [x.fl,(x.sg 1).sel,x.ip]=pushesO M n [x.fl,(x.sg 1).sel,x.ip]):=rfl
 obtain ⟨t0,ht0⟩:∃ t,t=tn:=⟨_,rfl⟩
 have htl:t0≤tn+0:=by omega
 have kk0:Kp (c.mdT T) w w:=Kp.refl _ _
 have b0:Tn w c t0 T x n M:=by rw [ht0];exact h
 obtain ⟨full,hfull⟩:∃ o,o=pushesO M n [x.fl,(x.sg 1).sel,x.ip]:=⟨_,rfl⟩
 have HS0:Hid (full=pushesO M n [x.fl,(x.sg 1).sel,x.ip]):=hfull
 rw [← hfull]
 obtain ⟨w0,hw0⟩:∃ W,W=w:=⟨_,rfl⟩
 rw [← hw0] at b0 HWas
 have kq0:Kp (c.mdT T) w w0:=by rw [hw0];exact kk0
 clear h hfull HL ht0 s1 s2 hc kk0
 rw [← hw0]
 have kq0:Kp (c.mdT T) w0 w0:=Kp.refl _ _
 clear hw0
 go_enter Tryz.func75,Tryz.ntmps75
 go_wp2_with fail
 refine Calls.mono HWas.out ?_;rintro e w' ⟨rfl,hw⟩;replace hw:=hw.symm;subst hw
 clear HWas
 have g4:=b0.a.c (k:=4) rfl;have g8:=b0.a.c (k:=8) rfl;have g9:=b0.a.c (k:=9) rfl;have g19:=b0.a.c (k:=19) rfl;have g28:=b0.a.c (k:=28) rfl
 have HB0:Hid (Tn w0 c t0 T x n M∧t0≤tn+0∧Kp (c.mdT T) w0 w0):=⟨b0,htl,kq0⟩
 have HC0:=push_any w0 c t0 T x n M b0 x.fl hfl (by omega)
 obtain ⟨o0,ho0⟩:∃ o,o=pushO M n x.fl:=⟨_,rfl⟩
 rw [← ho0] at HC0
 clear b0 kq0
 cases hr0:o0.r with
 | inl f=>
  have HC:Hid (Calls Tryz.prog 149 #[.pointer (some ⟨T,0,none⟩),.int .u32 x.fl] w0 fun e w'=>e=.panicked (pan f)∧Py w0 c t0 T x o0 2 w'):=HC0.mono (fun e w' ⟨a,p⟩=>⟨by rw [a];unfold OE;rw [hr0],p⟩)
  have HS:Hid (full=⟨o0.m,.inl f⟩):=HS0.out.trans (pushes_no ho0 hr0)
  clear HC0 ho0 hr0 HS0
  go_wp2_with fail
  refine Calls.mono HC.out ?_;rintro e w' ⟨rfl,p⟩
  exact ⟨rfl,by rw [HS.out];rfl,by rw [HS.out];exact ((Py.after HB0.out.2.2 HB0.out.2.1 p).no rfl).more (by omega)⟩
 | inr n1=>
 have HC:Hid (Calls Tryz.prog 149 #[.pointer (some ⟨T,0,none⟩),.int .u32 x.fl] w0 fun e w'=>e=.returned (.tuple #[])∧Py w0 c t0 T x o0 2 w'):=HC0.mono (fun e w' ⟨a,p⟩=>⟨by rw [a];unfold OE;rw [hr0];rfl,p⟩)
 have HS1:Hid (full=pushesO o0.m n1 [(x.sg 1).sel,x.ip]):=HS0.out.trans (pushes_ok ho0 hr0)
 clear HC0 ho0 HS0
 go_wp2_with fail
 refine Calls.mono HC.out ?_;rintro e w1 ⟨rfl,p1⟩
 obtain ⟨⟨t1,htq1,_,hTq1⟩,kr1⟩:=p1
 have b1:=hTq1 n1 hr0
 have htl1:t1≤tn+2:=by have:=HB0.out.2.1;omega
 have kq1:Kp (c.mdT T) w0 w1:=HB0.out.2.2.trans kr1
 clear hTq1 htq1 kr1 HB0 hr0 HC g4 g8 g9 g19 g28
 have g4:=b1.a.c (k:=4) rfl;have g8:=b1.a.c (k:=8) rfl;have g9:=b1.a.c (k:=9) rfl;have g19:=b1.a.c (k:=19) rfl;have g28:=b1.a.c (k:=28) rfl
 have HB1:Hid (Tn w1 c t1 T x n1 o0.m∧t1≤tn+2∧Kp (c.mdT T) w0 w1):=⟨b1,htl1,kq1⟩
 have HC1:=push_any w1 c t1 T x n1 o0.m b1 (x.sg 1).sel hcs (by omega)
 obtain ⟨o1,ho1⟩:∃ o,o=pushO o0.m n1 (x.sg 1).sel:=⟨_,rfl⟩
 rw [← ho1] at HC1
 clear b1 kq1
 cases hr1:o1.r with
 | inl f=>
  have HC:Hid (Calls Tryz.prog 149 #[.pointer (some ⟨T,0,none⟩),.int .u32 (x.sg 1).sel] w1 fun e w'=>e=.panicked (pan f)∧Py w1 c t1 T x o1 2 w'):=HC1.mono (fun e w' ⟨a,p⟩=>⟨by rw [a];unfold OE;rw [hr1],p⟩)
  have HS:Hid (full=⟨o1.m,.inl f⟩):=HS1.out.trans (pushes_no ho1 hr1)
  clear HC1 ho1 hr1 HS1
  go_wp2_with fail
  refine Calls.mono HC.out ?_;rintro e w' ⟨rfl,p⟩
  exact ⟨rfl,by rw [HS.out];rfl,by rw [HS.out];exact ((Py.after HB1.out.2.2 HB1.out.2.1 p).no rfl).more (by omega)⟩
 | inr n2=>
 have HC:Hid (Calls Tryz.prog 149 #[.pointer (some ⟨T,0,none⟩),.int .u32 (x.sg 1).sel] w1 fun e w'=>e=.returned (.tuple #[])∧Py w1 c t1 T x o1 2 w'):=HC1.mono (fun e w' ⟨a,p⟩=>⟨by rw [a];unfold OE;rw [hr1];rfl,p⟩)
 have HS2:Hid (full=pushesO o1.m n2 [x.ip]):=HS1.out.trans (pushes_ok ho1 hr1)
 clear HC1 ho1 HS1
 go_wp2_with fail
 refine Calls.mono HC.out ?_;rintro e w2 ⟨rfl,p2⟩
 obtain ⟨⟨t2,htq2,_,hTq2⟩,kr2⟩:=p2
 have b2:=hTq2 n2 hr1
 have htl2:t2≤tn+4:=by have:=HB1.out.2.1;omega
 have kq2:Kp (c.mdT T) w0 w2:=HB1.out.2.2.trans kr2
 clear hTq2 htq2 kr2 HB1 hr1 HC g4 g8 g9 g19 g28
 have g4:=b2.a.c (k:=4) rfl;have g8:=b2.a.c (k:=8) rfl;have g9:=b2.a.c (k:=9) rfl;have g19:=b2.a.c (k:=19) rfl;have g28:=b2.a.c (k:=28) rfl
 have HB2:Hid (Tn w2 c t2 T x n2 o1.m∧t2≤tn+4∧Kp (c.mdT T) w0 w2):=⟨b2,htl2,kq2⟩
 have HC2:=push_any w2 c t2 T x n2 o1.m b2 x.ip hip (by omega)
 obtain ⟨o2,ho2⟩:∃ o,o=pushO o1.m n2 x.ip:=⟨_,rfl⟩
 rw [← ho2] at HC2
 clear b2 kq2
 cases hr2:o2.r with
 | inl f=>
  have HC:Hid (Calls Tryz.prog 149 #[.pointer (some ⟨T,0,none⟩),.int .u32 x.ip] w2 fun e w'=>e=.panicked (pan f)∧Py w2 c t2 T x o2 2 w'):=HC2.mono (fun e w' ⟨a,p⟩=>⟨by rw [a];unfold OE;rw [hr2],p⟩)
  have HS:Hid (full=⟨o2.m,.inl f⟩):=HS2.out.trans (pushes_no ho2 hr2)
  clear HC2 ho2 hr2 HS2
  go_wp2_with fail
  refine Calls.mono HC.out ?_;rintro e w' ⟨rfl,p⟩
  exact ⟨rfl,by rw [HS.out];rfl,by rw [HS.out];exact ((Py.after HB2.out.2.2 HB2.out.2.1 p).no rfl).more (by omega)⟩
 | inr n3=>
 have HC:Hid (Calls Tryz.prog 149 #[.pointer (some ⟨T,0,none⟩),.int .u32 x.ip] w2 fun e w'=>e=.returned (.tuple #[])∧Py w2 c t2 T x o2 2 w'):=HC2.mono (fun e w' ⟨a,p⟩=>⟨by rw [a];unfold OE;rw [hr2];rfl,p⟩)
 have HS3:Hid (full=pushesO o2.m n3 []):=HS2.out.trans (pushes_ok ho2 hr2)
 clear HC2 ho2 HS2
 go_wp2_with fail
 refine Calls.mono HC.out ?_;rintro e w3 ⟨rfl,p3⟩
 obtain ⟨⟨t3,htq3,_,hTq3⟩,kr3⟩:=p3
 have b3:=hTq3 n3 hr2
 have htl3:t3≤tn+6:=by have:=HB2.out.2.1;omega
 have kq3:Kp (c.mdT T) w0 w3:=HB2.out.2.2.trans kr3
 clear hTq3 htq3 kr3 HB2 hr2 HC g4 g8 g9 g19 g28
 have HF:Hid (Py w0 c tn T x ⟨o2.m,.inr n3⟩ 12 w3):=⟨⟨t3,by omega,b3.a,fun n' e=>(by cases e;exact b3)⟩,kq3⟩
 have HE:Hid (full=⟨o2.m,.inr n3⟩):=HS3.out
 clear b3 kq3 HS3
 go_wp2
 go_end0
 exact ⟨by rw [HE.out];rfl,by rw [HE.out];exact HF.out⟩
set_option maxHeartbeats 4000000 in
theorem pushAll_ft (w:World) (c:Ev) (tn T:Nat) (x n:Cu) (M:Mem) (h:Tn w c tn T x n M) (cd:Int) (hc:0≤cd) (htn:tn < 18446744073709551500):
  Calls Tryz.prog 75 #[.pointer (some ⟨T,0,none⟩),.bool false,.int .i64 cd] w fun e w'=>e=OE vC (pushesO M n [x.fl,(x.sg 1).sel,x.ip,(cd%4294967296)])∧Py w c tn T x (pushesO M n [x.fl,(x.sg 1).sel,x.ip,(cd%4294967296)]) 12 w':=by
 have s1:=(h.a.ok.sg 1 (by decide)).ok
 have s2:=(h.a.ok.sg 2 (by decide)).ok
 have hss:U32 (x.sg 2).sel:=⟨s2.s0,by have:=s2.s1;omega⟩
 have hcs:U32 (x.sg 1).sel:=⟨s1.s0,by have:=s1.s1;omega⟩
 have hsp:=h.a.ok.r 4 (by decide)
 have hfl:=h.a.ok.fl
 have hip:=h.a.ok.ip
 have hcd:U32 (cd%4294967296):=by unfold U32;omega
 have w1:IntKind.u32.wrap (x.sg 1).sel=(x.sg 1).sel:=by have:=IntKind.wrap_u32 (x.sg 1).sel;have:=hcs.1;have:=hcs.2;omega
 have w2:IntKind.u32.wrap (x.sg 2).sel=(x.sg 2).sel:=by have:=IntKind.wrap_u32 (x.sg 2).sel;have:=hss.1;have:=hss.2;omega
 have w3:IntKind.u32.wrap cd=cd%4294967296:=IntKind.wrap_u32 cd
 have hd:decide (0≤cd)=true:=decide_eq_true hc
 have HWas:Hid (Calls Tryz.prog 85 #[.pointer (some ⟨T,0,none⟩)] w fun e w'=>e=.returned (.pointer (some ⟨c.E,0,none⟩))∧w'=w):=cWas_any w T c.E h.t.e h.a.lt
 have HL:Hid (pushesO M n [x.fl,(x.sg 1).sel,x.ip,(cd%4294967296)]=pushesO M n [x.fl,(x.sg 1).sel,x.ip,(cd%4294967296)]):=rfl
 obtain ⟨t0,ht0⟩:∃ t,t=tn:=⟨_,rfl⟩
 have htl:t0≤tn+0:=by omega
 have kk0:Kp (c.mdT T) w w:=Kp.refl _ _
 have b0:Tn w c t0 T x n M:=by rw [ht0];exact h
 obtain ⟨full,hfull⟩:∃ o,o=pushesO M n [x.fl,(x.sg 1).sel,x.ip,(cd%4294967296)]:=⟨_,rfl⟩
 have HS0:Hid (full=pushesO M n [x.fl,(x.sg 1).sel,x.ip,(cd%4294967296)]):=hfull
 rw [← hfull]
 obtain ⟨w0,hw0⟩:∃ W,W=w:=⟨_,rfl⟩
 rw [← hw0] at b0 HWas
 have kq0:Kp (c.mdT T) w w0:=by rw [hw0];exact kk0
 clear h hfull HL ht0 s1 s2 hc kk0
 rw [← hw0]
 have kq0:Kp (c.mdT T) w0 w0:=Kp.refl _ _
 clear hw0
 go_enter Tryz.func75,Tryz.ntmps75
 go_wp2_with fail
 refine Calls.mono HWas.out ?_;rintro e w' ⟨rfl,hw⟩;replace hw:=hw.symm;subst hw
 clear HWas
 have g4:=b0.a.c (k:=4) rfl;have g8:=b0.a.c (k:=8) rfl;have g9:=b0.a.c (k:=9) rfl;have g19:=b0.a.c (k:=19) rfl;have g28:=b0.a.c (k:=28) rfl
 have HB0:Hid (Tn w0 c t0 T x n M∧t0≤tn+0∧Kp (c.mdT T) w0 w0):=⟨b0,htl,kq0⟩
 have HC0:=push_any w0 c t0 T x n M b0 x.fl hfl (by omega)
 obtain ⟨o0,ho0⟩:∃ o,o=pushO M n x.fl:=⟨_,rfl⟩
 rw [← ho0] at HC0
 clear b0 kq0
 cases hr0:o0.r with
 | inl f=>
  have HC:Hid (Calls Tryz.prog 149 #[.pointer (some ⟨T,0,none⟩),.int .u32 x.fl] w0 fun e w'=>e=.panicked (pan f)∧Py w0 c t0 T x o0 2 w'):=HC0.mono (fun e w' ⟨a,p⟩=>⟨by rw [a];unfold OE;rw [hr0],p⟩)
  have HS:Hid (full=⟨o0.m,.inl f⟩):=HS0.out.trans (pushes_no ho0 hr0)
  clear HC0 ho0 hr0 HS0
  go_wp2_with fail
  refine Calls.mono HC.out ?_;rintro e w' ⟨rfl,p⟩
  exact ⟨rfl,by rw [HS.out];rfl,by rw [HS.out];exact ((Py.after HB0.out.2.2 HB0.out.2.1 p).no rfl).more (by omega)⟩
 | inr n1=>
 have HC:Hid (Calls Tryz.prog 149 #[.pointer (some ⟨T,0,none⟩),.int .u32 x.fl] w0 fun e w'=>e=.returned (.tuple #[])∧Py w0 c t0 T x o0 2 w'):=HC0.mono (fun e w' ⟨a,p⟩=>⟨by rw [a];unfold OE;rw [hr0];rfl,p⟩)
 have HS1:Hid (full=pushesO o0.m n1 [(x.sg 1).sel,x.ip,(cd%4294967296)]):=HS0.out.trans (pushes_ok ho0 hr0)
 clear HC0 ho0 HS0
 go_wp2_with fail
 refine Calls.mono HC.out ?_;rintro e w1 ⟨rfl,p1⟩
 obtain ⟨⟨t1,htq1,_,hTq1⟩,kr1⟩:=p1
 have b1:=hTq1 n1 hr0
 have htl1:t1≤tn+2:=by have:=HB0.out.2.1;omega
 have kq1:Kp (c.mdT T) w0 w1:=HB0.out.2.2.trans kr1
 clear hTq1 htq1 kr1 HB0 hr0 HC g4 g8 g9 g19 g28
 have g4:=b1.a.c (k:=4) rfl;have g8:=b1.a.c (k:=8) rfl;have g9:=b1.a.c (k:=9) rfl;have g19:=b1.a.c (k:=19) rfl;have g28:=b1.a.c (k:=28) rfl
 have HB1:Hid (Tn w1 c t1 T x n1 o0.m∧t1≤tn+2∧Kp (c.mdT T) w0 w1):=⟨b1,htl1,kq1⟩
 have HC1:=push_any w1 c t1 T x n1 o0.m b1 (x.sg 1).sel hcs (by omega)
 obtain ⟨o1,ho1⟩:∃ o,o=pushO o0.m n1 (x.sg 1).sel:=⟨_,rfl⟩
 rw [← ho1] at HC1
 clear b1 kq1
 cases hr1:o1.r with
 | inl f=>
  have HC:Hid (Calls Tryz.prog 149 #[.pointer (some ⟨T,0,none⟩),.int .u32 (x.sg 1).sel] w1 fun e w'=>e=.panicked (pan f)∧Py w1 c t1 T x o1 2 w'):=HC1.mono (fun e w' ⟨a,p⟩=>⟨by rw [a];unfold OE;rw [hr1],p⟩)
  have HS:Hid (full=⟨o1.m,.inl f⟩):=HS1.out.trans (pushes_no ho1 hr1)
  clear HC1 ho1 hr1 HS1
  go_wp2_with fail
  refine Calls.mono HC.out ?_;rintro e w' ⟨rfl,p⟩
  exact ⟨rfl,by rw [HS.out];rfl,by rw [HS.out];exact ((Py.after HB1.out.2.2 HB1.out.2.1 p).no rfl).more (by omega)⟩
 | inr n2=>
 have HC:Hid (Calls Tryz.prog 149 #[.pointer (some ⟨T,0,none⟩),.int .u32 (x.sg 1).sel] w1 fun e w'=>e=.returned (.tuple #[])∧Py w1 c t1 T x o1 2 w'):=HC1.mono (fun e w' ⟨a,p⟩=>⟨by rw [a];unfold OE;rw [hr1];rfl,p⟩)
 have HS2:Hid (full=pushesO o1.m n2 [x.ip,(cd%4294967296)]):=HS1.out.trans (pushes_ok ho1 hr1)
 clear HC1 ho1 HS1
 go_wp2_with fail
 refine Calls.mono HC.out ?_;rintro e w2 ⟨rfl,p2⟩
 obtain ⟨⟨t2,htq2,_,hTq2⟩,kr2⟩:=p2
 have b2:=hTq2 n2 hr1
 have htl2:t2≤tn+4:=by have:=HB1.out.2.1;omega
 have kq2:Kp (c.mdT T) w0 w2:=HB1.out.2.2.trans kr2
 clear hTq2 htq2 kr2 HB1 hr1 HC g4 g8 g9 g19 g28
 have g4:=b2.a.c (k:=4) rfl;have g8:=b2.a.c (k:=8) rfl;have g9:=b2.a.c (k:=9) rfl;have g19:=b2.a.c (k:=19) rfl;have g28:=b2.a.c (k:=28) rfl
 have HB2:Hid (Tn w2 c t2 T x n2 o1.m∧t2≤tn+4∧Kp (c.mdT T) w0 w2):=⟨b2,htl2,kq2⟩
 have HC2:=push_any w2 c t2 T x n2 o1.m b2 x.ip hip (by omega)
 obtain ⟨o2,ho2⟩:∃ o,o=pushO o1.m n2 x.ip:=⟨_,rfl⟩
 rw [← ho2] at HC2
 clear b2 kq2
 cases hr2:o2.r with
 | inl f=>
  have HC:Hid (Calls Tryz.prog 149 #[.pointer (some ⟨T,0,none⟩),.int .u32 x.ip] w2 fun e w'=>e=.panicked (pan f)∧Py w2 c t2 T x o2 2 w'):=HC2.mono (fun e w' ⟨a,p⟩=>⟨by rw [a];unfold OE;rw [hr2],p⟩)
  have HS:Hid (full=⟨o2.m,.inl f⟩):=HS2.out.trans (pushes_no ho2 hr2)
  clear HC2 ho2 hr2 HS2
  go_wp2_with fail
  refine Calls.mono HC.out ?_;rintro e w' ⟨rfl,p⟩
  exact ⟨rfl,by rw [HS.out];rfl,by rw [HS.out];exact ((Py.after HB2.out.2.2 HB2.out.2.1 p).no rfl).more (by omega)⟩
 | inr n3=>
 have HC:Hid (Calls Tryz.prog 149 #[.pointer (some ⟨T,0,none⟩),.int .u32 x.ip] w2 fun e w'=>e=.returned (.tuple #[])∧Py w2 c t2 T x o2 2 w'):=HC2.mono (fun e w' ⟨a,p⟩=>⟨by rw [a];unfold OE;rw [hr2];rfl,p⟩)
 have HS3:Hid (full=pushesO o2.m n3 [(cd%4294967296)]):=HS2.out.trans (pushes_ok ho2 hr2)
 clear HC2 ho2 HS2
 go_wp2_with fail
 refine Calls.mono HC.out ?_;rintro e w3 ⟨rfl,p3⟩
 obtain ⟨⟨t3,htq3,_,hTq3⟩,kr3⟩:=p3
 have b3:=hTq3 n3 hr2
 have htl3:t3≤tn+6:=by have:=HB2.out.2.1;omega
 have kq3:Kp (c.mdT T) w0 w3:=HB2.out.2.2.trans kr3
 clear hTq3 htq3 kr3 HB2 hr2 HC g4 g8 g9 g19 g28
 have g4:=b3.a.c (k:=4) rfl;have g8:=b3.a.c (k:=8) rfl;have g9:=b3.a.c (k:=9) rfl;have g19:=b3.a.c (k:=19) rfl;have g28:=b3.a.c (k:=28) rfl
 have HB3:Hid (Tn w3 c t3 T x n3 o2.m∧t3≤tn+6∧Kp (c.mdT T) w0 w3):=⟨b3,htl3,kq3⟩
 have HC3:=push_any w3 c t3 T x n3 o2.m b3 (cd%4294967296) hcd (by omega)
 obtain ⟨o3,ho3⟩:∃ o,o=pushO o2.m n3 (cd%4294967296):=⟨_,rfl⟩
 rw [← ho3] at HC3
 clear b3 kq3
 cases hr3:o3.r with
 | inl f=>
  have HC:Hid (Calls Tryz.prog 149 #[.pointer (some ⟨T,0,none⟩),.int .u32 (cd%4294967296)] w3 fun e w'=>e=.panicked (pan f)∧Py w3 c t3 T x o3 2 w'):=HC3.mono (fun e w' ⟨a,p⟩=>⟨by rw [a];unfold OE;rw [hr3],p⟩)
  have HS:Hid (full=⟨o3.m,.inl f⟩):=HS3.out.trans (pushes_no ho3 hr3)
  clear HC3 ho3 hr3 HS3
  go_wp2_with fail
  refine Calls.mono HC.out ?_;rintro e w' ⟨rfl,p⟩
  exact ⟨rfl,by rw [HS.out];rfl,by rw [HS.out];exact ((Py.after HB3.out.2.2 HB3.out.2.1 p).no rfl).more (by omega)⟩
 | inr n4=>
 have HC:Hid (Calls Tryz.prog 149 #[.pointer (some ⟨T,0,none⟩),.int .u32 (cd%4294967296)] w3 fun e w'=>e=.returned (.tuple #[])∧Py w3 c t3 T x o3 2 w'):=HC3.mono (fun e w' ⟨a,p⟩=>⟨by rw [a];unfold OE;rw [hr3];rfl,p⟩)
 have HS4:Hid (full=pushesO o3.m n4 []):=HS3.out.trans (pushes_ok ho3 hr3)
 clear HC3 ho3 HS3
 go_wp2_with fail
 refine Calls.mono HC.out ?_;rintro e w4 ⟨rfl,p4⟩
 obtain ⟨⟨t4,htq4,_,hTq4⟩,kr4⟩:=p4
 have b4:=hTq4 n4 hr3
 have htl4:t4≤tn+8:=by have:=HB3.out.2.1;omega
 have kq4:Kp (c.mdT T) w0 w4:=HB3.out.2.2.trans kr4
 clear hTq4 htq4 kr4 HB3 hr3 HC g4 g8 g9 g19 g28
 have HF:Hid (Py w0 c tn T x ⟨o3.m,.inr n4⟩ 12 w4):=⟨⟨t4,by omega,b4.a,fun n' e=>(by cases e;exact b4)⟩,kq4⟩
 have HE:Hid (full=⟨o3.m,.inr n4⟩):=HS4.out
 clear b4 kq4 HS4
 go_wp2
 go_end0
 exact ⟨by rw [HE.out];rfl,by rw [HE.out];exact HF.out⟩
set_option maxHeartbeats 4000000 in
theorem pushAll_tf (w:World) (c:Ev) (tn T:Nat) (x n:Cu) (M:Mem) (h:Tn w c tn T x n M) (cd:Int) (hc:¬ 0≤cd) (htn:tn < 18446744073709551500):
  Calls Tryz.prog 75 #[.pointer (some ⟨T,0,none⟩),.bool true,.int .i64 cd] w fun e w'=>e=OE vC (pushesO M n [(x.sg 2).sel,(x.r 4),x.fl,(x.sg 1).sel,x.ip])∧Py w c tn T x (pushesO M n [(x.sg 2).sel,(x.r 4),x.fl,(x.sg 1).sel,x.ip]) 12 w':=by
 have s1:=(h.a.ok.sg 1 (by decide)).ok
 have s2:=(h.a.ok.sg 2 (by decide)).ok
 have hss:U32 (x.sg 2).sel:=⟨s2.s0,by have:=s2.s1;omega⟩
 have hcs:U32 (x.sg 1).sel:=⟨s1.s0,by have:=s1.s1;omega⟩
 have hsp:=h.a.ok.r 4 (by decide)
 have hfl:=h.a.ok.fl
 have hip:=h.a.ok.ip
 have hcd:U32 (cd%4294967296):=by unfold U32;omega
 have w1:IntKind.u32.wrap (x.sg 1).sel=(x.sg 1).sel:=by have:=IntKind.wrap_u32 (x.sg 1).sel;have:=hcs.1;have:=hcs.2;omega
 have w2:IntKind.u32.wrap (x.sg 2).sel=(x.sg 2).sel:=by have:=IntKind.wrap_u32 (x.sg 2).sel;have:=hss.1;have:=hss.2;omega
 have w3:IntKind.u32.wrap cd=cd%4294967296:=IntKind.wrap_u32 cd
 have hd:decide (0≤cd)=false:=decide_eq_false hc
 have HWas:Hid (Calls Tryz.prog 85 #[.pointer (some ⟨T,0,none⟩)] w fun e w'=>e=.returned (.pointer (some ⟨c.E,0,none⟩))∧w'=w):=cWas_any w T c.E h.t.e h.a.lt
 have HL:Hid (pushesO M n [(x.sg 2).sel,(x.r 4),x.fl,(x.sg 1).sel,x.ip]=pushesO M n [(x.sg 2).sel,(x.r 4),x.fl,(x.sg 1).sel,x.ip]):=rfl
 obtain ⟨t0,ht0⟩:∃ t,t=tn:=⟨_,rfl⟩
 have htl:t0≤tn+0:=by omega
 have kk0:Kp (c.mdT T) w w:=Kp.refl _ _
 have b0:Tn w c t0 T x n M:=by rw [ht0];exact h
 obtain ⟨full,hfull⟩:∃ o,o=pushesO M n [(x.sg 2).sel,(x.r 4),x.fl,(x.sg 1).sel,x.ip]:=⟨_,rfl⟩
 have HS0:Hid (full=pushesO M n [(x.sg 2).sel,(x.r 4),x.fl,(x.sg 1).sel,x.ip]):=hfull
 rw [← hfull]
 obtain ⟨w0,hw0⟩:∃ W,W=w:=⟨_,rfl⟩
 rw [← hw0] at b0 HWas
 have kq0:Kp (c.mdT T) w w0:=by rw [hw0];exact kk0
 clear h hfull HL ht0 s1 s2 hc kk0
 rw [← hw0]
 have kq0:Kp (c.mdT T) w0 w0:=Kp.refl _ _
 clear hw0
 go_enter Tryz.func75,Tryz.ntmps75
 go_wp2_with fail
 refine Calls.mono HWas.out ?_;rintro e w' ⟨rfl,hw⟩;replace hw:=hw.symm;subst hw
 clear HWas
 have g4:=b0.a.c (k:=4) rfl;have g8:=b0.a.c (k:=8) rfl;have g9:=b0.a.c (k:=9) rfl;have g19:=b0.a.c (k:=19) rfl;have g28:=b0.a.c (k:=28) rfl
 have HB0:Hid (Tn w0 c t0 T x n M∧t0≤tn+0∧Kp (c.mdT T) w0 w0):=⟨b0,htl,kq0⟩
 have HC0:=push_any w0 c t0 T x n M b0 (x.sg 2).sel hss (by omega)
 obtain ⟨o0,ho0⟩:∃ o,o=pushO M n (x.sg 2).sel:=⟨_,rfl⟩
 rw [← ho0] at HC0
 clear b0 kq0
 cases hr0:o0.r with
 | inl f=>
  have HC:Hid (Calls Tryz.prog 149 #[.pointer (some ⟨T,0,none⟩),.int .u32 (x.sg 2).sel] w0 fun e w'=>e=.panicked (pan f)∧Py w0 c t0 T x o0 2 w'):=HC0.mono (fun e w' ⟨a,p⟩=>⟨by rw [a];unfold OE;rw [hr0],p⟩)
  have HS:Hid (full=⟨o0.m,.inl f⟩):=HS0.out.trans (pushes_no ho0 hr0)
  clear HC0 ho0 hr0 HS0
  go_wp2_with fail
  refine Calls.mono HC.out ?_;rintro e w' ⟨rfl,p⟩
  exact ⟨rfl,by rw [HS.out];rfl,by rw [HS.out];exact ((Py.after HB0.out.2.2 HB0.out.2.1 p).no rfl).more (by omega)⟩
 | inr n1=>
 have HC:Hid (Calls Tryz.prog 149 #[.pointer (some ⟨T,0,none⟩),.int .u32 (x.sg 2).sel] w0 fun e w'=>e=.returned (.tuple #[])∧Py w0 c t0 T x o0 2 w'):=HC0.mono (fun e w' ⟨a,p⟩=>⟨by rw [a];unfold OE;rw [hr0];rfl,p⟩)
 have HS1:Hid (full=pushesO o0.m n1 [(x.r 4),x.fl,(x.sg 1).sel,x.ip]):=HS0.out.trans (pushes_ok ho0 hr0)
 clear HC0 ho0 HS0
 go_wp2_with fail
 refine Calls.mono HC.out ?_;rintro e w1 ⟨rfl,p1⟩
 obtain ⟨⟨t1,htq1,_,hTq1⟩,kr1⟩:=p1
 have b1:=hTq1 n1 hr0
 have htl1:t1≤tn+2:=by have:=HB0.out.2.1;omega
 have kq1:Kp (c.mdT T) w0 w1:=HB0.out.2.2.trans kr1
 clear hTq1 htq1 kr1 HB0 hr0 HC g4 g8 g9 g19 g28
 have g4:=b1.a.c (k:=4) rfl;have g8:=b1.a.c (k:=8) rfl;have g9:=b1.a.c (k:=9) rfl;have g19:=b1.a.c (k:=19) rfl;have g28:=b1.a.c (k:=28) rfl
 have HB1:Hid (Tn w1 c t1 T x n1 o0.m∧t1≤tn+2∧Kp (c.mdT T) w0 w1):=⟨b1,htl1,kq1⟩
 have HC1:=push_any w1 c t1 T x n1 o0.m b1 (x.r 4) hsp (by omega)
 obtain ⟨o1,ho1⟩:∃ o,o=pushO o0.m n1 (x.r 4):=⟨_,rfl⟩
 rw [← ho1] at HC1
 clear b1 kq1
 cases hr1:o1.r with
 | inl f=>
  have HC:Hid (Calls Tryz.prog 149 #[.pointer (some ⟨T,0,none⟩),.int .u32 (x.r 4)] w1 fun e w'=>e=.panicked (pan f)∧Py w1 c t1 T x o1 2 w'):=HC1.mono (fun e w' ⟨a,p⟩=>⟨by rw [a];unfold OE;rw [hr1],p⟩)
  have HS:Hid (full=⟨o1.m,.inl f⟩):=HS1.out.trans (pushes_no ho1 hr1)
  clear HC1 ho1 hr1 HS1
  go_wp2_with fail
  refine Calls.mono HC.out ?_;rintro e w' ⟨rfl,p⟩
  exact ⟨rfl,by rw [HS.out];rfl,by rw [HS.out];exact ((Py.after HB1.out.2.2 HB1.out.2.1 p).no rfl).more (by omega)⟩
 | inr n2=>
 have HC:Hid (Calls Tryz.prog 149 #[.pointer (some ⟨T,0,none⟩),.int .u32 (x.r 4)] w1 fun e w'=>e=.returned (.tuple #[])∧Py w1 c t1 T x o1 2 w'):=HC1.mono (fun e w' ⟨a,p⟩=>⟨by rw [a];unfold OE;rw [hr1];rfl,p⟩)
 have HS2:Hid (full=pushesO o1.m n2 [x.fl,(x.sg 1).sel,x.ip]):=HS1.out.trans (pushes_ok ho1 hr1)
 clear HC1 ho1 HS1
 go_wp2_with fail
 refine Calls.mono HC.out ?_;rintro e w2 ⟨rfl,p2⟩
 obtain ⟨⟨t2,htq2,_,hTq2⟩,kr2⟩:=p2
 have b2:=hTq2 n2 hr1
 have htl2:t2≤tn+4:=by have:=HB1.out.2.1;omega
 have kq2:Kp (c.mdT T) w0 w2:=HB1.out.2.2.trans kr2
 clear hTq2 htq2 kr2 HB1 hr1 HC g4 g8 g9 g19 g28
 have g4:=b2.a.c (k:=4) rfl;have g8:=b2.a.c (k:=8) rfl;have g9:=b2.a.c (k:=9) rfl;have g19:=b2.a.c (k:=19) rfl;have g28:=b2.a.c (k:=28) rfl
 have HB2:Hid (Tn w2 c t2 T x n2 o1.m∧t2≤tn+4∧Kp (c.mdT T) w0 w2):=⟨b2,htl2,kq2⟩
 have HC2:=push_any w2 c t2 T x n2 o1.m b2 x.fl hfl (by omega)
 obtain ⟨o2,ho2⟩:∃ o,o=pushO o1.m n2 x.fl:=⟨_,rfl⟩
 rw [← ho2] at HC2
 clear b2 kq2
 cases hr2:o2.r with
 | inl f=>
  have HC:Hid (Calls Tryz.prog 149 #[.pointer (some ⟨T,0,none⟩),.int .u32 x.fl] w2 fun e w'=>e=.panicked (pan f)∧Py w2 c t2 T x o2 2 w'):=HC2.mono (fun e w' ⟨a,p⟩=>⟨by rw [a];unfold OE;rw [hr2],p⟩)
  have HS:Hid (full=⟨o2.m,.inl f⟩):=HS2.out.trans (pushes_no ho2 hr2)
  clear HC2 ho2 hr2 HS2
  go_wp2_with fail
  refine Calls.mono HC.out ?_;rintro e w' ⟨rfl,p⟩
  exact ⟨rfl,by rw [HS.out];rfl,by rw [HS.out];exact ((Py.after HB2.out.2.2 HB2.out.2.1 p).no rfl).more (by omega)⟩
 | inr n3=>
 have HC:Hid (Calls Tryz.prog 149 #[.pointer (some ⟨T,0,none⟩),.int .u32 x.fl] w2 fun e w'=>e=.returned (.tuple #[])∧Py w2 c t2 T x o2 2 w'):=HC2.mono (fun e w' ⟨a,p⟩=>⟨by rw [a];unfold OE;rw [hr2];rfl,p⟩)
 have HS3:Hid (full=pushesO o2.m n3 [(x.sg 1).sel,x.ip]):=HS2.out.trans (pushes_ok ho2 hr2)
 clear HC2 ho2 HS2
 go_wp2_with fail
 refine Calls.mono HC.out ?_;rintro e w3 ⟨rfl,p3⟩
 obtain ⟨⟨t3,htq3,_,hTq3⟩,kr3⟩:=p3
 have b3:=hTq3 n3 hr2
 have htl3:t3≤tn+6:=by have:=HB2.out.2.1;omega
 have kq3:Kp (c.mdT T) w0 w3:=HB2.out.2.2.trans kr3
 clear hTq3 htq3 kr3 HB2 hr2 HC g4 g8 g9 g19 g28
 have g4:=b3.a.c (k:=4) rfl;have g8:=b3.a.c (k:=8) rfl;have g9:=b3.a.c (k:=9) rfl;have g19:=b3.a.c (k:=19) rfl;have g28:=b3.a.c (k:=28) rfl
 have HB3:Hid (Tn w3 c t3 T x n3 o2.m∧t3≤tn+6∧Kp (c.mdT T) w0 w3):=⟨b3,htl3,kq3⟩
 have HC3:=push_any w3 c t3 T x n3 o2.m b3 (x.sg 1).sel hcs (by omega)
 obtain ⟨o3,ho3⟩:∃ o,o=pushO o2.m n3 (x.sg 1).sel:=⟨_,rfl⟩
 rw [← ho3] at HC3
 clear b3 kq3
 cases hr3:o3.r with
 | inl f=>
  have HC:Hid (Calls Tryz.prog 149 #[.pointer (some ⟨T,0,none⟩),.int .u32 (x.sg 1).sel] w3 fun e w'=>e=.panicked (pan f)∧Py w3 c t3 T x o3 2 w'):=HC3.mono (fun e w' ⟨a,p⟩=>⟨by rw [a];unfold OE;rw [hr3],p⟩)
  have HS:Hid (full=⟨o3.m,.inl f⟩):=HS3.out.trans (pushes_no ho3 hr3)
  clear HC3 ho3 hr3 HS3
  go_wp2_with fail
  refine Calls.mono HC.out ?_;rintro e w' ⟨rfl,p⟩
  exact ⟨rfl,by rw [HS.out];rfl,by rw [HS.out];exact ((Py.after HB3.out.2.2 HB3.out.2.1 p).no rfl).more (by omega)⟩
 | inr n4=>
 have HC:Hid (Calls Tryz.prog 149 #[.pointer (some ⟨T,0,none⟩),.int .u32 (x.sg 1).sel] w3 fun e w'=>e=.returned (.tuple #[])∧Py w3 c t3 T x o3 2 w'):=HC3.mono (fun e w' ⟨a,p⟩=>⟨by rw [a];unfold OE;rw [hr3];rfl,p⟩)
 have HS4:Hid (full=pushesO o3.m n4 [x.ip]):=HS3.out.trans (pushes_ok ho3 hr3)
 clear HC3 ho3 HS3
 go_wp2_with fail
 refine Calls.mono HC.out ?_;rintro e w4 ⟨rfl,p4⟩
 obtain ⟨⟨t4,htq4,_,hTq4⟩,kr4⟩:=p4
 have b4:=hTq4 n4 hr3
 have htl4:t4≤tn+8:=by have:=HB3.out.2.1;omega
 have kq4:Kp (c.mdT T) w0 w4:=HB3.out.2.2.trans kr4
 clear hTq4 htq4 kr4 HB3 hr3 HC g4 g8 g9 g19 g28
 have g4:=b4.a.c (k:=4) rfl;have g8:=b4.a.c (k:=8) rfl;have g9:=b4.a.c (k:=9) rfl;have g19:=b4.a.c (k:=19) rfl;have g28:=b4.a.c (k:=28) rfl
 have HB4:Hid (Tn w4 c t4 T x n4 o3.m∧t4≤tn+8∧Kp (c.mdT T) w0 w4):=⟨b4,htl4,kq4⟩
 have HC4:=push_any w4 c t4 T x n4 o3.m b4 x.ip hip (by omega)
 obtain ⟨o4,ho4⟩:∃ o,o=pushO o3.m n4 x.ip:=⟨_,rfl⟩
 rw [← ho4] at HC4
 clear b4 kq4
 cases hr4:o4.r with
 | inl f=>
  have HC:Hid (Calls Tryz.prog 149 #[.pointer (some ⟨T,0,none⟩),.int .u32 x.ip] w4 fun e w'=>e=.panicked (pan f)∧Py w4 c t4 T x o4 2 w'):=HC4.mono (fun e w' ⟨a,p⟩=>⟨by rw [a];unfold OE;rw [hr4],p⟩)
  have HS:Hid (full=⟨o4.m,.inl f⟩):=HS4.out.trans (pushes_no ho4 hr4)
  clear HC4 ho4 hr4 HS4
  go_wp2_with fail
  refine Calls.mono HC.out ?_;rintro e w' ⟨rfl,p⟩
  exact ⟨rfl,by rw [HS.out];rfl,by rw [HS.out];exact ((Py.after HB4.out.2.2 HB4.out.2.1 p).no rfl).more (by omega)⟩
 | inr n5=>
 have HC:Hid (Calls Tryz.prog 149 #[.pointer (some ⟨T,0,none⟩),.int .u32 x.ip] w4 fun e w'=>e=.returned (.tuple #[])∧Py w4 c t4 T x o4 2 w'):=HC4.mono (fun e w' ⟨a,p⟩=>⟨by rw [a];unfold OE;rw [hr4];rfl,p⟩)
 have HS5:Hid (full=pushesO o4.m n5 []):=HS4.out.trans (pushes_ok ho4 hr4)
 clear HC4 ho4 HS4
 go_wp2_with fail
 refine Calls.mono HC.out ?_;rintro e w5 ⟨rfl,p5⟩
 obtain ⟨⟨t5,htq5,_,hTq5⟩,kr5⟩:=p5
 have b5:=hTq5 n5 hr4
 have htl5:t5≤tn+10:=by have:=HB4.out.2.1;omega
 have kq5:Kp (c.mdT T) w0 w5:=HB4.out.2.2.trans kr5
 clear hTq5 htq5 kr5 HB4 hr4 HC g4 g8 g9 g19 g28
 have HF:Hid (Py w0 c tn T x ⟨o4.m,.inr n5⟩ 12 w5):=⟨⟨t5,by omega,b5.a,fun n' e=>(by cases e;exact b5)⟩,kq5⟩
 have HE:Hid (full=⟨o4.m,.inr n5⟩):=HS5.out
 clear b5 kq5 HS5
 go_wp2
 go_end0
 exact ⟨by rw [HE.out];rfl,by rw [HE.out];exact HF.out⟩
set_option maxHeartbeats 4000000 in
theorem pushAll_tt (w:World) (c:Ev) (tn T:Nat) (x n:Cu) (M:Mem) (h:Tn w c tn T x n M) (cd:Int) (hc:0≤cd) (htn:tn < 18446744073709551500):
  Calls Tryz.prog 75 #[.pointer (some ⟨T,0,none⟩),.bool true,.int .i64 cd] w fun e w'=>e=OE vC (pushesO M n [(x.sg 2).sel,(x.r 4),x.fl,(x.sg 1).sel,x.ip,(cd%4294967296)])∧Py w c tn T x (pushesO M n [(x.sg 2).sel,(x.r 4),x.fl,(x.sg 1).sel,x.ip,(cd%4294967296)]) 12 w':=by
 have s1:=(h.a.ok.sg 1 (by decide)).ok
 have s2:=(h.a.ok.sg 2 (by decide)).ok
 have hss:U32 (x.sg 2).sel:=⟨s2.s0,by have:=s2.s1;omega⟩
 have hcs:U32 (x.sg 1).sel:=⟨s1.s0,by have:=s1.s1;omega⟩
 have hsp:=h.a.ok.r 4 (by decide)
 have hfl:=h.a.ok.fl
 have hip:=h.a.ok.ip
 have hcd:U32 (cd%4294967296):=by unfold U32;omega
 have w1:IntKind.u32.wrap (x.sg 1).sel=(x.sg 1).sel:=by have:=IntKind.wrap_u32 (x.sg 1).sel;have:=hcs.1;have:=hcs.2;omega
 have w2:IntKind.u32.wrap (x.sg 2).sel=(x.sg 2).sel:=by have:=IntKind.wrap_u32 (x.sg 2).sel;have:=hss.1;have:=hss.2;omega
 have w3:IntKind.u32.wrap cd=cd%4294967296:=IntKind.wrap_u32 cd
 have hd:decide (0≤cd)=true:=decide_eq_true hc
 have HWas:Hid (Calls Tryz.prog 85 #[.pointer (some ⟨T,0,none⟩)] w fun e w'=>e=.returned (.pointer (some ⟨c.E,0,none⟩))∧w'=w):=cWas_any w T c.E h.t.e h.a.lt
 have HL:Hid (pushesO M n [(x.sg 2).sel,(x.r 4),x.fl,(x.sg 1).sel,x.ip,(cd%4294967296)]=pushesO M n [(x.sg 2).sel,(x.r 4),x.fl,(x.sg 1).sel,x.ip,(cd%4294967296)]):=rfl
 obtain ⟨t0,ht0⟩:∃ t,t=tn:=⟨_,rfl⟩
 have htl:t0≤tn+0:=by omega
 have kk0:Kp (c.mdT T) w w:=Kp.refl _ _
 have b0:Tn w c t0 T x n M:=by rw [ht0];exact h
 obtain ⟨full,hfull⟩:∃ o,o=pushesO M n [(x.sg 2).sel,(x.r 4),x.fl,(x.sg 1).sel,x.ip,(cd%4294967296)]:=⟨_,rfl⟩
 have HS0:Hid (full=pushesO M n [(x.sg 2).sel,(x.r 4),x.fl,(x.sg 1).sel,x.ip,(cd%4294967296)]):=hfull
 rw [← hfull]
 obtain ⟨w0,hw0⟩:∃ W,W=w:=⟨_,rfl⟩
 rw [← hw0] at b0 HWas
 have kq0:Kp (c.mdT T) w w0:=by rw [hw0];exact kk0
 clear h hfull HL ht0 s1 s2 hc kk0
 rw [← hw0]
 have kq0:Kp (c.mdT T) w0 w0:=Kp.refl _ _
 clear hw0
 go_enter Tryz.func75,Tryz.ntmps75
 go_wp2_with fail
 refine Calls.mono HWas.out ?_;rintro e w' ⟨rfl,hw⟩;replace hw:=hw.symm;subst hw
 clear HWas
 have g4:=b0.a.c (k:=4) rfl;have g8:=b0.a.c (k:=8) rfl;have g9:=b0.a.c (k:=9) rfl;have g19:=b0.a.c (k:=19) rfl;have g28:=b0.a.c (k:=28) rfl
 have HB0:Hid (Tn w0 c t0 T x n M∧t0≤tn+0∧Kp (c.mdT T) w0 w0):=⟨b0,htl,kq0⟩
 have HC0:=push_any w0 c t0 T x n M b0 (x.sg 2).sel hss (by omega)
 obtain ⟨o0,ho0⟩:∃ o,o=pushO M n (x.sg 2).sel:=⟨_,rfl⟩
 rw [← ho0] at HC0
 clear b0 kq0
 cases hr0:o0.r with
 | inl f=>
  have HC:Hid (Calls Tryz.prog 149 #[.pointer (some ⟨T,0,none⟩),.int .u32 (x.sg 2).sel] w0 fun e w'=>e=.panicked (pan f)∧Py w0 c t0 T x o0 2 w'):=HC0.mono (fun e w' ⟨a,p⟩=>⟨by rw [a];unfold OE;rw [hr0],p⟩)
  have HS:Hid (full=⟨o0.m,.inl f⟩):=HS0.out.trans (pushes_no ho0 hr0)
  clear HC0 ho0 hr0 HS0
  go_wp2_with fail
  refine Calls.mono HC.out ?_;rintro e w' ⟨rfl,p⟩
  exact ⟨rfl,by rw [HS.out];rfl,by rw [HS.out];exact ((Py.after HB0.out.2.2 HB0.out.2.1 p).no rfl).more (by omega)⟩
 | inr n1=>
 have HC:Hid (Calls Tryz.prog 149 #[.pointer (some ⟨T,0,none⟩),.int .u32 (x.sg 2).sel] w0 fun e w'=>e=.returned (.tuple #[])∧Py w0 c t0 T x o0 2 w'):=HC0.mono (fun e w' ⟨a,p⟩=>⟨by rw [a];unfold OE;rw [hr0];rfl,p⟩)
 have HS1:Hid (full=pushesO o0.m n1 [(x.r 4),x.fl,(x.sg 1).sel,x.ip,(cd%4294967296)]):=HS0.out.trans (pushes_ok ho0 hr0)
 clear HC0 ho0 HS0
 go_wp2_with fail
 refine Calls.mono HC.out ?_;rintro e w1 ⟨rfl,p1⟩
 obtain ⟨⟨t1,htq1,_,hTq1⟩,kr1⟩:=p1
 have b1:=hTq1 n1 hr0
 have htl1:t1≤tn+2:=by have:=HB0.out.2.1;omega
 have kq1:Kp (c.mdT T) w0 w1:=HB0.out.2.2.trans kr1
 clear hTq1 htq1 kr1 HB0 hr0 HC g4 g8 g9 g19 g28
 have g4:=b1.a.c (k:=4) rfl;have g8:=b1.a.c (k:=8) rfl;have g9:=b1.a.c (k:=9) rfl;have g19:=b1.a.c (k:=19) rfl;have g28:=b1.a.c (k:=28) rfl
 have HB1:Hid (Tn w1 c t1 T x n1 o0.m∧t1≤tn+2∧Kp (c.mdT T) w0 w1):=⟨b1,htl1,kq1⟩
 have HC1:=push_any w1 c t1 T x n1 o0.m b1 (x.r 4) hsp (by omega)
 obtain ⟨o1,ho1⟩:∃ o,o=pushO o0.m n1 (x.r 4):=⟨_,rfl⟩
 rw [← ho1] at HC1
 clear b1 kq1
 cases hr1:o1.r with
 | inl f=>
  have HC:Hid (Calls Tryz.prog 149 #[.pointer (some ⟨T,0,none⟩),.int .u32 (x.r 4)] w1 fun e w'=>e=.panicked (pan f)∧Py w1 c t1 T x o1 2 w'):=HC1.mono (fun e w' ⟨a,p⟩=>⟨by rw [a];unfold OE;rw [hr1],p⟩)
  have HS:Hid (full=⟨o1.m,.inl f⟩):=HS1.out.trans (pushes_no ho1 hr1)
  clear HC1 ho1 hr1 HS1
  go_wp2_with fail
  refine Calls.mono HC.out ?_;rintro e w' ⟨rfl,p⟩
  exact ⟨rfl,by rw [HS.out];rfl,by rw [HS.out];exact ((Py.after HB1.out.2.2 HB1.out.2.1 p).no rfl).more (by omega)⟩
 | inr n2=>
 have HC:Hid (Calls Tryz.prog 149 #[.pointer (some ⟨T,0,none⟩),.int .u32 (x.r 4)] w1 fun e w'=>e=.returned (.tuple #[])∧Py w1 c t1 T x o1 2 w'):=HC1.mono (fun e w' ⟨a,p⟩=>⟨by rw [a];unfold OE;rw [hr1];rfl,p⟩)
 have HS2:Hid (full=pushesO o1.m n2 [x.fl,(x.sg 1).sel,x.ip,(cd%4294967296)]):=HS1.out.trans (pushes_ok ho1 hr1)
 clear HC1 ho1 HS1
 go_wp2_with fail
 refine Calls.mono HC.out ?_;rintro e w2 ⟨rfl,p2⟩
 obtain ⟨⟨t2,htq2,_,hTq2⟩,kr2⟩:=p2
 have b2:=hTq2 n2 hr1
 have htl2:t2≤tn+4:=by have:=HB1.out.2.1;omega
 have kq2:Kp (c.mdT T) w0 w2:=HB1.out.2.2.trans kr2
 clear hTq2 htq2 kr2 HB1 hr1 HC g4 g8 g9 g19 g28
 have g4:=b2.a.c (k:=4) rfl;have g8:=b2.a.c (k:=8) rfl;have g9:=b2.a.c (k:=9) rfl;have g19:=b2.a.c (k:=19) rfl;have g28:=b2.a.c (k:=28) rfl
 have HB2:Hid (Tn w2 c t2 T x n2 o1.m∧t2≤tn+4∧Kp (c.mdT T) w0 w2):=⟨b2,htl2,kq2⟩
 have HC2:=push_any w2 c t2 T x n2 o1.m b2 x.fl hfl (by omega)
 obtain ⟨o2,ho2⟩:∃ o,o=pushO o1.m n2 x.fl:=⟨_,rfl⟩
 rw [← ho2] at HC2
 clear b2 kq2
 cases hr2:o2.r with
 | inl f=>
  have HC:Hid (Calls Tryz.prog 149 #[.pointer (some ⟨T,0,none⟩),.int .u32 x.fl] w2 fun e w'=>e=.panicked (pan f)∧Py w2 c t2 T x o2 2 w'):=HC2.mono (fun e w' ⟨a,p⟩=>⟨by rw [a];unfold OE;rw [hr2],p⟩)
  have HS:Hid (full=⟨o2.m,.inl f⟩):=HS2.out.trans (pushes_no ho2 hr2)
  clear HC2 ho2 hr2 HS2
  go_wp2_with fail
  refine Calls.mono HC.out ?_;rintro e w' ⟨rfl,p⟩
  exact ⟨rfl,by rw [HS.out];rfl,by rw [HS.out];exact ((Py.after HB2.out.2.2 HB2.out.2.1 p).no rfl).more (by omega)⟩
 | inr n3=>
 have HC:Hid (Calls Tryz.prog 149 #[.pointer (some ⟨T,0,none⟩),.int .u32 x.fl] w2 fun e w'=>e=.returned (.tuple #[])∧Py w2 c t2 T x o2 2 w'):=HC2.mono (fun e w' ⟨a,p⟩=>⟨by rw [a];unfold OE;rw [hr2];rfl,p⟩)
 have HS3:Hid (full=pushesO o2.m n3 [(x.sg 1).sel,x.ip,(cd%4294967296)]):=HS2.out.trans (pushes_ok ho2 hr2)
 clear HC2 ho2 HS2
 go_wp2_with fail
 refine Calls.mono HC.out ?_;rintro e w3 ⟨rfl,p3⟩
 obtain ⟨⟨t3,htq3,_,hTq3⟩,kr3⟩:=p3
 have b3:=hTq3 n3 hr2
 have htl3:t3≤tn+6:=by have:=HB2.out.2.1;omega
 have kq3:Kp (c.mdT T) w0 w3:=HB2.out.2.2.trans kr3
 clear hTq3 htq3 kr3 HB2 hr2 HC g4 g8 g9 g19 g28
 have g4:=b3.a.c (k:=4) rfl;have g8:=b3.a.c (k:=8) rfl;have g9:=b3.a.c (k:=9) rfl;have g19:=b3.a.c (k:=19) rfl;have g28:=b3.a.c (k:=28) rfl
 have HB3:Hid (Tn w3 c t3 T x n3 o2.m∧t3≤tn+6∧Kp (c.mdT T) w0 w3):=⟨b3,htl3,kq3⟩
 have HC3:=push_any w3 c t3 T x n3 o2.m b3 (x.sg 1).sel hcs (by omega)
 obtain ⟨o3,ho3⟩:∃ o,o=pushO o2.m n3 (x.sg 1).sel:=⟨_,rfl⟩
 rw [← ho3] at HC3
 clear b3 kq3
 cases hr3:o3.r with
 | inl f=>
  have HC:Hid (Calls Tryz.prog 149 #[.pointer (some ⟨T,0,none⟩),.int .u32 (x.sg 1).sel] w3 fun e w'=>e=.panicked (pan f)∧Py w3 c t3 T x o3 2 w'):=HC3.mono (fun e w' ⟨a,p⟩=>⟨by rw [a];unfold OE;rw [hr3],p⟩)
  have HS:Hid (full=⟨o3.m,.inl f⟩):=HS3.out.trans (pushes_no ho3 hr3)
  clear HC3 ho3 hr3 HS3
  go_wp2_with fail
  refine Calls.mono HC.out ?_;rintro e w' ⟨rfl,p⟩
  exact ⟨rfl,by rw [HS.out];rfl,by rw [HS.out];exact ((Py.after HB3.out.2.2 HB3.out.2.1 p).no rfl).more (by omega)⟩
 | inr n4=>
 have HC:Hid (Calls Tryz.prog 149 #[.pointer (some ⟨T,0,none⟩),.int .u32 (x.sg 1).sel] w3 fun e w'=>e=.returned (.tuple #[])∧Py w3 c t3 T x o3 2 w'):=HC3.mono (fun e w' ⟨a,p⟩=>⟨by rw [a];unfold OE;rw [hr3];rfl,p⟩)
 have HS4:Hid (full=pushesO o3.m n4 [x.ip,(cd%4294967296)]):=HS3.out.trans (pushes_ok ho3 hr3)
 clear HC3 ho3 HS3
 go_wp2_with fail
 refine Calls.mono HC.out ?_;rintro e w4 ⟨rfl,p4⟩
 obtain ⟨⟨t4,htq4,_,hTq4⟩,kr4⟩:=p4
 have b4:=hTq4 n4 hr3
 have htl4:t4≤tn+8:=by have:=HB3.out.2.1;omega
 have kq4:Kp (c.mdT T) w0 w4:=HB3.out.2.2.trans kr4
 clear hTq4 htq4 kr4 HB3 hr3 HC g4 g8 g9 g19 g28
 have g4:=b4.a.c (k:=4) rfl;have g8:=b4.a.c (k:=8) rfl;have g9:=b4.a.c (k:=9) rfl;have g19:=b4.a.c (k:=19) rfl;have g28:=b4.a.c (k:=28) rfl
 have HB4:Hid (Tn w4 c t4 T x n4 o3.m∧t4≤tn+8∧Kp (c.mdT T) w0 w4):=⟨b4,htl4,kq4⟩
 have HC4:=push_any w4 c t4 T x n4 o3.m b4 x.ip hip (by omega)
 obtain ⟨o4,ho4⟩:∃ o,o=pushO o3.m n4 x.ip:=⟨_,rfl⟩
 rw [← ho4] at HC4
 clear b4 kq4
 cases hr4:o4.r with
 | inl f=>
  have HC:Hid (Calls Tryz.prog 149 #[.pointer (some ⟨T,0,none⟩),.int .u32 x.ip] w4 fun e w'=>e=.panicked (pan f)∧Py w4 c t4 T x o4 2 w'):=HC4.mono (fun e w' ⟨a,p⟩=>⟨by rw [a];unfold OE;rw [hr4],p⟩)
  have HS:Hid (full=⟨o4.m,.inl f⟩):=HS4.out.trans (pushes_no ho4 hr4)
  clear HC4 ho4 hr4 HS4
  go_wp2_with fail
  refine Calls.mono HC.out ?_;rintro e w' ⟨rfl,p⟩
  exact ⟨rfl,by rw [HS.out];rfl,by rw [HS.out];exact ((Py.after HB4.out.2.2 HB4.out.2.1 p).no rfl).more (by omega)⟩
 | inr n5=>
 have HC:Hid (Calls Tryz.prog 149 #[.pointer (some ⟨T,0,none⟩),.int .u32 x.ip] w4 fun e w'=>e=.returned (.tuple #[])∧Py w4 c t4 T x o4 2 w'):=HC4.mono (fun e w' ⟨a,p⟩=>⟨by rw [a];unfold OE;rw [hr4];rfl,p⟩)
 have HS5:Hid (full=pushesO o4.m n5 [(cd%4294967296)]):=HS4.out.trans (pushes_ok ho4 hr4)
 clear HC4 ho4 HS4
 go_wp2_with fail
 refine Calls.mono HC.out ?_;rintro e w5 ⟨rfl,p5⟩
 obtain ⟨⟨t5,htq5,_,hTq5⟩,kr5⟩:=p5
 have b5:=hTq5 n5 hr4
 have htl5:t5≤tn+10:=by have:=HB4.out.2.1;omega
 have kq5:Kp (c.mdT T) w0 w5:=HB4.out.2.2.trans kr5
 clear hTq5 htq5 kr5 HB4 hr4 HC g4 g8 g9 g19 g28
 have g4:=b5.a.c (k:=4) rfl;have g8:=b5.a.c (k:=8) rfl;have g9:=b5.a.c (k:=9) rfl;have g19:=b5.a.c (k:=19) rfl;have g28:=b5.a.c (k:=28) rfl
 have HB5:Hid (Tn w5 c t5 T x n5 o4.m∧t5≤tn+10∧Kp (c.mdT T) w0 w5):=⟨b5,htl5,kq5⟩
 have HC5:=push_any w5 c t5 T x n5 o4.m b5 (cd%4294967296) hcd (by omega)
 obtain ⟨o5,ho5⟩:∃ o,o=pushO o4.m n5 (cd%4294967296):=⟨_,rfl⟩
 rw [← ho5] at HC5
 clear b5 kq5
 cases hr5:o5.r with
 | inl f=>
  have HC:Hid (Calls Tryz.prog 149 #[.pointer (some ⟨T,0,none⟩),.int .u32 (cd%4294967296)] w5 fun e w'=>e=.panicked (pan f)∧Py w5 c t5 T x o5 2 w'):=HC5.mono (fun e w' ⟨a,p⟩=>⟨by rw [a];unfold OE;rw [hr5],p⟩)
  have HS:Hid (full=⟨o5.m,.inl f⟩):=HS5.out.trans (pushes_no ho5 hr5)
  clear HC5 ho5 hr5 HS5
  go_wp2_with fail
  refine Calls.mono HC.out ?_;rintro e w' ⟨rfl,p⟩
  exact ⟨rfl,by rw [HS.out];rfl,by rw [HS.out];exact ((Py.after HB5.out.2.2 HB5.out.2.1 p).no rfl).more (by omega)⟩
 | inr n6=>
 have HC:Hid (Calls Tryz.prog 149 #[.pointer (some ⟨T,0,none⟩),.int .u32 (cd%4294967296)] w5 fun e w'=>e=.returned (.tuple #[])∧Py w5 c t5 T x o5 2 w'):=HC5.mono (fun e w' ⟨a,p⟩=>⟨by rw [a];unfold OE;rw [hr5];rfl,p⟩)
 have HS6:Hid (full=pushesO o5.m n6 []):=HS5.out.trans (pushes_ok ho5 hr5)
 clear HC5 ho5 HS5
 go_wp2_with fail
 refine Calls.mono HC.out ?_;rintro e w6 ⟨rfl,p6⟩
 obtain ⟨⟨t6,htq6,_,hTq6⟩,kr6⟩:=p6
 have b6:=hTq6 n6 hr5
 have htl6:t6≤tn+12:=by have:=HB5.out.2.1;omega
 have kq6:Kp (c.mdT T) w0 w6:=HB5.out.2.2.trans kr6
 clear hTq6 htq6 kr6 HB5 hr5 HC g4 g8 g9 g19 g28
 have HF:Hid (Py w0 c tn T x ⟨o5.m,.inr n6⟩ 12 w6):=⟨⟨t6,by omega,b6.a,fun n' e=>(by cases e;exact b6)⟩,kq6⟩
 have HE:Hid (full=⟨o5.m,.inr n6⟩):=HS6.out
 clear b6 kq6 HS6
 go_wp2
 go_end0
 exact ⟨by rw [HE.out];rfl,by rw [HE.out];exact HF.out⟩
theorem pushAll_any (w:World) (c:Ev) (tn T:Nat) (x n:Cu) (M:Mem) (h:Tn w c tn T x n M) (inr:Bool) (cd:Int) (htn:tn < 18446744073709551500):
  Calls Tryz.prog 75 #[.pointer (some ⟨T,0,none⟩),.bool inr,.int .i64 cd] w fun e w'=>e=OE vC (pushesO M n (wordsO x inr cd))∧Py w c tn T x (pushesO M n (wordsO x inr cd)) 12 w':=by
 unfold wordsO
 by_cases hc:0≤cd
 ·rw [if_pos hc]
  cases inr
  ·exact pushAll_ft w c tn T x n M h cd hc htn
  ·exact pushAll_tt w c tn T x n M h cd hc htn
 ·rw [if_neg hc]
  cases inr
  ·exact pushAll_ff w c tn T x n M h cd hc htn
  ·exact pushAll_tf w c tn T x n M h cd hc htn
end Go.Proofs.YtacgmoikegcopaaGreatDoor.Rm
