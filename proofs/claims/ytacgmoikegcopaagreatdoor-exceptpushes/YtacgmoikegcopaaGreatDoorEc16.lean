/- The bus and its devices: XcEnter2, XcFault, XcJoin. -/
import Derived.Test.YtacgmoikegcopaaGreatDoorEc15
import Derived.Test.YtacgmoikegcopaaGreatDoorEc14
import Derived.Test.YtacgmoikegcopaaGreatDoorEc06
namespace Go.Proofs.YtacgmoikegcopaaGreatDoor.Rm
open Go.ChangeShapes Go.WideShapes Go.ChangeAt Go.RowKit Go.Maps
set_option linter.unusedVariables false
set_option maxRecDepth 20000
set_option maxHeartbeats 16000000 in
theorem enter_soft (w:World) (c:Ev) (tn T:Nat) (x:Cu) (M:Mem) (h:Tn w c tn T x x M) (v cd:Int) (hv:0≤v∧v < 256) (htn:tn < 18446744073709551000):
  Calls Tryz.prog 28 #[.pointer (some ⟨T,0,none⟩),.int .i64 v,.int .i64 cd,.bool true] w fun e w'=>e=OE vC (enterO M x v cd true)∧Py w c tn T x (enterO M x v cd true) 40 w':=by
 have hd:decide (v < 0)=false:=decide_eq_false (by omega)
 have hd2:decide (256≤v)=false:=decide_eq_false (by omega)
 obtain ⟨v8,hv8⟩:∃ q,q=8*v:=⟨_,rfl⟩
 obtain ⟨v82,hv82⟩:∃ q,q=v8+2:=⟨_,rfl⟩
 have w1:IntKind.i64.wrap (8*v)=v8:=by have:=IntKind.wrap_i64 (8*v);omega
 have w2:IntKind.i64.wrap (v8+2)=v82:=by have:=IntKind.wrap_i64 (v8+2);omega
 obtain ⟨cg,hcg⟩:∃ q,q=v82+0:=⟨_,rfl⟩
 have w3:IntKind.i64.wrap v82=cg:=by have:=IntKind.wrap_i64 (v82+0);have:=IntKind.wrap_i64 v82;omega
 have hcv:cg=8*v+2+0:=by omega
 have HC1:=gate_any w c tn T x x M h v cg true hv (by clear w1 w2 w3;omega)
 have f1:=fine_gate h.a.v.ram.rdB x v true cg
 obtain ⟨o1,ho1⟩:∃ q,q=gateO M x v true cg:=⟨_,rfl⟩
 have hG1:enterO M x v cd true=o1.bind fun M g=>(handO M x g 0).bind fun M d=>enterB M x g d cd true:=enter_gh (by omega) (by rw [ho1,hcv];rfl)
 rw [← ho1] at HC1 f1
 have HH:Hid (Tn w c tn T x x M):=h
 clear h ho1 hv hcg hcv hv8 hv82
 cases hr1:o1.r with
 | inl f=>
  have HC:Hid (Calls Tryz.prog 71 #[.pointer (some ⟨T,0,none⟩),.int .i64 v,.bool true,.int .i64 cg] w fun e w'=>e=.panicked (pan f)∧Px w c tn T x x o1.m 4 w'):=HC1.mono (fun e w' ⟨a,p⟩=>⟨by rw [a];unfold OE;rw [hr1],p⟩)
  have HS:Hid (enterO M x v cd true=⟨o1.m,.inl f⟩):=hid_eq (by rw [hG1];unfold Ou.bind;rw [hr1])
  clear HC1 f1 hG1 hr1
  go_enter Tryz.func28,Tryz.ntmps28
  go_wp2_with fail
  refine Calls.mono HC.out ?_;rintro e w2' ⟨rfl,p2⟩
  exact ⟨rfl,by rw [HS.out];rfl,by rw [HS.out];exact (Px.py (o:=⟨o1.m,.inl f⟩) p2 (fun n' e=>by cases e)).more (by omega)⟩
 | inr g=>
  have HC:Hid (Calls Tryz.prog 71 #[.pointer (some ⟨T,0,none⟩),.int .i64 v,.bool true,.int .i64 cg] w fun e w'=>e=.returned (.agg #[.int .u16 g.s,.int .u32 g.pl,.int .i64 g.k,.int .i64 g.r,.bool g.p])∧Px w c tn T x x o1.m 4 w'):=HC1.mono (fun e w' ⟨a,p⟩=>⟨by rw [a];unfold OE;rw [hr1];rfl,p⟩)
  have gok:=f1.ok g hr1
  have f2:=fine_hand f1.rd x g 0
  have HH2:Hid (∀ W t,t≤tn+4→Tn W c t T x x o1.m→Calls Tryz.prog 72 #[.pointer (some ⟨T,0,none⟩),.agg #[.int .u16 g.s,.int .u32 g.pl,.int .i64 g.k,.int .i64 g.r,.bool g.p],.int .i64 0] W fun e w'=>e=OE Dsc.val (handO o1.m x g 0)∧Px W c t T x x (handO o1.m x g 0).m 4 w'):=fun W t ht q=>hand_any W c t T x x o1.m q g gok 0 (by decide) (by have:=htn;clear w1 w2 w3;omega)
  obtain ⟨o2,ho2⟩:∃ q,q=handO o1.m x g 0:=⟨_,rfl⟩
  have hG2:enterO M x v cd true=o2.bind fun M d=>enterB M x g d cd true:=by rw [hG1,ho2];unfold Ou.bind;rw [hr1]
  rw [← ho2] at f2 HH2
  have HGk:Hid g.Ok:=gok
  clear HC1 f1 hG1 hr1 ho2 gok
  cases hr2:o2.r with
  | inl f=>
   have HC2:Hid (∀ W t,t≤tn+4→Tn W c t T x x o1.m→Calls Tryz.prog 72 #[.pointer (some ⟨T,0,none⟩),.agg #[.int .u16 g.s,.int .u32 g.pl,.int .i64 g.k,.int .i64 g.r,.bool g.p],.int .i64 0] W fun e w'=>e=.panicked (pan f)∧Px W c t T x x o2.m 4 w'):=fun W t ht q=>(HH2.out W t ht q).mono (fun e w' ⟨a,p⟩=>⟨by rw [a];unfold OE;rw [hr2],p⟩)
   have HS:Hid (enterO M x v cd true=⟨o2.m,.inl f⟩):=hid_eq (by rw [hG2];unfold Ou.bind;rw [hr2])
   clear HH2 f2 hG2 hr2
   go_enter Tryz.func28,Tryz.ntmps28
   go_wp2_with fail
   refine Calls.mono HC.out ?_;rintro e w2' ⟨rfl,p2⟩
   obtain ⟨⟨t2,ht2,b2⟩,kk2⟩:=p2
   have hc2:=HC2.out _ t2 ht2 (b2.kp0 (Kp.alloc noB w2' (.cells #[.int .u16 g.s,.int .u32 g.pl,.int .i64 g.k,.int .i64 g.r,.bool g.p] 156)))
   clear b2
   go_wp2_with fail
   refine Calls.mono hc2 ?_;rintro e w3' ⟨rfl,p3⟩
   have kw:Kp (c.mdT T) w (w2'.alloc (.cells #[.int .u16 g.s,.int .u32 g.pl,.int .i64 g.k,.int .i64 g.r,.bool g.p] 156)):=(kk2.mono (fun _ _ f=>.inl f)).trans ((Kp.alloc noB w2' _).mono (fun _ _ f=>f.elim))
   exact ⟨rfl,by rw [HS.out];rfl,by rw [HS.out];exact (Py.after kw ht2 (Px.py (o:=⟨o2.m,.inl f⟩) p3 (fun n' e=>by cases e))).more (by omega)⟩
  | inr d=>
   have HC2:Hid (∀ W t,t≤tn+4→Tn W c t T x x o1.m→Calls Tryz.prog 72 #[.pointer (some ⟨T,0,none⟩),.agg #[.int .u16 g.s,.int .u32 g.pl,.int .i64 g.k,.int .i64 g.r,.bool g.p],.int .i64 0] W fun e w'=>e=.returned (.agg #[.int .u32 d.b,.int .u32 d.l,.int .i64 d.t,.bool d.s,.int .i64 d.d,.bool d.p,.bool d.g])∧Px W c t T x x o2.m 4 w'):=fun W t ht q=>(HH2.out W t ht q).mono (fun e w' ⟨a,p⟩=>⟨by rw [a];unfold OE;rw [hr2];rfl,p⟩)
   have hG3:enterO M x v cd true=enterB o2.m x g d cd true:=by rw [hG2];unfold Ou.bind;rw [hr2]
   have dok:=f2.ok d hr2
   have q4:=t_and4 dok.t
   have hrg:0≤x.rg∧x.rg < 4:=by unfold Cu.rg;omega
   obtain ⟨rg,hrge⟩:∃ q,q=x.rg:=⟨_,rfl⟩
   have HRGE:Hid (rg=x.rg):=hrge
   rw [← hrge] at hrg
   have HRr:Hid (∀ W t N,Tn W c t T x x N→Calls Tryz.prog 73 #[.pointer (some ⟨T,0,none⟩)] W fun e w'=>e=.returned (.int .i64 rg)∧w'=W):=fun W t N q=>by
    rw [hrge]
    exact cRg_any W T c.E _ ⟨(q.a.ok.sg 1 (by decide)).ok.s0,(q.a.ok.sg 1 (by decide)).ok.s1⟩ q.t.e (q.a.c rfl) q.a.lt
   have HD:Hid d.Ok:=dok
   have HR4:Hid (0≤rg∧rg < 4):=hrg
   have HM2:Hid (RdB o2.m):=f2.rd
   clear HH2 f2 hG2 hr2 hrg hrge dok
   cases hin:innB x d with
   | false=>
   have hcase:decide (d.t / 4%2=0)=false∨(decide (d.t / 4%2=0)=true∧decide (d.d < rg)=false):=by
    unfold innB at hin
    rw [← HRGE.out] at hin
    cases h1:decide (d.t / 4%2=0) with
    | false=>exact .inl rfl
    | true=>rw [h1,Bool.true_and] at hin;exact .inr ⟨rfl,hin⟩
   rcases hcase with hcase | ⟨hcase,hcase2⟩
   ·have b1:decide (d.t / 4%2=0)=false:=by assumption
    rw [b1] at q4
    have HG4:Hid (enterO M x v cd true=(pushesO o2.m (toCs x g d rg) (wordsO x false cd)).bind fun M n=>.ok M (endD x n g)):=hid_eq (by
     rw [hG3];unfold enterB
     rw [hin]
     have e:rgN x d=rg:=by unfold rgN;rw [hin,HRGE.out];rfl
     rw [e];rfl)
    clear hG3 hin hcase
    go_enter Tryz.func28,Tryz.ntmps28
    go_wp2_with fail
    refine Calls.mono HC.out ?_;rintro e w2' ⟨rfl,p2⟩
    obtain ⟨⟨t2,ht2,b2⟩,kk2⟩:=p2
    obtain ⟨G,hG⟩:∃ G,G=w2'.heap.size:=⟨_,rfl⟩
    obtain ⟨W3,hW3⟩:∃ W,W=w2'.alloc (.cells #[.int .u16 g.s,.int .u32 g.pl,.int .i64 g.k,.int .i64 g.r,.bool g.p] 156):=⟨_,rfl⟩
    have g3:GtAt W3 G g:=by rw [hW3,hG];exact (MapKept.heap_alloc w2' _).1
    have k23:Kp noB w2' W3:=by rw [hW3];exact Kp.alloc _ _ _
    have b3:=b2.kp0 k23
    obtain ⟨m0,m1,m2,m3,m4⟩:=g3.c
    have hc2:=HC2.out W3 t2 ht2 b3
    have nG:¬ c.mdT T G:=fun e=>by have:=b2.ne e;omega
    clear b2 b3
    go_wp2_with fail
    rw [← hW3,← hG]
    clear hW3 hG
    refine Calls.mono hc2 ?_;rintro e w4' ⟨rfl,p4⟩
    obtain ⟨⟨t4,ht4,b4⟩,kk4⟩:=p4
    obtain ⟨F,hF⟩:∃ F,F=w4'.heap.size:=⟨_,rfl⟩
    obtain ⟨W5,hW5⟩:∃ W,W=w4'.alloc (.cells #[.int .u32 d.b,.int .u32 d.l,.int .i64 d.t,.bool d.s,.int .i64 d.d,.bool d.p,.bool d.g] 26):=⟨_,rfl⟩
    have d5:DsAt W5 F d:=by rw [hW5,hF];exact (MapKept.heap_alloc w4' _).1
    have k45:Kp noB w4' W5:=by rw [hW5];exact Kp.alloc _ _ _
    have b5:=b4.kp0 k45
    have g5:=(g3.kp kk4 (fun f=>nG (.inl f))).kp k45 id
    have nF:¬ c.mdT T F:=fun e=>by have:=b4.ne e;omega
    have kw5:Kp (c.mdT T) w W5:=(((kk2.mono (fun _ _ f=>.inl f)).trans (k23.mono (fun _ _ f=>f.elim))).trans (kk4.mono (fun _ _ f=>.inl f))).trans (k45.mono (fun _ _ f=>f.elim))
    have HP5:Hid (Tn W5 c t4 T x x o2.m∧t4≤tn+8∧Kp (c.mdT T) w W5):=⟨b5,by omega,kw5⟩
    have HN:Hid (GtAt W5 G g∧DsAt W5 F d∧¬ c.mdT T G∧¬ c.mdT T F):=⟨g5,d5,nG,nF⟩
    have hrr:=HRr.out W5 t4 o2.m b5
    obtain ⟨p0,p1,p2,p3,p4,p5,p6⟩:=d5.c
    clear b4 b5 g3 g5 d5 k45 k23 kk2 kk4 kw5 m0 m1 m2 m3 m4 hc2 ht4 ht2 nG nF
    go_wp2_with fail
    rw [← hW5,← hF]
    clear hW5 hF
    refine Calls.mono hrr ?_;rintro e w' ⟨rfl,hw⟩;replace hw:=hw.symm;subst hw
    clear hrr HC HC2 HRr
    have HNG:Hid (¬ c.mdT T G):=HN.out.2.2.1
    have HGD:Hid (GtAt W5 G g∧DsAt W5 F d):=⟨HN.out.1,HN.out.2.1⟩
    have HB:Hid (Tn W5 c t4 T x x o2.m∧t4≤tn+16∧Kp (c.mdT T) w W5):=⟨HP5.out.1,by have:=HP5.out.2.1;omega,HP5.out.2.2⟩
    have HRV:Hid (0≤rg∧rg < 4):=HR4.out
    go_upto_region 12 with fail
    clear p0 p1 p2 p3 p4 p5 p6
    obtain ⟨i0,i1,i2,i3,i4⟩:=GtAt.c HGD.out.1
    obtain ⟨p0,p1,p2,p3,p4,p5,p6⟩:=DsAt.c HGD.out.2
    obtain ⟨sl,hsl⟩:∃ q,q=cdO g.s+rg:=⟨_,rfl⟩
    obtain ⟨cds,hcds⟩:∃ q,q=cdO g.s:=⟨_,rfl⟩
    have n3:bits .andNot .u16 g.s 3=cds:=by rw [hcds];exact s_not3 HGk.out.s
    have n4:IntKind.u16.wrap rg=rg:=by have:=IntKind.wrap_u16 rg;have:=HRV.out;omega
    have n5:bits .or .u16 cds rg=sl:=by rw [hsl,hcds];exact s_or HGk.out.s HRV.out
    have hsg:(d.sg sl).Wf:=HD.out.sg (by have:=HGk.out.s.1;have:=HGk.out.s.2;have:=HRV.out;rw [hsl];unfold cdO U16;omega)
    obtain ⟨sg,hsge⟩:∃ s,s=d.sg sl:=⟨_,rfl⟩
    have ht6:=Tn.cs HB.out.1 (by rw [hsge];exact hsg:sg.Wf)
    have HK6:Hid (Kp (c.mdT T) w (putCs W5 T sg).drew):=(HB.out.2.2.trans (ht6.2.mono (fun _ _ f=>.inr f))).trans ((Kp.refl noB _).drew.mono (fun _ _ f=>f.elim))
    have HPA:=pushAll_any (putCs W5 T sg).drew c t4 T x _ o2.m (ht6.1.kp0 (Kp.refl noB _).drew) false cd (by have:=HB.out.2.1;clear w1 w2 w3;omega)
    obtain ⟨o5,ho5⟩:∃ q,q=pushesO o2.m (Cu.setS x 1 sg) (wordsO x false cd):=⟨_,rfl⟩
    have hG5:enterO M x v cd true=o5.bind fun M n=>.ok M (endD x n g):=by rw [HG4.out,ho5,hsge,hsl];rfl
    rw [← ho5] at HPA
    have c0:=HB.out.1.t.c (k:=20) rfl;have c1:=HB.out.1.t.c (k:=21) rfl;have c2:=HB.out.1.t.c (k:=22) rfl;have c3:=HB.out.1.t.c (k:=23) rfl;have c4:=HB.out.1.t.c (k:=24) rfl;have c5:=HB.out.1.t.c (k:=25) rfl;have c6:=HB.out.1.t.c (k:=26) rfl;have c7:=HB.out.1.t.c (k:=27) rfl;have c8:=HB.out.1.t.c (k:=28) rfl
    have z0:=HB.out.1.t.fz 20;have z1:=HB.out.1.t.fz 21;have z2:=HB.out.1.t.fz 22;have z3:=HB.out.1.t.fz 23;have z4:=HB.out.1.t.fz 24;have z5:=HB.out.1.t.fz 25;have z6:=HB.out.1.t.fz 26;have z7:=HB.out.1.t.fz 27;have z8:=HB.out.1.t.fz 28
    have HTS:Hid (t4≤tn+16):=HB.out.2.1
    have hgd6:GtAt (putCs W5 T sg).drew G g:=(GtAt.kp HGD.out.1 (kp_putCs W5 T sg) (fun e=>HNG.out (.inr e))).kp (Kp.refl noB _).drew id
    have HG6:Hid _:=hgd6
    clear ht6 hsg hcds hsl ho5 hgd6
    cases hr5:o5.r with
    | inl f=>
     have HPB:Hid (Calls Tryz.prog 75 #[.pointer (some ⟨T,0,none⟩),.bool false,.int .i64 cd] (putCs W5 T sg).drew fun e w'=>e=.panicked (pan f)∧Py (putCs W5 T sg).drew c t4 T x o5 12 w'):=HPA.mono (fun e w' ⟨a,p⟩=>⟨by rw [a];unfold OE;rw [hr5],p⟩)
     have HS:Hid (enterO M x v cd true=⟨o5.m,.inl f⟩):=hid_eq (by rw [hG5];unfold Ou.bind;rw [hr5])
     clear HPA hG5 hr5 HG6
     rw [hsge] at HPB HK6
     unfold putCs Dsc.sg at HPB HK6
     simp only at HPB HK6
     clear hsge HB HGD
     go_region
     go_wp2_with fail
     refine Calls.mono HPB.out ?_;rintro e w' ⟨rfl,p⟩
     exact ⟨rfl,by rw [HS.out];rfl,by rw [HS.out];exact ((Py.after HK6.out HTS.out p).no rfl).more (by omega)⟩
    | inr n5'=>
     have HPB:Hid (Calls Tryz.prog 75 #[.pointer (some ⟨T,0,none⟩),.bool false,.int .i64 cd] (putCs W5 T sg).drew fun e w'=>e=.returned (.tuple #[])∧(∃ t,t≤t4+12∧Tn w' c t T x n5' o5.m)∧Kp (c.mdT T) (putCs W5 T sg).drew w'):=HPA.mono (fun e w' ⟨a,p⟩=>⟨by rw [a];unfold OE;rw [hr5];rfl,by obtain ⟨⟨t,ht,_,hq⟩,kk⟩:=p;exact ⟨⟨t,ht,hq n5' hr5⟩,kk⟩⟩)
     have HS:Hid (enterO M x v cd true=⟨o5.m,.inr (endD x n5' g)⟩):=hid_eq (by rw [hG5];unfold Ou.bind;rw [hr5];rfl)
     clear HPA hG5 hr5
     rw [hsge] at HPB HK6 HG6
     unfold putCs Dsc.sg at HPB HK6 HG6
     simp only at HPB HK6 HG6
     clear hsge HB HGD
     go_region
     go_wp2_with fail
     refine Calls.mono HPB.out ?_;rintro e w7 ⟨rfl,⟨t7,ht7,b7⟩,k7⟩
     have g7:=GtAt.kp HG6.out k7 HNG.out
     obtain ⟨y0,y1,y2,y3,y4⟩:=g7.c
     have q9:=b7.t.c (k:=9) rfl;have q10:=b7.t.c (k:=10) rfl;have q81:=b7.t.c (k:=81) rfl;have q82:=b7.t.c (k:=82) rfl
     have r9:=b7.t.fz 9;have r10:=b7.t.fz 10;have r81:=b7.t.fz 81;have r82:=b7.t.fz 82
     have hfl:=b7.ok.fl
     have hfa:=andNot_bd hfl.1 hfl.2 (b:=16640) (by decide) (by decide)
     have hfb:=andNot_bd hfa.1 hfa.2 (b:=512) (by decide) (by decide)
     have hw7:Kp (c.mdT T) w w7:=HK6.out.trans k7
     have ht7':t7≤tn+40:=by have:=HTS.out;omega
     have HB7:Hid (Tn w7 c t7 T x n5' o5.m∧Kp (c.mdT T) w w7∧t7≤tn+40):=⟨b7,hw7,ht7'⟩
     clear g7 k7 b7 hw7 ht7 HPB HG6 HK6 i0 i1 i2 i3 i4 p0 p1 p2 p3 p4 p5 p6 c0 c1 c2 c3 c4 c5 c6 c7 c8 z0 z1 z2 z3 z4 z5 z6 z7 z8
     by_cases hk:g.k=14
     ·have b14:(g.k==14)=true:=by simpa using hk
      have hf:=Tn.fin2 HB7.out.1 HGk.out.pl (bits .andNot .u32 n5'.fl 16640) hfb
      have HF:Hid (Py w c tn T x ⟨o5.m,.inr (endD x n5' g)⟩ 40 _):=⟨⟨t7,HB7.out.2.2,hf.1.a,fun n' e=>(by cases e;have:=hf.1;unfold endD flD;rw [if_pos hk];exact this)⟩,HB7.out.2.1.trans (hf.2.mono (fun _ _ f=>.inr f))⟩
      clear hf hfl hfa hfb hk
      go_wp2
      go_end0
      exact ⟨by rw [HS.out];rfl,by rw [HS.out];exact HF.out⟩
     ·have b14:(g.k==14)=false:=by simpa using hk
      have hf:=Tn.fin HB7.out.1 HGk.out.pl hfa
      have HF:Hid (Py w c tn T x ⟨o5.m,.inr (endD x n5' g)⟩ 40 _):=⟨⟨t7,HB7.out.2.2,hf.1.a,fun n' e=>(by cases e;have:=hf.1;unfold endD flD;rw [if_neg hk];exact this)⟩,HB7.out.2.1.trans (hf.2.mono (fun _ _ f=>.inr f))⟩
      clear hf hfl hfa hfb hk
      go_wp2
      go_end0
      exact ⟨by rw [HS.out];rfl,by rw [HS.out];exact HF.out⟩
   ·have b1:decide (d.t / 4%2=0)=true:=by assumption
    rw [b1] at q4
    have b2:decide (d.d < rg)=false:=by assumption
    have HG4:Hid (enterO M x v cd true=(pushesO o2.m (toCs x g d rg) (wordsO x false cd)).bind fun M n=>.ok M (endD x n g)):=hid_eq (by
     rw [hG3];unfold enterB
     rw [hin]
     have e:rgN x d=rg:=by unfold rgN;rw [hin,HRGE.out];rfl
     rw [e];rfl)
    clear hG3 hin hcase hcase2
    go_enter Tryz.func28,Tryz.ntmps28
    go_wp2_with fail
    refine Calls.mono HC.out ?_;rintro e w2' ⟨rfl,p2⟩
    obtain ⟨⟨t2,ht2,b2⟩,kk2⟩:=p2
    obtain ⟨G,hG⟩:∃ G,G=w2'.heap.size:=⟨_,rfl⟩
    obtain ⟨W3,hW3⟩:∃ W,W=w2'.alloc (.cells #[.int .u16 g.s,.int .u32 g.pl,.int .i64 g.k,.int .i64 g.r,.bool g.p] 156):=⟨_,rfl⟩
    have g3:GtAt W3 G g:=by rw [hW3,hG];exact (MapKept.heap_alloc w2' _).1
    have k23:Kp noB w2' W3:=by rw [hW3];exact Kp.alloc _ _ _
    have b3:=b2.kp0 k23
    obtain ⟨m0,m1,m2,m3,m4⟩:=g3.c
    have hc2:=HC2.out W3 t2 ht2 b3
    have nG:¬ c.mdT T G:=fun e=>by have:=b2.ne e;omega
    clear b2 b3
    go_wp2_with fail
    rw [← hW3,← hG]
    clear hW3 hG
    refine Calls.mono hc2 ?_;rintro e w4' ⟨rfl,p4⟩
    obtain ⟨⟨t4,ht4,b4⟩,kk4⟩:=p4
    obtain ⟨F,hF⟩:∃ F,F=w4'.heap.size:=⟨_,rfl⟩
    obtain ⟨W5,hW5⟩:∃ W,W=w4'.alloc (.cells #[.int .u32 d.b,.int .u32 d.l,.int .i64 d.t,.bool d.s,.int .i64 d.d,.bool d.p,.bool d.g] 26):=⟨_,rfl⟩
    have d5:DsAt W5 F d:=by rw [hW5,hF];exact (MapKept.heap_alloc w4' _).1
    have k45:Kp noB w4' W5:=by rw [hW5];exact Kp.alloc _ _ _
    have b5:=b4.kp0 k45
    have g5:=(g3.kp kk4 (fun f=>nG (.inl f))).kp k45 id
    have nF:¬ c.mdT T F:=fun e=>by have:=b4.ne e;omega
    have kw5:Kp (c.mdT T) w W5:=(((kk2.mono (fun _ _ f=>.inl f)).trans (k23.mono (fun _ _ f=>f.elim))).trans (kk4.mono (fun _ _ f=>.inl f))).trans (k45.mono (fun _ _ f=>f.elim))
    have HP5:Hid (Tn W5 c t4 T x x o2.m∧t4≤tn+8∧Kp (c.mdT T) w W5):=⟨b5,by omega,kw5⟩
    have HN:Hid (GtAt W5 G g∧DsAt W5 F d∧¬ c.mdT T G∧¬ c.mdT T F):=⟨g5,d5,nG,nF⟩
    have hrr:=HRr.out W5 t4 o2.m b5
    obtain ⟨p0,p1,p2,p3,p4,p5,p6⟩:=d5.c
    clear b4 b5 g3 g5 d5 k45 k23 kk2 kk4 kw5 m0 m1 m2 m3 m4 hc2 ht4 ht2 nG nF
    go_wp2_with fail
    rw [← hW5,← hF]
    clear hW5 hF
    refine Calls.mono hrr ?_;rintro e w' ⟨rfl,hw⟩;replace hw:=hw.symm;subst hw
    clear hrr HC HC2 HRr
    have HNG:Hid (¬ c.mdT T G):=HN.out.2.2.1
    have HGD:Hid (GtAt W5 G g∧DsAt W5 F d):=⟨HN.out.1,HN.out.2.1⟩
    have HB:Hid (Tn W5 c t4 T x x o2.m∧t4≤tn+16∧Kp (c.mdT T) w W5):=⟨HP5.out.1,by have:=HP5.out.2.1;omega,HP5.out.2.2⟩
    have HRV:Hid (0≤rg∧rg < 4):=HR4.out
    go_upto_region 12 with fail
    clear p0 p1 p2 p3 p4 p5 p6
    obtain ⟨i0,i1,i2,i3,i4⟩:=GtAt.c HGD.out.1
    obtain ⟨p0,p1,p2,p3,p4,p5,p6⟩:=DsAt.c HGD.out.2
    obtain ⟨sl,hsl⟩:∃ q,q=cdO g.s+rg:=⟨_,rfl⟩
    obtain ⟨cds,hcds⟩:∃ q,q=cdO g.s:=⟨_,rfl⟩
    have n3:bits .andNot .u16 g.s 3=cds:=by rw [hcds];exact s_not3 HGk.out.s
    have n4:IntKind.u16.wrap rg=rg:=by have:=IntKind.wrap_u16 rg;have:=HRV.out;omega
    have n5:bits .or .u16 cds rg=sl:=by rw [hsl,hcds];exact s_or HGk.out.s HRV.out
    have hsg:(d.sg sl).Wf:=HD.out.sg (by have:=HGk.out.s.1;have:=HGk.out.s.2;have:=HRV.out;rw [hsl];unfold cdO U16;omega)
    obtain ⟨sg,hsge⟩:∃ s,s=d.sg sl:=⟨_,rfl⟩
    have ht6:=Tn.cs HB.out.1 (by rw [hsge];exact hsg:sg.Wf)
    have HK6:Hid (Kp (c.mdT T) w (putCs W5 T sg).drew):=(HB.out.2.2.trans (ht6.2.mono (fun _ _ f=>.inr f))).trans ((Kp.refl noB _).drew.mono (fun _ _ f=>f.elim))
    have HPA:=pushAll_any (putCs W5 T sg).drew c t4 T x _ o2.m (ht6.1.kp0 (Kp.refl noB _).drew) false cd (by have:=HB.out.2.1;clear w1 w2 w3;omega)
    obtain ⟨o5,ho5⟩:∃ q,q=pushesO o2.m (Cu.setS x 1 sg) (wordsO x false cd):=⟨_,rfl⟩
    have hG5:enterO M x v cd true=o5.bind fun M n=>.ok M (endD x n g):=by rw [HG4.out,ho5,hsge,hsl];rfl
    rw [← ho5] at HPA
    have c0:=HB.out.1.t.c (k:=20) rfl;have c1:=HB.out.1.t.c (k:=21) rfl;have c2:=HB.out.1.t.c (k:=22) rfl;have c3:=HB.out.1.t.c (k:=23) rfl;have c4:=HB.out.1.t.c (k:=24) rfl;have c5:=HB.out.1.t.c (k:=25) rfl;have c6:=HB.out.1.t.c (k:=26) rfl;have c7:=HB.out.1.t.c (k:=27) rfl;have c8:=HB.out.1.t.c (k:=28) rfl
    have z0:=HB.out.1.t.fz 20;have z1:=HB.out.1.t.fz 21;have z2:=HB.out.1.t.fz 22;have z3:=HB.out.1.t.fz 23;have z4:=HB.out.1.t.fz 24;have z5:=HB.out.1.t.fz 25;have z6:=HB.out.1.t.fz 26;have z7:=HB.out.1.t.fz 27;have z8:=HB.out.1.t.fz 28
    have HTS:Hid (t4≤tn+16):=HB.out.2.1
    have hgd6:GtAt (putCs W5 T sg).drew G g:=(GtAt.kp HGD.out.1 (kp_putCs W5 T sg) (fun e=>HNG.out (.inr e))).kp (Kp.refl noB _).drew id
    have HG6:Hid _:=hgd6
    clear ht6 hsg hcds hsl ho5 hgd6
    cases hr5:o5.r with
    | inl f=>
     have HPB:Hid (Calls Tryz.prog 75 #[.pointer (some ⟨T,0,none⟩),.bool false,.int .i64 cd] (putCs W5 T sg).drew fun e w'=>e=.panicked (pan f)∧Py (putCs W5 T sg).drew c t4 T x o5 12 w'):=HPA.mono (fun e w' ⟨a,p⟩=>⟨by rw [a];unfold OE;rw [hr5],p⟩)
     have HS:Hid (enterO M x v cd true=⟨o5.m,.inl f⟩):=hid_eq (by rw [hG5];unfold Ou.bind;rw [hr5])
     clear HPA hG5 hr5 HG6
     rw [hsge] at HPB HK6
     unfold putCs Dsc.sg at HPB HK6
     simp only at HPB HK6
     clear hsge HB HGD
     go_region
     go_wp2_with fail
     refine Calls.mono HPB.out ?_;rintro e w' ⟨rfl,p⟩
     exact ⟨rfl,by rw [HS.out];rfl,by rw [HS.out];exact ((Py.after HK6.out HTS.out p).no rfl).more (by omega)⟩
    | inr n5'=>
     have HPB:Hid (Calls Tryz.prog 75 #[.pointer (some ⟨T,0,none⟩),.bool false,.int .i64 cd] (putCs W5 T sg).drew fun e w'=>e=.returned (.tuple #[])∧(∃ t,t≤t4+12∧Tn w' c t T x n5' o5.m)∧Kp (c.mdT T) (putCs W5 T sg).drew w'):=HPA.mono (fun e w' ⟨a,p⟩=>⟨by rw [a];unfold OE;rw [hr5];rfl,by obtain ⟨⟨t,ht,_,hq⟩,kk⟩:=p;exact ⟨⟨t,ht,hq n5' hr5⟩,kk⟩⟩)
     have HS:Hid (enterO M x v cd true=⟨o5.m,.inr (endD x n5' g)⟩):=hid_eq (by rw [hG5];unfold Ou.bind;rw [hr5];rfl)
     clear HPA hG5 hr5
     rw [hsge] at HPB HK6 HG6
     unfold putCs Dsc.sg at HPB HK6 HG6
     simp only at HPB HK6 HG6
     clear hsge HB HGD
     go_region
     go_wp2_with fail
     refine Calls.mono HPB.out ?_;rintro e w7 ⟨rfl,⟨t7,ht7,b7⟩,k7⟩
     have g7:=GtAt.kp HG6.out k7 HNG.out
     obtain ⟨y0,y1,y2,y3,y4⟩:=g7.c
     have q9:=b7.t.c (k:=9) rfl;have q10:=b7.t.c (k:=10) rfl;have q81:=b7.t.c (k:=81) rfl;have q82:=b7.t.c (k:=82) rfl
     have r9:=b7.t.fz 9;have r10:=b7.t.fz 10;have r81:=b7.t.fz 81;have r82:=b7.t.fz 82
     have hfl:=b7.ok.fl
     have hfa:=andNot_bd hfl.1 hfl.2 (b:=16640) (by decide) (by decide)
     have hfb:=andNot_bd hfa.1 hfa.2 (b:=512) (by decide) (by decide)
     have hw7:Kp (c.mdT T) w w7:=HK6.out.trans k7
     have ht7':t7≤tn+40:=by have:=HTS.out;omega
     have HB7:Hid (Tn w7 c t7 T x n5' o5.m∧Kp (c.mdT T) w w7∧t7≤tn+40):=⟨b7,hw7,ht7'⟩
     clear g7 k7 b7 hw7 ht7 HPB HG6 HK6 i0 i1 i2 i3 i4 p0 p1 p2 p3 p4 p5 p6 c0 c1 c2 c3 c4 c5 c6 c7 c8 z0 z1 z2 z3 z4 z5 z6 z7 z8
     by_cases hk:g.k=14
     ·have b14:(g.k==14)=true:=by simpa using hk
      have hf:=Tn.fin2 HB7.out.1 HGk.out.pl (bits .andNot .u32 n5'.fl 16640) hfb
      have HF:Hid (Py w c tn T x ⟨o5.m,.inr (endD x n5' g)⟩ 40 _):=⟨⟨t7,HB7.out.2.2,hf.1.a,fun n' e=>(by cases e;have:=hf.1;unfold endD flD;rw [if_pos hk];exact this)⟩,HB7.out.2.1.trans (hf.2.mono (fun _ _ f=>.inr f))⟩
      clear hf hfl hfa hfb hk
      go_wp2
      go_end0
      exact ⟨by rw [HS.out];rfl,by rw [HS.out];exact HF.out⟩
     ·have b14:(g.k==14)=false:=by simpa using hk
      have hf:=Tn.fin HB7.out.1 HGk.out.pl hfa
      have HF:Hid (Py w c tn T x ⟨o5.m,.inr (endD x n5' g)⟩ 40 _):=⟨⟨t7,HB7.out.2.2,hf.1.a,fun n' e=>(by cases e;have:=hf.1;unfold endD flD;rw [if_neg hk];exact this)⟩,HB7.out.2.1.trans (hf.2.mono (fun _ _ f=>.inr f))⟩
      clear hf hfl hfa hfb hk
      go_wp2
      go_end0
      exact ⟨by rw [HS.out];rfl,by rw [HS.out];exact HF.out⟩
   | true=>
    have b12:decide (d.t / 4%2=0)=true∧decide (d.d < rg)=true:=by
     unfold innB at hin
     rw [← HRGE.out,Bool.and_eq_true] at hin
     exact hin
    obtain ⟨b1,b2⟩:=b12
    rw [b1] at q4
    have hdd:=HD.out.d
    have HTk:Hid (∀ W t,t≤tn+8→Tn W c t T x x o2.m→Calls Tryz.prog 74 #[.pointer (some ⟨T,0,none⟩),.int .i64 d.d,.int .i64 0] W fun e w'=>e=OE vC (takeO o2.m x x d.d 0)∧Py W c t T x (takeO o2.m x x d.d 0) 8 w'):=fun W t ht q=>take_any W c t T x x o2.m q d.d 0 hdd (by decide) (by have:=htn;clear w1 w2 w3;omega)
    obtain ⟨o3,ho3⟩:∃ q,q=takeO o2.m x x d.d 0:=⟨_,rfl⟩
    have hG4:enterO M x v cd true=o3.bind fun M n=>(pushesO M (toCs n g d d.d) (wordsO x true cd)).bind fun M n=>.ok M (endD x n g):=by
     rw [hG3];unfold enterB
     rw [hin]
     have e:rgN x d=d.d:=by unfold rgN;rw [hin];rfl
     rw [e,ho3];rfl
    rw [← ho3] at HTk
    clear hG3 hin ho3 hdd
    cases hr3:o3.r with
    | inl f=>
    have HTk2:Hid (∀ W t,t≤tn+8→Tn W c t T x x o2.m→Calls Tryz.prog 74 #[.pointer (some ⟨T,0,none⟩),.int .i64 d.d,.int .i64 0] W fun e w'=>e=.panicked (pan f)∧Py W c t T x o3 8 w'):=fun W t ht q=>(HTk.out W t ht q).mono (fun e w' ⟨a,p⟩=>⟨by rw [a];unfold OE;rw [hr3],p⟩)
    have HS:Hid (enterO M x v cd true=⟨o3.m,.inl f⟩):=hid_eq (by rw [hG4];unfold Ou.bind;rw [hr3])
    clear HTk hG4 hr3
    go_enter Tryz.func28,Tryz.ntmps28
    go_wp2_with fail
    refine Calls.mono HC.out ?_;rintro e w2' ⟨rfl,p2⟩
    obtain ⟨⟨t2,ht2,b2⟩,kk2⟩:=p2
    obtain ⟨G,hG⟩:∃ G,G=w2'.heap.size:=⟨_,rfl⟩
    obtain ⟨W3,hW3⟩:∃ W,W=w2'.alloc (.cells #[.int .u16 g.s,.int .u32 g.pl,.int .i64 g.k,.int .i64 g.r,.bool g.p] 156):=⟨_,rfl⟩
    have g3:GtAt W3 G g:=by rw [hW3,hG];exact (MapKept.heap_alloc w2' _).1
    have k23:Kp noB w2' W3:=by rw [hW3];exact Kp.alloc _ _ _
    have b3:=b2.kp0 k23
    obtain ⟨m0,m1,m2,m3,m4⟩:=g3.c
    have hc2:=HC2.out W3 t2 ht2 b3
    have nG:¬ c.mdT T G:=fun e=>by have:=b2.ne e;omega
    clear b2 b3
    go_wp2_with fail
    rw [← hW3,← hG]
    clear hW3 hG
    refine Calls.mono hc2 ?_;rintro e w4' ⟨rfl,p4⟩
    obtain ⟨⟨t4,ht4,b4⟩,kk4⟩:=p4
    obtain ⟨F,hF⟩:∃ F,F=w4'.heap.size:=⟨_,rfl⟩
    obtain ⟨W5,hW5⟩:∃ W,W=w4'.alloc (.cells #[.int .u32 d.b,.int .u32 d.l,.int .i64 d.t,.bool d.s,.int .i64 d.d,.bool d.p,.bool d.g] 26):=⟨_,rfl⟩
    have d5:DsAt W5 F d:=by rw [hW5,hF];exact (MapKept.heap_alloc w4' _).1
    have k45:Kp noB w4' W5:=by rw [hW5];exact Kp.alloc _ _ _
    have b5:=b4.kp0 k45
    have g5:=(g3.kp kk4 (fun f=>nG (.inl f))).kp k45 id
    have nF:¬ c.mdT T F:=fun e=>by have:=b4.ne e;omega
    have kw5:Kp (c.mdT T) w W5:=(((kk2.mono (fun _ _ f=>.inl f)).trans (k23.mono (fun _ _ f=>f.elim))).trans (kk4.mono (fun _ _ f=>.inl f))).trans (k45.mono (fun _ _ f=>f.elim))
    have HP5:Hid (Tn W5 c t4 T x x o2.m∧t4≤tn+8∧Kp (c.mdT T) w W5):=⟨b5,by omega,kw5⟩
    have HN:Hid (GtAt W5 G g∧DsAt W5 F d∧¬ c.mdT T G∧¬ c.mdT T F):=⟨g5,d5,nG,nF⟩
    have hrr:=HRr.out W5 t4 o2.m b5
    obtain ⟨p0,p1,p2,p3,p4,p5,p6⟩:=d5.c
    clear b4 b5 g3 g5 d5 k45 k23 kk2 kk4 kw5 m0 m1 m2 m3 m4 hc2 ht4 ht2 nG nF
    go_wp2_with fail
    rw [← hW5,← hF]
    clear hW5 hF
    refine Calls.mono hrr ?_;rintro e w' ⟨rfl,hw⟩;replace hw:=hw.symm;subst hw
    clear hrr HC HC2 HRr
    have htk:=HTk2.out W5 t4 HP5.out.2.1 HP5.out.1
    go_wp2_with fail
    refine Calls.mono htk ?_;rintro e w6 ⟨rfl,p6'⟩
    exact ⟨rfl,by rw [HS.out];rfl,by rw [HS.out];exact ((Py.after HP5.out.2.2 HP5.out.2.1 p6').no rfl).more (by omega)⟩
    | inr nn=>
    have HTk2:Hid (∀ W t,t≤tn+8→Tn W c t T x x o2.m→Calls Tryz.prog 74 #[.pointer (some ⟨T,0,none⟩),.int .i64 d.d,.int .i64 0] W fun e w'=>e=.returned (.tuple #[])∧(∃ t',t'≤t+8∧Tn w' c t' T x nn o3.m)∧Kp (c.mdT T) W w'):=fun W t ht q=>(HTk.out W t ht q).mono (fun e w' ⟨a,p⟩=>⟨by rw [a];unfold OE;rw [hr3];rfl,by obtain ⟨⟨t,ht,_,hq⟩,kk⟩:=p;exact ⟨⟨t,ht,hq nn hr3⟩,kk⟩⟩)
    have HG4:Hid (enterO M x v cd true=(pushesO o3.m (toCs nn g d d.d) (wordsO x true cd)).bind fun M n=>.ok M (endD x n g)):=hid_eq (by rw [hG4];unfold Ou.bind;rw [hr3])
    clear HTk hG4 hr3
    go_enter Tryz.func28,Tryz.ntmps28
    go_wp2_with fail
    refine Calls.mono HC.out ?_;rintro e w2' ⟨rfl,p2⟩
    obtain ⟨⟨t2,ht2,b2⟩,kk2⟩:=p2
    obtain ⟨G,hG⟩:∃ G,G=w2'.heap.size:=⟨_,rfl⟩
    obtain ⟨W3,hW3⟩:∃ W,W=w2'.alloc (.cells #[.int .u16 g.s,.int .u32 g.pl,.int .i64 g.k,.int .i64 g.r,.bool g.p] 156):=⟨_,rfl⟩
    have g3:GtAt W3 G g:=by rw [hW3,hG];exact (MapKept.heap_alloc w2' _).1
    have k23:Kp noB w2' W3:=by rw [hW3];exact Kp.alloc _ _ _
    have b3:=b2.kp0 k23
    obtain ⟨m0,m1,m2,m3,m4⟩:=g3.c
    have hc2:=HC2.out W3 t2 ht2 b3
    have nG:¬ c.mdT T G:=fun e=>by have:=b2.ne e;omega
    clear b2 b3
    go_wp2_with fail
    rw [← hW3,← hG]
    clear hW3 hG
    refine Calls.mono hc2 ?_;rintro e w4' ⟨rfl,p4⟩
    obtain ⟨⟨t4,ht4,b4⟩,kk4⟩:=p4
    obtain ⟨F,hF⟩:∃ F,F=w4'.heap.size:=⟨_,rfl⟩
    obtain ⟨W5,hW5⟩:∃ W,W=w4'.alloc (.cells #[.int .u32 d.b,.int .u32 d.l,.int .i64 d.t,.bool d.s,.int .i64 d.d,.bool d.p,.bool d.g] 26):=⟨_,rfl⟩
    have d5:DsAt W5 F d:=by rw [hW5,hF];exact (MapKept.heap_alloc w4' _).1
    have k45:Kp noB w4' W5:=by rw [hW5];exact Kp.alloc _ _ _
    have b5:=b4.kp0 k45
    have g5:=(g3.kp kk4 (fun f=>nG (.inl f))).kp k45 id
    have nF:¬ c.mdT T F:=fun e=>by have:=b4.ne e;omega
    have kw5:Kp (c.mdT T) w W5:=(((kk2.mono (fun _ _ f=>.inl f)).trans (k23.mono (fun _ _ f=>f.elim))).trans (kk4.mono (fun _ _ f=>.inl f))).trans (k45.mono (fun _ _ f=>f.elim))
    have HP5:Hid (Tn W5 c t4 T x x o2.m∧t4≤tn+8∧Kp (c.mdT T) w W5):=⟨b5,by omega,kw5⟩
    have HN:Hid (GtAt W5 G g∧DsAt W5 F d∧¬ c.mdT T G∧¬ c.mdT T F):=⟨g5,d5,nG,nF⟩
    have hrr:=HRr.out W5 t4 o2.m b5
    obtain ⟨p0,p1,p2,p3,p4,p5,p6⟩:=d5.c
    clear b4 b5 g3 g5 d5 k45 k23 kk2 kk4 kw5 m0 m1 m2 m3 m4 hc2 ht4 ht2 nG nF
    go_wp2_with fail
    rw [← hW5,← hF]
    clear hW5 hF
    refine Calls.mono hrr ?_;rintro e w' ⟨rfl,hw⟩;replace hw:=hw.symm;subst hw
    clear hrr HC HC2 HRr
    have htk:=HTk2.out W5 t4 HP5.out.2.1 HP5.out.1
    go_wp2_with fail
    refine Calls.mono htk ?_;rintro e w6 ⟨rfl,⟨t6,ht6,b6⟩,k6⟩
    have HNG:Hid (¬ c.mdT T G):=HN.out.2.2.1
    have HGD:Hid (GtAt w6 G g∧DsAt w6 F d):=⟨GtAt.kp HN.out.1 k6 HN.out.2.2.1,DsAt.kp HN.out.2.1 k6 HN.out.2.2.2⟩
    have HB:Hid (Tn w6 c t6 T x nn o3.m∧t6≤tn+16∧Kp (c.mdT T) w w6):=⟨b6,by have:=HP5.out.2.1;omega,HP5.out.2.2.trans k6⟩
    have HRV:Hid (0≤d.d∧d.d < 4):=HD.out.d
    clear p0 p1 p2 p3 p4 p5 p6 htk b6 k6 ht6 HTk2
    go_upto_region 12 with fail
    obtain ⟨i0,i1,i2,i3,i4⟩:=GtAt.c HGD.out.1
    obtain ⟨p0,p1,p2,p3,p4,p5,p6⟩:=DsAt.c HGD.out.2
    obtain ⟨sl,hsl⟩:∃ q,q=cdO g.s+d.d:=⟨_,rfl⟩
    obtain ⟨cds,hcds⟩:∃ q,q=cdO g.s:=⟨_,rfl⟩
    have n3:bits .andNot .u16 g.s 3=cds:=by rw [hcds];exact s_not3 HGk.out.s
    have n4:IntKind.u16.wrap d.d=d.d:=by have:=IntKind.wrap_u16 d.d;have:=HRV.out;omega
    have n5:bits .or .u16 cds d.d=sl:=by rw [hsl,hcds];exact s_or HGk.out.s HRV.out
    have hsg:(d.sg sl).Wf:=HD.out.sg (by have:=HGk.out.s.1;have:=HGk.out.s.2;have:=HRV.out;rw [hsl];unfold cdO U16;omega)
    obtain ⟨sg,hsge⟩:∃ s,s=d.sg sl:=⟨_,rfl⟩
    have ht6:=Tn.cs HB.out.1 (by rw [hsge];exact hsg:sg.Wf)
    have HK6:Hid (Kp (c.mdT T) w (putCs w6 T sg).drew):=(HB.out.2.2.trans (ht6.2.mono (fun _ _ f=>.inr f))).trans ((Kp.refl noB _).drew.mono (fun _ _ f=>f.elim))
    have HPA:=pushAll_any (putCs w6 T sg).drew c t6 T x _ o3.m (ht6.1.kp0 (Kp.refl noB _).drew) true cd (by have:=HB.out.2.1;clear w1 w2 w3;omega)
    obtain ⟨o5,ho5⟩:∃ q,q=pushesO o3.m (Cu.setS nn 1 sg) (wordsO x true cd):=⟨_,rfl⟩
    have hG5:enterO M x v cd true=o5.bind fun M n=>.ok M (endD x n g):=by rw [HG4.out,ho5,hsge,hsl];rfl
    rw [← ho5] at HPA
    have c0:=HB.out.1.t.c (k:=20) rfl;have c1:=HB.out.1.t.c (k:=21) rfl;have c2:=HB.out.1.t.c (k:=22) rfl;have c3:=HB.out.1.t.c (k:=23) rfl;have c4:=HB.out.1.t.c (k:=24) rfl;have c5:=HB.out.1.t.c (k:=25) rfl;have c6:=HB.out.1.t.c (k:=26) rfl;have c7:=HB.out.1.t.c (k:=27) rfl;have c8:=HB.out.1.t.c (k:=28) rfl
    have z0:=HB.out.1.t.fz 20;have z1:=HB.out.1.t.fz 21;have z2:=HB.out.1.t.fz 22;have z3:=HB.out.1.t.fz 23;have z4:=HB.out.1.t.fz 24;have z5:=HB.out.1.t.fz 25;have z6:=HB.out.1.t.fz 26;have z7:=HB.out.1.t.fz 27;have z8:=HB.out.1.t.fz 28
    have HTS:Hid (t6≤tn+16):=HB.out.2.1
    have hgd6:GtAt (putCs w6 T sg).drew G g:=(GtAt.kp HGD.out.1 (kp_putCs w6 T sg) (fun e=>HNG.out (.inr e))).kp (Kp.refl noB _).drew id
    have HG6:Hid _:=hgd6
    clear ht6 hsg hcds hsl ho5 hgd6
    cases hr5:o5.r with
    | inl f=>
     have HPB:Hid (Calls Tryz.prog 75 #[.pointer (some ⟨T,0,none⟩),.bool true,.int .i64 cd] (putCs w6 T sg).drew fun e w'=>e=.panicked (pan f)∧Py (putCs w6 T sg).drew c t6 T x o5 12 w'):=HPA.mono (fun e w' ⟨a,p⟩=>⟨by rw [a];unfold OE;rw [hr5],p⟩)
     have HS:Hid (enterO M x v cd true=⟨o5.m,.inl f⟩):=hid_eq (by rw [hG5];unfold Ou.bind;rw [hr5])
     clear HPA hG5 hr5 HG6
     rw [hsge] at HPB HK6
     unfold putCs Dsc.sg at HPB HK6
     simp only at HPB HK6
     clear hsge HB HGD
     go_region
     go_wp2_with fail
     refine Calls.mono HPB.out ?_;rintro e w' ⟨rfl,p⟩
     exact ⟨rfl,by rw [HS.out];rfl,by rw [HS.out];exact ((Py.after HK6.out HTS.out p).no rfl).more (by omega)⟩
    | inr n5'=>
     have HPB:Hid (Calls Tryz.prog 75 #[.pointer (some ⟨T,0,none⟩),.bool true,.int .i64 cd] (putCs w6 T sg).drew fun e w'=>e=.returned (.tuple #[])∧(∃ t,t≤t6+12∧Tn w' c t T x n5' o5.m)∧Kp (c.mdT T) (putCs w6 T sg).drew w'):=HPA.mono (fun e w' ⟨a,p⟩=>⟨by rw [a];unfold OE;rw [hr5];rfl,by obtain ⟨⟨t,ht,_,hq⟩,kk⟩:=p;exact ⟨⟨t,ht,hq n5' hr5⟩,kk⟩⟩)
     have HS:Hid (enterO M x v cd true=⟨o5.m,.inr (endD x n5' g)⟩):=hid_eq (by rw [hG5];unfold Ou.bind;rw [hr5];rfl)
     clear HPA hG5 hr5
     rw [hsge] at HPB HK6 HG6
     unfold putCs Dsc.sg at HPB HK6 HG6
     simp only at HPB HK6 HG6
     clear hsge HB HGD
     go_region
     go_wp2_with fail
     refine Calls.mono HPB.out ?_;rintro e w7 ⟨rfl,⟨t7,ht7,b7⟩,k7⟩
     have g7:=GtAt.kp HG6.out k7 HNG.out
     obtain ⟨y0,y1,y2,y3,y4⟩:=g7.c
     have q9:=b7.t.c (k:=9) rfl;have q10:=b7.t.c (k:=10) rfl;have q81:=b7.t.c (k:=81) rfl;have q82:=b7.t.c (k:=82) rfl
     have r9:=b7.t.fz 9;have r10:=b7.t.fz 10;have r81:=b7.t.fz 81;have r82:=b7.t.fz 82
     have hfl:=b7.ok.fl
     have hfa:=andNot_bd hfl.1 hfl.2 (b:=16640) (by decide) (by decide)
     have hfb:=andNot_bd hfa.1 hfa.2 (b:=512) (by decide) (by decide)
     have hw7:Kp (c.mdT T) w w7:=HK6.out.trans k7
     have ht7':t7≤tn+40:=by have:=HTS.out;omega
     have HB7:Hid (Tn w7 c t7 T x n5' o5.m∧Kp (c.mdT T) w w7∧t7≤tn+40):=⟨b7,hw7,ht7'⟩
     clear g7 k7 b7 hw7 ht7 HPB HG6 HK6 i0 i1 i2 i3 i4 p0 p1 p2 p3 p4 p5 p6 c0 c1 c2 c3 c4 c5 c6 c7 c8 z0 z1 z2 z3 z4 z5 z6 z7 z8
     by_cases hk:g.k=14
     ·have b14:(g.k==14)=true:=by simpa using hk
      have hf:=Tn.fin2 HB7.out.1 HGk.out.pl (bits .andNot .u32 n5'.fl 16640) hfb
      have HF:Hid (Py w c tn T x ⟨o5.m,.inr (endD x n5' g)⟩ 40 _):=⟨⟨t7,HB7.out.2.2,hf.1.a,fun n' e=>(by cases e;have:=hf.1;unfold endD flD;rw [if_pos hk];exact this)⟩,HB7.out.2.1.trans (hf.2.mono (fun _ _ f=>.inr f))⟩
      clear hf hfl hfa hfb hk
      go_wp2
      go_end0
      exact ⟨by rw [HS.out];rfl,by rw [HS.out];exact HF.out⟩
     ·have b14:(g.k==14)=false:=by simpa using hk
      have hf:=Tn.fin HB7.out.1 HGk.out.pl hfa
      have HF:Hid (Py w c tn T x ⟨o5.m,.inr (endD x n5' g)⟩ 40 _):=⟨⟨t7,HB7.out.2.2,hf.1.a,fun n' e=>(by cases e;have:=hf.1;unfold endD flD;rw [if_neg hk];exact this)⟩,HB7.out.2.1.trans (hf.2.mono (fun _ _ f=>.inr f))⟩
      clear hf hfl hfa hfb hk
      go_wp2
      go_end0
      exact ⟨by rw [HS.out];rfl,by rw [HS.out];exact HF.out⟩
theorem enter_any (w:World) (c:Ev) (tn T:Nat) (x:Cu) (M:Mem) (h:Tn w c tn T x x M) (v cd:Int) (so:Bool) (htn:tn < 18446744073709551000):
  Calls Tryz.prog 28 #[.pointer (some ⟨T,0,none⟩),.int .i64 v,.int .i64 cd,.bool so] w fun e w'=>e=OE vC (enterO M x v cd so)∧Py w c tn T x (enterO M x v cd so) 40 w':=by
 by_cases hv:v < 0∨256≤v
 ·have e:enterO M x v cd so=⟨M,.inl ⟨13,0,0⟩⟩:=by unfold enterO;rw [if_pos hv];rfl
  rw [e]
  refine (enter_vec w c tn T x M h v cd so hv).mono ?_
  rintro e w' ⟨rfl,k⟩
  exact ⟨rfl,⟨tn,by omega,h.a.kp0 k,fun n e=>by cases e⟩,k.mono (fun _ _ f=>f.elim)⟩
 ·cases so
  ·exact enter_hard w c tn T x M h v cd (by omega) htn
  ·exact enter_soft w c tn T x M h v cd (by omega) htn
def ftO (o:Ou Cu):Ft:=match o.r with | .inl f=>f | .inr _=>noFt
def xO (x:Cu) (o:Ou Cu):Cu:=match o.r with | .inl _=>x | .inr n=>n
theorem enter1_any (w:World) (c:Ev) (tn T:Nat) (x:Cu) (M:Mem) (h:Tn w c tn T x x M) (b1 b2 b3:Nat) (v cd:Int) (so:Bool) (h1:w.cell? ⟨b1,0,none⟩=some (.int .i64 v)) (h2:w.cell? ⟨b2,0,none⟩=some (.int .i64 cd)) (h3:w.cell? ⟨b3,0,none⟩=some (.bool so)) (htn:tn < 18446744073709551000):
  Calls Tryz.prog 27 #[.pointer (some ⟨T,0,none⟩),.pointer (some ⟨b1,0,none⟩),.pointer (some ⟨b2,0,none⟩),.pointer (some ⟨b3,0,none⟩)] w fun e w'=>e=OE vC (enterO M x v cd so)∧Py w c tn T x (enterO M x v cd so) 40 w':=by
 have HC:=enter_any w c tn T x M h v cd so htn
 obtain ⟨o,ho⟩:∃ o,o=enterO M x v cd so:=⟨_,rfl⟩
 rw [← ho] at HC ⊢
 clear ho h
 cases hr:o.r with
 | inl f=>
  have HC1:Hid (Calls Tryz.prog 28 #[.pointer (some ⟨T,0,none⟩),.int .i64 v,.int .i64 cd,.bool so] w fun e w'=>e=.panicked (pan f)∧Py w c tn T x o 40 w'):=HC.mono (fun e w' ⟨a,p⟩=>⟨by rw [a];unfold OE;rw [hr],p⟩)
  have HE:Hid (OE vC o=.panicked (pan f)):=by unfold OE;rw [hr];exact rfl
  clear HC hr
  go_enter Tryz.func27,Tryz.ntmps27
  go_wp2_with (go_at_call 28;refine Calls.mono HC1.out ?_;rintro e w2 ⟨rfl,p2⟩)
  exact ⟨rfl,HE.out.symm,p2⟩
 | inr n=>
  have HC1:Hid (Calls Tryz.prog 28 #[.pointer (some ⟨T,0,none⟩),.int .i64 v,.int .i64 cd,.bool so] w fun e w'=>e=.returned (.tuple #[])∧Py w c tn T x o 40 w'):=HC.mono (fun e w' ⟨a,p⟩=>⟨by rw [a];unfold OE;rw [hr];rfl,p⟩)
  have HE:Hid (OE vC o=.returned (.tuple #[])):=by unfold OE;rw [hr];exact rfl
  clear HC hr
  go_enter Tryz.func27,Tryz.ntmps27
  go_wp2_with (go_at_call 28;refine Calls.mono HC1.out ?_;rintro e w2 ⟨rfl,p2⟩)
  go_end0
  exact ⟨HE.out.symm,p2⟩
theorem Enter_any (w:World) (c:Ev) (tn:Nat) (x:Cu) (M:Mem) (h:XAt w c tn x M) (v cd:Int) (so:Bool) (htn:tn < 18446744073709551000):
  Calls Tryz.prog 11 #[.pointer (some ⟨c.E,0,none⟩),.int .i64 v,.int .i64 cd,.bool so] w fun e w'=>e=.returned (ftO (enterO M x v cd so)).val∧(∃ t,t≤tn+40∧XAt w' c t (xO x (enterO M x v cd so)) (enterO M x v cd so).m)∧Kp (fun j=>c.md j∨j=c.E) w w':=by
 have hmf:∀ (fn:Fn) (first cap:Array Value) (w:World),(Instr.makeFunc fn first cap).run Tryz.prog w=.ok (.func fn first cap) w:=fun _ _ _ _=>rfl
 obtain ⟨X,hX⟩:∃ X,w.heap.size=X:=⟨_,rfl⟩
 obtain ⟨W0,hW0⟩:∃ W,W=(((w.alloc (.cells #[.int .i64 v] 3)).alloc (.cells #[.int .i64 cd] 3)).alloc (.cells #[.bool so] 4)).alloc (.cells #[.int .i64 0,.int .i64 0,.int .u32 0] 44):=⟨_,rfl⟩
 have k0:Kp noB w W0:=by rw [hW0];exact (((Kp.alloc noB w _).trans (Kp.alloc noB _ _)).trans (Kp.alloc noB _ _)).trans (Kp.alloc noB _ _)
 have a1:W0.cell? ⟨X,0,none⟩=some (.int .i64 v):=by rw [hW0,← hX];simp [go_sem]
 have a2:W0.cell? ⟨X+1,0,none⟩=some (.int .i64 cd):=by rw [hW0,← hX];simp [go_sem]
 have a3:W0.cell? ⟨X+1+1,0,none⟩=some (.bool so):=by rw [hW0,← hX];simp [go_sem]
 have rX:RowT W0 (X+1+1+1) ⟨0,0,0⟩:=by
  have:=(MapKept.heap_alloc (((w.alloc (.cells #[.int .i64 v] 3)).alloc (.cells #[.int .i64 cd] 3)).alloc (.cells #[.bool so] 4)) (.cells #[.int .i64 0,.int .i64 0,.int .u32 0] 44)).1
  simp only [World.size_alloc,hX] at this
  rw [hW0];exact this
 have h0:=h.kp0 k0
 have HEn:∀ W T,Kp noB W0 W→Tn W c tn T x x M→Calls Tryz.prog 27 #[.pointer (some ⟨T,0,none⟩),.pointer (some ⟨X,0,none⟩),.pointer (some ⟨X+1,0,none⟩),.pointer (some ⟨X+1+1,0,none⟩)] W fun e w'=>e=OE vC (enterO M x v cd so)∧Py W c tn T x (enterO M x v cd so) 40 w':=fun W T k q=>enter1_any W c tn T x M q X (X+1) (X+1+1) v cd so (cell_kp a1 k id) (cell_kp a2 k id) (cell_kp a3 k id) htn
 obtain ⟨o,ho⟩:∃ o,o=enterO M x v cd so:=⟨_,rfl⟩
 rw [← ho] at HEn ⊢
 have HC:Hid (Calls Tryz.prog 26 #[.pointer (some ⟨c.E,0,none⟩),.func (.func 27) #[] #[.pointer (some ⟨X,0,none⟩),.pointer (some ⟨X+1,0,none⟩),.pointer (some ⟨X+1+1,0,none⟩)]] W0 fun e w'=>e=.returned (ftO o).val∧(∃ t,t≤tn+40∧XAt w' c t (xO x o) o.m)∧Kp (fun j=>c.md j∨j=c.E) W0 w'):=by
  cases hr:o.r with
  | inl f=>
   have e1:ftO o=f:=by unfold ftO;rw [hr]
   have e2:xO x o=x:=by unfold xO;rw [hr]
   rw [e1,e2]
   exact attempt_no3 W0 c tn x M h0 X (X+1) (X+1+1) f o.m 40 (fun W T k _ q=>(HEn W T k q).mono (fun e w' ⟨a,⟨t,b,b',_⟩,kk⟩=>⟨by rw [a];unfold OE;rw [hr],⟨t,b,b'⟩,kk⟩))
  | inr n=>
   have e1:ftO o=noFt:=by unfold ftO;rw [hr]
   have e2:xO x o=n:=by unfold xO;rw [hr]
   rw [e1,e2]
   exact attempt_ok3 W0 c tn x M h0 X (X+1) (X+1+1) n o.m 40 (fun W T k _ q=>(HEn W T k q).mono (fun e w' ⟨a,⟨t,b,_,b'⟩,kk⟩=>⟨by rw [a];unfold OE;rw [hr];rfl,⟨t,b,b' n hr⟩,kk⟩))
 have HX:Hid (w.heap.size=X∧(∀ j,c.all j→j < X)∧c.E < X):=⟨hX,fun j hj=>by have:=h.in_all hj;omega,by have:=h.lt;omega⟩
 have HR:Hid (RowT W0 (X+1+1+1) ⟨0,0,0⟩):=rX
 have HK:Hid (Kp noB w W0):=k0
 obtain ⟨fv,hfv⟩:∃ f,f=ftO o:=⟨_,rfl⟩
 rw [← hfv] at HC ⊢
 unfold Ft.val at HC ⊢
 clear h h0 HEn a1 a2 a3 rX k0 ho hfv
 go_enter Tryz.func11,Tryz.ntmps11
 go_wp2_with fail
 rw [← hW0]
 clear hW0 hX
 refine Calls.mono HC.out ?_;rintro e w2 ⟨rfl,⟨t,ht,x2⟩,k2⟩
 have r2:=RowT.kp HR.out k2 (fun e=>by
  rcases e with e | e
  ·have:=HX.out.2.1 _ (.inr e);omega
  ·have:=HX.out.2.2;omega)
 have c0:=r2.c0;have c1:=r2.c1;have c2:=r2.c2
 have f0:=r2.fz 0;have f1:=r2.fz 1;have f2:=r2.fz 2
 have r3:=r2.set fv
 have kF:=kp_setFt w2 (X+1+1+1) fv
 have d0:=r3.c0;have d1:=r3.c1;have d2:=r3.c2
 have HF:Hid ((∃ t,t≤tn+40∧XAt (setFt w2 (X+1+1+1) fv) c t (xO x o) o.m)∧Kp (fun j=>c.md j∨j=c.E) w (setFt w2 (X+1+1+1) fv)):=by
  refine ⟨⟨t,ht,x2.kp kF (by have:=HX.out.2.2;omega) (fun j hj=>by have:=HX.out.2.1 j hj;omega)⟩,((HK.out.mono (fun _ _ f=>f.elim)).trans k2).over kF (fun j hj e=>absurd hj (by have:=HX.out.1;omega))⟩
 unfold setFt at d0 d1 d2 HF
 clear r2 r3 kF x2 k2 HC HR
 go_wp2
 refine bodyPost_ret (v:=.agg #[.int .i64 fv.vec,.int .i64 fv.code,.int .u32 fv.cr2]) (by simp [results,Tryz.results11,go_sem,d0,d1,d2]) rfl ⟨rfl,HF.out⟩
def clsN (k:Nat):Int:=if k=0∨10≤k∧k≤13 then 1 else if k=14 then 2 else 0
def clsI (v:Int):Int:=if v < 0∨15≤v then 0 else clsN v.toNat
theorem clsN_3 (k:Nat):clsN k=0∨clsN k=1∨clsN k=2:=by unfold clsN;split;exact .inr (.inl rfl);split;exact .inr (.inr rfl);exact .inl rfl
theorem clsI_3 (v:Int):clsI v=0∨clsI v=1∨clsI v=2:=by unfold clsI;split;exact .inl rfl;exact clsN_3 _
def Cls (w:World):Prop:=0 < w.heap.size∧∀ k:Nat,k < 15→w.cell? ⟨0,k,none⟩=some (.int .i64 (clsN k))
theorem Cls.kp {S:Nat→Prop} {w w':World} (h:Cls w) (k:Kp S w w') (hS:¬ S 0):Cls w':=⟨Nat.lt_of_lt_of_le h.1 k.size,fun i hi=>cell_kp (h.2 i hi) k hS⟩
theorem Cls.kp0 {w w':World} (h:Cls w) (k:Kp noB w w'):Cls w':=h.kp k id
theorem class_any (w:World) (hC:Cls w) (v:Int):Calls Tryz.prog 83 #[.int .i64 v] w fun e w'=>e=.returned (.int .i64 (clsI v))∧w'=w:=by
 unfold clsI
 by_cases h0:v < 0
 ·rw [if_pos (.inl h0)]
  have d0:decide (v < 0)=true:=decide_eq_true h0
  clear h0
  go_enter Tryz.func83,Tryz.ntmps83
  go_wp2
  go_ret
  exact ⟨rfl,rfl⟩
 by_cases h1:15≤v
 ·rw [if_pos (.inr h1)]
  have d0:decide (v < 0)=false:=decide_eq_false h0
  have d1:decide (15≤v)=true:=decide_eq_true h1
  clear h0 h1
  go_enter Tryz.func83,Tryz.ntmps83
  go_wp2
  go_ret
  exact ⟨rfl,rfl⟩
 ·rw [if_neg (by omega)]
  have d0:decide (v < 0)=false:=decide_eq_false h0
  have d1:decide (15≤v)=false:=decide_eq_false h1
  have c:=hC.2 v.toNat (by omega)
  have hv:0≤v∧v < 15:=by omega
  clear h0 h1
  go_enter Tryz.func83,Tryz.ntmps83
  go_wp2
  go_ret
  exact ⟨rfl,rfl⟩
def joinF (f g:Ft):Ft:=if clsI f.vec=2∧clsI g.vec=2∨(clsI f.vec=2∨clsI f.vec=1)∧clsI g.vec=1 then ⟨8,0,0⟩ else g
set_option maxHeartbeats 4000000 in
theorem joined_any (w : World) (hC : Cls w) (f g : Ft) : Calls Tryz.prog 33 #[f.val, g.val] w fun e w' => e = .returned (joinF f g).val ∧ Kp noB w w' := by
  obtain ⟨fv, fc, fr⟩ := f
  obtain ⟨gv, gc, gr⟩ := g
  unfold Ft.val
  obtain ⟨X, hX⟩ : ∃ X, w.heap.size = X := ⟨_, rfl⟩
  obtain ⟨W0, hW0⟩ : ∃ W, W = ((w.alloc (.cells #[.int .i64 fv, .int .i64 fc, .int .u32 fr] 44)).alloc (.cells #[.int .i64 gv, .int .i64 gc, .int .u32 gr] 44)).alloc (.cells #[.int .i64 0, .int .i64 0, .int .u32 0] 44) := ⟨_, rfl⟩
  have kB := Kp.alloc noB (w.alloc (.cells #[.int .i64 fv, .int .i64 fc, .int .u32 fr] 44)) (.cells #[.int .i64 gv, .int .i64 gc, .int .u32 gr] 44)
  have kC := Kp.alloc noB ((w.alloc (.cells #[.int .i64 fv, .int .i64 fc, .int .u32 fr] 44)).alloc (.cells #[.int .i64 gv, .int .i64 gc, .int .u32 gr] 44)) (.cells #[.int .i64 0, .int .i64 0, .int .u32 0] 44)
  have k0 : Kp noB w W0 := by rw [hW0]; exact ((Kp.alloc noB w _).trans kB).trans kC
  have rA : RowT W0 X ⟨fv, fc, fr⟩ := by
    have : RowT (w.alloc (.cells #[.int .i64 fv, .int .i64 fc, .int .u32 fr] 44)) X ⟨fv, fc, fr⟩ := by rw [← hX]; exact (MapKept.heap_alloc w _).1
    rw [hW0]; exact (this.kp kB id).kp kC id
  have rB : RowT W0 (X + 1) ⟨gv, gc, gr⟩ := by
    have := (MapKept.heap_alloc (w.alloc (.cells #[.int .i64 fv, .int .i64 fc, .int .u32 fr] 44)) (.cells #[.int .i64 gv, .int .i64 gc, .int .u32 gr] 44)).1
    simp only [World.size_alloc, hX] at this
    rw [hW0]; exact RowT.kp (f := ⟨gv, gc, gr⟩) this kC id
  have rC : RowT W0 (X + 1 + 1) ⟨0, 0, 0⟩ := by
    have := (MapKept.heap_alloc ((w.alloc (.cells #[.int .i64 fv, .int .i64 fc, .int .u32 fr] 44)).alloc (.cells #[.int .i64 gv, .int .i64 gc, .int .u32 gr] 44)) (.cells #[.int .i64 0, .int .i64 0, .int .u32 0] 44)).1
    simp only [World.size_alloc, hX] at this
    rw [hW0]; exact this
  have hC0 := hC.kp0 k0
  have HA : Hid _ := class_any W0 hC0 fv
  have HB : Hid _ := class_any W0 hC0 gv
  have HJ : Hid (joinF ⟨fv, fc, fr⟩ ⟨gv, gc, gr⟩ = if clsI fv = 2 ∧ clsI gv = 2 ∨ (clsI fv = 2 ∨ clsI fv = 1) ∧ clsI gv = 1 then ⟨8, 0, 0⟩ else ⟨gv, gc, gr⟩) := rfl
  have h1 := clsI_3 fv
  have h2 := clsI_3 gv
  obtain ⟨cf, hcf⟩ : ∃ q, q = clsI fv := ⟨_, rfl⟩
  obtain ⟨cg, hcg⟩ : ∃ q, q = clsI gv := ⟨_, rfl⟩
  rw [← hcf, ← hcg] at HJ
  rw [← hcf] at HA h1
  rw [← hcg] at HB h2
  have HK : Hid (Kp noB w W0) := k0
  have HRC : Hid (RowT W0 (X + 1 + 1) ⟨0, 0, 0⟩ ∧ w.heap.size ≤ X + 1 + 1) := ⟨rC, by omega⟩
  have b0 := rB.c0; have b1 := rB.c1; have b2 := rB.c2
  have c0 := rC.c0; have c1 := rC.c1; have c2 := rC.c2
  have f0 := rC.fz 0; have f1 := rC.fz 1; have f2 := rC.fz 2
  have a0 := rA.c0
  have rD := rC.set ⟨gv, gc, gr⟩
  have kD := kp_setFt W0 (X + 1 + 1) ⟨gv, gc, gr⟩
  have d0 := rD.c0; have d1 := rD.c1; have d2 := rD.c2
  have HD : Hid (Kp noB w (setFt W0 (X + 1 + 1) ⟨gv, gc, gr⟩)) := ((k0.own' (i := 0) (by omega) _).own' (i := 1) (by omega) _).own' (i := 2) (by omega) _
  unfold setFt at d0 d1 d2 HD
  simp only at b0 b1 b2 c0 c1 c2 a0 d0 d1 d2 HD
  clear hC hC0 rA rB rC k0 kB kC hcf hcg rD kD
  have HDb : Hid (∀ W, Kp noB W0 W → RowT W (X + 1 + 1) ⟨0, 0, 0⟩) := fun W k => RowT.kp HRC.out.1 k id
  rcases h1 with rfl | rfl | rfl <;> rcases h2 with rfl | rfl | rfl
  all_goals
    go_enter Tryz.func33, Tryz.ntmps33
    go_wp2_with fail
    rw [← hW0]
    clear hW0
    refine Calls.mono HB.out ?_; rintro e w' ⟨rfl, hw⟩; replace hw := hw.symm; subst hw
    go_wp2_with fail
    refine Calls.mono HA.out ?_; rintro e w' ⟨rfl, hw⟩; replace hw := hw.symm; subst hw
    first
    | (go_wp2_with fail
       refine Calls.mono (cDbl_any _) ?_; rintro e w3 ⟨rfl, k3⟩
       have r3 := HDb.out _ k3
       have p0 := r3.c0; have p1 := r3.c1; have p2 := r3.c2
       have g0 := r3.fz 0; have g1 := r3.fz 1; have g2 := r3.fz 2
       have r4 := r3.set ⟨8, 0, 0⟩
       have q0 := r4.c0; have q1 := r4.c1; have q2 := r4.c2
       have HE : Hid (Kp noB w (setFt w3 (X + 1 + 1) ⟨8, 0, 0⟩)) := (((HK.out.trans k3).own' (i := 0) HRC.out.2 _).own' (i := 1) HRC.out.2 _).own' (i := 2) HRC.out.2 _
       unfold setFt at q0 q1 q2 HE
       simp only at q0 q1 q2 HE p0 p1 p2
       clear r3 r4 k3
       go_wp2
       refine bodyPost_ret (v := .agg #[.int .i64 8, .int .i64 0, .int .u32 0]) (by simp [results, Tryz.results33, go_sem, q0, q1, q2]) rfl ⟨?_, HE.out⟩
       rw [HJ.out]
       rfl)
    | (go_wp2
       refine bodyPost_ret (v := .agg #[.int .i64 gv, .int .i64 gc, .int .u32 gr]) (by simp [results, Tryz.results33, go_sem, d0, d1, d2]) rfl ⟨?_, HD.out⟩
       rw [HJ.out]
       rfl)
end Go.Proofs.YtacgmoikegcopaaGreatDoor.Rm
