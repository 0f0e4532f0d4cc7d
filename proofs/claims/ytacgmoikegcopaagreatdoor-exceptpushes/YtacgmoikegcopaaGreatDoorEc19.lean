/- The bus and its devices: XcLeave2, XcTryR, XcReturn, UtMath, UtBase, UtLeaf, UtMid, UtIn. -/
import Derived.Test.YtacgmoikegcopaaGreatDoorEc18
import Derived.Test.YtacgmoikegcopaaGreatDoorEc14
import Derived.Test.YtacgmoikegcopaaGreatDoorEc01
import Derived.MapKept
import Derived.Maps.AppendAt
import Derived.OwnWalk
import Derived.Conc.LoneSelectN
import Derived.Conc.LoneSelect
namespace Go.Proofs.YtacgmoikegcopaaGreatDoor.Rm
open Go.ChangeShapes Go.WideShapes Go.ChangeAt Go.RowKit Go.Maps
set_option linter.unusedVariables false
set_option maxRecDepth 20000
theorem leave_nt4 (w:World) (c:Ev) (tn T:Nat) (x n:Cu) (M:Mem) (h:Tn w c tn T x n M) (hnt:bits .and .u32 x.fl 16384≠0):
  Calls Tryz.prog 37 #[.pointer (some ⟨T,0,none⟩),.int .i64 4] w fun e w'=>e=.panicked (pan ⟨13,0,0⟩)∧Kp noB w w':=by
 unfold pan Ft.val
 have HWas:Hid (Calls Tryz.prog 85 #[.pointer (some ⟨T,0,none⟩)] w fun e w'=>e=.returned (.pointer (some ⟨c.E,0,none⟩))∧w'=w):=cWas_any w T c.E h.t.e h.a.lt
 have e9:=h.a.c (k:=9) rfl
 have d1:(bits .and .u32 x.fl 16384 != 0)=true:=by simpa using hnt
 clear hnt h
 go_enter Tryz.func37,Tryz.ntmps37
 go_wp2_with fail
 refine Calls.mono HWas.out ?_;rintro e w' ⟨rfl,hw⟩;replace hw:=hw.symm;subst hw
 go_wp2_with (go_at_call 68;refine Calls.mono (cProt_any _) ?_;rintro e w5 ⟨rfl,k5⟩)
 exact ⟨rfl,rfl,k5⟩
set_option maxHeartbeats 16000000 in
theorem leave_is4 (w:World) (c:Ev) (tn T:Nat) (x n:Cu) (M:Mem) (h:Tn w c tn T x n M) (hnt:bits .and .u32 x.fl 16384=0) (htn:tn < 18446744073709551000):
  Calls Tryz.prog 37 #[.pointer (some ⟨T,0,none⟩),.int .i64 4] w fun e w'=>e=OE vC (leaveO M x n 4)∧Py w c tn T x (leaveO M x n 4) 40 w':=by
 have HWas:Hid (Calls Tryz.prog 85 #[.pointer (some ⟨T,0,none⟩)] w fun e w'=>e=.returned (.pointer (some ⟨c.E,0,none⟩))∧w'=w):=cWas_any w T c.E h.t.e h.a.lt
 have e9:=h.a.c (k:=9) rfl
 have d1:(bits .and .u32 x.fl 16384 != 0)=false:=by simpa using hnt
 have HXO:Hid (x.Ok∧n.Ok):=⟨h.a.ok,h.ok⟩
 have hG0:leaveO M x n 4=(lodO M x.cp (a32n x 0 4) 4).bind fun M pl=>(lodO M x.cp (a32n x 1 4) 4).bind fun M s=>(lodO M x.cp (a32n x 2 4) 4).bind fun M fl=>(interO M x (s%65536)).bind fun M d=>(outerO M x n (s%65536) 4).bind fun M n=>laveB M x n d pl (s%65536) fl:=by
  unfold leaveO
  rw [if_neg (by simp [hnt])]
 have H0:Hid (Tn w c tn T x n M):=h
 have HTN:Hid (tn < 18446744073709551000):=htn
 have r0:=h.a.v.ram.rdB
 have HM:Hid (M=M):=rfl
 clear h hnt htn
 have q0:∀ W t,t≤tn+0→Tn W c t T x n M→Calls Tryz.prog 86 #[.pointer (some ⟨T,0,none⟩),.int .i64 0,.int .i64 4] W fun e w'=>e=OE vI32 (lodO M x.cp (a32n x 0 4) 4)∧Px W c t T x n (lodO M x.cp (a32n x 0 4) 4).m 2 w':=fun W t ht q=>pushed_any W c t T x n M q 0 4 (by decide) (by decide) (by have:=HTN.out;omega)
 have fn0:=fine_lod r0 x.cp (a32n x 0 4) 4
 obtain ⟨p0,hp0⟩:∃ o,o=lodO M x.cp (a32n x 0 4) 4:=⟨_,rfl⟩
 rw [← hp0] at hG0 q0 fn0
 clear hp0
 cases hr0:p0.r with
 | inl f=>
  have HP0:Hid (∀ W t,t≤tn+0→Tn W c t T x n M→Calls Tryz.prog 86 #[.pointer (some ⟨T,0,none⟩),.int .i64 0,.int .i64 4] W fun e w'=>e=.panicked (pan f)∧Px W c t T x n p0.m 2 w'):=fun W t ht q=>(q0 W t ht q).mono (fun e w' ⟨a,p⟩=>⟨by rw [a];unfold OE;rw [hr0],p⟩)
  have HS:Hid (leaveO M x n 4=⟨p0.m,.inl f⟩):=hid_eq (by rw [hG0];unfold Ou.bind;rw [hr0])
  clear q0 fn0 hG0 hr0 r0
  go_enter Tryz.func37,Tryz.ntmps37
  go_wp2_with fail
  refine Calls.mono HWas.out ?_;rintro e w' ⟨rfl,hw⟩;replace hw:=hw.symm;subst hw
  go_wp2_with fail
  refine Calls.mono (HP0.out w tn (by omega) H0.out) ?_;rintro e u ⟨rfl,p⟩
  exact ⟨rfl,by rw [HS.out];rfl,by rw [HS.out];exact (Px.py (o:=⟨p0.m,.inl f⟩) p (fun n' e=>by cases e)).more (by omega)⟩
 | inr pl=>
 have HP0:Hid (∀ W t,t≤tn+0→Tn W c t T x n M→Calls Tryz.prog 86 #[.pointer (some ⟨T,0,none⟩),.int .i64 0,.int .i64 4] W fun e w'=>e=.returned (.int .u32 pl)∧Px W c t T x n p0.m 2 w'):=fun W t ht q=>(q0 W t ht q).mono (fun e w' ⟨a,p⟩=>⟨by rw [a];unfold OE;rw [hr0];rfl,p⟩)
 have hG1:leaveO M x n 4=((lodO p0.m x.cp (a32n x 1 4) 4).bind fun M s=>(lodO M x.cp (a32n x 2 4) 4).bind fun M fl=>(interO M x (s%65536)).bind fun M d=>(outerO M x n (s%65536) 4).bind fun M n=>laveB M x n d pl (s%65536) fl):=by rw [hG0];unfold Ou.bind;rw [hr0]
 have HU0:Hid (U32 pl):=fn0.ok pl hr0
 have r1:=fn0.rd
 clear q0 fn0 hG0 hr0 r0
 have q1:∀ W t,t≤tn+2→Tn W c t T x n p0.m→Calls Tryz.prog 86 #[.pointer (some ⟨T,0,none⟩),.int .i64 1,.int .i64 4] W fun e w'=>e=OE vI32 (lodO p0.m x.cp (a32n x 1 4) 4)∧Px W c t T x n (lodO p0.m x.cp (a32n x 1 4) 4).m 2 w':=fun W t ht q=>pushed_any W c t T x n p0.m q 1 4 (by decide) (by decide) (by have:=HTN.out;omega)
 have fn1:=fine_lod r1 x.cp (a32n x 1 4) 4
 obtain ⟨p1,hp1⟩:∃ o,o=lodO p0.m x.cp (a32n x 1 4) 4:=⟨_,rfl⟩
 rw [← hp1] at hG1 q1 fn1
 clear hp1
 cases hr1:p1.r with
 | inl f=>
  have HP1:Hid (∀ W t,t≤tn+2→Tn W c t T x n p0.m→Calls Tryz.prog 86 #[.pointer (some ⟨T,0,none⟩),.int .i64 1,.int .i64 4] W fun e w'=>e=.panicked (pan f)∧Px W c t T x n p1.m 2 w'):=fun W t ht q=>(q1 W t ht q).mono (fun e w' ⟨a,p⟩=>⟨by rw [a];unfold OE;rw [hr1],p⟩)
  have HS:Hid (leaveO M x n 4=⟨p1.m,.inl f⟩):=hid_eq (by rw [hG1];unfold Ou.bind;rw [hr1])
  clear q1 fn1 hG1 hr1 r1
  go_enter Tryz.func37,Tryz.ntmps37
  go_wp2_with fail
  refine Calls.mono HWas.out ?_;rintro e w' ⟨rfl,hw⟩;replace hw:=hw.symm;subst hw
  go_wp2_with fail
  refine Calls.mono (HP0.out w tn (by omega) H0.out) ?_;rintro e v0 ⟨rfl,⟨t0,ht0,b0⟩,k0⟩
  have HB0:Hid (Tn v0 c t0 T x n p0.m∧t0≤tn+2∧Kp (c.mdT T) w v0):=⟨b0,by omega,(k0.mono (fun _ _ f=>.inl f))⟩
  clear b0 k0 ht0
  go_wp2_with fail
  refine Calls.mono (HP1.out v0 t0 HB0.out.2.1 HB0.out.1) ?_;rintro e u ⟨rfl,p⟩
  exact ⟨rfl,by rw [HS.out];rfl,by rw [HS.out];exact (Py.after HB0.out.2.2 HB0.out.2.1 (Px.py (o:=⟨p1.m,.inl f⟩) p (fun n' e=>by cases e))).more (by omega)⟩
 | inr sv=>
 have HP1:Hid (∀ W t,t≤tn+2→Tn W c t T x n p0.m→Calls Tryz.prog 86 #[.pointer (some ⟨T,0,none⟩),.int .i64 1,.int .i64 4] W fun e w'=>e=.returned (.int .u32 sv)∧Px W c t T x n p1.m 2 w'):=fun W t ht q=>(q1 W t ht q).mono (fun e w' ⟨a,p⟩=>⟨by rw [a];unfold OE;rw [hr1];rfl,p⟩)
 have hG2:leaveO M x n 4=((lodO p1.m x.cp (a32n x 2 4) 4).bind fun M fl=>(interO M x (sv%65536)).bind fun M d=>(outerO M x n (sv%65536) 4).bind fun M n=>laveB M x n d pl (sv%65536) fl):=by rw [hG1];unfold Ou.bind;rw [hr1]
 have HU1:Hid (U32 sv):=fn1.ok sv hr1
 have r2:=fn1.rd
 clear q1 fn1 hG1 hr1 r1
 have q2:∀ W t,t≤tn+4→Tn W c t T x n p1.m→Calls Tryz.prog 86 #[.pointer (some ⟨T,0,none⟩),.int .i64 2,.int .i64 4] W fun e w'=>e=OE vI32 (lodO p1.m x.cp (a32n x 2 4) 4)∧Px W c t T x n (lodO p1.m x.cp (a32n x 2 4) 4).m 2 w':=fun W t ht q=>pushed_any W c t T x n p1.m q 2 4 (by decide) (by decide) (by have:=HTN.out;omega)
 have fn2:=fine_lod r2 x.cp (a32n x 2 4) 4
 obtain ⟨p2,hp2⟩:∃ o,o=lodO p1.m x.cp (a32n x 2 4) 4:=⟨_,rfl⟩
 rw [← hp2] at hG2 q2 fn2
 clear hp2
 cases hr2:p2.r with
 | inl f=>
  have HP2:Hid (∀ W t,t≤tn+4→Tn W c t T x n p1.m→Calls Tryz.prog 86 #[.pointer (some ⟨T,0,none⟩),.int .i64 2,.int .i64 4] W fun e w'=>e=.panicked (pan f)∧Px W c t T x n p2.m 2 w'):=fun W t ht q=>(q2 W t ht q).mono (fun e w' ⟨a,p⟩=>⟨by rw [a];unfold OE;rw [hr2],p⟩)
  have HS:Hid (leaveO M x n 4=⟨p2.m,.inl f⟩):=hid_eq (by rw [hG2];unfold Ou.bind;rw [hr2])
  clear q2 fn2 hG2 hr2 r2
  go_enter Tryz.func37,Tryz.ntmps37
  go_wp2_with fail
  refine Calls.mono HWas.out ?_;rintro e w' ⟨rfl,hw⟩;replace hw:=hw.symm;subst hw
  go_wp2_with fail
  refine Calls.mono (HP0.out w tn (by omega) H0.out) ?_;rintro e v0 ⟨rfl,⟨t0,ht0,b0⟩,k0⟩
  have HB0:Hid (Tn v0 c t0 T x n p0.m∧t0≤tn+2∧Kp (c.mdT T) w v0):=⟨b0,by omega,(k0.mono (fun _ _ f=>.inl f))⟩
  clear b0 k0 ht0
  go_wp2_with fail
  refine Calls.mono (HP1.out v0 t0 HB0.out.2.1 HB0.out.1) ?_;rintro e v1 ⟨rfl,⟨t1,ht1,b1⟩,k1⟩
  have HB1:Hid (Tn v1 c t1 T x n p1.m∧t1≤tn+4∧Kp (c.mdT T) w v1):=⟨b1,by have:=HB0.out.2.1;omega,HB0.out.2.2.trans (k1.mono (fun _ _ f=>.inl f))⟩
  clear b1 k1 ht1
  go_wp2_with fail
  refine Calls.mono (HP2.out v1 t1 HB1.out.2.1 HB1.out.1) ?_;rintro e u ⟨rfl,p⟩
  exact ⟨rfl,by rw [HS.out];rfl,by rw [HS.out];exact (Py.after HB1.out.2.2 HB1.out.2.1 (Px.py (o:=⟨p2.m,.inl f⟩) p (fun n' e=>by cases e))).more (by omega)⟩
 | inr fl=>
 have HP2:Hid (∀ W t,t≤tn+4→Tn W c t T x n p1.m→Calls Tryz.prog 86 #[.pointer (some ⟨T,0,none⟩),.int .i64 2,.int .i64 4] W fun e w'=>e=.returned (.int .u32 fl)∧Px W c t T x n p2.m 2 w'):=fun W t ht q=>(q2 W t ht q).mono (fun e w' ⟨a,p⟩=>⟨by rw [a];unfold OE;rw [hr2];rfl,p⟩)
 have hG3:leaveO M x n 4=((interO p2.m x (sv%65536)).bind fun M d=>(outerO M x n (sv%65536) 4).bind fun M n=>laveB M x n d pl (sv%65536) fl):=by rw [hG2];unfold Ou.bind;rw [hr2]
 have HU2:Hid (U32 fl):=fn2.ok fl hr2
 have r3:=fn2.rd
 clear q2 fn2 hG2 hr2 r2
 obtain ⟨s,hsv⟩:∃ s,s=sv%65536:=⟨_,rfl⟩
 have hs16:U16 s:=by rw [hsv];unfold U16;omega
 have x1:IntKind.u16.wrap sv=s:=by rw [hsv];exact IntKind.wrap_u16 sv
 rw [← hsv] at hG3
 obtain ⟨s4,hs4⟩:∃ q,q=s%4:=⟨_,rfl⟩
 have HRo:Hid (∀ W,Calls Tryz.prog 88 #[.int .u16 s] W fun e w'=>e=.returned (.int .i64 s4)∧w'=W):=fun W=>by rw [hs4];exact cRing_any s W hs16
 obtain ⟨rg,hrg⟩:∃ q,q=x.rg:=⟨_,rfl⟩
 have HRr:Hid (∀ W t N,Tn W c t T x n N→Calls Tryz.prog 73 #[.pointer (some ⟨T,0,none⟩)] W fun e w'=>e=.returned (.int .i64 rg)∧w'=W):=fun W t N q=>by
  rw [hrg]
  exact cRg_any W T c.E _ ⟨(q.a.ok.sg 1 (by decide)).ok.s0,(q.a.ok.sg 1 (by decide)).ok.s1⟩ q.t.e (q.a.c rfl) q.a.lt
 have HOU:Hid (∀ N,outerO N x n s 4=if rg < s4 then (giveO N x n s4 4).bind fun M n=>.ok M (hideC n s4) else .ok N (n.setR 4 (a32 (n.r 4) (3*4)))):=fun N=>by rw [hrg,hs4];rfl
 have q3:∀ W t,t≤tn+6→Tn W c t T x n p2.m→Calls Tryz.prog 87 #[.pointer (some ⟨T,0,none⟩),.int .u16 s] W fun e w'=>e=OE Dsc.val (interO p2.m x s)∧Px W c t T x n (interO p2.m x s).m 4 w':=fun W t ht q=>inter_any W c t T x n p2.m q s hs16 (by have:=HTN.out;omega)
 have fn3:=fine_inter r3 x s
 obtain ⟨p3,hp3⟩:∃ o,o=interO p2.m x s:=⟨_,rfl⟩
 rw [← hp3] at hG3 q3 fn3
 have HS16:Hid (U16 s):=hs16
 clear hp3 hsv hs4 hrg hs16
 cases hr3:p3.r with
 | inl f=>
  have HI:Hid (∀ W t,t≤tn+6→Tn W c t T x n p2.m→Calls Tryz.prog 87 #[.pointer (some ⟨T,0,none⟩),.int .u16 s] W fun e w'=>e=.panicked (pan f)∧Px W c t T x n p3.m 4 w'):=fun W t ht q=>(q3 W t ht q).mono (fun e w' ⟨a,p⟩=>⟨by rw [a];unfold OE;rw [hr3],p⟩)
  have HS:Hid (leaveO M x n 4=⟨p3.m,.inl f⟩):=hid_eq (by rw [hG3];unfold Ou.bind;rw [hr3])
  clear q3 fn3 hG3 hr3 r3
  go_enter Tryz.func37,Tryz.ntmps37
  go_wp2_with fail
  refine Calls.mono HWas.out ?_;rintro e w' ⟨rfl,hw⟩;replace hw:=hw.symm;subst hw
  go_wp2_with fail
  refine Calls.mono (HP0.out w tn (by omega) H0.out) ?_;rintro e v0 ⟨rfl,⟨t0,ht0,b0⟩,k0⟩
  have HB0:Hid (Tn v0 c t0 T x n p0.m∧t0≤tn+2∧Kp (c.mdT T) w v0):=⟨b0,by omega,(k0.mono (fun _ _ f=>.inl f))⟩
  clear b0 k0 ht0
  go_wp2_with fail
  refine Calls.mono (HP1.out v0 t0 HB0.out.2.1 HB0.out.1) ?_;rintro e v1 ⟨rfl,⟨t1,ht1,b1⟩,k1⟩
  have HB1:Hid (Tn v1 c t1 T x n p1.m∧t1≤tn+4∧Kp (c.mdT T) w v1):=⟨b1,by have:=HB0.out.2.1;omega,HB0.out.2.2.trans (k1.mono (fun _ _ f=>.inl f))⟩
  clear b1 k1 ht1
  go_wp2_with fail
  refine Calls.mono (HP2.out v1 t1 HB1.out.2.1 HB1.out.1) ?_;rintro e v2 ⟨rfl,⟨t2,ht2,b2⟩,k2⟩
  have HB2:Hid (Tn v2 c t2 T x n p2.m∧t2≤tn+6∧Kp (c.mdT T) w v2):=⟨b2,by have:=HB1.out.2.1;omega,HB1.out.2.2.trans (k2.mono (fun _ _ f=>.inl f))⟩
  clear b2 k2 ht2
  go_wp2_with fail
  refine Calls.mono (HI.out v2 t2 HB2.out.2.1 HB2.out.1) ?_;rintro e u ⟨rfl,p⟩
  exact ⟨rfl,by rw [HS.out];rfl,by rw [HS.out];exact (Py.after HB2.out.2.2 HB2.out.2.1 (Px.py (o:=⟨p3.m,.inl f⟩) p (fun n' e=>by cases e))).more (by omega)⟩
 | inr d=>
 have HI:Hid (∀ W t,t≤tn+6→Tn W c t T x n p2.m→Calls Tryz.prog 87 #[.pointer (some ⟨T,0,none⟩),.int .u16 s] W fun e w'=>e=.returned (.agg #[.int .u32 d.b,.int .u32 d.l,.int .i64 d.t,.bool d.s,.int .i64 d.d,.bool d.p,.bool d.g])∧Px W c t T x n p3.m 4 w'):=fun W t ht q=>(q3 W t ht q).mono (fun e w' ⟨a,p⟩=>⟨by rw [a];unfold OE;rw [hr3];rfl,p⟩)
 have HG4:Hid (leaveO M x n 4=(outerO p3.m x n s 4).bind fun M n=>laveB M x n d pl s fl):=hid_eq (by rw [hG3];unfold Ou.bind;rw [hr3])
 have HD:Hid d.Ok:=fn3.ok d hr3
 have HR4:Hid (RdB p3.m):=fn3.rd
 clear q3 fn3 hG3 hr3 r3
 by_cases ho:rg < s4
 ·have hdo:decide (rg < s4)=true:=decide_eq_true ho
  have q4:∀ W t,t≤tn+10→Tn W c t T x n p3.m→Calls Tryz.prog 89 #[.pointer (some ⟨T,0,none⟩),.int .i64 s4,.int .i64 4] W fun e w'=>e=OE vC (giveO p3.m x n s4 4)∧Py W c t T x (giveO p3.m x n s4 4) 8 w':=fun W t ht q=>give_any W c t T x n p3.m q s4 4 (by decide) (by have:=HTN.out;omega)
  obtain ⟨p4,hp4⟩:∃ o,o=giveO p3.m x n s4 4:=⟨_,rfl⟩
  have hG5:leaveO M x n 4=(p4.bind fun M n=>.ok M (hideC n s4)).bind fun M n=>laveB M x n d pl s fl:=by rw [HG4.out,HOU.out,if_pos ho,hp4]
  rw [← hp4] at q4
  clear hp4 ho
  cases hr4:p4.r with
  | inl f=>
   have HGv:Hid (∀ W t,t≤tn+10→Tn W c t T x n p3.m→Calls Tryz.prog 89 #[.pointer (some ⟨T,0,none⟩),.int .i64 s4,.int .i64 4] W fun e w'=>e=.panicked (pan f)∧Py W c t T x p4 8 w'):=fun W t ht q=>(q4 W t ht q).mono (fun e w' ⟨a,p⟩=>⟨by rw [a];unfold OE;rw [hr4],p⟩)
   have HS:Hid (leaveO M x n 4=⟨p4.m,.inl f⟩):=hid_eq (by rw [hG5];unfold Ou.bind;rw [hr4])
   clear q4 hG5 hr4
   go_enter Tryz.func37,Tryz.ntmps37
   go_wp2_with fail
   refine Calls.mono HWas.out ?_;rintro e w' ⟨rfl,hw⟩;replace hw:=hw.symm;subst hw
   go_wp2_with fail
   refine Calls.mono (HP0.out w tn (by omega) H0.out) ?_;rintro e v0 ⟨rfl,⟨t0,ht0,b0⟩,k0⟩
   have HB0:Hid (Tn v0 c t0 T x n p0.m∧t0≤tn+2∧Kp (c.mdT T) w v0):=⟨b0,by omega,(k0.mono (fun _ _ f=>.inl f))⟩
   clear b0 k0 ht0
   go_wp2_with fail
   refine Calls.mono (HP1.out v0 t0 HB0.out.2.1 HB0.out.1) ?_;rintro e v1 ⟨rfl,⟨t1,ht1,b1⟩,k1⟩
   have HB1:Hid (Tn v1 c t1 T x n p1.m∧t1≤tn+4∧Kp (c.mdT T) w v1):=⟨b1,by have:=HB0.out.2.1;omega,HB0.out.2.2.trans (k1.mono (fun _ _ f=>.inl f))⟩
   clear b1 k1 ht1
   go_wp2_with fail
   refine Calls.mono (HP2.out v1 t1 HB1.out.2.1 HB1.out.1) ?_;rintro e v2 ⟨rfl,⟨t2,ht2,b2⟩,k2⟩
   have HB2:Hid (Tn v2 c t2 T x n p2.m∧t2≤tn+6∧Kp (c.mdT T) w v2):=⟨b2,by have:=HB1.out.2.1;omega,HB1.out.2.2.trans (k2.mono (fun _ _ f=>.inl f))⟩
   clear b2 k2 ht2
   go_wp2_with fail
   refine Calls.mono (HI.out v2 t2 HB2.out.2.1 HB2.out.1) ?_;rintro e v3 ⟨rfl,⟨t3,ht3,b3⟩,k3⟩
   have HB3:Hid (Tn v3 c t3 T x n p3.m∧t3≤tn+10∧Kp (c.mdT T) w v3):=⟨b3,by have:=HB2.out.2.1;omega,HB2.out.2.2.trans (k3.mono (fun _ _ f=>.inl f))⟩
   obtain ⟨F,hF⟩:∃ F,F=v3.heap.size:=⟨_,rfl⟩
   obtain ⟨W5,hW5⟩:∃ W,W=v3.alloc (.cells #[.int .u32 d.b,.int .u32 d.l,.int .i64 d.t,.bool d.s,.int .i64 d.d,.bool d.p,.bool d.g] 26):=⟨_,rfl⟩
   have d5:DsAt W5 F d:=by rw [hW5,hF];exact (MapKept.heap_alloc v3 _).1
   have k45:Kp noB v3 W5:=by rw [hW5];exact Kp.alloc _ _ _
   have b5:=b3.kp0 k45
   have nF:¬ c.mdT T F:=fun e=>by have:=b3.ne e;omega
   have HB5:Hid (Tn W5 c t3 T x n p3.m∧t3≤tn+10∧Kp (c.mdT T) w W5):=⟨b5,HB3.out.2.1,HB3.out.2.2.trans (k45.mono (fun _ _ f=>f.elim))⟩
   have HN:Hid (DsAt W5 F d∧¬ c.mdT T F):=⟨d5,nF⟩
   have hrr:=HRr.out W5 t3 p3.m b5
   clear b3 b5 d5 k45 k3 ht3 nF
   go_wp2_with fail
   refine Calls.mono (HRo.out _) ?_;rintro e w' ⟨rfl,hw⟩;replace hw:=hw.symm;subst hw
   go_wp2_with fail
   rw [← hW5,← hF]
   clear hW5 hF
   refine Calls.mono hrr ?_;rintro e w' ⟨rfl,hw⟩;replace hw:=hw.symm;subst hw
   clear hrr HRr HRo HI HP0 HP1 HP2
   go_wp2_with fail
   refine Calls.mono (HGv.out W5 t3 HB5.out.2.1 HB5.out.1) ?_;rintro e u ⟨rfl,p⟩
   exact ⟨rfl,by rw [HS.out];rfl,by rw [HS.out];exact ((Py.after HB5.out.2.2 HB5.out.2.1 p).no rfl).more (by omega)⟩
  | inr nn=>
   have HGv:Hid (∀ W t,t≤tn+10→Tn W c t T x n p3.m→Calls Tryz.prog 89 #[.pointer (some ⟨T,0,none⟩),.int .i64 s4,.int .i64 4] W fun e w'=>e=.returned (.tuple #[])∧(∃ t',t'≤t+8∧Tn w' c t' T x nn p4.m)∧Kp (c.mdT T) W w'):=fun W t ht q=>(q4 W t ht q).mono (fun e w' ⟨a,p⟩=>⟨by rw [a];unfold OE;rw [hr4];rfl,by obtain ⟨⟨t,ht,_,hq⟩,kk⟩:=p;exact ⟨⟨t,ht,hq nn hr4⟩,kk⟩⟩)
   have HGL:Hid (leaveO M x n 4=laveB p4.m x (hideC nn s4) d pl s fl):=hid_eq (by rw [hG5];unfold Ou.bind;rw [hr4];rfl)
   clear q4 hG5 hr4
   go_enter Tryz.func37,Tryz.ntmps37
   go_wp2_with fail
   refine Calls.mono HWas.out ?_;rintro e w' ⟨rfl,hw⟩;replace hw:=hw.symm;subst hw
   go_wp2_with fail
   refine Calls.mono (HP0.out w tn (by omega) H0.out) ?_;rintro e v0 ⟨rfl,⟨t0,ht0,b0⟩,k0⟩
   have HB0:Hid (Tn v0 c t0 T x n p0.m∧t0≤tn+2∧Kp (c.mdT T) w v0):=⟨b0,by omega,(k0.mono (fun _ _ f=>.inl f))⟩
   clear b0 k0 ht0
   go_wp2_with fail
   refine Calls.mono (HP1.out v0 t0 HB0.out.2.1 HB0.out.1) ?_;rintro e v1 ⟨rfl,⟨t1,ht1,b1⟩,k1⟩
   have HB1:Hid (Tn v1 c t1 T x n p1.m∧t1≤tn+4∧Kp (c.mdT T) w v1):=⟨b1,by have:=HB0.out.2.1;omega,HB0.out.2.2.trans (k1.mono (fun _ _ f=>.inl f))⟩
   clear b1 k1 ht1
   go_wp2_with fail
   refine Calls.mono (HP2.out v1 t1 HB1.out.2.1 HB1.out.1) ?_;rintro e v2 ⟨rfl,⟨t2,ht2,b2⟩,k2⟩
   have HB2:Hid (Tn v2 c t2 T x n p2.m∧t2≤tn+6∧Kp (c.mdT T) w v2):=⟨b2,by have:=HB1.out.2.1;omega,HB1.out.2.2.trans (k2.mono (fun _ _ f=>.inl f))⟩
   clear b2 k2 ht2
   go_wp2_with fail
   refine Calls.mono (HI.out v2 t2 HB2.out.2.1 HB2.out.1) ?_;rintro e v3 ⟨rfl,⟨t3,ht3,b3⟩,k3⟩
   have HB3:Hid (Tn v3 c t3 T x n p3.m∧t3≤tn+10∧Kp (c.mdT T) w v3):=⟨b3,by have:=HB2.out.2.1;omega,HB2.out.2.2.trans (k3.mono (fun _ _ f=>.inl f))⟩
   obtain ⟨F,hF⟩:∃ F,F=v3.heap.size:=⟨_,rfl⟩
   obtain ⟨W5,hW5⟩:∃ W,W=v3.alloc (.cells #[.int .u32 d.b,.int .u32 d.l,.int .i64 d.t,.bool d.s,.int .i64 d.d,.bool d.p,.bool d.g] 26):=⟨_,rfl⟩
   have d5:DsAt W5 F d:=by rw [hW5,hF];exact (MapKept.heap_alloc v3 _).1
   have k45:Kp noB v3 W5:=by rw [hW5];exact Kp.alloc _ _ _
   have b5:=b3.kp0 k45
   have nF:¬ c.mdT T F:=fun e=>by have:=b3.ne e;omega
   have HB5:Hid (Tn W5 c t3 T x n p3.m∧t3≤tn+10∧Kp (c.mdT T) w W5):=⟨b5,HB3.out.2.1,HB3.out.2.2.trans (k45.mono (fun _ _ f=>f.elim))⟩
   have HN:Hid (DsAt W5 F d∧¬ c.mdT T F):=⟨d5,nF⟩
   have hrr:=HRr.out W5 t3 p3.m b5
   clear b3 b5 d5 k45 k3 ht3 nF
   go_wp2_with fail
   refine Calls.mono (HRo.out _) ?_;rintro e w' ⟨rfl,hw⟩;replace hw:=hw.symm;subst hw
   go_wp2_with fail
   rw [← hW5,← hF]
   clear hW5 hF
   refine Calls.mono hrr ?_;rintro e w' ⟨rfl,hw⟩;replace hw:=hw.symm;subst hw
   clear hrr HRr HRo HI HP0 HP1 HP2
   go_wp2_with fail
   refine Calls.mono (HGv.out W5 t3 HB5.out.2.1 HB5.out.1) ?_;rintro e v6 ⟨rfl,⟨t6,ht6,b6⟩,k6⟩
   have hhd:=hide_any v6 c t6 T x nn p4.m b6 s4
   have HB6:Hid (t6≤tn+18∧Kp (c.mdT T) w v6∧DsAt v6 F d):=⟨by have:=HB5.out.2.1;omega,HB5.out.2.2.trans k6,DsAt.kp HN.out.1 k6 HN.out.2⟩
   clear b6 k6 ht6 HGv
   go_wp2_with fail
   refine Calls.mono hhd ?_;rintro e v7 ⟨rfl,b7,k7⟩
   have HB:Hid (Tn v7 c t6 T x (hideC nn s4) p4.m∧t6≤tn+18∧Kp (c.mdT T) w v7):=⟨b7,HB6.out.1,HB6.out.2.1.trans k7⟩
   have HDS:Hid (DsAt v7 F d):=DsAt.kp HB6.out.2.2 k7 HN.out.2
   obtain ⟨nh,hnh⟩:∃ q,q=hideC nn s4:=⟨_,rfl⟩
   rw [← hnh] at HB HGL
   clear b7 k7 hhd hnh
   obtain ⟨j0,j1,j2,j3,j4,j5,j6⟩:=DsAt.c HDS.out
   by_cases hlm:d.l < pl
   ·have HS:Hid (leaveO M x n 4=.no p4.m 13 0):=hid_eq (HGL.out.trans (if_pos hlm))
    have dl:decide (d.l < pl)=true:=decide_eq_true hlm
    clear hlm
    go_wp2_with (go_at_call 68;refine Calls.mono (cProt_any _) ?_;rintro e w5 ⟨rfl,k5⟩)
    exact ⟨rfl,by rw [HS.out];rfl,by rw [HS.out];exact ⟨⟨t6,by have:=HB.out.2.1;omega,(HB.out.1.kp0 k5).a,fun n' e=>by cases e⟩,HB.out.2.2.trans (k5.mono (fun _ _ f=>f.elim))⟩⟩
   have dl:decide (d.l < pl)=false:=decide_eq_false hlm
   obtain ⟨sg,hsge⟩:∃ q,q=d.sg s:=⟨_,rfl⟩
   obtain ⟨nF,hnF⟩:∃ q:Cu,q={ Cu.setS { nh with fl:=putF x fl } 1 sg with ip:=pl,sh:=false }:=⟨_,rfl⟩
   have HS:Hid (leaveO M x n 4=⟨p4.m,.inr nF⟩):=hid_eq (by rw [HGL.out,hnF,hsge];exact if_neg hlm)
   have hpf:=putFlags_any v7 c t6 T x nh p4.m HB.out.1 fl HU2.out
   clear hlm
   go_wp2_with fail
   refine Calls.mono hpf ?_;rintro e u6 ⟨rfl,b6,k6⟩
   have d6:=DsAt.kp HDS.out k6 HN.out.2
   clear j0 j1 j2 j3 j4 j5 j6 hpf
   obtain ⟨j0,j1,j2,j3,j4,j5,j6⟩:=d6.c
   have c0:=b6.t.c (k:=20) rfl;have c1:=b6.t.c (k:=21) rfl;have c2:=b6.t.c (k:=22) rfl;have c3:=b6.t.c (k:=23) rfl;have c4:=b6.t.c (k:=24) rfl;have c5:=b6.t.c (k:=25) rfl;have c6:=b6.t.c (k:=26) rfl;have c7:=b6.t.c (k:=27) rfl;have c8:=b6.t.c (k:=28) rfl
   have z0:=b6.t.fz 20;have z1:=b6.t.fz 21;have z2:=b6.t.fz 22;have z3:=b6.t.fz 23;have z4:=b6.t.fz 24;have z5:=b6.t.fz 25;have z6:=b6.t.fz 26;have z7:=b6.t.fz 27;have z8:=b6.t.fz 28
   have q9:=b6.t.c (k:=9) rfl;have q81:=b6.t.c (k:=81) rfl
   have y9:=b6.t.fz 9;have y81:=b6.t.fz 81
   have hsg:sg.Wf:=by rw [hsge];exact HD.out.sg HS16.out
   have ht6:=Tn.cs b6 hsg
   have ht7:=Tn.fin3 (ht6.1.kp0 (Kp.refl noB (putCs u6 T sg)).drew) HU0.out
   have HF:Hid (Py w c tn T x ⟨p4.m,.inr nF⟩ 40 (((putCs u6 T sg).drew.setCell ⟨T,9,none⟩ (.int .u32 pl)).setCell ⟨T,81,none⟩ (.bool false))):=
    ⟨⟨t6,by have:=HB.out.2.1;omega,ht7.1.a,fun n' e=>by cases e;rw [hnF];exact ht7.1⟩,(((HB.out.2.2.trans k6).trans (ht6.2.mono (fun _ _ f=>.inr f))).trans ((Kp.refl noB (putCs u6 T sg)).drew.mono (fun _ _ f=>f.elim))).trans (ht7.2.mono (fun _ _ f=>.inr f))⟩
   obtain ⟨u8,hu8⟩:∃ W,W=(((((((((u6.setCell ⟨T,20,none⟩ (.int .u16 s)).setCell ⟨T,21,none⟩ (.bool false)).setCell ⟨T,22,none⟩ (.int .u32 d.b)).setCell ⟨T,23,none⟩ (.int .u32 d.l)).setCell ⟨T,24,none⟩ (.int .i64 d.t)).setCell ⟨T,25,none⟩ (.bool d.s)).setCell ⟨T,26,none⟩ (.int .i64 d.d)).setCell ⟨T,27,none⟩ (.bool d.p)).setCell ⟨T,28,none⟩ (.bool d.g)).drew:=⟨_,rfl⟩
   have HU8:Hid (u8=(((((((((u6.setCell ⟨T,20,none⟩ (.int .u16 s)).setCell ⟨T,21,none⟩ (.bool false)).setCell ⟨T,22,none⟩ (.int .u32 d.b)).setCell ⟨T,23,none⟩ (.int .u32 d.l)).setCell ⟨T,24,none⟩ (.int .i64 d.t)).setCell ⟨T,25,none⟩ (.bool d.s)).setCell ⟨T,26,none⟩ (.int .i64 d.d)).setCell ⟨T,27,none⟩ (.bool d.p)).setCell ⟨T,28,none⟩ (.bool d.g)).drew):=hid_eq hu8
   have hu9:u8=(putCs u6 T sg).drew:=by rw [hu8,hsge];rfl
   clear hu8
   rw [← hu9] at HF
   have b8:=ht6.1.kp0 (Kp.refl noB (putCs u6 T sg)).drew
   rw [← hu9] at b8
   have HB8:Hid _:=b8
   clear b8 hu9 hsge hnF ht6 ht7 hsg b6 k6 d6 q9 q81 y9 y81
   go_upto_region 13 with fail
   go_region
   rw [← HU8.out]
   clear HU8 c0 c1 c2 c3 c4 c5 c6 c7 c8 z0 z1 z2 z3 z4 z5 z6 z7 z8 j0 j1 j2 j3 j4 j5 j6
   have q0:=HB8.out.t.e
   unfold ptr at q0
   have q9:=HB8.out.t.c (k:=9) rfl;have q81:=HB8.out.t.c (k:=81) rfl
   have y9:=HB8.out.t.fz 9;have y81:=HB8.out.t.fz 81
   clear HB8
   go_wp2
   go_end0
   exact ⟨by rw [HS.out];rfl,by rw [HS.out];exact HF.out⟩
 ·have hdo:decide (rg < s4)=false:=decide_eq_false ho
  obtain ⟨es,hes⟩:∃ q,q=a32 (n.r 4) 12:=⟨_,rfl⟩
  have we:IntKind.u32.wrap (n.r 4+12)=es:=by rw [hes];exact a32_wrap _ _
  have HGL:Hid (leaveO M x n 4=laveB p3.m x (n.setR 4 es) d pl s fl):=hid_eq (by rw [HG4.out,HOU.out,if_neg ho,hes];rfl)
  have HES:Hid (U32 es):=by rw [hes];exact a32_bd _ _
  clear ho hes
  go_enter Tryz.func37,Tryz.ntmps37
  go_wp2_with fail
  refine Calls.mono HWas.out ?_;rintro e w' ⟨rfl,hw⟩;replace hw:=hw.symm;subst hw
  go_wp2_with fail
  refine Calls.mono (HP0.out w tn (by omega) H0.out) ?_;rintro e v0 ⟨rfl,⟨t0,ht0,b0⟩,k0⟩
  have HB0:Hid (Tn v0 c t0 T x n p0.m∧t0≤tn+2∧Kp (c.mdT T) w v0):=⟨b0,by omega,(k0.mono (fun _ _ f=>.inl f))⟩
  clear b0 k0 ht0
  go_wp2_with fail
  refine Calls.mono (HP1.out v0 t0 HB0.out.2.1 HB0.out.1) ?_;rintro e v1 ⟨rfl,⟨t1,ht1,b1⟩,k1⟩
  have HB1:Hid (Tn v1 c t1 T x n p1.m∧t1≤tn+4∧Kp (c.mdT T) w v1):=⟨b1,by have:=HB0.out.2.1;omega,HB0.out.2.2.trans (k1.mono (fun _ _ f=>.inl f))⟩
  clear b1 k1 ht1
  go_wp2_with fail
  refine Calls.mono (HP2.out v1 t1 HB1.out.2.1 HB1.out.1) ?_;rintro e v2 ⟨rfl,⟨t2,ht2,b2⟩,k2⟩
  have HB2:Hid (Tn v2 c t2 T x n p2.m∧t2≤tn+6∧Kp (c.mdT T) w v2):=⟨b2,by have:=HB1.out.2.1;omega,HB1.out.2.2.trans (k2.mono (fun _ _ f=>.inl f))⟩
  clear b2 k2 ht2
  go_wp2_with fail
  refine Calls.mono (HI.out v2 t2 HB2.out.2.1 HB2.out.1) ?_;rintro e v3 ⟨rfl,⟨t3,ht3,b3⟩,k3⟩
  have HB3:Hid (Tn v3 c t3 T x n p3.m∧t3≤tn+10∧Kp (c.mdT T) w v3):=⟨b3,by have:=HB2.out.2.1;omega,HB2.out.2.2.trans (k3.mono (fun _ _ f=>.inl f))⟩
  obtain ⟨F,hF⟩:∃ F,F=v3.heap.size:=⟨_,rfl⟩
  obtain ⟨W5,hW5⟩:∃ W,W=v3.alloc (.cells #[.int .u32 d.b,.int .u32 d.l,.int .i64 d.t,.bool d.s,.int .i64 d.d,.bool d.p,.bool d.g] 26):=⟨_,rfl⟩
  have d5:DsAt W5 F d:=by rw [hW5,hF];exact (MapKept.heap_alloc v3 _).1
  have k45:Kp noB v3 W5:=by rw [hW5];exact Kp.alloc _ _ _
  have b5:=b3.kp0 k45
  have nF:¬ c.mdT T F:=fun e=>by have:=b3.ne e;omega
  have HB5:Hid (Tn W5 c t3 T x n p3.m∧t3≤tn+10∧Kp (c.mdT T) w W5):=⟨b5,HB3.out.2.1,HB3.out.2.2.trans (k45.mono (fun _ _ f=>f.elim))⟩
  have HN:Hid (DsAt W5 F d∧¬ c.mdT T F):=⟨d5,nF⟩
  have hrr:=HRr.out W5 t3 p3.m b5
  clear b3 b5 d5 k45 k3 ht3 nF
  go_wp2_with fail
  refine Calls.mono (HRo.out _) ?_;rintro e w' ⟨rfl,hw⟩;replace hw:=hw.symm;subst hw
  go_wp2_with fail
  rw [← hW5,← hF]
  clear hW5 hF
  refine Calls.mono hrr ?_;rintro e w' ⟨rfl,hw⟩;replace hw:=hw.symm;subst hw
  clear hrr HRr HRo HI HP0 HP1 HP2
  have g0:=HB5.out.1.t.e
  unfold ptr at g0
  have g5:=HB5.out.1.t.c (k:=5) rfl
  have h5:=HB5.out.1.t.fz 5
  have hes6:=Tn.esp HB5.out.1 HES.out
  have kd:Kp noB (W5.setCell ⟨T,5,none⟩ (.int .u32 es)) (W5.setCell ⟨T,5,none⟩ (.int .u32 es)).drew:=(Kp.refl noB _).drew
  have kw6:=(hes6.2.mono (T:=c.mdT T) (fun _ _ f=>.inr f)).trans (kd.mono (fun _ _ f=>f.elim))
  have HB':Hid (Tn (W5.setCell ⟨T,5,none⟩ (.int .u32 es)).drew c t3 T x (n.setR 4 es) p3.m∧t3≤tn+18∧Kp (c.mdT T) w (W5.setCell ⟨T,5,none⟩ (.int .u32 es)).drew∧DsAt (W5.setCell ⟨T,5,none⟩ (.int .u32 es)).drew F d):=⟨hes6.1.kp0 kd,by have:=HB5.out.2.1;omega,HB5.out.2.2.trans kw6,DsAt.kp HN.out.1 kw6 HN.out.2⟩
  clear hes6 kd kw6
  go_upto_region 9 with fail
  go_region
  obtain ⟨v7,hv7⟩:∃ W,W=(W5.setCell ⟨T,5,none⟩ (.int .u32 es)).drew:=⟨_,rfl⟩
  rw [← hv7] at HB'
  have HB:Hid (Tn v7 c t3 T x (n.setR 4 es) p3.m∧t3≤tn+18∧Kp (c.mdT T) w v7):=⟨HB'.out.1,HB'.out.2.1,HB'.out.2.2.1⟩
  have HDS:Hid (DsAt v7 F d):=HB'.out.2.2.2
  obtain ⟨nh,hnh⟩:∃ q,q=n.setR 4 es:=⟨_,rfl⟩
  rw [← hnh] at HB HGL
  rw [← hv7]
  clear g0 g5 h5 HB' hnh hv7
  obtain ⟨j0,j1,j2,j3,j4,j5,j6⟩:=DsAt.c HDS.out
  by_cases hlm:d.l < pl
  ·have HS:Hid (leaveO M x n 4=.no p3.m 13 0):=hid_eq (HGL.out.trans (if_pos hlm))
   have dl:decide (d.l < pl)=true:=decide_eq_true hlm
   clear hlm
   go_wp2_with (go_at_call 68;refine Calls.mono (cProt_any _) ?_;rintro e w5 ⟨rfl,k5⟩)
   exact ⟨rfl,by rw [HS.out];rfl,by rw [HS.out];exact ⟨⟨t3,by have:=HB.out.2.1;omega,(HB.out.1.kp0 k5).a,fun n' e=>by cases e⟩,HB.out.2.2.trans (k5.mono (fun _ _ f=>f.elim))⟩⟩
  have dl:decide (d.l < pl)=false:=decide_eq_false hlm
  obtain ⟨sg,hsge⟩:∃ q,q=d.sg s:=⟨_,rfl⟩
  obtain ⟨nF,hnF⟩:∃ q:Cu,q={ Cu.setS { nh with fl:=putF x fl } 1 sg with ip:=pl,sh:=false }:=⟨_,rfl⟩
  have HS:Hid (leaveO M x n 4=⟨p3.m,.inr nF⟩):=hid_eq (by rw [HGL.out,hnF,hsge];exact if_neg hlm)
  have hpf:=putFlags_any v7 c t3 T x nh p3.m HB.out.1 fl HU2.out
  clear hlm
  go_wp2_with fail
  refine Calls.mono hpf ?_;rintro e u6 ⟨rfl,b6,k6⟩
  have d6:=DsAt.kp HDS.out k6 HN.out.2
  clear j0 j1 j2 j3 j4 j5 j6 hpf
  obtain ⟨j0,j1,j2,j3,j4,j5,j6⟩:=d6.c
  have c0:=b6.t.c (k:=20) rfl;have c1:=b6.t.c (k:=21) rfl;have c2:=b6.t.c (k:=22) rfl;have c3:=b6.t.c (k:=23) rfl;have c4:=b6.t.c (k:=24) rfl;have c5:=b6.t.c (k:=25) rfl;have c6:=b6.t.c (k:=26) rfl;have c7:=b6.t.c (k:=27) rfl;have c8:=b6.t.c (k:=28) rfl
  have z0:=b6.t.fz 20;have z1:=b6.t.fz 21;have z2:=b6.t.fz 22;have z3:=b6.t.fz 23;have z4:=b6.t.fz 24;have z5:=b6.t.fz 25;have z6:=b6.t.fz 26;have z7:=b6.t.fz 27;have z8:=b6.t.fz 28
  have q9:=b6.t.c (k:=9) rfl;have q81:=b6.t.c (k:=81) rfl
  have y9:=b6.t.fz 9;have y81:=b6.t.fz 81
  have hsg:sg.Wf:=by rw [hsge];exact HD.out.sg HS16.out
  have ht6:=Tn.cs b6 hsg
  have ht7:=Tn.fin3 (ht6.1.kp0 (Kp.refl noB (putCs u6 T sg)).drew) HU0.out
  have HF:Hid (Py w c tn T x ⟨p3.m,.inr nF⟩ 40 (((putCs u6 T sg).drew.setCell ⟨T,9,none⟩ (.int .u32 pl)).setCell ⟨T,81,none⟩ (.bool false))):=
   ⟨⟨t3,by have:=HB.out.2.1;omega,ht7.1.a,fun n' e=>by cases e;rw [hnF];exact ht7.1⟩,(((HB.out.2.2.trans k6).trans (ht6.2.mono (fun _ _ f=>.inr f))).trans ((Kp.refl noB (putCs u6 T sg)).drew.mono (fun _ _ f=>f.elim))).trans (ht7.2.mono (fun _ _ f=>.inr f))⟩
  obtain ⟨u8,hu8⟩:∃ W,W=(((((((((u6.setCell ⟨T,20,none⟩ (.int .u16 s)).setCell ⟨T,21,none⟩ (.bool false)).setCell ⟨T,22,none⟩ (.int .u32 d.b)).setCell ⟨T,23,none⟩ (.int .u32 d.l)).setCell ⟨T,24,none⟩ (.int .i64 d.t)).setCell ⟨T,25,none⟩ (.bool d.s)).setCell ⟨T,26,none⟩ (.int .i64 d.d)).setCell ⟨T,27,none⟩ (.bool d.p)).setCell ⟨T,28,none⟩ (.bool d.g)).drew:=⟨_,rfl⟩
  have HU8:Hid (u8=(((((((((u6.setCell ⟨T,20,none⟩ (.int .u16 s)).setCell ⟨T,21,none⟩ (.bool false)).setCell ⟨T,22,none⟩ (.int .u32 d.b)).setCell ⟨T,23,none⟩ (.int .u32 d.l)).setCell ⟨T,24,none⟩ (.int .i64 d.t)).setCell ⟨T,25,none⟩ (.bool d.s)).setCell ⟨T,26,none⟩ (.int .i64 d.d)).setCell ⟨T,27,none⟩ (.bool d.p)).setCell ⟨T,28,none⟩ (.bool d.g)).drew):=hid_eq hu8
  have hu9:u8=(putCs u6 T sg).drew:=by rw [hu8,hsge];rfl
  clear hu8
  rw [← hu9] at HF
  have b8:=ht6.1.kp0 (Kp.refl noB (putCs u6 T sg)).drew
  rw [← hu9] at b8
  have HB8:Hid _:=b8
  clear b8 hu9 hsge hnF ht6 ht7 hsg b6 k6 d6 q9 q81 y9 y81
  go_upto_region 13 with fail
  go_region
  rw [← HU8.out]
  clear HU8 c0 c1 c2 c3 c4 c5 c6 c7 c8 z0 z1 z2 z3 z4 z5 z6 z7 z8 j0 j1 j2 j3 j4 j5 j6
  have q0:=HB8.out.t.e
  unfold ptr at q0
  have q9:=HB8.out.t.c (k:=9) rfl;have q81:=HB8.out.t.c (k:=81) rfl
  have y9:=HB8.out.t.fz 9;have y81:=HB8.out.t.fz 81
  clear HB8
  go_wp2
  go_end0
  exact ⟨by rw [HS.out];rfl,by rw [HS.out];exact HF.out⟩
theorem leave_any (w:World) (c:Ev) (tn T:Nat) (x n:Cu) (M:Mem) (h:Tn w c tn T x n M) (z:Int) (htn:tn < 18446744073709551000):
  Calls Tryz.prog 37 #[.pointer (some ⟨T,0,none⟩),.int .i64 z] w fun e w'=>e=OE vC (leaveO M x n z)∧Py w c tn T x (leaveO M x n z) 40 w':=by
 have no:leaveO M x n z=.no M 13 0→(Calls Tryz.prog 37 #[.pointer (some ⟨T,0,none⟩),.int .i64 z] w fun e w'=>e=.panicked (pan ⟨13,0,0⟩)∧Kp noB w w')→Calls Tryz.prog 37 #[.pointer (some ⟨T,0,none⟩),.int .i64 z] w fun e w'=>e=OE vC (leaveO M x n z)∧Py w c tn T x (leaveO M x n z) 40 w':=fun e hc=>by
  rw [e]
  refine hc.mono ?_
  rintro e w' ⟨rfl,k⟩
  exact ⟨rfl,⟨tn,by omega,h.a.kp0 k,fun n e=>by cases e⟩,k.mono (fun _ _ f=>f.elim)⟩
 by_cases hz:z≠2∧z≠4
 ·exact no (by unfold leaveO;rw [if_pos (.inl hz)]) (leave_bad w c tn T x n M h z hz)
 by_cases hnt:bits .and .u32 x.fl 16384=0
 ·by_cases h2:z=2
  ·subst h2;exact leave_is2 w c tn T x n M h hnt htn
  ·have h4:z=4:=by omega
   subst h4;exact leave_is4 w c tn T x n M h hnt htn
 ·refine no (by unfold leaveO;rw [if_pos (.inr hnt)]) ?_
  by_cases h2:z=2
  ·subst h2;exact leave_nt2 w c tn T x n M h hnt
  ·have h4:z=4:=by omega
   subst h4;exact leave_nt4 w c tn T x n M h hnt
set_option maxHeartbeats 4000000 in
theorem attempt_ok1 (w:World) (c:Ev) (tn:Nat) (x:Cu) (M:Mem) (h:XAt w c tn x M) (b1:Nat) (n:Cu) (m:Mem) (b:Nat)
  (H:Hid (∀ W T,Kp noB w W→w.heap.size≤T→Tn W c tn T x x M→Calls Tryz.prog 36 #[.pointer (some ⟨T,0,none⟩),.pointer (some ⟨b1,0,none⟩)] W fun e w'=>e=.returned (.tuple #[])∧(∃ t,t≤tn+b∧Tn w' c t T x n m)∧Kp (c.mdT T) W w')):
  Calls Tryz.prog 26 #[.pointer (some ⟨c.E,0,none⟩),.func (.func 36) #[] #[.pointer (some ⟨b1,0,none⟩)]] w fun e w'=>e=.returned noFt.val∧(∃ t,t≤tn+b∧XAt w' c t n m)∧Kp (fun j=>c.md j∨j=c.E) w w':=by
 have hmf:∀ (fn:Fn) (first cap:Array Value) (w:World),(Instr.makeFunc fn first cap).run Tryz.prog w=.ok (.func fn first cap) w:=fun _ _ _ _=>rfl
 obtain ⟨TC,nn,Z,hV⟩:=vlP
 obtain ⟨vl,vs,va,vb⟩:=hV.ops
 have g1:=hV.agg;have g2:=hV.size
 obtain ⟨T9,hT9⟩:∃ t,t=154:=⟨_,rfl⟩
 have b9:∀ y,Op.box 154 y=Op.box T9 y:=by rw [hT9];exact fun _=>rfl
 have u9:∀ y,Op.build 154 y=Op.build T9 y:=by rw [hT9];exact fun _=>rfl
 have a9:∀ w,(isAgg T9).run Tryz.prog w=.ok true w:=by rw [hT9];exact fun w=>by kernel_rfl
 have s9:∀ w,(sizeOf T9).run Tryz.prog w=.ok 84 w:=by rw [hT9];exact fun w=>by kernel_rfl
 have hb:=turn_build c.E x
 have hz:=turnA_size c.E x
 obtain ⟨A,hA⟩:∃ A,A=turnA c.E x:=⟨_,rfl⟩
 obtain ⟨cs,hcs⟩:∃ q,q=x.cs:=⟨_,rfl⟩
 obtain ⟨X,hX⟩:∃ X,X=w.heap.size:=⟨_,rfl⟩
 obtain ⟨W0,hW0⟩:∃ W,W=w.alloc (.cells #[.int .i64 0,.int .i64 0,.int .u32 0] 44):=⟨_,rfl⟩
 have k0:Kp noB w W0:=by rw [hW0];exact Kp.alloc _ _ _
 have rX:RowT W0 X ⟨0,0,0⟩:=by rw [hW0,hX];exact (MapKept.heap_alloc w _).1
 have h0:=h.kp0 k0
 have HL:Hid _:=cLacks_no W0 c.E c.V c.bp x.cs h0.e
 have g4:(loadCellsFrom ⟨c.E,0,none⟩ 0 nn #[]).run Tryz.prog W0=.ok cs W0:=by rw [hcs];exact h0.e.get hV
 have g6:cs.size=nn:=by rw [hcs,hV.s];exact (cu_wf x).s
 have hs0:W0.heap.size=X+1:=by rw [hW0,hX];simp
 obtain ⟨W1,hW1⟩:∃ W,W=W0.alloc (.cells A T9):=⟨_,rfl⟩
 have k1:Kp noB W0 W1:=by rw [hW1];exact Kp.alloc _ _ _
 have t1:TAt W1 (X+1) c.E x:=by
  have:=(MapKept.heap_alloc W0 (.cells A T9)).1
  rw [hs0] at this
  unfold TAt
  rw [hW1,this,hA,hT9]
  rfl
 have h1:=h0.kp0 k1
 have T1:Tn W1 c tn (X+1) x x M:=⟨h1,t1,by have:=h.lt;omega,fun e=>by have:=h.in_all e;omega,h.ok⟩
 rw [← hA] at hb hz
 rw [← hcs,← hT9] at hb
 have r1:=rX.kp k1 id
 have HV:Hid _:=hV
 have HX:Hid (X=w.heap.size∧(∀ j,c.all j→j < X)∧c.E < X):=⟨hX,fun j hj=>by have:=h.in_all hj;omega,by have:=h.lt;omega⟩
 have HK1:Hid (Kp noB w W1):=k0.trans k1
 have HT1:Hid (Tn W1 c tn (X+1) x x M):=T1
 have HR1:Hid (RowT W1 X ⟨0,0,0⟩):=r1
 clear hV h h0 h1 t1 T1 r1 rX k0 k1 hA hcs hT9
 go_enter_defers Tryz.func26,Tryz.ntmps26
 simp only [vl,vs,b9,u9]
 go_wp2_with fail
 rw [← hW0,← hX]
 clear hW0 hX
 refine Calls.mono HL.out ?_;rintro e w' ⟨rfl,hw⟩;replace hw:=hw.symm;subst hw
 clear HL
 rename_i K1 hK1
 refine hK1 _ _ ?_
 clear hmf
 iterate 25 go_step
 rename_i K2 hK2
 refine OrdFree.wp_of_run (v:=.agg A) (w':=W0) (run_of_buildT (ps:=#[(0,.pointer (some ⟨c.E,0,none⟩)),(1,.agg cs)]) rfl (by kernel_rfl) (hb W0)) (hK2 _ _ ?_)
 have hmf:∀ (fn:Fn) (first cap:Array Value) (w:World),(Instr.makeFunc fn first cap).run Tryz.prog w=.ok (.func fn first cap) w:=fun _ _ _ _=>rfl
 go_wp2_with fail
 rw [← hW1]
 clear hW1 hb g4
 refine (none_any _).mono ?_;rintro e w2 ⟨rfl,k2⟩
 have r2:=RowT.kp HR1.out k2 (fun f=>f)
 have c0:=r2.c0;have c1:=r2.c1;have c2:=r2.c2
 have f0:=r2.fz 0;have f1:=r2.fz 1;have f2:=r2.fz 2
 have k3:Kp noB w (setFt w2 X noFt):=by
  have:=HK1.out.trans k2
  exact (((this.own' (i:=0) (by have:=HX.out.1;omega) _).own' (i:=1) (by have:=HX.out.1;omega) _).own' (i:=2) (by have:=HX.out.1;omega) _)
 have r3:=r2.set noFt
 have T3:Tn (setFt w2 X noFt) c tn (X+1) x x M:=(HT1.out.kp0 k2).kp (kp_setFt w2 X noFt) (fun e=>by have:=HX.out.2.2;omega) (by omega) (fun j hj e=>by have:=HX.out.2.1 j hj;omega)
 have HT3:Hid _:=T3
 have HC:=H.out _ (X+1) k3 (by have:=HX.out.1;omega) T3
 have HR3:Hid (RowT (setFt w2 X noFt) X noFt):=r3
 have HK3:Hid (Kp noB w (setFt w2 X noFt)):=k3
 clear r2 r3 k2 k3 T3 H HT1 HR1
 unfold setFt at HC HK3 HR3
 simp only [show noFt.vec=-1 from rfl,show noFt.code=-1 from rfl,show noFt.cr2=0 from rfl] at HC HK3 HR3
 go_wp2_with fail
 refine Calls.mono HC ?_;rintro e w4 ⟨rfl,⟨t,ht,b4⟩,k4⟩
 have r4:=RowT.kp HR3.out k4 (fun e=>by
  rcases e with e | e
  ·have:=HX.out.2.1 X (.inr e);omega
  ·omega)
 have gT:=b4.t.get HV.out
 have gS:=EAt.lay b4.a.e (cu_wf n)
 have kS:=Kp.setRow (S:=fun j=>j=c.E) w4 rfl (n.cs++#[.pointer (some ⟨c.V,0,none⟩),.pointer (some ⟨c.bp,0,none⟩)])
 have e5:=EAt.laid b4.a.e (cu_wf n)
 obtain ⟨W5,hW5⟩:∃ W,W=w4.setRow c.E (n.cs++#[.pointer (some ⟨c.V,0,none⟩),.pointer (some ⟨c.bp,0,none⟩)]):=⟨_,rfl⟩
 rw [← hW5] at gS kS e5
 have x5:XAt W5 c t n m:=⟨e5,b4.a.v.kp kS (by rw [b4.a.s];exact fun j hj e=>b4.a.n (e ▸ hj)),b4.a.s,b4.a.n,b4.ok⟩
 have r5:=r4.kp kS (by have:=HX.out.2.2;omega)
 have c0:=r5.c0;have c1:=r5.c1;have c2:=r5.c2
 have f0:=r5.fz 0;have f1:=r5.fz 1;have f2:=r5.fz 2
 have kk:Kp (fun j=>c.mdT (X+1) j∨j=c.E) w W5:=((HK3.out.mono (fun _ _ f=>f.elim)).trans (k4.mono (fun _ _ e=>.inl e))).trans (kS.mono (fun _ _ e=>.inr e))
 have kw:Kp (fun j=>c.md j∨j=c.E) w W5:=⟨kk.os,kk.tape,kk.output,kk.size,fun i hi hn=>kk.block i hi (fun e=>by
  rcases e with (e | e) | e
  ·exact hn (.inl e)
  ·have:=HX.out.1;omega
  ·exact hn (.inr e))⟩
 have r6:=r5.set noFt
 have kF:=kp_setFt W5 X noFt
 have HF:Hid ((∃ t,t≤tn+b∧XAt (setFt W5 X noFt) c t n m)∧Kp (fun j=>c.md j∨j=c.E) w (setFt W5 X noFt)):=⟨⟨t,ht,x5.kp kF (by have:=HX.out.2.2;omega) (fun j hj=>by have:=HX.out.2.1 j hj;omega)⟩,kw.over kF (fun j hj e=>absurd hj (by have:=HX.out.1;omega))⟩
 have d0:=r6.c0;have d1:=r6.c1;have d2:=r6.c2
 unfold setFt at d0 d1 d2 HF
 simp only [show noFt.vec=-1 from rfl,show noFt.code=-1 from rfl,show noFt.cr2=0 from rfl] at c0 c1 c2 d0 d1 d2 HF
 have gN:n.cs.size=nn:=by rw [HV.out.s];exact (cu_wf n).s
 clear r4 r5 r6 kF kw kk x5 e5 kS hW5 k4 b4 HC HR3 HK3 HT3
 go_wp2
 refine leaves_cons (f:=70) (args:=#[.pointer (some ⟨X,0,none⟩)]) (by simp) (by simp [go_sem]) ?_
 refine (acatch_idle X _).mono ?_
 rintro e u' w'' ⟨rfl,rfl,rfl⟩
 simp [Leaves,settle,results,Tryz.results26,go_sem,d0,d1,d2]
 exact ⟨rfl,HF.out⟩
set_option maxHeartbeats 4000000 in
theorem attempt_no1 (w:World) (c:Ev) (tn:Nat) (x:Cu) (M:Mem) (h:XAt w c tn x M) (b1:Nat) (f:Ft) (m:Mem) (b:Nat)
  (H:Hid (∀ W T,Kp noB w W→w.heap.size≤T→Tn W c tn T x x M→Calls Tryz.prog 36 #[.pointer (some ⟨T,0,none⟩),.pointer (some ⟨b1,0,none⟩)] W fun e w'=>e=.panicked (pan f)∧(∃ t,t≤tn+b∧XAt w' c t x m)∧Kp (c.mdT T) W w')):
  Calls Tryz.prog 26 #[.pointer (some ⟨c.E,0,none⟩),.func (.func 36) #[] #[.pointer (some ⟨b1,0,none⟩)]] w fun e w'=>e=.returned f.val∧(∃ t,t≤tn+b∧XAt w' c t x m)∧Kp (fun j=>c.md j∨j=c.E) w w':=by
 have hmf:∀ (fn:Fn) (first cap:Array Value) (w:World),(Instr.makeFunc fn first cap).run Tryz.prog w=.ok (.func fn first cap) w:=fun _ _ _ _=>rfl
 obtain ⟨TC,nn,Z,hV⟩:=vlP
 obtain ⟨vl,vs,va,vb⟩:=hV.ops
 have g1:=hV.agg;have g2:=hV.size
 obtain ⟨T9,hT9⟩:∃ t,t=154:=⟨_,rfl⟩
 have b9:∀ y,Op.box 154 y=Op.box T9 y:=by rw [hT9];exact fun _=>rfl
 have u9:∀ y,Op.build 154 y=Op.build T9 y:=by rw [hT9];exact fun _=>rfl
 have a9:∀ w,(isAgg T9).run Tryz.prog w=.ok true w:=by rw [hT9];exact fun w=>by kernel_rfl
 have s9:∀ w,(sizeOf T9).run Tryz.prog w=.ok 84 w:=by rw [hT9];exact fun w=>by kernel_rfl
 have hb:=turn_build c.E x
 have hz:=turnA_size c.E x
 obtain ⟨A,hA⟩:∃ A,A=turnA c.E x:=⟨_,rfl⟩
 obtain ⟨cs,hcs⟩:∃ q,q=x.cs:=⟨_,rfl⟩
 obtain ⟨X,hX⟩:∃ X,X=w.heap.size:=⟨_,rfl⟩
 obtain ⟨W0,hW0⟩:∃ W,W=w.alloc (.cells #[.int .i64 0,.int .i64 0,.int .u32 0] 44):=⟨_,rfl⟩
 have k0:Kp noB w W0:=by rw [hW0];exact Kp.alloc _ _ _
 have rX:RowT W0 X ⟨0,0,0⟩:=by rw [hW0,hX];exact (MapKept.heap_alloc w _).1
 have h0:=h.kp0 k0
 have HL:Hid _:=cLacks_no W0 c.E c.V c.bp x.cs h0.e
 have g4:(loadCellsFrom ⟨c.E,0,none⟩ 0 nn #[]).run Tryz.prog W0=.ok cs W0:=by rw [hcs];exact h0.e.get hV
 have g6:cs.size=nn:=by rw [hcs,hV.s];exact (cu_wf x).s
 have hs0:W0.heap.size=X+1:=by rw [hW0,hX];simp
 obtain ⟨W1,hW1⟩:∃ W,W=W0.alloc (.cells A T9):=⟨_,rfl⟩
 have k1:Kp noB W0 W1:=by rw [hW1];exact Kp.alloc _ _ _
 have t1:TAt W1 (X+1) c.E x:=by
  have:=(MapKept.heap_alloc W0 (.cells A T9)).1
  rw [hs0] at this
  unfold TAt
  rw [hW1,this,hA,hT9]
  rfl
 have h1:=h0.kp0 k1
 have T1:Tn W1 c tn (X+1) x x M:=⟨h1,t1,by have:=h.lt;omega,fun e=>by have:=h.in_all e;omega,h.ok⟩
 rw [← hA] at hb hz
 rw [← hcs,← hT9] at hb
 have r1:=rX.kp k1 id
 have HV:Hid _:=hV
 have HX:Hid (X=w.heap.size∧(∀ j,c.all j→j < X)∧c.E < X):=⟨hX,fun j hj=>by have:=h.in_all hj;omega,by have:=h.lt;omega⟩
 have HK1:Hid (Kp noB w W1):=k0.trans k1
 have HT1:Hid (Tn W1 c tn (X+1) x x M):=T1
 have HR1:Hid (RowT W1 X ⟨0,0,0⟩):=r1
 clear hV h h0 h1 t1 T1 r1 rX k0 k1 hA hcs hT9
 go_enter_defers Tryz.func26,Tryz.ntmps26
 simp only [vl,vs,b9,u9]
 go_wp2_with fail
 rw [← hW0,← hX]
 clear hW0 hX
 refine Calls.mono HL.out ?_;rintro e w' ⟨rfl,hw⟩;replace hw:=hw.symm;subst hw
 clear HL
 rename_i K1 hK1
 refine hK1 _ _ ?_
 clear hmf
 iterate 25 go_step
 rename_i K2 hK2
 refine OrdFree.wp_of_run (v:=.agg A) (w':=W0) (run_of_buildT (ps:=#[(0,.pointer (some ⟨c.E,0,none⟩)),(1,.agg cs)]) rfl (by kernel_rfl) (hb W0)) (hK2 _ _ ?_)
 have hmf:∀ (fn:Fn) (first cap:Array Value) (w:World),(Instr.makeFunc fn first cap).run Tryz.prog w=.ok (.func fn first cap) w:=fun _ _ _ _=>rfl
 go_wp2_with fail
 rw [← hW1]
 clear hW1 hb g4
 refine (none_any _).mono ?_;rintro e w2 ⟨rfl,k2⟩
 have r2:=RowT.kp HR1.out k2 (fun f=>f)
 have c0:=r2.c0;have c1:=r2.c1;have c2:=r2.c2
 have f0:=r2.fz 0;have f1:=r2.fz 1;have f2:=r2.fz 2
 have k3:Kp noB w (setFt w2 X noFt):=by
  have:=HK1.out.trans k2
  exact (((this.own' (i:=0) (by have:=HX.out.1;omega) _).own' (i:=1) (by have:=HX.out.1;omega) _).own' (i:=2) (by have:=HX.out.1;omega) _)
 have r3:=r2.set noFt
 have T3:Tn (setFt w2 X noFt) c tn (X+1) x x M:=(HT1.out.kp0 k2).kp (kp_setFt w2 X noFt) (fun e=>by have:=HX.out.2.2;omega) (by omega) (fun j hj e=>by have:=HX.out.2.1 j hj;omega)
 have HT3:Hid _:=T3
 have HC:=H.out _ (X+1) k3 (by have:=HX.out.1;omega) T3
 have HR3:Hid (RowT (setFt w2 X noFt) X noFt):=r3
 have HK3:Hid (Kp noB w (setFt w2 X noFt)):=k3
 clear r2 r3 k2 k3 T3 H HT1 HR1
 unfold setFt at HC HK3 HR3
 simp only [show noFt.vec=-1 from rfl,show noFt.code=-1 from rfl,show noFt.cr2=0 from rfl] at HC HK3 HR3
 go_wp2_with fail
 refine Calls.mono HC ?_;rintro e w4 ⟨rfl,⟨t,ht,b4⟩,k4⟩
 have r4:=RowT.kp HR3.out k4 (fun e=>by
  rcases e with e | e
  ·have:=HX.out.2.1 X (.inr e);omega
  ·omega)
 have kk:Kp (c.mdT (X+1)) w w4:=(HK3.out.mono (fun _ _ f=>f.elim)).trans k4
 have kw:Kp (fun j=>c.md j∨j=c.E) w w4:=⟨kk.os,kk.tape,kk.output,kk.size,fun i hi hn=>kk.block i hi (fun e=>by
  rcases e with e | e
  ·exact hn (.inl e)
  ·have:=HX.out.1;omega)⟩
 have r6:=r4.set f
 have kF:=kp_setFt w4 X f
 have HF:Hid ((∃ t,t≤tn+b∧XAt (setFt w4 X f) c t x m)∧Kp (fun j=>c.md j∨j=c.E) w (setFt w4 X f)):=⟨⟨t,ht,b4.kp kF (by have:=HX.out.2.2;omega) (fun j hj=>by have:=HX.out.2.1 j hj;omega)⟩,kw.over kF (fun j hj e=>absurd hj (by have:=HX.out.1;omega))⟩
 have d0:=r6.c0;have d1:=r6.c1;have d2:=r6.c2
 refine leaves_cons (f:=70) (args:=#[.pointer (some ⟨X,0,none⟩)]) (by simp) (by simp [go_sem]) ?_
 refine (acatch_pan X noFt f [] _ r4).mono ?_
 rintro e u' w'' ⟨rfl,rfl,rfl⟩
 simp [Leaves,settle,results,Tryz.results26,go_sem,d0,d1,d2]
 exact ⟨rfl,HF.out⟩
theorem leave1_any (w:World) (c:Ev) (tn T:Nat) (x:Cu) (M:Mem) (h:Tn w c tn T x x M) (b1:Nat) (z:Int) (h1:w.cell? ⟨b1,0,none⟩=some (.int .i64 z)) (htn:tn < 18446744073709551000):
  Calls Tryz.prog 36 #[.pointer (some ⟨T,0,none⟩),.pointer (some ⟨b1,0,none⟩)] w fun e w'=>e=OE vC (leaveO M x x z)∧Py w c tn T x (leaveO M x x z) 40 w':=by
 have HC:=leave_any w c tn T x x M h z htn
 obtain ⟨o,ho⟩:∃ o,o=leaveO M x x z:=⟨_,rfl⟩
 rw [← ho] at HC ⊢
 clear ho h
 cases hr:o.r with
 | inl f=>
  have HC1:Hid (Calls Tryz.prog 37 #[.pointer (some ⟨T,0,none⟩),.int .i64 z] w fun e w'=>e=.panicked (pan f)∧Py w c tn T x o 40 w'):=HC.mono (fun e w' ⟨a,p⟩=>⟨by rw [a];unfold OE;rw [hr],p⟩)
  have HE:Hid (OE vC o=.panicked (pan f)):=by unfold OE;rw [hr];exact rfl
  clear HC hr
  go_enter Tryz.func36,Tryz.ntmps36
  go_wp2_with (go_at_call 37;refine Calls.mono HC1.out ?_;rintro e w2 ⟨rfl,p2⟩)
  exact ⟨rfl,HE.out.symm,p2⟩
 | inr n=>
  have HC1:Hid (Calls Tryz.prog 37 #[.pointer (some ⟨T,0,none⟩),.int .i64 z] w fun e w'=>e=.returned (.tuple #[])∧Py w c tn T x o 40 w'):=HC.mono (fun e w' ⟨a,p⟩=>⟨by rw [a];unfold OE;rw [hr];rfl,p⟩)
  have HE:Hid (OE vC o=.returned (.tuple #[])):=by unfold OE;rw [hr];exact rfl
  clear HC hr
  go_enter Tryz.func36,Tryz.ntmps36
  go_wp2_with (go_at_call 37;refine Calls.mono HC1.out ?_;rintro e w2 ⟨rfl,p2⟩)
  go_end0
  exact ⟨HE.out.symm,p2⟩
theorem Return_any (w:World) (c:Ev) (tn:Nat) (x:Cu) (M:Mem) (h:XAt w c tn x M) (z:Int) (htn:tn < 18446744073709551000):
  Calls Tryz.prog 15 #[.pointer (some ⟨c.E,0,none⟩),.int .i64 z] w fun e w'=>e=.returned (ftO (leaveO M x x z)).val∧(∃ t,t≤tn+40∧XAt w' c t (xO x (leaveO M x x z)) (leaveO M x x z).m)∧Kp (fun j=>c.md j∨j=c.E) w w':=by
 have hmf:∀ (fn:Fn) (first cap:Array Value) (w:World),(Instr.makeFunc fn first cap).run Tryz.prog w=.ok (.func fn first cap) w:=fun _ _ _ _=>rfl
 obtain ⟨X,hX⟩:∃ X,w.heap.size=X:=⟨_,rfl⟩
 obtain ⟨W0,hW0⟩:∃ W,W=(w.alloc (.cells #[.int .i64 z] 3)).alloc (.cells #[.int .i64 0,.int .i64 0,.int .u32 0] 44):=⟨_,rfl⟩
 have k0:Kp noB w W0:=by rw [hW0];exact (Kp.alloc noB w _).trans (Kp.alloc noB _ _)
 have a1:W0.cell? ⟨X,0,none⟩=some (.int .i64 z):=by rw [hW0,← hX];simp [go_sem]
 have rX:RowT W0 (X+1) ⟨0,0,0⟩:=by
  have:=(MapKept.heap_alloc (w.alloc (.cells #[.int .i64 z] 3)) (.cells #[.int .i64 0,.int .i64 0,.int .u32 0] 44)).1
  simp only [World.size_alloc,hX] at this
  rw [hW0];exact this
 have h0:=h.kp0 k0
 have HEn:∀ W T,Kp noB W0 W→Tn W c tn T x x M→Calls Tryz.prog 36 #[.pointer (some ⟨T,0,none⟩),.pointer (some ⟨X,0,none⟩)] W fun e w'=>e=OE vC (leaveO M x x z)∧Py W c tn T x (leaveO M x x z) 40 w':=fun W T k q=>leave1_any W c tn T x M q X z (cell_kp a1 k id) htn
 obtain ⟨o,ho⟩:∃ o,o=leaveO M x x z:=⟨_,rfl⟩
 rw [← ho] at HEn ⊢
 have HC:Hid (Calls Tryz.prog 26 #[.pointer (some ⟨c.E,0,none⟩),.func (.func 36) #[] #[.pointer (some ⟨X,0,none⟩)]] W0 fun e w'=>e=.returned (ftO o).val∧(∃ t,t≤tn+40∧XAt w' c t (xO x o) o.m)∧Kp (fun j=>c.md j∨j=c.E) W0 w'):=by
  cases hr:o.r with
  | inl f=>
   have e1:ftO o=f:=by unfold ftO;rw [hr]
   have e2:xO x o=x:=by unfold xO;rw [hr]
   rw [e1,e2]
   exact attempt_no1 W0 c tn x M h0 X f o.m 40 (fun W T k _ q=>(HEn W T k q).mono (fun e w' ⟨a,⟨t,b,b',_⟩,kk⟩=>⟨by rw [a];unfold OE;rw [hr],⟨t,b,b'⟩,kk⟩))
  | inr n=>
   have e1:ftO o=noFt:=by unfold ftO;rw [hr]
   have e2:xO x o=n:=by unfold xO;rw [hr]
   rw [e1,e2]
   exact attempt_ok1 W0 c tn x M h0 X n o.m 40 (fun W T k _ q=>(HEn W T k q).mono (fun e w' ⟨a,⟨t,b,_,b'⟩,kk⟩=>⟨by rw [a];unfold OE;rw [hr];rfl,⟨t,b,b' n hr⟩,kk⟩))
 have HX:Hid (w.heap.size=X∧(∀ j,c.all j→j < X)∧c.E < X):=⟨hX,fun j hj=>by have:=h.in_all hj;omega,by have:=h.lt;omega⟩
 have HR:Hid (RowT W0 (X+1) ⟨0,0,0⟩):=rX
 have HK:Hid (Kp noB w W0):=k0
 obtain ⟨fv,hfv⟩:∃ f,f=ftO o:=⟨_,rfl⟩
 rw [← hfv] at HC ⊢
 unfold Ft.val at HC ⊢
 clear h h0 HEn a1 rX k0 ho hfv
 go_enter Tryz.func15,Tryz.ntmps15
 go_wp2_with fail
 rw [← hW0]
 clear hW0 hX
 refine Calls.mono HC.out ?_;rintro e w2 ⟨rfl,⟨t,ht,x2⟩,k2⟩
 have r2:=RowT.kp HR.out k2 (fun e=>by
  rcases e with e | e
  ·have:=HX.out.2.1 _ (.inr e);omega
  ·have:=HX.out.2.2;omega)
 have c0:=r2.c0;have c1:=r2.c1;have c2:=r2.c2
 have f0:=r2.fz 0;have f1:=r2.fz 1;have f2:=r2.fz 2
 have r3:=r2.set fv
 have kF:=kp_setFt w2 (X+1) fv
 have d0:=r3.c0;have d1:=r3.c1;have d2:=r3.c2
 have HF:Hid ((∃ t,t≤tn+40∧XAt (setFt w2 (X+1) fv) c t (xO x o) o.m)∧Kp (fun j=>c.md j∨j=c.E) w (setFt w2 (X+1) fv)):=by
  refine ⟨⟨t,ht,x2.kp kF (by have:=HX.out.2.2;omega) (fun j hj=>by have:=HX.out.2.1 j hj;omega)⟩,((HK.out.mono (fun _ _ f=>f.elim)).trans k2).over kF (fun j hj e=>absurd hj (by have:=HX.out.1;omega))⟩
 unfold setFt at d0 d1 d2 HF
 clear r2 r3 kF x2 k2 HC HR
 go_wp2
 refine bodyPost_ret (v:=.agg #[.int .i64 fv.vec,.int .i64 fv.code,.int .u32 fv.cr2]) (by simp [results,Tryz.results15,go_sem,d0,d1,d2]) rfl ⟨rfl,HF.out⟩
end Go.Proofs.YtacgmoikegcopaaGreatDoor.Rm
namespace Go.Proofs.YtacgmoikegcopaaGreatDoor.Ut
open Go.RowKit
set_option linter.unusedVariables false
set_option maxRecDepth 20000
structure U where
 came:List Int
 lost:Bool
 tell:Bool
 on:Bool
 d0:Int
 d1:Int
 want:Int
 line:Int
 modem:Int
 jot:Int
 sent:List Int
def U.lat (u:U):Bool:=decide (128≤u.line)
def U.there (u:U):Bool:=decide (0 < u.came.length)
def b0 (v:Int):Bool:=v%2==1
def b1 (v:Int):Bool:=v / 2%2==1
def U.why (u:U):Int:=if (u.there&&b0 u.want)=true then 4 else if (u.tell&&b1 u.want)=true then 2 else 1
def U.wants (u:U) (v:Int):U:={ u with tell:=u.tell||(b1 v&&!b1 u.want),want:=v }
def U.turn (u:U) (v:Int):U:={ u with came:=if (b1 v||(b0 v != u.on))=true then [] else u.came,on:=b0 v }
def U.send (u:U) (v:Int):U:={ u with sent:=u.sent++[v],tell:=true }
def U.out (u:U) (n v:Int):U:=
 if n=0 then (if u.lat=true then { u with d0:=v } else u.send v)
 else if n=1 then (if u.lat=true then { u with d1:=v } else u.wants (v%16))
 else if n=2 then u.turn v
 else if n=3 then { u with line:=v }
 else if n=4 then { u with modem:=v%32 }
 else if n=7 then { u with jot:=v }
 else u
def U.room (u:U):Nat:=if u.on=true then 16 else 1
def U.ln (u:U):Bool:=u.why != 1
def u0:U:=⟨[],false,false,false,0,0,0,0,0,0,[]⟩
def By (x:Int):Prop:=0≤x∧x < 256
structure U.Ok (u:U):Prop where
 d0:By u.d0
 d1:By u.d1
 want:0≤u.want∧u.want < 16
 line:By u.line
 modem:By u.modem
 jot:By u.jot
 came:∀ b,b ∈ u.came→By b
 few:u.came.length≤u.room
 sent:∀ b,b ∈ u.sent→By b
open Go.ChangeShapes Go.WideShapes Go.ChangeAt Go.RowKit
structure Kp (S:Nat→Prop) (w w':World):Prop where
 os:w'.os=w.os
 tape:w'.tape=w.tape
 output:w'.output=w.output
 size:w.heap.size≤w'.heap.size
 block:∀ k,k < w.heap.size→¬ S k→w'.heap[k]?=w.heap[k]?
theorem Kp.refl (S:Nat→Prop) (w:World):Kp S w w:=⟨rfl,rfl,rfl,Nat.le_refl _,fun _ _ _=>rfl⟩
theorem Kp.trans {S:Nat→Prop} {a b c:World} (h:Kp S a b) (k:Kp S b c):Kp S a c:=
 ⟨k.os.trans h.os,k.tape.trans h.tape,k.output.trans h.output,Nat.le_trans h.size k.size,fun i hi hs=>(k.block i (Nat.lt_of_lt_of_le hi h.size) hs).trans (h.block i hi hs)⟩
theorem Kp.mono {S T:Nat→Prop} {a b:World} (h:Kp S a b) (hST:∀ k,k < a.heap.size→S k→T k):Kp T a b:=
 ⟨h.os,h.tape,h.output,h.size,fun i hi hs=>h.block i hi (fun g=>hs (hST i hi g))⟩
theorem Kp.alloc (S:Nat→Prop) (w:World) (o:Obj):Kp S w (w.alloc o):=
 ⟨rfl,rfl,rfl,by simp,fun k hk _=>Below.heap_alloc _ _ _ hk⟩
theorem Kp.setCell {S:Nat→Prop} (w:World) {p:Addr} (hp:S p.block) (u:Value):Kp S w (w.setCell p u):=
 ⟨rfl,rfl,rfl,by simp [World.setCell],fun k hk hs=>Below.heap_setCell _ _ _ _ (fun e=>hs (e ▸ hp))⟩
theorem Kp.drew {S:Nat→Prop} {w w':World} (h:Kp S w w'):Kp S w w'.drew:=⟨h.os,h.tape,h.output,h.size,h.block⟩
theorem Kp.over {S T:Nat→Prop} {a b c:World} (h:Kp T a b) (k:Kp S b c) (hS:∀ j,j < a.heap.size→S j→T j):Kp T a c:=
 ⟨k.os.trans h.os,k.tape.trans h.tape,k.output.trans h.output,Nat.le_trans h.size k.size,fun i hi hs=>(k.block i (Nat.lt_of_lt_of_le hi h.size) (fun g=>hs (hS i hi g))).trans (h.block i hi hs)⟩
theorem heap_lt {w:World} {b:Nat} {o:Obj} (h:w.heap[b]?=some o):b < w.heap.size:=(Array.getElem?_eq_some_iff.1 h).1
theorem heap_kept {S:Nat→Prop} {w w':World} {b:Nat} {o:Obj} (h:w.heap[b]?=some o) (k:Kp S w w') (hS:¬ S b):w'.heap[b]?=some o:=(k.block b (heap_lt h) hS).trans h
theorem heap_set {w:World} {b k:Nat} {v:Value} {c:Array Value} {t:TypeId} {fr:Nat × Nat} (h:w.heap[b]?=some (.cells c t fr)):(w.setCell ⟨b,k,none⟩ v).heap[b]?=some (.cells (c.setIfInBounds k v) t fr):=by
 simp [World.setCell,Array.getElem?_modify,h]
def noB (_:Nat):Prop:=False
def isB (B k:Nat):Prop:=k=B
theorem Kp.any {S:Nat→Prop} {w w':World} (h:Kp noB w w'):Kp S w w':=h.mono fun _ _ f=>f.elim
theorem kpB (B:Nat) (w:World) (k:Nat) (v:Value):Kp (isB B) w (w.setCell ⟨B,k,none⟩ v):=Kp.setCell (S:=isB B) w (p:=⟨B,k,none⟩) rfl v
theorem heap_new (w:World) (o:Obj):(w.alloc o).heap[w.heap.size]?=some o:=(MapKept.heap_alloc w o).1
def OwnB (w:World) (v:Value) (l:List Int):Prop:=w.ownsRow 0 5 1 v l.length (l.map (Value.int .u8))
inductive ChAt (w:World):Option Nat→List Int→Prop
 | no:ChAt w none []
 | on (c s r:Nat) (l:List Int) (h:w.heap[c]?=some (.chan 16 (l.map (Value.int .u8)).toArray false s r false)) (hl:l.length≤16):ChAt w (some c) l
theorem ChAt.kept {S:Nat→Prop} {w w':World} {cv:Option Nat} {l:List Int} (h:ChAt w cv l) (k:Kp S w w') (hS:∀ c,cv=some c→¬ S c):ChAt w' cv l:=by
 cases h with
 | no=>exact .no
 | on c s r l h hl=>exact .on c s r l (heap_kept h k (hS c rfl)) hl
theorem OwnB.kept {S:Nat→Prop} {w w':World} {v:Value} {l:List Int} (h:OwnB w v l) (k:Kp S w w') (hS:∀ g,v.ownBlock=some g→¬ S g):OwnB w' v l:=by
 refine ⟨h.1,?_⟩
 rcases h.2 with g | ⟨g,cap,cur,rfl,hb,hg,r⟩
 ·exact .inl g
 ·exact .inr ⟨g,cap,cur,rfl,hb,heap_kept hg k (hS g rfl),r⟩
theorem OwnB.nil (w:World):OwnB w (.slice none 0 0) []:=⟨rfl,.inl ⟨rfl,rfl⟩⟩
def uC (cv:Option Nat) (sv:Value) (u:U):Array Value:=#[.chan cv,.bool u.lost,sv,.bool u.tell,.bool u.on,.int .u8 u.d0,.int .u8 u.d1,.int .u8 u.want,.int .u8 u.line,.int .u8 u.modem,.int .u8 u.jot]
structure UAt (w:World) (B:Nat) (cv:Option Nat) (sv:Value) (u:U):Prop where
 blk:w.heap[B]?=some (.cells (uC cv sv u) 230 (0,0))
 chn:ChAt w cv u.came
 snt:OwnB w sv u.sent
section
variable {w:World} {B:Nat} {cv:Option Nat} {sv:Value} {u:U}
theorem UAt.kept {S:Nat→Prop} {w':World} (h:UAt w B cv sv u) (k:Kp S w w') (hB:¬ S B) (hc:∀ c,cv=some c→¬ S c) (hs:∀ g,sv.ownBlock=some g→¬ S g):UAt w' B cv sv u:=
 ⟨heap_kept h.blk k hB,h.chn.kept k hc,h.snt.kept k hs⟩
theorem UAt.cell (h:UAt w B cv sv u) {k:Nat} {v:Value} (e:(uC cv sv u)[k]?=some v):w.cell? ⟨B,k,none⟩=some v:=by
 simp [World.cell?,h.blk,e]
theorem UAt.c0 (h:UAt w B cv sv u):w.cell? ⟨B,0,none⟩=some (.chan cv):=h.cell rfl
theorem UAt.c3 (h:UAt w B cv sv u):w.cell? ⟨B,3,none⟩=some (.bool u.tell):=h.cell rfl
theorem UAt.c7 (h:UAt w B cv sv u):w.cell? ⟨B,7,none⟩=some (.int .u8 u.want):=h.cell rfl
theorem UAt.lt (h:UAt w B cv sv u):B < w.heap.size:=heap_lt h.blk
end
def foot (B:Nat) (cv:Option Nat) (sv:Value) (k:Nat):Prop:=k=B∨cv=some k∨sv.ownBlock=some k
structure UW (w:World) (S:Nat→Prop) (B:Nat) (u:U):Prop where
 ex:∃ cv sv,UAt w B cv sv u∧∀ k,foot B cv sv k→S k
 lt:∀ k,S k→k < w.heap.size
theorem UW.kept {w w':World} {S T:Nat→Prop} {B:Nat} {u:U} (h:UW w S B u) (k:Kp T w w') (hS:∀ k,S k→¬ T k):UW w' S B u:=by
 obtain ⟨cv,sv,h1,h2⟩:=h.ex
 exact ⟨⟨cv,sv,h1.kept k (hS _ (h2 _ (.inl rfl))) (fun c e=>hS _ (h2 _ (.inr (.inl e)))) (fun g e=>hS _ (h2 _ (.inr (.inr e)))),h2⟩,fun j hj=>Nat.lt_of_lt_of_le (h.lt j hj) k.size⟩
open Go.ChangeShapes Go.WideShapes Go.ChangeAt Go.RowKit
theorem and1':∀ n:Fin 256,(bits .and .u8 (n.val:Int) 1 != 0)=b0 (n.val:Int):=by decide +kernel
theorem and2':∀ n:Fin 256,(bits .and .u8 (n.val:Int) 2 != 0)=b1 (n.val:Int):=by decide +kernel
theorem byFin {p:Int→Prop} (h:∀ n:Fin 256,p (n.val:Int)) {v:Int} (hv:By v):p v:=by
 have:=h ⟨v.toNat,by have:=hv.1;have:=hv.2;omega⟩
 simp only [Int.toNat_of_nonneg hv.1] at this
 exact this
theorem and1 {v:Int} (h:By v):(bits .and .u8 v 1 != 0)=b0 v:=byFin (p:=fun v=>(bits .and .u8 v 1 != 0)=b0 v) and1' h
theorem and2 {v:Int} (h:By v):(bits .and .u8 v 2 != 0)=b1 v:=byFin (p:=fun v=>(bits .and .u8 v 2 != 0)=b1 v) and2' h
theorem by16 {v:Int} (h:0≤v∧v < 16):By v:=⟨h.1,by omega⟩
section
variable {w:World} {B:Nat} {cv:Option Nat} {sv:Value} {u:U}
theorem len_nil (w:World) (ty:TypeId):(Builtin.len_ #[227] ty #[.chan none]).run Tryz.prog w=.ok (goInt 0) w:=by
 simp [Builtin.len_,run_underlying Tryz.underlying227]
theorem len_chan {l:List Int} (h:ChAt w cv l) (ty:TypeId):(Builtin.len_ #[227] ty #[.chan cv]).run Tryz.prog w=.ok (.int .i64 l.length) w:=by
 cases h with
 | no=>exact len_nil w ty
 | on c s r l h hl=>
  have:=Conc.run_len_chan (P:=Tryz.prog) 227 ty Tryz.underlying227 h
  rw [this]
  simp [goInt]
theorem there_any (h:UAt w B cv sv u):Calls Tryz.prog 228 #[.pointer (some ⟨B,0,none⟩)] w fun e w'=>e=.returned (.bool u.there)∧w'=w:=by
 have c0:=h.c0
 have hl:=fun ty=>len_chan h.chn ty
 go_enter Tryz.func228,Tryz.ntmps228
 go_wp2
 go_ret
 exact ⟨rfl,rfl⟩
end
open Go.ChangeShapes Go.WideShapes Go.ChangeAt Go.RowKit
section
variable {w:World} {B:Nat} {cv:Option Nat} {sv:Value} {u:U}
theorem cause_any (h:UAt w B cv sv u) (k:u.Ok):Calls Tryz.prog 187 #[.pointer (some ⟨B,0,none⟩)] w fun e w'=>e=.returned (.int .u8 u.why)∧w'=w:=by
 have HT:Hid _:=there_any h
 have c3:=h.c3
 have c7:=h.c7
 have e1:=and1 (by16 k.want)
 have e2:=and2 (by16 k.want)
 unfold U.why
 clear h k
 generalize u.there=ut at HT ⊢
 generalize b0 u.want=x0 at e1 ⊢
 generalize b1 u.want=x1 at e2 ⊢
 generalize u.tell=ul at c3 ⊢
 cases ut<;>cases x0<;>cases ul<;>cases x1<;>(
  go_enter Tryz.func187,Tryz.ntmps187
  go_wp2_with fail
  refine Calls.mono HT.out ?_;rintro e w1 ⟨rfl,hw⟩;replace hw:=hw.symm;subst hw
  go_wp2
  go_ret
  exact ⟨rfl,rfl⟩)
end
open Go.ChangeShapes Go.WideShapes Go.ChangeAt Go.RowKit
section
variable {w:World} {B:Nat} {cv:Option Nat} {sv:Value} {u:U}
theorem line_ok (h:UAt w B cv sv u) (k:u.Ok):Calls Tryz.prog 136 #[.pointer (some ⟨B,0,none⟩)] w fun e w'=>e=.returned (.bool u.ln)∧w'=w:=by
 have HT:Hid _:=cause_any h k
 unfold U.ln
 clear h k
 go_enter Tryz.func136,Tryz.ntmps136
 go_wp2_with fail
 refine Calls.mono HT.out ?_;rintro e w1 ⟨rfl,hw⟩;replace hw:=hw.symm;subst hw
 go_wp2
 go_ret
 exact ⟨rfl,rfl⟩
end
def uz:Array Value:=uC none (.slice none 0 0) u0
theorem new_ok (w:World):Calls Tryz.prog 59 #[] w fun e w'=>e=.returned (.pointer (some ⟨w.heap.size,0,none⟩))∧UAt w' w.heap.size none (.slice none 0 0) u0∧Kp noB w w':=by
 have h0:Hid (UAt (w.alloc (.cells uz 230)) w.heap.size none (.slice none 0 0) u0):=⟨heap_new _ _,.no,OwnB.nil _⟩
 have k0:Hid (Kp noB w (w.alloc (.cells uz 230))):=Kp.alloc _ _ _
 go_enter Tryz.func59,Tryz.ntmps59
 go_wp2
 go_ret
 exact ⟨rfl,h0.out,k0.out⟩
end Go.Proofs.YtacgmoikegcopaaGreatDoor.Ut
