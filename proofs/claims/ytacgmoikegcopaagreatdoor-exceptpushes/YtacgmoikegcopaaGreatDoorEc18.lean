/- The bus and its devices: XcGive, XcLeave. -/
import Derived.Test.YtacgmoikegcopaaGreatDoorEc17
namespace Go.Proofs.YtacgmoikegcopaaGreatDoor.Rm
open Go.ChangeShapes Go.WideShapes Go.ChangeAt Go.RowKit Go.Maps
set_option linter.unusedVariables false
set_option maxRecDepth 20000
theorem spF_bd {x:Cu} (h:x.Ok) (z:Int) {sp:Int} (hs:U32 sp):U32 (spF x z sp):=by
 have h4:=h.r 4 (by decide)
 have a:=andNot_bd h4.1 h4.2 (b:=65535) (by decide) (by decide)
 have b:=or_bd hs.1 hs.2 a.1 a.2
 unfold spF
 split
 ·exact b
 ·exact hs
set_option maxHeartbeats 8000000 in
theorem give_any (w:World) (c:Ev) (tn T:Nat) (x n:Cu) (M:Mem) (h:Tn w c tn T x n M) (o z:Int) (hz:z=2∨z=4) (htn:tn < 18446744073709551500):
  Calls Tryz.prog 89 #[.pointer (some ⟨T,0,none⟩),.int .i64 o,.int .i64 z] w fun e w'=>e=OE vC (giveO M x n o z)∧Py w c tn T x (giveO M x n o z) 8 w':=by
 have HO1:=pushed_any w c tn T x n M h 3 z (by decide) hz (by omega)
 have hG:giveO M x n o z=(lodO M x.cp (a32n x 3 z) z).bind fun M sp=>(lodO M x.cp (a32n x 4 z) z).bind fun M s=>(stackO M x (s%65536) o 13 (cdO (s%65536))).bind fun M g=>.ok M ((n.setS 2 g).setR 4 (spF x z sp)):=rfl
 have f1:=fine_lod h.a.v.ram.rdB x.cp (a32n x 3 z) z
 have HXO:Hid x.Ok:=h.a.ok
 obtain ⟨o1,ho1⟩:∃ o,o=lodO M x.cp (a32n x 3 z) z:=⟨_,rfl⟩
 rw [← ho1] at hG HO1 f1
 clear h ho1
 cases hr1:o1.r with
 | inl f=>
  have HC:Hid (Calls Tryz.prog 86 #[.pointer (some ⟨T,0,none⟩),.int .i64 3,.int .i64 z] w fun e w'=>e=.panicked (pan f)∧Px w c tn T x n o1.m 2 w'):=HO1.mono (fun e w' ⟨a,p⟩=>⟨by rw [a];unfold OE;rw [hr1],p⟩)
  have hS2:giveO M x n o z=⟨o1.m,.inl f⟩:=by rw [hG];unfold Ou.bind;rw [hr1]
  have HS:Hid _:=hS2
  clear hG HO1 f1 hr1 hS2 hz
  go_enter Tryz.func89,Tryz.ntmps89
  go_wp2_with fail
  refine Calls.mono HC.out ?_;rintro e w2 ⟨rfl,p2⟩
  exact ⟨rfl,by rw [HS.out];rfl,by rw [HS.out];exact (Px.py (o:=⟨o1.m,.inl f⟩) p2 (fun n' e=>by cases e)).more (by omega)⟩
 | inr sp=>
  have HC:Hid (Calls Tryz.prog 86 #[.pointer (some ⟨T,0,none⟩),.int .i64 3,.int .i64 z] w fun e w'=>e=.returned (.int .u32 sp)∧Px w c tn T x n o1.m 2 w'):=HO1.mono (fun e w' ⟨a,p⟩=>⟨by rw [a];unfold OE;rw [hr1];rfl,p⟩)
  have hsp:=f1.ok sp hr1
  have f2:=fine_lod f1.rd x.cp (a32n x 4 z) z
  have HO2:Hid (∀ W t,t≤tn+2→Tn W c t T x n o1.m→Calls Tryz.prog 86 #[.pointer (some ⟨T,0,none⟩),.int .i64 4,.int .i64 z] W fun e w'=>e=OE vI32 (lodO o1.m x.cp (a32n x 4 z) z)∧Px W c t T x n (lodO o1.m x.cp (a32n x 4 z) z).m 2 w'):=fun W t ht q=>pushed_any W c t T x n o1.m q 4 z (by decide) hz (by omega)
  obtain ⟨o2,ho2⟩:∃ o,o=lodO o1.m x.cp (a32n x 4 z) z:=⟨_,rfl⟩
  have hG2:giveO M x n o z=o2.bind fun M s=>(stackO M x (s%65536) o 13 (cdO (s%65536))).bind fun M g=>.ok M ((n.setS 2 g).setR 4 (spF x z sp)):=by rw [hG,ho2];unfold Ou.bind;rw [hr1]
  rw [← ho2] at f2 HO2
  clear hG HO1 f1 hr1 ho2
  cases hr2:o2.r with
  | inl f=>
   have HC2:Hid (∀ W t,t≤tn+2→Tn W c t T x n o1.m→Calls Tryz.prog 86 #[.pointer (some ⟨T,0,none⟩),.int .i64 4,.int .i64 z] W fun e w'=>e=.panicked (pan f)∧Px W c t T x n o2.m 2 w'):=fun W t ht q=>(HO2.out W t ht q).mono (fun e w' ⟨a,p⟩=>⟨by rw [a];unfold OE;rw [hr2],p⟩)
   have hS2:giveO M x n o z=⟨o2.m,.inl f⟩:=by rw [hG2];unfold Ou.bind;rw [hr2]
   have HS:Hid _:=hS2
   clear hG2 HO2 f2 hr2 hS2 hsp hz
   go_enter Tryz.func89,Tryz.ntmps89
   go_wp2_with fail
   refine Calls.mono HC.out ?_;rintro e w2' ⟨rfl,p2⟩
   obtain ⟨⟨t2,ht2,hT2⟩,kk2⟩:=p2
   have hc2:=HC2.out w2' t2 ht2 hT2
   clear hT2
   go_wp2_with fail
   refine Calls.mono hc2 ?_;rintro e w3' ⟨rfl,p3⟩
   have HP:Hid (Px w c tn T x n o2.m 4 w3'):=by
    obtain ⟨⟨t3,ht3,hT3⟩,kk3⟩:=p3
    exact ⟨⟨t3,by omega,hT3⟩,kk2.trans kk3⟩
   exact ⟨rfl,by rw [HS.out];rfl,by rw [HS.out];exact (Px.py (o:=⟨o2.m,.inl f⟩) HP.out (fun n' e=>by cases e)).more (by omega)⟩
  | inr sv=>
   have HC2:Hid (∀ W t,t≤tn+2→Tn W c t T x n o1.m→Calls Tryz.prog 86 #[.pointer (some ⟨T,0,none⟩),.int .i64 4,.int .i64 z] W fun e w'=>e=.returned (.int .u32 sv)∧Px W c t T x n o2.m 2 w'):=fun W t ht q=>(HO2.out W t ht q).mono (fun e w' ⟨a,p⟩=>⟨by rw [a];unfold OE;rw [hr2];rfl,p⟩)
   obtain ⟨s,hsv⟩:∃ s,s=sv%65536:=⟨_,rfl⟩
   have hs16:U16 s:=by rw [hsv];unfold U16;omega
   have x1:IntKind.u16.wrap sv=s:=by rw [hsv];exact IntKind.wrap_u16 sv
   obtain ⟨cd,hcd⟩:∃ q,q=cdO s:=⟨_,rfl⟩
   have HCd:Hid (∀ W,Calls Tryz.prog 145 #[.int .u16 s] W fun e w'=>e=.returned (.int .i64 cd)∧w'=W):=fun W=>by rw [hcd];exact cCode_any s W hs16
   have f3:=fine_stack f2.rd x s o 13 cd hs16 (ft3_13 _)
   have HO3:Hid (∀ W t,t≤tn+4→Tn W c t T x n o2.m→Calls Tryz.prog 148 #[.pointer (some ⟨T,0,none⟩),.int .u16 s,.int .i64 o,.int .i64 13,.int .i64 cd] W fun e w'=>e=OE SgR.val (stackO o2.m x s o 13 cd)∧Px W c t T x n (stackO o2.m x s o 13 cd).m 4 w'):=fun W t ht q=>stack_any W c t T x n o2.m q s o 13 cd hs16 (ft3_13 _) (by omega)
   obtain ⟨o3,ho3⟩:∃ q,q=stackO o2.m x s o 13 cd:=⟨_,rfl⟩
   have hG3:giveO M x n o z=o3.bind fun M g=>.ok M ((n.setS 2 g).setR 4 (spF x z sp)):=by rw [hG2,ho3,hcd,hsv];unfold Ou.bind;rw [hr2]
   rw [← ho3] at f3 HO3
   clear hG2 HO2 f2 hr2 ho3 hsv hs16 hcd
   cases hr3:o3.r with
   | inl f=>
   have HO3':Hid (∀ W t,t≤tn+4→Tn W c t T x n o2.m→Calls Tryz.prog 148 #[.pointer (some ⟨T,0,none⟩),.int .u16 s,.int .i64 o,.int .i64 13,.int .i64 cd] W fun e w'=>e=.panicked (pan f)∧Px W c t T x n o3.m 4 w'):=fun W t ht q=>(HO3.out W t ht q).mono (fun e w' ⟨a,p⟩=>⟨by rw [a];unfold OE;rw [hr3],p⟩)
   have hS2:giveO M x n o z=⟨o3.m,.inl f⟩:=by rw [hG3];unfold Ou.bind;rw [hr3]
   have HS:Hid _:=hS2
   clear hG3 HO3 f3 hr3 hS2 hsp hz
   go_enter Tryz.func89,Tryz.ntmps89
   go_wp2_with fail
   refine Calls.mono HC.out ?_;rintro e w2' ⟨rfl,p2⟩
   obtain ⟨⟨t2,ht2,hT2⟩,kk2⟩:=p2
   have hc2:=HC2.out w2' t2 ht2 hT2
   clear hT2
   go_wp2_with fail
   refine Calls.mono hc2 ?_;rintro e w3' ⟨rfl,p3⟩
   obtain ⟨⟨t3,ht3,hT3⟩,kk3⟩:=p3
   have HK3:Hid (t3≤tn+4∧Kp (c.mdT T) w w3'):=⟨by omega,(kk2.mono (fun _ _ f=>.inl f)).trans (kk3.mono (fun _ _ f=>.inl f))⟩
   have hTd:=hT3.kp0 (Kp.refl noB w3').drew
   clear kk2 kk3 ht3 hT3 hc2 HC HC2
   go_upto_region 2 with fail
   obtain ⟨Wb,hWb⟩:∃ W,W=w3'.drew:=⟨_,rfl⟩
   obtain ⟨tb,htb⟩:∃ t,t=t3:=⟨_,rfl⟩
   rw [← hWb] at hTd
   have HC3:Hid (Calls Tryz.prog 148 #[.pointer (some ⟨T,0,none⟩),.int .u16 s,.int .i64 o,.int .i64 13,.int .i64 cd] Wb fun e w'=>e=.panicked (pan f)∧Px Wb c tb T x n o3.m 4 w'):=by rw [htb];exact HO3'.out Wb t3 HK3.out.1 hTd
   have HWb:Hid (w3'.drew=Wb):=hWb.symm
   have HTb:Hid (tb≤tn+4):=by rw [htb];exact HK3.out.1
   clear hTd hWb htb
   refine OrdP.region_vals (τ:=Unit) (fun ch w'=>ch=pan f∧Px Wb c tb T x n o3.m 4 w') (fun _=>[.pointer (some ⟨T,0,none⟩),.pointer (some ⟨T,0,none⟩),.int .u16 s,.int .i64 o,.int .u16 s,.int .i64 cd,undef,.pointer (some ⟨T,0,none⟩),.pointer (some ⟨T,1,none⟩),.pointer (some ⟨T,11,none⟩),.pointer (some ⟨T,29,none⟩),undef]) (fun _ listed W'=>W'=Wb∧listed.getD 6 false=false) () ?_ (by kernel_rfl) (by kernel_rfl) (by kernel_rfl) (by kernel_rfl) (fun _=>rfl) (fun t=>by simp only [OrdG.puts,Act.put,List.setIfInBounds_toArray,List.set_cons_zero,List.set_cons_succ];rfl) (fun _=>by kernel_rfl) ⟨HWb.out,rfl⟩ ?_ ?_
   ·rintro ch a' w' hd ⟨rfl,p⟩
    refine ⟨hd,by rw [HS.out];rfl,by
     rw [HS.out]
     have p2:Py Wb c tb T x ⟨o3.m,.inl f⟩ 4 w':=Px.py (o:=⟨o3.m,.inl f⟩) p (fun n' e=>by cases e)
     have kb:Kp (c.mdT T) w Wb:=by rw [← HWb.out];exact HK3.out.2.trans ((Kp.refl noB w3').drew.mono (fun _ _ f=>f.elim))
     exact Py.after kb HTb.out p2⟩
   ·refine ⟨?_,?_,?_,?_,?_,?_,?_,?_,?_,?_,?_,?_,trivial⟩
    all_goals (intro t listed W' hz hSh hl hI hb K hK hK0;obtain ⟨hw,h7⟩:=hI;subst hw)
    case refine_6=>
     go_simp
     refine Calls.mono (HCd.out _) ?_;rintro e w' ⟨rfl,hq⟩;replace hq:=hq.symm;subst hq
     exact hK0 _ ⟨rfl,OrdP.keep h7 (by decide)⟩
    case refine_7=>
     go_simp
     refine Calls.mono HC3.out ?_;rintro e w4 ⟨rfl,r⟩
     exact ⟨rfl,r⟩
    case refine_12=>exact absurd (OrdG.on_of (i:=6) hb (by kernel_rfl)) (by rw [h7];decide)
    all_goals (go_simp;exact hK0 _ ⟨rfl,OrdP.keep h7 (by decide)⟩)
   ·rintro t listed w' hal ⟨_,h7⟩
    have:=hal 6 (by exact (by decide:6 < 12))
    rw [h7] at this
    cases this
   | inr s3=>
   have HO3':Hid (∀ W t,t≤tn+4→Tn W c t T x n o2.m→Calls Tryz.prog 148 #[.pointer (some ⟨T,0,none⟩),.int .u16 s,.int .i64 o,.int .i64 13,.int .i64 cd] W fun e w'=>e=.returned s3.val∧Px W c t T x n o3.m 4 w'):=fun W t ht q=>(HO3.out W t ht q).mono (fun e w' ⟨a,p⟩=>⟨by rw [a];unfold OE;rw [hr3],p⟩)
   obtain ⟨sq,hsq⟩:∃ q,q=spF x z sp:=⟨_,rfl⟩
   have hS2:giveO M x n o z=⟨o3.m,.inr ((n.setS 2 s3).setR 4 sq)⟩:=by rw [hG3,hsq];unfold Ou.bind;rw [hr3];rfl
   have HS:Hid _:=hS2
   have HWf:Hid s3.Wf:=f3.ok s3 hr3
   have HSP:Hid (U32 sq):=by rw [hsq];exact spF_bd HXO.out z hsp
   have HSQ:Hid (sq=spF x z sp):=hsq
   have HZ:Hid (z=2∨z=4):=hz
   clear hG3 HO3 f3 hr3 hS2 hsp hsq hz
   go_enter Tryz.func89,Tryz.ntmps89
   go_wp2_with fail
   refine Calls.mono HC.out ?_;rintro e w2' ⟨rfl,p2⟩
   obtain ⟨⟨t2,ht2,hT2⟩,kk2⟩:=p2
   have hc2:=HC2.out w2' t2 ht2 hT2
   clear hT2
   go_wp2_with fail
   refine Calls.mono hc2 ?_;rintro e w3' ⟨rfl,p3⟩
   obtain ⟨⟨t3,ht3,hT3⟩,kk3⟩:=p3
   have HK3:Hid (t3≤tn+4∧Kp (c.mdT T) w w3'):=⟨by omega,(kk2.mono (fun _ _ f=>.inl f)).trans (kk3.mono (fun _ _ f=>.inl f))⟩
   have hTd:=hT3.kp0 (Kp.refl noB w3').drew
   clear kk2 kk3 ht3 hT3 hc2 HC HC2
   go_upto_region 2 with fail
   obtain ⟨Wb,hWb⟩:∃ W,W=w3'.drew:=⟨_,rfl⟩
   obtain ⟨tb,htb⟩:∃ t,t=t3:=⟨_,rfl⟩
   obtain ⟨Mb,hMb⟩:∃ t,t=o2.m:=⟨_,rfl⟩
   rw [← hWb,← htb,← hMb] at hTd
   have HTb:Hid (tb≤tn+4):=by rw [htb];exact HK3.out.1
   have HC3:Hid (∀ W t,t≤tb+0→Tn W c t T x n Mb→Calls Tryz.prog 148 #[.pointer (some ⟨T,0,none⟩),.int .u16 s,.int .i64 o,.int .i64 13,.int .i64 cd] W fun e w'=>e=.returned s3.val∧Px W c t T x n o3.m 4 w'):=fun W t ht q=>HO3'.out W t (by have:=HTb.out;omega) (by rw [← hMb];exact q)
   have HI0:Hid (IS Wb c tb 0 T x n Mb o3.m s3 false false w3'.drew):=by rw [← hWb];exact ⟨⟨tb,by simp,hTd⟩,Kp.refl _ _⟩
   have HKb:Hid (Kp (c.mdT T) w Wb):=by rw [hWb];exact HK3.out.2.trans ((Kp.refl noB w3').drew.mono (fun _ _ f=>f.elim))
   clear hTd hWb htb hMb HO3' HK3
   refine OrdFree.region_vals (τ:=Unit) (fun t=>[.pointer (some ⟨T,0,none⟩),.pointer (some ⟨T,0,none⟩),.int .u16 s,.int .i64 o,.int .u16 s,.int .i64 cd,s3.val,.pointer (some ⟨T,0,none⟩),.pointer (some ⟨T,1,none⟩),.pointer (some ⟨T,11,none⟩),.pointer (some ⟨T,29,none⟩),undef]) (fun t listed W=>IS Wb c tb 0 T x n Mb o3.m s3 (listed.getD 6 false) (listed.getD 11 false) W) () (by kernel_rfl) (by kernel_rfl) (by kernel_rfl) (by kernel_rfl) (fun _=>rfl) (fun t=>by simp only [OrdFree.puts,Act.put,List.setIfInBounds_toArray,List.set_cons_zero,List.set_cons_succ];rfl) HI0.out ?_ ?_
   ·refine ⟨?_,?_,?_,?_,?_,?_,?_,?_,?_,?_,?_,?_,trivial⟩
    all_goals (intro t listed W hz hSh hl hI hb K hK hK0)
    case refine_6=>
     go_simp
     refine Calls.mono (HCd.out W) ?_;rintro e w' ⟨rfl,hq⟩;replace hq:=hq.symm;subst hq
     exact hK0 W (by show IS _ _ _ _ _ _ _ _ _ _ _ _ _;rw [getD_set_ne false (by decide),getD_set_ne false (by decide)];exact hI)
    case refine_7=>
     have nst:=OrdFree.shut_no (j:=11) hSh hl (by kernel_rfl)
     rw [hl,nst] at hI
     obtain ⟨⟨t0,ht0,hx⟩,_⟩:=id hI
     have hc:=HC3.out W t0 ht0 hx
     clear hx
     go_simp
     refine Calls.mono hc ?_;rintro e w' ⟨rfl,p⟩
     exact hK0 w' (by show IS _ _ _ _ _ _ _ _ _ _ _ _ _;rw [getD_set_self (by rw [hz];exact (by decide:6 < 12)),getD_set_ne false (by decide),nst];exact IS.call hI ht0 p)
    case refine_12=>
     have h8:=hb { on:=6,ground:=.data } (by simp) rfl
     rw [h8,hl] at hI
     obtain ⟨⟨t0,ht0,hx⟩,_⟩:=id hI
     have ht:=hx.t
     have c0:=ht.c (k:=29) rfl;have c1:=ht.c (k:=30) rfl;have c2:=ht.c (k:=31) rfl;have c3:=ht.c (k:=32) rfl;have c4:=ht.c (k:=33) rfl;have c5:=ht.c (k:=34) rfl;have c6:=ht.c (k:=35) rfl;have c7:=ht.c (k:=36) rfl;have c8:=ht.c (k:=37) rfl
     have f0:=ht.fz 29;have f1:=ht.fz 30;have f2:=ht.fz 31;have f3:=ht.fz 32;have f4:=ht.fz 33;have f5:=ht.fz 34;have f6:=ht.fz 35;have f7:=ht.fz 36;have f8:=ht.fz 37
     have HS:Hid _:=IS.store hI HWf.out
     clear hx ht hI
     unfold putSs at HS
     unfold SgR.val
     go_simp
     exact hK0 _ (by show IS _ _ _ _ _ _ _ _ _ _ _ _ _;rw [getD_set_self (by rw [hz];exact (by decide:11 < 12)),getD_set_ne false (by decide),h8];exact HS.out)
    all_goals (go_simp;exact hK0 W (by show IS _ _ _ _ _ _ _ _ _ _ _ _ _;rw [getD_set_ne false (by decide),getD_set_ne false (by decide)];exact hI))
   rename_i Kx hKx
   rintro _ listed W5 hal hI
   have hI':IS Wb c tb 0 T x n Mb o3.m s3 (listed.getD 6 false) (listed.getD 11 false) W5:=hI
   rw [hal 6 (by exact (by decide:6 < 12)),hal 11 (by exact (by decide:11 < 12))] at hI'
   obtain ⟨⟨t5,ht5,b5⟩,k5⟩:=hI'
   clear hI hal HI0 HC3 HCd
   refine hKx _ _ ?_
   have g5:=b5.t.c (k:=5) rfl
   have f5:=b5.t.fz 5
   have g0:=b5.t.e
   have e4:=b5.a.c (k:=4) rfl
   have HWas:Hid (Calls Tryz.prog 85 #[.pointer (some ⟨T,0,none⟩)] W5 fun e w'=>e=.returned (.pointer (some ⟨c.E,0,none⟩))∧w'=W5):=cWas_any W5 T c.E b5.t.e b5.a.lt
   have kE:Kp (fun j=>j=T) W5 (W5.setCell ⟨T,5,none⟩ (.int .u32 sq)):=Kp.setCell (S:=fun j=>j=T) W5 (p:=⟨T,5,none⟩) rfl _
   have HF:Hid (Py w c tn T x ⟨o3.m,.inr ((n.setS 2 s3).setR 4 sq)⟩ 8 (W5.setCell ⟨T,5,none⟩ (.int .u32 sq))):=by
    have a':=b5.a.kp kE (fun e=>b5.nE e.symm) (fun j hj e=>b5.nV (e ▸ hj))
    refine ⟨⟨t5,by have:=HTb.out;simp at ht5;omega,a',fun n' e=>?_⟩,(HKb.out.trans k5).trans (kE.mono (fun _ _ f=>.inr f))⟩
    cases e
    exact ⟨a',b5.t.setR sq,b5.nE,b5.nV,b5.ok.setR 4 HSP.out⟩
   unfold ptr at g0
   clear kE b5 k5 ht5
   by_cases h2:z=2
   ·have d1:(z==2)=true:=by simpa using h2
    have hq2:bits .or .u32 sp (bits .andNot .u32 (x.r 4) 65535)=sq:=by rw [HSQ.out];unfold spF;rw [if_pos h2]
    clear h2
    go_wp2_with fail
    refine Calls.mono HWas.out ?_;rintro e w' ⟨rfl,hw⟩;replace hw:=hw.symm;subst hw
    go_wp2
    go_end0
    exact ⟨by rw [HS.out];rfl,by rw [HS.out];exact HF.out⟩
   ·have d1:(z==2)=false:=by simpa using h2
    have hq2:sp=sq:=by rw [HSQ.out];unfold spF;rw [if_neg h2]
    subst hq2
    clear h2
    go_wp2
    go_end0
    exact ⟨by rw [HS.out];rfl,by rw [HS.out];exact HF.out⟩
def laveB (M:Mem) (x n:Cu) (d:Dsc) (pl s fl:Int):Ou Cu:=if d.l < pl then .no M 13 0 else .ok M { Cu.setS { n with fl:=putF x fl } 1 (d.sg s) with ip:=pl,sh:=false }
def outerO (M:Mem) (x n:Cu) (s z:Int):Ou Cu:=if x.rg < s%4 then (giveO M x n (s%4) z).bind fun M n=>.ok M (hideC n (s%4)) else .ok M (n.setR 4 (a32 (n.r 4) (3*z)))
def leaveO (M:Mem) (x n:Cu) (z:Int):Ou Cu:=if (z≠2∧z≠4)∨bits .and .u32 x.fl 16384≠0 then .no M 13 0 else
 (lodO M x.cp (a32n x 0 z) z).bind fun M pl=>(lodO M x.cp (a32n x 1 z) z).bind fun M s=>(lodO M x.cp (a32n x 2 z) z).bind fun M fl=>
 (interO M x (s%65536)).bind fun M d=>(outerO M x n (s%65536) z).bind fun M n=>laveB M x n d pl (s%65536) fl
theorem Tn.fin3 {w:World} {c:Ev} {tn T:Nat} {x n:Cu} {M:Mem} (h:Tn w c tn T x n M) {pl:Int} (hp:U32 pl):
  Tn ((w.setCell ⟨T,9,none⟩ (.int .u32 pl)).setCell ⟨T,81,none⟩ (.bool false)) c tn T x { n with ip:=pl,sh:=false } M∧Kp (fun j=>j=T) w ((w.setCell ⟨T,9,none⟩ (.int .u32 pl)).setCell ⟨T,81,none⟩ (.bool false)):=by
 have k:∀ (W:World) (o:Nat) (v:Value),Kp (fun j=>j=T) W (W.setCell ⟨T,o,none⟩ v):=fun W o v=>Kp.setCell (S:=fun j=>j=T) W (p:=⟨T,o,none⟩) rfl v
 have kE:=(k w 9 (.int .u32 pl)).trans (k _ 81 (.bool false))
 exact ⟨⟨h.a.kp kE (fun e=>h.nE e.symm) (fun j hj e=>h.nV (e ▸ hj)),(h.t.setIp pl).setSh false,h.nE,h.nV,{ h.ok with ip:=hp }⟩,kE⟩
theorem Tn.esp {w:World} {c:Ev} {tn T:Nat} {x n:Cu} {M:Mem} (h:Tn w c tn T x n M) {v:Int} (hv:U32 v):
  Tn (w.setCell ⟨T,5,none⟩ (.int .u32 v)) c tn T x (n.setR 4 v) M∧Kp (fun j=>j=T) w (w.setCell ⟨T,5,none⟩ (.int .u32 v)):=by
 have kE:Kp (fun j=>j=T) w (w.setCell ⟨T,5,none⟩ (.int .u32 v)):=Kp.setCell (S:=fun j=>j=T) w (p:=⟨T,5,none⟩) rfl _
 exact ⟨⟨h.a.kp kE (fun e=>h.nE e.symm) (fun j hj e=>h.nV (e ▸ hj)),h.t.setR v,h.nE,h.nV,h.ok.setR 4 hv⟩,kE⟩
theorem leave_bad (w:World) (c:Ev) (tn T:Nat) (x n:Cu) (M:Mem) (h:Tn w c tn T x n M) (z:Int) (hz:z≠2∧z≠4):
  Calls Tryz.prog 37 #[.pointer (some ⟨T,0,none⟩),.int .i64 z] w fun e w'=>e=.panicked (pan ⟨13,0,0⟩)∧Kp noB w w':=by
 unfold pan Ft.val
 have d2:(z != 2)=true:=by simpa using hz.1
 have d4:(z != 4)=true:=by simpa using hz.2
 clear hz h
 go_enter Tryz.func37,Tryz.ntmps37
 go_wp2_with (go_at_call 68;refine Calls.mono (cProt_any _) ?_;rintro e w5 ⟨rfl,k5⟩)
 exact ⟨rfl,rfl,k5⟩
theorem leave_nt2 (w:World) (c:Ev) (tn T:Nat) (x n:Cu) (M:Mem) (h:Tn w c tn T x n M) (hnt:bits .and .u32 x.fl 16384≠0):
  Calls Tryz.prog 37 #[.pointer (some ⟨T,0,none⟩),.int .i64 2] w fun e w'=>e=.panicked (pan ⟨13,0,0⟩)∧Kp noB w w':=by
 unfold pan Ft.val
 have HWas:Hid (Calls Tryz.prog 85 #[.pointer (some ⟨T,0,none⟩)] w fun e w'=>e=.returned (.pointer (some ⟨c.E,0,none⟩))∧w'=w):=cWas_any w T c.E h.t.e h.a.lt
 have e9:=h.a.c (k:=9) rfl
 have d1:(bits .and .u32 x.fl 16384 != 0)=true:=by simpa using hnt
 clear hnt h
 go_enter Tryz.func37,Tryz.ntmps37
 go_wp2_with fail
 refine Calls.mono HWas.out ?_;rintro e w' ⟨rfl,hw⟩;replace hw:=hw.symm;subst hw
 go_wp2_with (go_at_call 68;refine Calls.mono (cProt_any _) ?_;rintro e w5 ⟨rfl,k5⟩)
 exact ⟨rfl,rfl,k5⟩
set_option maxHeartbeats 16000000 in
theorem leave_is2 (w:World) (c:Ev) (tn T:Nat) (x n:Cu) (M:Mem) (h:Tn w c tn T x n M) (hnt:bits .and .u32 x.fl 16384=0) (htn:tn < 18446744073709551000):
  Calls Tryz.prog 37 #[.pointer (some ⟨T,0,none⟩),.int .i64 2] w fun e w'=>e=OE vC (leaveO M x n 2)∧Py w c tn T x (leaveO M x n 2) 40 w':=by
 have HWas:Hid (Calls Tryz.prog 85 #[.pointer (some ⟨T,0,none⟩)] w fun e w'=>e=.returned (.pointer (some ⟨c.E,0,none⟩))∧w'=w):=cWas_any w T c.E h.t.e h.a.lt
 have e9:=h.a.c (k:=9) rfl
 have d1:(bits .and .u32 x.fl 16384 != 0)=false:=by simpa using hnt
 have HXO:Hid (x.Ok∧n.Ok):=⟨h.a.ok,h.ok⟩
 have hG0:leaveO M x n 2=(lodO M x.cp (a32n x 0 2) 2).bind fun M pl=>(lodO M x.cp (a32n x 1 2) 2).bind fun M s=>(lodO M x.cp (a32n x 2 2) 2).bind fun M fl=>(interO M x (s%65536)).bind fun M d=>(outerO M x n (s%65536) 2).bind fun M n=>laveB M x n d pl (s%65536) fl:=by
  unfold leaveO
  rw [if_neg (by simp [hnt])]
 have H0:Hid (Tn w c tn T x n M):=h
 have HTN:Hid (tn < 18446744073709551000):=htn
 have r0:=h.a.v.ram.rdB
 have HM:Hid (M=M):=rfl
 clear h hnt htn
 have q0:∀ W t,t≤tn+0→Tn W c t T x n M→Calls Tryz.prog 86 #[.pointer (some ⟨T,0,none⟩),.int .i64 0,.int .i64 2] W fun e w'=>e=OE vI32 (lodO M x.cp (a32n x 0 2) 2)∧Px W c t T x n (lodO M x.cp (a32n x 0 2) 2).m 2 w':=fun W t ht q=>pushed_any W c t T x n M q 0 2 (by decide) (by decide) (by have:=HTN.out;omega)
 have fn0:=fine_lod r0 x.cp (a32n x 0 2) 2
 obtain ⟨p0,hp0⟩:∃ o,o=lodO M x.cp (a32n x 0 2) 2:=⟨_,rfl⟩
 rw [← hp0] at hG0 q0 fn0
 clear hp0
 cases hr0:p0.r with
 | inl f=>
  have HP0:Hid (∀ W t,t≤tn+0→Tn W c t T x n M→Calls Tryz.prog 86 #[.pointer (some ⟨T,0,none⟩),.int .i64 0,.int .i64 2] W fun e w'=>e=.panicked (pan f)∧Px W c t T x n p0.m 2 w'):=fun W t ht q=>(q0 W t ht q).mono (fun e w' ⟨a,p⟩=>⟨by rw [a];unfold OE;rw [hr0],p⟩)
  have HS:Hid (leaveO M x n 2=⟨p0.m,.inl f⟩):=hid_eq (by rw [hG0];unfold Ou.bind;rw [hr0])
  clear q0 fn0 hG0 hr0 r0
  go_enter Tryz.func37,Tryz.ntmps37
  go_wp2_with fail
  refine Calls.mono HWas.out ?_;rintro e w' ⟨rfl,hw⟩;replace hw:=hw.symm;subst hw
  go_wp2_with fail
  refine Calls.mono (HP0.out w tn (by omega) H0.out) ?_;rintro e u ⟨rfl,p⟩
  exact ⟨rfl,by rw [HS.out];rfl,by rw [HS.out];exact (Px.py (o:=⟨p0.m,.inl f⟩) p (fun n' e=>by cases e)).more (by omega)⟩
 | inr pl=>
 have HP0:Hid (∀ W t,t≤tn+0→Tn W c t T x n M→Calls Tryz.prog 86 #[.pointer (some ⟨T,0,none⟩),.int .i64 0,.int .i64 2] W fun e w'=>e=.returned (.int .u32 pl)∧Px W c t T x n p0.m 2 w'):=fun W t ht q=>(q0 W t ht q).mono (fun e w' ⟨a,p⟩=>⟨by rw [a];unfold OE;rw [hr0];rfl,p⟩)
 have hG1:leaveO M x n 2=((lodO p0.m x.cp (a32n x 1 2) 2).bind fun M s=>(lodO M x.cp (a32n x 2 2) 2).bind fun M fl=>(interO M x (s%65536)).bind fun M d=>(outerO M x n (s%65536) 2).bind fun M n=>laveB M x n d pl (s%65536) fl):=by rw [hG0];unfold Ou.bind;rw [hr0]
 have HU0:Hid (U32 pl):=fn0.ok pl hr0
 have r1:=fn0.rd
 clear q0 fn0 hG0 hr0 r0
 have q1:∀ W t,t≤tn+2→Tn W c t T x n p0.m→Calls Tryz.prog 86 #[.pointer (some ⟨T,0,none⟩),.int .i64 1,.int .i64 2] W fun e w'=>e=OE vI32 (lodO p0.m x.cp (a32n x 1 2) 2)∧Px W c t T x n (lodO p0.m x.cp (a32n x 1 2) 2).m 2 w':=fun W t ht q=>pushed_any W c t T x n p0.m q 1 2 (by decide) (by decide) (by have:=HTN.out;omega)
 have fn1:=fine_lod r1 x.cp (a32n x 1 2) 2
 obtain ⟨p1,hp1⟩:∃ o,o=lodO p0.m x.cp (a32n x 1 2) 2:=⟨_,rfl⟩
 rw [← hp1] at hG1 q1 fn1
 clear hp1
 cases hr1:p1.r with
 | inl f=>
  have HP1:Hid (∀ W t,t≤tn+2→Tn W c t T x n p0.m→Calls Tryz.prog 86 #[.pointer (some ⟨T,0,none⟩),.int .i64 1,.int .i64 2] W fun e w'=>e=.panicked (pan f)∧Px W c t T x n p1.m 2 w'):=fun W t ht q=>(q1 W t ht q).mono (fun e w' ⟨a,p⟩=>⟨by rw [a];unfold OE;rw [hr1],p⟩)
  have HS:Hid (leaveO M x n 2=⟨p1.m,.inl f⟩):=hid_eq (by rw [hG1];unfold Ou.bind;rw [hr1])
  clear q1 fn1 hG1 hr1 r1
  go_enter Tryz.func37,Tryz.ntmps37
  go_wp2_with fail
  refine Calls.mono HWas.out ?_;rintro e w' ⟨rfl,hw⟩;replace hw:=hw.symm;subst hw
  go_wp2_with fail
  refine Calls.mono (HP0.out w tn (by omega) H0.out) ?_;rintro e v0 ⟨rfl,⟨t0,ht0,b0⟩,k0⟩
  have HB0:Hid (Tn v0 c t0 T x n p0.m∧t0≤tn+2∧Kp (c.mdT T) w v0):=⟨b0,by omega,(k0.mono (fun _ _ f=>.inl f))⟩
  clear b0 k0 ht0
  go_wp2_with fail
  refine Calls.mono (HP1.out v0 t0 HB0.out.2.1 HB0.out.1) ?_;rintro e u ⟨rfl,p⟩
  exact ⟨rfl,by rw [HS.out];rfl,by rw [HS.out];exact (Py.after HB0.out.2.2 HB0.out.2.1 (Px.py (o:=⟨p1.m,.inl f⟩) p (fun n' e=>by cases e))).more (by omega)⟩
 | inr sv=>
 have HP1:Hid (∀ W t,t≤tn+2→Tn W c t T x n p0.m→Calls Tryz.prog 86 #[.pointer (some ⟨T,0,none⟩),.int .i64 1,.int .i64 2] W fun e w'=>e=.returned (.int .u32 sv)∧Px W c t T x n p1.m 2 w'):=fun W t ht q=>(q1 W t ht q).mono (fun e w' ⟨a,p⟩=>⟨by rw [a];unfold OE;rw [hr1];rfl,p⟩)
 have hG2:leaveO M x n 2=((lodO p1.m x.cp (a32n x 2 2) 2).bind fun M fl=>(interO M x (sv%65536)).bind fun M d=>(outerO M x n (sv%65536) 2).bind fun M n=>laveB M x n d pl (sv%65536) fl):=by rw [hG1];unfold Ou.bind;rw [hr1]
 have HU1:Hid (U32 sv):=fn1.ok sv hr1
 have r2:=fn1.rd
 clear q1 fn1 hG1 hr1 r1
 have q2:∀ W t,t≤tn+4→Tn W c t T x n p1.m→Calls Tryz.prog 86 #[.pointer (some ⟨T,0,none⟩),.int .i64 2,.int .i64 2] W fun e w'=>e=OE vI32 (lodO p1.m x.cp (a32n x 2 2) 2)∧Px W c t T x n (lodO p1.m x.cp (a32n x 2 2) 2).m 2 w':=fun W t ht q=>pushed_any W c t T x n p1.m q 2 2 (by decide) (by decide) (by have:=HTN.out;omega)
 have fn2:=fine_lod r2 x.cp (a32n x 2 2) 2
 obtain ⟨p2,hp2⟩:∃ o,o=lodO p1.m x.cp (a32n x 2 2) 2:=⟨_,rfl⟩
 rw [← hp2] at hG2 q2 fn2
 clear hp2
 cases hr2:p2.r with
 | inl f=>
  have HP2:Hid (∀ W t,t≤tn+4→Tn W c t T x n p1.m→Calls Tryz.prog 86 #[.pointer (some ⟨T,0,none⟩),.int .i64 2,.int .i64 2] W fun e w'=>e=.panicked (pan f)∧Px W c t T x n p2.m 2 w'):=fun W t ht q=>(q2 W t ht q).mono (fun e w' ⟨a,p⟩=>⟨by rw [a];unfold OE;rw [hr2],p⟩)
  have HS:Hid (leaveO M x n 2=⟨p2.m,.inl f⟩):=hid_eq (by rw [hG2];unfold Ou.bind;rw [hr2])
  clear q2 fn2 hG2 hr2 r2
  go_enter Tryz.func37,Tryz.ntmps37
  go_wp2_with fail
  refine Calls.mono HWas.out ?_;rintro e w' ⟨rfl,hw⟩;replace hw:=hw.symm;subst hw
  go_wp2_with fail
  refine Calls.mono (HP0.out w tn (by omega) H0.out) ?_;rintro e v0 ⟨rfl,⟨t0,ht0,b0⟩,k0⟩
  have HB0:Hid (Tn v0 c t0 T x n p0.m∧t0≤tn+2∧Kp (c.mdT T) w v0):=⟨b0,by omega,(k0.mono (fun _ _ f=>.inl f))⟩
  clear b0 k0 ht0
  go_wp2_with fail
  refine Calls.mono (HP1.out v0 t0 HB0.out.2.1 HB0.out.1) ?_;rintro e v1 ⟨rfl,⟨t1,ht1,b1⟩,k1⟩
  have HB1:Hid (Tn v1 c t1 T x n p1.m∧t1≤tn+4∧Kp (c.mdT T) w v1):=⟨b1,by have:=HB0.out.2.1;omega,HB0.out.2.2.trans (k1.mono (fun _ _ f=>.inl f))⟩
  clear b1 k1 ht1
  go_wp2_with fail
  refine Calls.mono (HP2.out v1 t1 HB1.out.2.1 HB1.out.1) ?_;rintro e u ⟨rfl,p⟩
  exact ⟨rfl,by rw [HS.out];rfl,by rw [HS.out];exact (Py.after HB1.out.2.2 HB1.out.2.1 (Px.py (o:=⟨p2.m,.inl f⟩) p (fun n' e=>by cases e))).more (by omega)⟩
 | inr fl=>
 have HP2:Hid (∀ W t,t≤tn+4→Tn W c t T x n p1.m→Calls Tryz.prog 86 #[.pointer (some ⟨T,0,none⟩),.int .i64 2,.int .i64 2] W fun e w'=>e=.returned (.int .u32 fl)∧Px W c t T x n p2.m 2 w'):=fun W t ht q=>(q2 W t ht q).mono (fun e w' ⟨a,p⟩=>⟨by rw [a];unfold OE;rw [hr2];rfl,p⟩)
 have hG3:leaveO M x n 2=((interO p2.m x (sv%65536)).bind fun M d=>(outerO M x n (sv%65536) 2).bind fun M n=>laveB M x n d pl (sv%65536) fl):=by rw [hG2];unfold Ou.bind;rw [hr2]
 have HU2:Hid (U32 fl):=fn2.ok fl hr2
 have r3:=fn2.rd
 clear q2 fn2 hG2 hr2 r2
 obtain ⟨s,hsv⟩:∃ s,s=sv%65536:=⟨_,rfl⟩
 have hs16:U16 s:=by rw [hsv];unfold U16;omega
 have x1:IntKind.u16.wrap sv=s:=by rw [hsv];exact IntKind.wrap_u16 sv
 rw [← hsv] at hG3
 obtain ⟨s4,hs4⟩:∃ q,q=s%4:=⟨_,rfl⟩
 have HRo:Hid (∀ W,Calls Tryz.prog 88 #[.int .u16 s] W fun e w'=>e=.returned (.int .i64 s4)∧w'=W):=fun W=>by rw [hs4];exact cRing_any s W hs16
 obtain ⟨rg,hrg⟩:∃ q,q=x.rg:=⟨_,rfl⟩
 have HRr:Hid (∀ W t N,Tn W c t T x n N→Calls Tryz.prog 73 #[.pointer (some ⟨T,0,none⟩)] W fun e w'=>e=.returned (.int .i64 rg)∧w'=W):=fun W t N q=>by
  rw [hrg]
  exact cRg_any W T c.E _ ⟨(q.a.ok.sg 1 (by decide)).ok.s0,(q.a.ok.sg 1 (by decide)).ok.s1⟩ q.t.e (q.a.c rfl) q.a.lt
 have HOU:Hid (∀ N,outerO N x n s 2=if rg < s4 then (giveO N x n s4 2).bind fun M n=>.ok M (hideC n s4) else .ok N (n.setR 4 (a32 (n.r 4) (3*2)))):=fun N=>by rw [hrg,hs4];rfl
 have q3:∀ W t,t≤tn+6→Tn W c t T x n p2.m→Calls Tryz.prog 87 #[.pointer (some ⟨T,0,none⟩),.int .u16 s] W fun e w'=>e=OE Dsc.val (interO p2.m x s)∧Px W c t T x n (interO p2.m x s).m 4 w':=fun W t ht q=>inter_any W c t T x n p2.m q s hs16 (by have:=HTN.out;omega)
 have fn3:=fine_inter r3 x s
 obtain ⟨p3,hp3⟩:∃ o,o=interO p2.m x s:=⟨_,rfl⟩
 rw [← hp3] at hG3 q3 fn3
 have HS16:Hid (U16 s):=hs16
 clear hp3 hsv hs4 hrg hs16
 cases hr3:p3.r with
 | inl f=>
  have HI:Hid (∀ W t,t≤tn+6→Tn W c t T x n p2.m→Calls Tryz.prog 87 #[.pointer (some ⟨T,0,none⟩),.int .u16 s] W fun e w'=>e=.panicked (pan f)∧Px W c t T x n p3.m 4 w'):=fun W t ht q=>(q3 W t ht q).mono (fun e w' ⟨a,p⟩=>⟨by rw [a];unfold OE;rw [hr3],p⟩)
  have HS:Hid (leaveO M x n 2=⟨p3.m,.inl f⟩):=hid_eq (by rw [hG3];unfold Ou.bind;rw [hr3])
  clear q3 fn3 hG3 hr3 r3
  go_enter Tryz.func37,Tryz.ntmps37
  go_wp2_with fail
  refine Calls.mono HWas.out ?_;rintro e w' ⟨rfl,hw⟩;replace hw:=hw.symm;subst hw
  go_wp2_with fail
  refine Calls.mono (HP0.out w tn (by omega) H0.out) ?_;rintro e v0 ⟨rfl,⟨t0,ht0,b0⟩,k0⟩
  have HB0:Hid (Tn v0 c t0 T x n p0.m∧t0≤tn+2∧Kp (c.mdT T) w v0):=⟨b0,by omega,(k0.mono (fun _ _ f=>.inl f))⟩
  clear b0 k0 ht0
  go_wp2_with fail
  refine Calls.mono (HP1.out v0 t0 HB0.out.2.1 HB0.out.1) ?_;rintro e v1 ⟨rfl,⟨t1,ht1,b1⟩,k1⟩
  have HB1:Hid (Tn v1 c t1 T x n p1.m∧t1≤tn+4∧Kp (c.mdT T) w v1):=⟨b1,by have:=HB0.out.2.1;omega,HB0.out.2.2.trans (k1.mono (fun _ _ f=>.inl f))⟩
  clear b1 k1 ht1
  go_wp2_with fail
  refine Calls.mono (HP2.out v1 t1 HB1.out.2.1 HB1.out.1) ?_;rintro e v2 ⟨rfl,⟨t2,ht2,b2⟩,k2⟩
  have HB2:Hid (Tn v2 c t2 T x n p2.m∧t2≤tn+6∧Kp (c.mdT T) w v2):=⟨b2,by have:=HB1.out.2.1;omega,HB1.out.2.2.trans (k2.mono (fun _ _ f=>.inl f))⟩
  clear b2 k2 ht2
  go_wp2_with fail
  refine Calls.mono (HI.out v2 t2 HB2.out.2.1 HB2.out.1) ?_;rintro e u ⟨rfl,p⟩
  exact ⟨rfl,by rw [HS.out];rfl,by rw [HS.out];exact (Py.after HB2.out.2.2 HB2.out.2.1 (Px.py (o:=⟨p3.m,.inl f⟩) p (fun n' e=>by cases e))).more (by omega)⟩
 | inr d=>
 have HI:Hid (∀ W t,t≤tn+6→Tn W c t T x n p2.m→Calls Tryz.prog 87 #[.pointer (some ⟨T,0,none⟩),.int .u16 s] W fun e w'=>e=.returned (.agg #[.int .u32 d.b,.int .u32 d.l,.int .i64 d.t,.bool d.s,.int .i64 d.d,.bool d.p,.bool d.g])∧Px W c t T x n p3.m 4 w'):=fun W t ht q=>(q3 W t ht q).mono (fun e w' ⟨a,p⟩=>⟨by rw [a];unfold OE;rw [hr3];rfl,p⟩)
 have HG4:Hid (leaveO M x n 2=(outerO p3.m x n s 2).bind fun M n=>laveB M x n d pl s fl):=hid_eq (by rw [hG3];unfold Ou.bind;rw [hr3])
 have HD:Hid d.Ok:=fn3.ok d hr3
 have HR4:Hid (RdB p3.m):=fn3.rd
 clear q3 fn3 hG3 hr3 r3
 by_cases ho:rg < s4
 ·have hdo:decide (rg < s4)=true:=decide_eq_true ho
  have q4:∀ W t,t≤tn+10→Tn W c t T x n p3.m→Calls Tryz.prog 89 #[.pointer (some ⟨T,0,none⟩),.int .i64 s4,.int .i64 2] W fun e w'=>e=OE vC (giveO p3.m x n s4 2)∧Py W c t T x (giveO p3.m x n s4 2) 8 w':=fun W t ht q=>give_any W c t T x n p3.m q s4 2 (by decide) (by have:=HTN.out;omega)
  obtain ⟨p4,hp4⟩:∃ o,o=giveO p3.m x n s4 2:=⟨_,rfl⟩
  have hG5:leaveO M x n 2=(p4.bind fun M n=>.ok M (hideC n s4)).bind fun M n=>laveB M x n d pl s fl:=by rw [HG4.out,HOU.out,if_pos ho,hp4]
  rw [← hp4] at q4
  clear hp4 ho
  cases hr4:p4.r with
  | inl f=>
   have HGv:Hid (∀ W t,t≤tn+10→Tn W c t T x n p3.m→Calls Tryz.prog 89 #[.pointer (some ⟨T,0,none⟩),.int .i64 s4,.int .i64 2] W fun e w'=>e=.panicked (pan f)∧Py W c t T x p4 8 w'):=fun W t ht q=>(q4 W t ht q).mono (fun e w' ⟨a,p⟩=>⟨by rw [a];unfold OE;rw [hr4],p⟩)
   have HS:Hid (leaveO M x n 2=⟨p4.m,.inl f⟩):=hid_eq (by rw [hG5];unfold Ou.bind;rw [hr4])
   clear q4 hG5 hr4
   go_enter Tryz.func37,Tryz.ntmps37
   go_wp2_with fail
   refine Calls.mono HWas.out ?_;rintro e w' ⟨rfl,hw⟩;replace hw:=hw.symm;subst hw
   go_wp2_with fail
   refine Calls.mono (HP0.out w tn (by omega) H0.out) ?_;rintro e v0 ⟨rfl,⟨t0,ht0,b0⟩,k0⟩
   have HB0:Hid (Tn v0 c t0 T x n p0.m∧t0≤tn+2∧Kp (c.mdT T) w v0):=⟨b0,by omega,(k0.mono (fun _ _ f=>.inl f))⟩
   clear b0 k0 ht0
   go_wp2_with fail
   refine Calls.mono (HP1.out v0 t0 HB0.out.2.1 HB0.out.1) ?_;rintro e v1 ⟨rfl,⟨t1,ht1,b1⟩,k1⟩
   have HB1:Hid (Tn v1 c t1 T x n p1.m∧t1≤tn+4∧Kp (c.mdT T) w v1):=⟨b1,by have:=HB0.out.2.1;omega,HB0.out.2.2.trans (k1.mono (fun _ _ f=>.inl f))⟩
   clear b1 k1 ht1
   go_wp2_with fail
   refine Calls.mono (HP2.out v1 t1 HB1.out.2.1 HB1.out.1) ?_;rintro e v2 ⟨rfl,⟨t2,ht2,b2⟩,k2⟩
   have HB2:Hid (Tn v2 c t2 T x n p2.m∧t2≤tn+6∧Kp (c.mdT T) w v2):=⟨b2,by have:=HB1.out.2.1;omega,HB1.out.2.2.trans (k2.mono (fun _ _ f=>.inl f))⟩
   clear b2 k2 ht2
   go_wp2_with fail
   refine Calls.mono (HI.out v2 t2 HB2.out.2.1 HB2.out.1) ?_;rintro e v3 ⟨rfl,⟨t3,ht3,b3⟩,k3⟩
   have HB3:Hid (Tn v3 c t3 T x n p3.m∧t3≤tn+10∧Kp (c.mdT T) w v3):=⟨b3,by have:=HB2.out.2.1;omega,HB2.out.2.2.trans (k3.mono (fun _ _ f=>.inl f))⟩
   obtain ⟨F,hF⟩:∃ F,F=v3.heap.size:=⟨_,rfl⟩
   obtain ⟨W5,hW5⟩:∃ W,W=v3.alloc (.cells #[.int .u32 d.b,.int .u32 d.l,.int .i64 d.t,.bool d.s,.int .i64 d.d,.bool d.p,.bool d.g] 26):=⟨_,rfl⟩
   have d5:DsAt W5 F d:=by rw [hW5,hF];exact (MapKept.heap_alloc v3 _).1
   have k45:Kp noB v3 W5:=by rw [hW5];exact Kp.alloc _ _ _
   have b5:=b3.kp0 k45
   have nF:¬ c.mdT T F:=fun e=>by have:=b3.ne e;omega
   have HB5:Hid (Tn W5 c t3 T x n p3.m∧t3≤tn+10∧Kp (c.mdT T) w W5):=⟨b5,HB3.out.2.1,HB3.out.2.2.trans (k45.mono (fun _ _ f=>f.elim))⟩
   have HN:Hid (DsAt W5 F d∧¬ c.mdT T F):=⟨d5,nF⟩
   have hrr:=HRr.out W5 t3 p3.m b5
   clear b3 b5 d5 k45 k3 ht3 nF
   go_wp2_with fail
   refine Calls.mono (HRo.out _) ?_;rintro e w' ⟨rfl,hw⟩;replace hw:=hw.symm;subst hw
   go_wp2_with fail
   rw [← hW5,← hF]
   clear hW5 hF
   refine Calls.mono hrr ?_;rintro e w' ⟨rfl,hw⟩;replace hw:=hw.symm;subst hw
   clear hrr HRr HRo HI HP0 HP1 HP2
   go_wp2_with fail
   refine Calls.mono (HGv.out W5 t3 HB5.out.2.1 HB5.out.1) ?_;rintro e u ⟨rfl,p⟩
   exact ⟨rfl,by rw [HS.out];rfl,by rw [HS.out];exact ((Py.after HB5.out.2.2 HB5.out.2.1 p).no rfl).more (by omega)⟩
  | inr nn=>
   have HGv:Hid (∀ W t,t≤tn+10→Tn W c t T x n p3.m→Calls Tryz.prog 89 #[.pointer (some ⟨T,0,none⟩),.int .i64 s4,.int .i64 2] W fun e w'=>e=.returned (.tuple #[])∧(∃ t',t'≤t+8∧Tn w' c t' T x nn p4.m)∧Kp (c.mdT T) W w'):=fun W t ht q=>(q4 W t ht q).mono (fun e w' ⟨a,p⟩=>⟨by rw [a];unfold OE;rw [hr4];rfl,by obtain ⟨⟨t,ht,_,hq⟩,kk⟩:=p;exact ⟨⟨t,ht,hq nn hr4⟩,kk⟩⟩)
   have HGL:Hid (leaveO M x n 2=laveB p4.m x (hideC nn s4) d pl s fl):=hid_eq (by rw [hG5];unfold Ou.bind;rw [hr4];rfl)
   clear q4 hG5 hr4
   go_enter Tryz.func37,Tryz.ntmps37
   go_wp2_with fail
   refine Calls.mono HWas.out ?_;rintro e w' ⟨rfl,hw⟩;replace hw:=hw.symm;subst hw
   go_wp2_with fail
   refine Calls.mono (HP0.out w tn (by omega) H0.out) ?_;rintro e v0 ⟨rfl,⟨t0,ht0,b0⟩,k0⟩
   have HB0:Hid (Tn v0 c t0 T x n p0.m∧t0≤tn+2∧Kp (c.mdT T) w v0):=⟨b0,by omega,(k0.mono (fun _ _ f=>.inl f))⟩
   clear b0 k0 ht0
   go_wp2_with fail
   refine Calls.mono (HP1.out v0 t0 HB0.out.2.1 HB0.out.1) ?_;rintro e v1 ⟨rfl,⟨t1,ht1,b1⟩,k1⟩
   have HB1:Hid (Tn v1 c t1 T x n p1.m∧t1≤tn+4∧Kp (c.mdT T) w v1):=⟨b1,by have:=HB0.out.2.1;omega,HB0.out.2.2.trans (k1.mono (fun _ _ f=>.inl f))⟩
   clear b1 k1 ht1
   go_wp2_with fail
   refine Calls.mono (HP2.out v1 t1 HB1.out.2.1 HB1.out.1) ?_;rintro e v2 ⟨rfl,⟨t2,ht2,b2⟩,k2⟩
   have HB2:Hid (Tn v2 c t2 T x n p2.m∧t2≤tn+6∧Kp (c.mdT T) w v2):=⟨b2,by have:=HB1.out.2.1;omega,HB1.out.2.2.trans (k2.mono (fun _ _ f=>.inl f))⟩
   clear b2 k2 ht2
   go_wp2_with fail
   refine Calls.mono (HI.out v2 t2 HB2.out.2.1 HB2.out.1) ?_;rintro e v3 ⟨rfl,⟨t3,ht3,b3⟩,k3⟩
   have HB3:Hid (Tn v3 c t3 T x n p3.m∧t3≤tn+10∧Kp (c.mdT T) w v3):=⟨b3,by have:=HB2.out.2.1;omega,HB2.out.2.2.trans (k3.mono (fun _ _ f=>.inl f))⟩
   obtain ⟨F,hF⟩:∃ F,F=v3.heap.size:=⟨_,rfl⟩
   obtain ⟨W5,hW5⟩:∃ W,W=v3.alloc (.cells #[.int .u32 d.b,.int .u32 d.l,.int .i64 d.t,.bool d.s,.int .i64 d.d,.bool d.p,.bool d.g] 26):=⟨_,rfl⟩
   have d5:DsAt W5 F d:=by rw [hW5,hF];exact (MapKept.heap_alloc v3 _).1
   have k45:Kp noB v3 W5:=by rw [hW5];exact Kp.alloc _ _ _
   have b5:=b3.kp0 k45
   have nF:¬ c.mdT T F:=fun e=>by have:=b3.ne e;omega
   have HB5:Hid (Tn W5 c t3 T x n p3.m∧t3≤tn+10∧Kp (c.mdT T) w W5):=⟨b5,HB3.out.2.1,HB3.out.2.2.trans (k45.mono (fun _ _ f=>f.elim))⟩
   have HN:Hid (DsAt W5 F d∧¬ c.mdT T F):=⟨d5,nF⟩
   have hrr:=HRr.out W5 t3 p3.m b5
   clear b3 b5 d5 k45 k3 ht3 nF
   go_wp2_with fail
   refine Calls.mono (HRo.out _) ?_;rintro e w' ⟨rfl,hw⟩;replace hw:=hw.symm;subst hw
   go_wp2_with fail
   rw [← hW5,← hF]
   clear hW5 hF
   refine Calls.mono hrr ?_;rintro e w' ⟨rfl,hw⟩;replace hw:=hw.symm;subst hw
   clear hrr HRr HRo HI HP0 HP1 HP2
   go_wp2_with fail
   refine Calls.mono (HGv.out W5 t3 HB5.out.2.1 HB5.out.1) ?_;rintro e v6 ⟨rfl,⟨t6,ht6,b6⟩,k6⟩
   have hhd:=hide_any v6 c t6 T x nn p4.m b6 s4
   have HB6:Hid (t6≤tn+18∧Kp (c.mdT T) w v6∧DsAt v6 F d):=⟨by have:=HB5.out.2.1;omega,HB5.out.2.2.trans k6,DsAt.kp HN.out.1 k6 HN.out.2⟩
   clear b6 k6 ht6 HGv
   go_wp2_with fail
   refine Calls.mono hhd ?_;rintro e v7 ⟨rfl,b7,k7⟩
   have HB:Hid (Tn v7 c t6 T x (hideC nn s4) p4.m∧t6≤tn+18∧Kp (c.mdT T) w v7):=⟨b7,HB6.out.1,HB6.out.2.1.trans k7⟩
   have HDS:Hid (DsAt v7 F d):=DsAt.kp HB6.out.2.2 k7 HN.out.2
   obtain ⟨nh,hnh⟩:∃ q,q=hideC nn s4:=⟨_,rfl⟩
   rw [← hnh] at HB HGL
   clear b7 k7 hhd hnh
   obtain ⟨j0,j1,j2,j3,j4,j5,j6⟩:=DsAt.c HDS.out
   by_cases hlm:d.l < pl
   ·have HS:Hid (leaveO M x n 2=.no p4.m 13 0):=hid_eq (HGL.out.trans (if_pos hlm))
    have dl:decide (d.l < pl)=true:=decide_eq_true hlm
    clear hlm
    go_wp2_with (go_at_call 68;refine Calls.mono (cProt_any _) ?_;rintro e w5 ⟨rfl,k5⟩)
    exact ⟨rfl,by rw [HS.out];rfl,by rw [HS.out];exact ⟨⟨t6,by have:=HB.out.2.1;omega,(HB.out.1.kp0 k5).a,fun n' e=>by cases e⟩,HB.out.2.2.trans (k5.mono (fun _ _ f=>f.elim))⟩⟩
   have dl:decide (d.l < pl)=false:=decide_eq_false hlm
   obtain ⟨sg,hsge⟩:∃ q,q=d.sg s:=⟨_,rfl⟩
   obtain ⟨nF,hnF⟩:∃ q:Cu,q={ Cu.setS { nh with fl:=putF x fl } 1 sg with ip:=pl,sh:=false }:=⟨_,rfl⟩
   have HS:Hid (leaveO M x n 2=⟨p4.m,.inr nF⟩):=hid_eq (by rw [HGL.out,hnF,hsge];exact if_neg hlm)
   have hpf:=putFlags_any v7 c t6 T x nh p4.m HB.out.1 fl HU2.out
   clear hlm
   go_wp2_with fail
   refine Calls.mono hpf ?_;rintro e u6 ⟨rfl,b6,k6⟩
   have d6:=DsAt.kp HDS.out k6 HN.out.2
   clear j0 j1 j2 j3 j4 j5 j6 hpf
   obtain ⟨j0,j1,j2,j3,j4,j5,j6⟩:=d6.c
   have c0:=b6.t.c (k:=20) rfl;have c1:=b6.t.c (k:=21) rfl;have c2:=b6.t.c (k:=22) rfl;have c3:=b6.t.c (k:=23) rfl;have c4:=b6.t.c (k:=24) rfl;have c5:=b6.t.c (k:=25) rfl;have c6:=b6.t.c (k:=26) rfl;have c7:=b6.t.c (k:=27) rfl;have c8:=b6.t.c (k:=28) rfl
   have z0:=b6.t.fz 20;have z1:=b6.t.fz 21;have z2:=b6.t.fz 22;have z3:=b6.t.fz 23;have z4:=b6.t.fz 24;have z5:=b6.t.fz 25;have z6:=b6.t.fz 26;have z7:=b6.t.fz 27;have z8:=b6.t.fz 28
   have q9:=b6.t.c (k:=9) rfl;have q81:=b6.t.c (k:=81) rfl
   have y9:=b6.t.fz 9;have y81:=b6.t.fz 81
   have hsg:sg.Wf:=by rw [hsge];exact HD.out.sg HS16.out
   have ht6:=Tn.cs b6 hsg
   have ht7:=Tn.fin3 (ht6.1.kp0 (Kp.refl noB (putCs u6 T sg)).drew) HU0.out
   have HF:Hid (Py w c tn T x ⟨p4.m,.inr nF⟩ 40 (((putCs u6 T sg).drew.setCell ⟨T,9,none⟩ (.int .u32 pl)).setCell ⟨T,81,none⟩ (.bool false))):=
    ⟨⟨t6,by have:=HB.out.2.1;omega,ht7.1.a,fun n' e=>by cases e;rw [hnF];exact ht7.1⟩,(((HB.out.2.2.trans k6).trans (ht6.2.mono (fun _ _ f=>.inr f))).trans ((Kp.refl noB (putCs u6 T sg)).drew.mono (fun _ _ f=>f.elim))).trans (ht7.2.mono (fun _ _ f=>.inr f))⟩
   obtain ⟨u8,hu8⟩:∃ W,W=(((((((((u6.setCell ⟨T,20,none⟩ (.int .u16 s)).setCell ⟨T,21,none⟩ (.bool false)).setCell ⟨T,22,none⟩ (.int .u32 d.b)).setCell ⟨T,23,none⟩ (.int .u32 d.l)).setCell ⟨T,24,none⟩ (.int .i64 d.t)).setCell ⟨T,25,none⟩ (.bool d.s)).setCell ⟨T,26,none⟩ (.int .i64 d.d)).setCell ⟨T,27,none⟩ (.bool d.p)).setCell ⟨T,28,none⟩ (.bool d.g)).drew:=⟨_,rfl⟩
   have HU8:Hid (u8=(((((((((u6.setCell ⟨T,20,none⟩ (.int .u16 s)).setCell ⟨T,21,none⟩ (.bool false)).setCell ⟨T,22,none⟩ (.int .u32 d.b)).setCell ⟨T,23,none⟩ (.int .u32 d.l)).setCell ⟨T,24,none⟩ (.int .i64 d.t)).setCell ⟨T,25,none⟩ (.bool d.s)).setCell ⟨T,26,none⟩ (.int .i64 d.d)).setCell ⟨T,27,none⟩ (.bool d.p)).setCell ⟨T,28,none⟩ (.bool d.g)).drew):=hid_eq hu8
   have hu9:u8=(putCs u6 T sg).drew:=by rw [hu8,hsge];rfl
   clear hu8
   rw [← hu9] at HF
   have b8:=ht6.1.kp0 (Kp.refl noB (putCs u6 T sg)).drew
   rw [← hu9] at b8
   have HB8:Hid _:=b8
   clear b8 hu9 hsge hnF ht6 ht7 hsg b6 k6 d6 q9 q81 y9 y81
   go_upto_region 13 with fail
   go_region
   rw [← HU8.out]
   clear HU8 c0 c1 c2 c3 c4 c5 c6 c7 c8 z0 z1 z2 z3 z4 z5 z6 z7 z8 j0 j1 j2 j3 j4 j5 j6
   have q0:=HB8.out.t.e
   unfold ptr at q0
   have q9:=HB8.out.t.c (k:=9) rfl;have q81:=HB8.out.t.c (k:=81) rfl
   have y9:=HB8.out.t.fz 9;have y81:=HB8.out.t.fz 81
   clear HB8
   go_wp2
   go_end0
   exact ⟨by rw [HS.out];rfl,by rw [HS.out];exact HF.out⟩
 ·have hdo:decide (rg < s4)=false:=decide_eq_false ho
  obtain ⟨es,hes⟩:∃ q,q=a32 (n.r 4) 6:=⟨_,rfl⟩
  have we:IntKind.u32.wrap (n.r 4+6)=es:=by rw [hes];exact a32_wrap _ _
  have HGL:Hid (leaveO M x n 2=laveB p3.m x (n.setR 4 es) d pl s fl):=hid_eq (by rw [HG4.out,HOU.out,if_neg ho,hes];rfl)
  have HES:Hid (U32 es):=by rw [hes];exact a32_bd _ _
  clear ho hes
  go_enter Tryz.func37,Tryz.ntmps37
  go_wp2_with fail
  refine Calls.mono HWas.out ?_;rintro e w' ⟨rfl,hw⟩;replace hw:=hw.symm;subst hw
  go_wp2_with fail
  refine Calls.mono (HP0.out w tn (by omega) H0.out) ?_;rintro e v0 ⟨rfl,⟨t0,ht0,b0⟩,k0⟩
  have HB0:Hid (Tn v0 c t0 T x n p0.m∧t0≤tn+2∧Kp (c.mdT T) w v0):=⟨b0,by omega,(k0.mono (fun _ _ f=>.inl f))⟩
  clear b0 k0 ht0
  go_wp2_with fail
  refine Calls.mono (HP1.out v0 t0 HB0.out.2.1 HB0.out.1) ?_;rintro e v1 ⟨rfl,⟨t1,ht1,b1⟩,k1⟩
  have HB1:Hid (Tn v1 c t1 T x n p1.m∧t1≤tn+4∧Kp (c.mdT T) w v1):=⟨b1,by have:=HB0.out.2.1;omega,HB0.out.2.2.trans (k1.mono (fun _ _ f=>.inl f))⟩
  clear b1 k1 ht1
  go_wp2_with fail
  refine Calls.mono (HP2.out v1 t1 HB1.out.2.1 HB1.out.1) ?_;rintro e v2 ⟨rfl,⟨t2,ht2,b2⟩,k2⟩
  have HB2:Hid (Tn v2 c t2 T x n p2.m∧t2≤tn+6∧Kp (c.mdT T) w v2):=⟨b2,by have:=HB1.out.2.1;omega,HB1.out.2.2.trans (k2.mono (fun _ _ f=>.inl f))⟩
  clear b2 k2 ht2
  go_wp2_with fail
  refine Calls.mono (HI.out v2 t2 HB2.out.2.1 HB2.out.1) ?_;rintro e v3 ⟨rfl,⟨t3,ht3,b3⟩,k3⟩
  have HB3:Hid (Tn v3 c t3 T x n p3.m∧t3≤tn+10∧Kp (c.mdT T) w v3):=⟨b3,by have:=HB2.out.2.1;omega,HB2.out.2.2.trans (k3.mono (fun _ _ f=>.inl f))⟩
  obtain ⟨F,hF⟩:∃ F,F=v3.heap.size:=⟨_,rfl⟩
  obtain ⟨W5,hW5⟩:∃ W,W=v3.alloc (.cells #[.int .u32 d.b,.int .u32 d.l,.int .i64 d.t,.bool d.s,.int .i64 d.d,.bool d.p,.bool d.g] 26):=⟨_,rfl⟩
  have d5:DsAt W5 F d:=by rw [hW5,hF];exact (MapKept.heap_alloc v3 _).1
  have k45:Kp noB v3 W5:=by rw [hW5];exact Kp.alloc _ _ _
  have b5:=b3.kp0 k45
  have nF:¬ c.mdT T F:=fun e=>by have:=b3.ne e;omega
  have HB5:Hid (Tn W5 c t3 T x n p3.m∧t3≤tn+10∧Kp (c.mdT T) w W5):=⟨b5,HB3.out.2.1,HB3.out.2.2.trans (k45.mono (fun _ _ f=>f.elim))⟩
  have HN:Hid (DsAt W5 F d∧¬ c.mdT T F):=⟨d5,nF⟩
  have hrr:=HRr.out W5 t3 p3.m b5
  clear b3 b5 d5 k45 k3 ht3 nF
  go_wp2_with fail
  refine Calls.mono (HRo.out _) ?_;rintro e w' ⟨rfl,hw⟩;replace hw:=hw.symm;subst hw
  go_wp2_with fail
  rw [← hW5,← hF]
  clear hW5 hF
  refine Calls.mono hrr ?_;rintro e w' ⟨rfl,hw⟩;replace hw:=hw.symm;subst hw
  clear hrr HRr HRo HI HP0 HP1 HP2
  have g0:=HB5.out.1.t.e
  unfold ptr at g0
  have g5:=HB5.out.1.t.c (k:=5) rfl
  have h5:=HB5.out.1.t.fz 5
  have hes6:=Tn.esp HB5.out.1 HES.out
  have kd:Kp noB (W5.setCell ⟨T,5,none⟩ (.int .u32 es)) (W5.setCell ⟨T,5,none⟩ (.int .u32 es)).drew:=(Kp.refl noB _).drew
  have kw6:=(hes6.2.mono (T:=c.mdT T) (fun _ _ f=>.inr f)).trans (kd.mono (fun _ _ f=>f.elim))
  have HB':Hid (Tn (W5.setCell ⟨T,5,none⟩ (.int .u32 es)).drew c t3 T x (n.setR 4 es) p3.m∧t3≤tn+18∧Kp (c.mdT T) w (W5.setCell ⟨T,5,none⟩ (.int .u32 es)).drew∧DsAt (W5.setCell ⟨T,5,none⟩ (.int .u32 es)).drew F d):=⟨hes6.1.kp0 kd,by have:=HB5.out.2.1;omega,HB5.out.2.2.trans kw6,DsAt.kp HN.out.1 kw6 HN.out.2⟩
  clear hes6 kd kw6
  go_upto_region 9 with fail
  go_region
  obtain ⟨v7,hv7⟩:∃ W,W=(W5.setCell ⟨T,5,none⟩ (.int .u32 es)).drew:=⟨_,rfl⟩
  rw [← hv7] at HB'
  have HB:Hid (Tn v7 c t3 T x (n.setR 4 es) p3.m∧t3≤tn+18∧Kp (c.mdT T) w v7):=⟨HB'.out.1,HB'.out.2.1,HB'.out.2.2.1⟩
  have HDS:Hid (DsAt v7 F d):=HB'.out.2.2.2
  obtain ⟨nh,hnh⟩:∃ q,q=n.setR 4 es:=⟨_,rfl⟩
  rw [← hnh] at HB HGL
  rw [← hv7]
  clear g0 g5 h5 HB' hnh hv7
  obtain ⟨j0,j1,j2,j3,j4,j5,j6⟩:=DsAt.c HDS.out
  by_cases hlm:d.l < pl
  ·have HS:Hid (leaveO M x n 2=.no p3.m 13 0):=hid_eq (HGL.out.trans (if_pos hlm))
   have dl:decide (d.l < pl)=true:=decide_eq_true hlm
   clear hlm
   go_wp2_with (go_at_call 68;refine Calls.mono (cProt_any _) ?_;rintro e w5 ⟨rfl,k5⟩)
   exact ⟨rfl,by rw [HS.out];rfl,by rw [HS.out];exact ⟨⟨t3,by have:=HB.out.2.1;omega,(HB.out.1.kp0 k5).a,fun n' e=>by cases e⟩,HB.out.2.2.trans (k5.mono (fun _ _ f=>f.elim))⟩⟩
  have dl:decide (d.l < pl)=false:=decide_eq_false hlm
  obtain ⟨sg,hsge⟩:∃ q,q=d.sg s:=⟨_,rfl⟩
  obtain ⟨nF,hnF⟩:∃ q:Cu,q={ Cu.setS { nh with fl:=putF x fl } 1 sg with ip:=pl,sh:=false }:=⟨_,rfl⟩
  have HS:Hid (leaveO M x n 2=⟨p3.m,.inr nF⟩):=hid_eq (by rw [HGL.out,hnF,hsge];exact if_neg hlm)
  have hpf:=putFlags_any v7 c t3 T x nh p3.m HB.out.1 fl HU2.out
  clear hlm
  go_wp2_with fail
  refine Calls.mono hpf ?_;rintro e u6 ⟨rfl,b6,k6⟩
  have d6:=DsAt.kp HDS.out k6 HN.out.2
  clear j0 j1 j2 j3 j4 j5 j6 hpf
  obtain ⟨j0,j1,j2,j3,j4,j5,j6⟩:=d6.c
  have c0:=b6.t.c (k:=20) rfl;have c1:=b6.t.c (k:=21) rfl;have c2:=b6.t.c (k:=22) rfl;have c3:=b6.t.c (k:=23) rfl;have c4:=b6.t.c (k:=24) rfl;have c5:=b6.t.c (k:=25) rfl;have c6:=b6.t.c (k:=26) rfl;have c7:=b6.t.c (k:=27) rfl;have c8:=b6.t.c (k:=28) rfl
  have z0:=b6.t.fz 20;have z1:=b6.t.fz 21;have z2:=b6.t.fz 22;have z3:=b6.t.fz 23;have z4:=b6.t.fz 24;have z5:=b6.t.fz 25;have z6:=b6.t.fz 26;have z7:=b6.t.fz 27;have z8:=b6.t.fz 28
  have q9:=b6.t.c (k:=9) rfl;have q81:=b6.t.c (k:=81) rfl
  have y9:=b6.t.fz 9;have y81:=b6.t.fz 81
  have hsg:sg.Wf:=by rw [hsge];exact HD.out.sg HS16.out
  have ht6:=Tn.cs b6 hsg
  have ht7:=Tn.fin3 (ht6.1.kp0 (Kp.refl noB (putCs u6 T sg)).drew) HU0.out
  have HF:Hid (Py w c tn T x ⟨p3.m,.inr nF⟩ 40 (((putCs u6 T sg).drew.setCell ⟨T,9,none⟩ (.int .u32 pl)).setCell ⟨T,81,none⟩ (.bool false))):=
   ⟨⟨t3,by have:=HB.out.2.1;omega,ht7.1.a,fun n' e=>by cases e;rw [hnF];exact ht7.1⟩,(((HB.out.2.2.trans k6).trans (ht6.2.mono (fun _ _ f=>.inr f))).trans ((Kp.refl noB (putCs u6 T sg)).drew.mono (fun _ _ f=>f.elim))).trans (ht7.2.mono (fun _ _ f=>.inr f))⟩
  obtain ⟨u8,hu8⟩:∃ W,W=(((((((((u6.setCell ⟨T,20,none⟩ (.int .u16 s)).setCell ⟨T,21,none⟩ (.bool false)).setCell ⟨T,22,none⟩ (.int .u32 d.b)).setCell ⟨T,23,none⟩ (.int .u32 d.l)).setCell ⟨T,24,none⟩ (.int .i64 d.t)).setCell ⟨T,25,none⟩ (.bool d.s)).setCell ⟨T,26,none⟩ (.int .i64 d.d)).setCell ⟨T,27,none⟩ (.bool d.p)).setCell ⟨T,28,none⟩ (.bool d.g)).drew:=⟨_,rfl⟩
  have HU8:Hid (u8=(((((((((u6.setCell ⟨T,20,none⟩ (.int .u16 s)).setCell ⟨T,21,none⟩ (.bool false)).setCell ⟨T,22,none⟩ (.int .u32 d.b)).setCell ⟨T,23,none⟩ (.int .u32 d.l)).setCell ⟨T,24,none⟩ (.int .i64 d.t)).setCell ⟨T,25,none⟩ (.bool d.s)).setCell ⟨T,26,none⟩ (.int .i64 d.d)).setCell ⟨T,27,none⟩ (.bool d.p)).setCell ⟨T,28,none⟩ (.bool d.g)).drew):=hid_eq hu8
  have hu9:u8=(putCs u6 T sg).drew:=by rw [hu8,hsge];rfl
  clear hu8
  rw [← hu9] at HF
  have b8:=ht6.1.kp0 (Kp.refl noB (putCs u6 T sg)).drew
  rw [← hu9] at b8
  have HB8:Hid _:=b8
  clear b8 hu9 hsge hnF ht6 ht7 hsg b6 k6 d6 q9 q81 y9 y81
  go_upto_region 13 with fail
  go_region
  rw [← HU8.out]
  clear HU8 c0 c1 c2 c3 c4 c5 c6 c7 c8 z0 z1 z2 z3 z4 z5 z6 z7 z8 j0 j1 j2 j3 j4 j5 j6
  have q0:=HB8.out.t.e
  unfold ptr at q0
  have q9:=HB8.out.t.c (k:=9) rfl;have q81:=HB8.out.t.c (k:=81) rfl
  have y9:=HB8.out.t.fz 9;have y81:=HB8.out.t.fz 81
  clear HB8
  go_wp2
  go_end0
  exact ⟨by rw [HS.out];rfl,by rw [HS.out];exact HF.out⟩
end Go.Proofs.YtacgmoikegcopaaGreatDoor.Rm
