/- The bus and its devices: BsNew, BrNew. -/
import Derived.Test.YtacgmoikegcopaaGreatDoorEc31
import Derived.Test.YtacgmoikegcopaaGreatDoorEc30
namespace Go.Proofs.YtacgmoikegcopaaGreatDoor.Bs
open Go.ChangeShapes Go.WideShapes Go.ChangeAt Go.RowKit
open Go.Proofs.YtacgmoikegcopaaGreatDoor.Ut (Kp heap_lt heap_kept heap_set heap_new noB isB kpB)
set_option linter.unusedVariables false
set_option maxRecDepth 20000
def memO (m:Rm.Mem):Rm.Mem:={ m with closed:=false }
def bm0 (n:Nat) (D:Nat→Int) (m:Rm.Mem):Bm:=⟨Pc.m00,Pt.f00,Ut.u0,Dk.id0 n D,m,false,0⟩
theorem byt0:Ut.By 0:=⟨by decide,by decide⟩
theorem u0_ok:Ut.u0.Ok:=⟨byt0,byt0,⟨by decide,by decide⟩,byt0,byt0,byt0,(fun b hb=>nomatch hb),by decide,(fun b hb=>nomatch hb)⟩
theorem bm0_ok {n:Nat} {D:Nat→Int} {m:Rm.Mem} (h:(Dk.id0 n D).Ok):(bm0 n D m).Ok:=⟨Pc.m00_ok,by show Pc.M2.settle Pc.m00=Pc.m00;kernel_rfl,Pt.f00_ok,u0_ok,h,by show (0:Int)≤0;decide,by show (0:Int) < 18446744073709551616;decide⟩
def ramRs (M:Nat) (m:Rm.Mem):Nat→Res:=fun i=>if i=6 then ramR M m else .none
theorem rs_all (L:Loc) (x:Bm) (hc:x.cl=false) (hn:x.now=0):updR (updR (updR (updR (updR (updR (ramRs L.M x.m) 5 (ideR L.I x.d)) 2 (picR L.P x.p)) 3 (pitR L.T x.f)) 4 (uartR L.U x.u)) 0 (.blk L.B (busO L false 0))) 1 (.blk L.Q (mapO L ports))=busRs L x:=by
 funext j
 match j with
 | 0=>show Res.blk L.B (busO L false 0)=Res.blk L.B (busO L x.cl x.now);rw [hc,hn]
 | 1 | 2 | 3 | 4 | 5 | 6=>rfl
 | n+7=>rfl
def BNew (w:World) (S:Nat→Prop) (M:Nat) (x:Bm) (B:Nat) (w':World):Prop:=∃ L S',L.B=B∧L.M=M∧BW w' S' L x∧Nx w S w' S'
set_option maxHeartbeats 2000000 in
theorem new_ok (w:World) (S:Nat→Prop) (M:Nat) (m:Rm.Mem) (h:Sys w S (ramRs M m)) (a:Option Addr) (Ld c:Nat) (bt:Nat→Int) (hb:Dk.BytAt w a Ld bt) (hbd:∀ j,j < Ld→0≤bt j∧bt j < 256) (h1:Ld%512=0) (h2:Ld≤32768):Calls Tryz.prog 23 #[.pointer (some ⟨M+3,0,none⟩),.slice a Ld c] w fun e w'=>∃ B,e=.returned (.tuple #[.pointer (some ⟨B,0,none⟩),.int .i64 0])∧BNew w S M (bm0 (Ld / 512) (Dk.dB Ld bt) (memO m)).tell B w':=by
 have HD:Hid _:=Dk.wNew w a Ld c bt hb h1 h2
 unfold Dk.INew at HD
 have okd:(Dk.id0 (Ld / 512) (Dk.dB Ld bt)).Ok:=Dk.idN_ok h2 hbd
 obtain ⟨x0,hx0⟩:∃ x0,x0=bm0 (Ld / 512) (Dk.dB Ld bt) (memO m):=⟨_,rfl⟩
 have ok0:Hid x0.Ok:=by rw [hx0];exact bm0_ok okd
 obtain ⟨x1,hx1⟩:∃ x1:Bm,x1=bm0 (Ld / 512) (Dk.dB Ld bt) m:=⟨_,rfl⟩
 have e10:Hid (x0={ x1 with m:=memO m }):=by show _=_;rw [hx0,hx1];rfl
 have e1:Hid (x1.p=Pc.m00∧x1.f=Pt.f00∧x1.u=Ut.u0∧x1.d=Dk.id0 (Ld / 512) (Dk.dB Ld bt)∧x1.m=m∧x1.cl=false∧x1.now=0):=by rw [hx1];exact ⟨rfl,rfl,rfl,rfl,rfl,rfl,rfl⟩
 rw [← hx0]
 generalize Dk.id0 (Ld / 512) (Dk.dB Ld bt)=d0 at *
 have P0:Hid (Sys w S (ramRs M m)):=h
 clear h hb hbd h1 h2 okd hx0 hx1
 go_enter Tryz.func23,Tryz.ntmps23
 go_wp2_with fail
 refine Calls.mono HD.out ?_;rintro e w1 ⟨rfl,T1,i1,n1,k1⟩
 obtain ⟨I,hI⟩:∃ I,I=w.heap.size:=⟨_,rfl⟩
 rw [← hI] at i1
 obtain ⟨S1,s1,nx1⟩:=P0.out.new (i:=5) rfl (r':=ideR I d0) i1 (fun k g=>⟨n1 k g,i1.lt k g⟩) (kDk k1)
 have P1:Hid (Sys w1 S1 (updR (ramRs M m) 5 (ideR I d0))):=s1
 have N1:Hid (Nx w S w1 S1):=nx1
 clear i1 n1 k1 s1 nx1 P0 HD
 go_wp2_with fail
 rw [← hI]
 clear hI
 refine Calls.mono (Pc.new_ok w1) ?_;rintro e w2 ⟨rfl,i2,k2⟩
 obtain ⟨P,hP⟩:∃ P,P=w1.heap.size:=⟨_,rfl⟩
 rw [← hP] at i2
 obtain ⟨S2,s2,nx2⟩:=P1.out.new (i:=2) rfl (r':=picR P Pc.m00) (T':=isB P) ⟨rfl,i2⟩ (fun k (g:k=P)=>⟨by omega,by rw [g];exact i2.lt⟩) (kPc k2)
 have P2:Hid (Sys w2 S2 (updR (updR (ramRs M m) 5 (ideR I d0)) 2 (picR P Pc.m00))):=s2
 have N2:Hid (Nx w S w2 S2):=N1.out.trans nx2
 clear i2 k2 s2 nx2 P1 N1
 go_wp2_with fail
 rw [← hP]
 clear hP
 refine Calls.mono (Pt.new_ok w2) ?_;rintro e w3 ⟨T,rfl,hT,i3,k3⟩
 obtain ⟨S3,s3,nx3⟩:=P2.out.new (i:=3) rfl (r':=pitR T Pt.f00) (T':=isB T) ⟨rfl,i3⟩ (fun k (g:k=T)=>⟨by omega,by rw [g];exact i3.lt⟩) (kPt k3)
 have P3:Hid (Sys w3 S3 (updR (updR (updR (ramRs M m) 5 (ideR I d0)) 2 (picR P Pc.m00)) 3 (pitR T Pt.f00))):=s3
 have N3:Hid (Nx w S w3 S3):=N2.out.trans nx3
 clear i3 k3 s3 nx3 P2 N2 hT
 go_wp2_with fail
 refine Calls.mono (Ut.wNew w3) ?_;rintro e w4 ⟨U,T4,rfl,i4,n4,k4⟩
 obtain ⟨S4,s4,nx4⟩:=P3.out.new (i:=4) rfl (r':=uartR U Ut.u0) i4 (fun k g=>⟨n4 k g,i4.lt k g⟩) k4
 have P4:Hid (Sys w4 S4 (updR (updR (updR (updR (ramRs M m) 5 (ideR I d0)) 2 (picR P Pc.m00)) 3 (pitR T Pt.f00)) 4 (uartR U Ut.u0))):=s4
 have N4:Hid (Nx w S w4 S4):=N3.out.trans nx4
 clear i4 n4 k4 s4 nx4 P3 N3
 obtain ⟨L,hL⟩:∃ L:Loc,L=⟨w4.heap.size,w4.heap.size+1,P,T,U,I,M⟩:=⟨_,rfl⟩
 obtain ⟨w5,hw5⟩:∃ w5,w5=w4.alloc (bus0 L):=⟨_,rfl⟩
 obtain ⟨S5,s5,nx5⟩:=P4.out.new (i:=0) (w':=w5) rfl (r':=.blk L.B (bus0 L)) (T':=isB L.B) ⟨rfl,by rw [hw5,hL];exact heap_new _ _⟩ (fun k (g:k=L.B)=>by rw [g,hw5,hL];exact ⟨Nat.le_refl _,by simp⟩) (by rw [hw5];exact Kp.alloc _ _ _)
 have P5:Hid (Sys w5 S5 (updR (updR (updR (updR (updR (ramRs M m) 5 (ideR I d0)) 2 (picR P Pc.m00)) 3 (pitR T Pt.f00)) 4 (uartR U Ut.u0)) 0 (.blk L.B (bus0 L)))):=s5
 have N5:Hid (Nx w S w5 S5):=N4.out.trans nx5
 have HL:Hid (Calls Tryz.prog 60 #[.pointer (some ⟨L.B,0,none⟩)] w5 fun e w'=>e=.returned (.tuple #[])∧w'.heap[L.B]?=some (busO L false 0)∧w'.heap[L.Q]?=some (mapO L ports)∧Kp (isB L.B) w5 w'):=layPorts_ok w5 L (by rw [hw5,hL];exact heap_new _ _) (by rw [hw5,hL];simp)
 have qn:Hid (L.Q=w5.heap.size):=by show _=_;rw [hw5,hL];simp
 have HB:Hid (L.B=w4.heap.size):=by rw [hL];exact rfl
 have HF:Hid (L.M=M∧L.P=P∧L.T=T∧L.U=U∧L.I=I):=by rw [hL];exact ⟨rfl,rfl,rfl,rfl,rfl⟩
 have hw5':Hid (w4.alloc (.cells #[.pointer (some ⟨P,0,none⟩),.pointer (some ⟨T,0,none⟩),.pointer (some ⟨U,0,none⟩),.pointer (some ⟨I,0,none⟩),.pointer (some ⟨M+3,0,none⟩),.bool false,.int .u64 0,.map none] 136)=w5):=by rw [hw5,hL];exact rfl
 clear hL hw5 s5 nx5 P4 N4
 go_wp2_with fail
 rw [hw5'.out,← HB.out]
 clear hw5' HB
 refine Calls.mono HL.out ?_;rintro e w6 ⟨rfl,b6,q6,k6⟩
 have hz6:∃ S6,BW w6 S6 L x1∧Nx w S w6 S6:=by
  obtain ⟨F1,F2,F3,F4,F5⟩:=HF.out
  obtain ⟨E1,E2,E3,E4,E5,E6,E7⟩:=e1.out
  obtain ⟨TT,t1,t2,t3⟩:=P5.out.split 0 1 (by decide) rfl
  have t1':TT L.B:=t1.1
  obtain ⟨S6,s6,nx6⟩:=t3 (.blk L.B (busO L false 0)) (.blk L.Q (mapO L ports)) w6 TT (isB L.Q) ⟨t1',b6⟩ ⟨rfl,q6⟩ ⟨fun _ f=>.inl f,k6.mono fun j _ (g:j=L.B)=>g ▸ t1'⟩ (fun k g=>Nat.lt_of_lt_of_le (t2 k g).2 k6.size) (fun k (g:k=L.Q)=>by
   have:=qn.out
   have:=heap_lt q6
   refine ⟨.inr (by omega),by omega,fun f=>?_⟩
   have:=(t2 k f).2
   omega)
  refine ⟨S6,?_,N5.out.trans nx6⟩
  show Sys w6 S6 (busRs L x1)
  rw [← rs_all L x1 E6 E7,E1,E2,E3,E4,E5,F1,F2,F3,F4,F5]
  refine cast ?_ s6
  congr 1
  funext j
  match j with
  | 0 | 1 | 2 | 3 | 4 | 5 | 6=>rfl
  | n+7=>rfl
 clear b6 q6 k6 HL qn P5 N5
 obtain ⟨S6,q6,nx6⟩:=hz6
 have Q6:Hid _:=q6
 have N6:Hid _:=nx6
 have HG:Hid (Calls Tryz.prog 61 #[.pointer (some ⟨M+3,0,none⟩),.bool true] w6 fun e w'=>e=.returned (.tuple #[])∧BNx w6 S6 L x0 w'):=by
  rw [e10.out,← HF.out.1]
  refine bRam q6 (by rw [e1.out.2.2.2.2.1];rfl) (fun q=>?_)
  have:=Rm.gate_ok w6 L.M x1.m q true
  rw [e1.out.2.2.2.2.1] at this ⊢
  exact this
 have HT:Hid (∀ W S,BW W S L x0→_):=fun W S h=>tell_ok h ok0.out
 have HM:Hid (L.M=M):=HF.out.1
 clear q6 nx6 e10 e1 ok0 HF
 go_wp2_with fail
 refine Calls.mono HG.out ?_;rintro e w7 ⟨rfl,S7,q7,n7⟩
 have Q7:Hid _:=q7
 have N7:Hid (Nx w S w7 S7):=N6.out.trans n7
 clear q7 n7 Q6 N6 HG
 go_wp2_with fail
 refine Calls.mono (HT.out _ _ Q7.out) ?_;rintro e w8 ⟨rfl,S8,q8,n8⟩
 have HZ:Hid (BNew w S M x0.tell L.B w8):=⟨L,S8,rfl,HM.out,q8,N7.out.trans n8⟩
 clear q8 n8 Q7 N7 HT HM
 go_wp2
 go_ret2
 exact ⟨_,rfl,HZ.out⟩
def memRs (M:Nat) (o:Obj):Nat→Res:=fun i=>if i=6 then .blk M o else .none
theorem drs_all (L:LocR) (x:Bm) (hc:x.cl=false) (hn:x.now=0):updR (updR (updR (updR (updR (memRs L.M (refO L false)) 5 (ideX L.I L.gD L.cap x.d)) 2 (picX L.P x.p)) 3 (pitX L.T x.f)) 4 (uartX L.U x.u)) 0 (.blk L.B (docO L 0))=docRs L x:=by
 funext j
 match j with
 | 0=>show Res.blk L.B (docO L 0)=Res.blk L.B (docO L x.now);rw [hn]
 | 6=>show Res.blk L.M (refO L false)=Res.blk L.M (refO L x.cl);rw [hc]
 | 1 | 2 | 3 | 4 | 5=>rfl
 | n+7=>rfl
def DNew (w:World) (S:Nat→Prop) (M:Nat) (x:Bm) (B:Nat) (w':World):Prop:=∃ L S',L.B=B∧L.M=M∧DW w' S' L x∧Nx w S w' S'
theorem xw_of {w w':World} {R gD cap:Nat} {dn:Int} {d:Dk.Id} (x1:Dk.XAt w' R gD cap dn (.slice none 0 0) d) (xd:Dk.Dn d dn) (r1:w.heap.size≤R) (r2:w.heap.size≤gD):Dk.XW w' (fun k=>k=R∨k=gD) R gD cap d:=by
 refine ⟨⟨dn,_,x1,xd,fun k q=>?_⟩,fun k q=>?_⟩
 ·rcases q with q | q | q
  ·exact .inl q
  ·exact .inr q
  ·cases q
 ·rcases q with q | q
  ·exact x1.foot_lt (.inl q)
  ·exact x1.foot_lt (.inr (.inl q))
set_option maxHeartbeats 2000000 in
theorem dnew_ok (w:World) (S:Nat→Prop) (M:Nat) (V0 V1 V2 V3:Value) (cl:Bool) (h:Sys w S (memRs M (.cells #[V0,V1,V2,V3,.bool cl] 143 (0,0)))) (a:Option Addr) (Ld c:Nat) (bt:Nat→Int) (hb:Dk.BytAt w a Ld bt) (hbd:∀ j,j < Ld→0≤bt j∧bt j < 256) (h1:Ld%512=0) (h2:Ld≤32768) (mm:Rm.Mem):Calls Tryz.prog 25 #[.pointer (some ⟨M,0,none⟩),.slice a Ld c] w fun e w'=>∃ B,e=.returned (.tuple #[.pointer (some ⟨B,0,none⟩),.int .i64 0])∧DNew w S M (bm0 (Ld / 512) (Dk.dB Ld bt) mm).tell B w':=by
 have HD:Hid _:=Dk.xnew_ok w a Ld c bt hb h1 h2
 unfold Dk.XNew at HD
 have okd:(Dk.id0 (Ld / 512) (Dk.dB Ld bt)).Ok:=Dk.idN_ok h2 hbd
 obtain ⟨x1,hx1⟩:∃ x1:Bm,x1=bm0 (Ld / 512) (Dk.dB Ld bt) mm:=⟨_,rfl⟩
 have ok0:Hid x1.Ok:=by rw [hx1];exact bm0_ok okd
 have e1:Hid (x1.p=Pc.m00∧x1.f=Pt.f00∧x1.u=Ut.u0∧x1.d=Dk.id0 (Ld / 512) (Dk.dB Ld bt)∧x1.cl=false∧x1.now=0):=by rw [hx1];exact ⟨rfl,rfl,rfl,rfl,rfl,rfl⟩
 rw [← hx1]
 generalize Dk.id0 (Ld / 512) (Dk.dB Ld bt)=d0 at *
 have P0:Hid (Sys w S (memRs M (.cells #[V0,V1,V2,V3,.bool cl] 143 (0,0)))):=h
 clear h hb hbd h1 h2 okd hx1
 go_enter Tryz.func25,Tryz.ntmps25
 go_wp2_with fail
 refine Calls.mono HD.out ?_;rintro e w1 ⟨I,rfl,gD,cap,dn,i1,i2,r1,r2,k1⟩
 have xw:=xw_of i1 i2 r1 r2
 obtain ⟨S1,s1,nx1⟩:=P0.out.new (i:=5) rfl (r':=ideX I gD cap d0) xw (fun k g=>⟨by rcases g with g | g<;>omega,xw.lt k g⟩) (kDk k1)
 have P1:Hid (Sys w1 S1 (updR (memRs M (.cells #[V0,V1,V2,V3,.bool cl] 143 (0,0))) 5 (ideX I gD cap d0))):=s1
 have N1:Hid (Nx w S w1 S1):=nx1
 have hm:w1.heap[M]?=some (.cells #[V0,V1,V2,V3,.bool cl] 143 (0,0)):=by
  obtain ⟨T,a,b⟩:=P1.out.at 6
  exact a.2
 have m4:=cell_of hm (k:=4) rfl
 have mf:=fz_of hm 4
 obtain ⟨S1',s1',nx1'⟩:=Sys.set (o':=.cells #[V0,V1,V2,V3,.bool false] 143 (0,0)) P1.out (i:=6) rfl (kpB M w1 4 (.bool false)) (by rw [heap_set hm];rfl)
 obtain ⟨w1',hw1'⟩:∃ w1',w1'=w1.setCell ⟨M,4,none⟩ (.bool false):=⟨_,rfl⟩
 rw [← hw1'] at s1' nx1'
 have P1':Hid (Sys w1' S1' (updR (memRs M (.cells #[V0,V1,V2,V3,.bool false] 143 (0,0))) 5 (ideX I gD cap d0))):=by
  refine cast ?_ s1'
  congr 1
  funext j
  match j with
  | 0 | 1 | 2 | 3 | 4 | 5 | 6=>rfl
  | n+7=>rfl
 have N1':Hid (Nx w S w1' S1'):=N1.out.trans nx1'
 have hw1:Hid (w1.setCell ⟨M,4,none⟩ (.bool false)=w1'):=hw1'.symm
 clear i1 i2 r1 r2 k1 s1 nx1 P0 HD xw s1' nx1' P1 N1 hm hw1'
 go_wp2_with fail
 rw [hw1.out]
 clear hw1 m4 mf
 refine Calls.mono (Pc.sNew w1') ?_;rintro e w2 ⟨rfl,i2,k2⟩
 obtain ⟨P,hP⟩:∃ P,P=w1'.heap.size:=⟨_,rfl⟩
 rw [← hP] at i2
 obtain ⟨S2,s2,nx2⟩:=P1'.out.new (i:=2) rfl (r':=picX P Pc.m00) (T':=isB P) ⟨rfl,i2⟩ (fun k (g:k=P)=>⟨by omega,by rw [g];exact i2.lt⟩) (kPc k2)
 have P2:Hid (Sys w2 S2 (updR (updR (memRs M (.cells #[V0,V1,V2,V3,.bool false] 143 (0,0))) 5 (ideX I gD cap d0)) 2 (picX P Pc.m00))):=s2
 have N2:Hid (Nx w S w2 S2):=N1'.out.trans nx2
 clear i2 k2 s2 nx2 P1' N1'
 go_wp2_with fail
 rw [← hP]
 clear hP
 refine Calls.mono (Pt.xNew w2) ?_;rintro e w3 ⟨T,rfl,hT,i3,k3⟩
 obtain ⟨S3,s3,nx3⟩:=P2.out.new (i:=3) rfl (r':=pitX T Pt.f00) (T':=isB T) ⟨rfl,i3⟩ (fun k (g:k=T)=>⟨by omega,by rw [g];exact i3.lt⟩) (kPt k3)
 have P3:Hid (Sys w3 S3 (updR (updR (updR (memRs M (.cells #[V0,V1,V2,V3,.bool false] 143 (0,0))) 5 (ideX I gD cap d0)) 2 (picX P Pc.m00)) 3 (pitX T Pt.f00))):=s3
 have N3:Hid (Nx w S w3 S3):=N2.out.trans nx3
 clear i3 k3 s3 nx3 P2 N2 hT
 go_wp2_with fail
 refine Calls.mono (Ut.xNew w3) ?_;rintro e w4 ⟨U,T4,rfl,i4,n4,k4⟩
 obtain ⟨S4,s4,nx4⟩:=P3.out.new (i:=4) rfl (r':=uartX U Ut.u0) i4 (fun k g=>⟨n4 k g,i4.lt k g⟩) k4
 have P4:Hid (Sys w4 S4 (updR (updR (updR (updR (memRs M (.cells #[V0,V1,V2,V3,.bool false] 143 (0,0))) 5 (ideX I gD cap d0)) 2 (picX P Pc.m00)) 3 (pitX T Pt.f00)) 4 (uartX U Ut.u0))):=s4
 have N4:Hid (Nx w S w4 S4):=N3.out.trans nx4
 clear i4 n4 k4 s4 nx4 P3 N3
 obtain ⟨L,hL⟩:∃ L:LocR,L=⟨w4.heap.size,P,T,U,I,gD,cap,M,V0,V1,V2,V3⟩:=⟨_,rfl⟩
 obtain ⟨w5,hw5⟩:∃ w5,w5=w4.alloc (docO L 0):=⟨_,rfl⟩
 obtain ⟨S5,s5,nx5⟩:=P4.out.new (i:=0) (w':=w5) rfl (r':=.blk L.B (docO L 0)) (T':=isB L.B) ⟨rfl,by rw [hw5,hL];exact heap_new _ _⟩ (fun k (g:k=L.B)=>by rw [g,hw5,hL];exact ⟨Nat.le_refl _,by simp⟩) (by rw [hw5];exact Kp.alloc _ _ _)
 have Q6:Hid (DW w5 S5 L x1):=by
  obtain ⟨E1,E2,E3,E4,E6,E7⟩:=e1.out
  show Sys w5 S5 (docRs L x1)
  rw [← drs_all L x1 E6 E7,E1,E2,E3,E4]
  refine cast ?_ s5
  rw [hL]
  rfl
 have N6:Hid (Nx w S w5 S5):=N4.out.trans nx5
 have HB:Hid (L.B=w4.heap.size):=by rw [hL];exact rfl
 have HM:Hid (L.M=M):=by rw [hL];exact rfl
 have hw5':Hid (w4.alloc (.cells #[.pointer (some ⟨M,0,none⟩),.pointer (some ⟨P,0,none⟩),.pointer (some ⟨T,0,none⟩),.pointer (some ⟨U,0,none⟩),.pointer (some ⟨I,0,none⟩),.int .u64 0] 151)=w5):=by rw [hw5,hL];exact rfl
 have HT:Hid (∀ W S,DW W S L x1→_):=fun W S h=>lines_ok h ok0.out
 clear hL hw5 s5 nx5 P4 N4 e1 ok0
 go_wp2_with fail
 rw [hw5'.out,← HB.out]
 clear hw5' HB
 refine Calls.mono (HT.out _ _ Q6.out) ?_;rintro e w8 ⟨rfl,S8,q8,n8⟩
 have HZ:Hid (DNew w S M x1.tell L.B w8):=⟨L,S8,rfl,HM.out,q8,N6.out.trans n8⟩
 clear q8 n8 Q6 N6 HT HM
 go_wp2
 go_ret2
 exact ⟨_,rfl,HZ.out⟩
end Go.Proofs.YtacgmoikegcopaaGreatDoor.Bs
