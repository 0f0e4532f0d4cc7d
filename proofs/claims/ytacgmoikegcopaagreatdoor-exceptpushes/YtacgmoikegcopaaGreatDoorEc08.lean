/- The bus and its devices: VmSys, RefLoop, VmRead, VmWrite, VmClo. -/
import Derived.Test.YtacgmoikegcopaaGreatDoorEc07
import Derived.Test.YtacgmoikegcopaaGreatDoorEc04
import Derived.Deep.LoopGhost
import Derived.Test.YtacgmoikegcopaaGreatDoorEc06
namespace Go.Proofs.YtacgmoikegcopaaGreatDoor.Rm
open Go.ChangeShapes Go.WideShapes Go.ChangeAt Go.RowKit Go.Maps
set_option linter.unusedVariables false
set_option maxRecDepth 20000
theorem ofPro_size (w:World) (V K B pl tn C:Nat) (M:Mem) (h:VmAt w V K B pl tn M) (l z:Int) (wr:Bool) (hz:okS z=false):
  Calls Tryz.prog 230 #[.pointer (some ⟨V,0,none⟩),.pointer (some ⟨C,0,none⟩),.int .u32 l,.int .i64 z,.bool wr] w (fun e w'=>e=.panicked (pan (ftV 13))∧Kp noB w w'):=by
 unfold pan ftV Ft.val
 have kA:=Kp.alloc noB w (.cells #[.int .u32 0,.int .u32 0,.int .i64 0,.int .i64 0] 295)
 have h0:=(h.kp0 kA).c0
 have cN:=need_ok _ V B C h0
 have cS:=vIsSize_any (w.alloc (.cells #[.int .u32 0,.int .u32 0,.int .i64 0,.int .i64 0] 295)) z
 rw [hz] at cS
 clear hz
 go_enter Tryz.func230,Tryz.ntmps230
 go_wp2_with (first | (go_at_call 245;refine cN.mono ?_;rintro e w' ⟨rfl,hw⟩;replace hw:=hw.symm;subst hw) | (go_at_call 246;refine cS.mono ?_;rintro e w' ⟨rfl,hw⟩;replace hw:=hw.symm;subst hw) | (go_at_call 247;refine (refused_any _ _).mono ?_;rintro e w2 ⟨rfl,k2⟩))
 exact ⟨rfl,rfl,kA.trans k2⟩
theorem ofPro_go (w:World) (V K B pl tn C:Nat) (M:Mem) (h:VmAt w V K B pl tn M) (c:Cp) (hc:CpAt w C c) (hC:¬ modVm K B M.n C) (l:Int) (n:Nat) (wr:Bool) (l0:0≤l) (l1:l < 4294967296) (hn:n=1∨n=2∨n=4) (htn:tn < 18446744073709551613):
  Calls Tryz.prog 230 #[.pointer (some ⟨V,0,none⟩),.pointer (some ⟨C,0,none⟩),.int .u32 l,.int .i64 n,.bool wr] w (fun e w'=>e=QE (findQ M c.pg c.cr3 l n wr false c.wp)∧VmP w V K B pl tn (findQ M c.pg c.cr3 l n wr false c.wp).m 2 w'):=by
 have kA:=Kp.alloc noB w (.cells #[.int .u32 0,.int .u32 0,.int .i64 0,.int .i64 0] 295)
 have rX:RowS (w.alloc (.cells #[.int .u32 0,.int .u32 0,.int .i64 0,.int .i64 0] 295)) w.heap.size 0 0 0 0:=(MapKept.heap_alloc w _).1
 have HLT:Hid (V < w.heap.size∧∀ j,modVm K B M.n j→j < w.heap.size):=⟨h.lt,fun j hj=>h.in_lt hj⟩
 replace h:=h.kp0 kA
 replace hc:=hc.kp0 kA
 have h0:=h.c0
 have cN:=need_ok _ V B C h0
 have cS:=vIsSize_any (w.alloc (.cells #[.int .u32 0,.int .u32 0,.int .i64 0,.int .i64 0] 295)) n
 have hz:okS n=true:=by unfold okS;exact decide_eq_true (by omega)
 rw [hz] at cS
 clear hz
 have cW:=own_way _ C c wr hc
 have qn:=findQ_n M c.pg c.cr3 l n wr false c.wp
 have HF:Hid (∀ W,Kp noB (w.alloc (.cells #[.int .u32 0,.int .u32 0,.int .i64 0,.int .i64 0] 295)) W→Calls Tryz.prog 250 #[.pointer (some ⟨V,0,none⟩),.pointer (some ⟨C,0,none⟩),.int .u32 l,.int .i64 n,.agg #[.bool wr,.bool false,.bool c.wp]] W (fun e w'=>e=QE (findQ M c.pg c.cr3 l n wr false c.wp)∧VmP W V K B pl tn (findQ M c.pg c.cr3 l n wr false c.wp).m 2 w')):=fun W k=>vfind_any W V K B pl tn C M (h.kp0 k) c (hc.kp0 k) hC _ n wr false c.wp l0 l1 (by omega) (by omega) htn
 obtain ⟨q,hqe⟩:∃ q,findQ M c.pg c.cr3 l n wr false c.wp=q:=⟨_,rfl⟩
 rw [hqe] at HF qn
 have HQ:Hid _:=hqe
 clear hqe
 obtain ⟨qf,qm,sa,sb,sh,sn⟩:=q
 simp only at HF qn
 have nX:¬ modVm K B qm.n w.heap.size:=fun f=>by rw [qn] at f;have:=HLT.out.2 _ f;omega
 cases qf with
 | some f=>
  unfold QE at HF
  simp only at HF
  go_enter Tryz.func230,Tryz.ntmps230
  go_wp2_with (first | (go_at_call 245;refine cN.mono ?_;rintro e w' ⟨rfl,hw⟩;replace hw:=hw.symm;subst hw) | (go_at_call 246;refine cS.mono ?_;rintro e w' ⟨rfl,hw⟩;replace hw:=hw.symm;subst hw) | (go_at_call 270;refine cW.mono ?_;rintro e w4 ⟨rfl,k4⟩) | (go_at_call 250;refine Calls.mono (HF.out _ k4) ?_;rintro e w5 ⟨rfl,v5⟩))
  obtain ⟨⟨tn5,ht5,at5⟩,k5⟩:=v5
  refine ⟨rfl,by rw [HQ.out];rfl,?_⟩
  rw [HQ.out]
  exact ⟨⟨tn5,ht5,at5⟩,((kA.trans k4).mono (fun _ _ f=>f.elim)).trans k5⟩
 | none=>
  unfold QE Sp.val at HF
  simp only at HF
  go_enter Tryz.func230,Tryz.ntmps230
  go_wp2_with (first | (go_at_call 245;refine cN.mono ?_;rintro e w' ⟨rfl,hw⟩;replace hw:=hw.symm;subst hw) | (go_at_call 246;refine cS.mono ?_;rintro e w' ⟨rfl,hw⟩;replace hw:=hw.symm;subst hw) | (go_at_call 270;refine cW.mono ?_;rintro e w4 ⟨rfl,k4⟩) | (go_at_call 250;refine Calls.mono (HF.out _ k4) ?_;rintro e w5 ⟨rfl,v5⟩;have rz:=(rX.kp k4 (fun f=>f)).kp v5.2 nX;obtain ⟨z0,z1,z2,z3,u0,u1,u2,u3⟩:_∧_∧_∧_∧_∧_∧_∧_:=⟨rz.c0,rz.c1,rz.c2,rz.c3,rz.fz 0,rz.fz 1,rz.fz 2,rz.fz 3⟩))
  obtain ⟨⟨tn5,ht5,at5⟩,k5⟩:=v5
  have rF:=rz.four sa sb sh sn
  have kF:=kp_four w5 w.heap.size (.int .u32 sa) (.int .u32 sb) (.int .i64 sh) (.int .i64 sn)
  have vF:=at5.kp kF (fun j hj e=>by
   subst e
   rcases hj with e | e
   ·have:=HLT.out.1;omega
   ·exact nX e)
  have k7:Kp (modVm K B qm.n) w _:=(((kA.trans k4).mono (fun _ _ f=>f.elim)).trans k5).over kF (fun j hj e=>absurd hj (by omega))
  refine bodyPost_ret (v:=.agg #[.int .u32 sa,.int .u32 sb,.int .i64 sh,.int .i64 sn]) (by simp [results,Tryz.results230,go_sem,rF.c0,rF.c1,rF.c2,rF.c3]) rfl ⟨by rw [HQ.out];rfl,?_⟩
  rw [HQ.out]
  exact ⟨⟨tn5,ht5,vF⟩,k7⟩
theorem ofPro_any (w:World) (V K B pl tn C:Nat) (M:Mem) (h:VmAt w V K B pl tn M) (c:Cp) (hc:CpAt w C c) (hC:¬ modVm K B M.n C) (l z:Int) (wr:Bool) (l0:0≤l) (l1:l < 4294967296) (htn:tn < 18446744073709551613):
  Calls Tryz.prog 230 #[.pointer (some ⟨V,0,none⟩),.pointer (some ⟨C,0,none⟩),.int .u32 l,.int .i64 z,.bool wr] w (fun e w'=>e=QE (sysQ M c l z wr)∧VmP w V K B pl tn (sysQ M c l z wr).m 2 w'):=by
 unfold sysQ
 cases hz:okS z with
 | false=>
  rw [if_pos rfl]
  refine (ofPro_size w V K B pl tn C M h l z wr hz).mono ?_
  rintro e w' ⟨rfl,q⟩
  exact ⟨rfl,h.stay q 2⟩
 | true=>
  rw [if_neg (by decide)]
  have hz':z=1∨z=2∨z=4:=of_decide_eq_true hz
  obtain ⟨n,rfl⟩:∃ n:Nat,z=n:=⟨z.toNat,by omega⟩
  simp only [Int.toNat_natCast]
  exact ofPro_go w V K B pl tn C M h c hc hC l n wr l0 l1 (by omega) htn
theorem lay_snoc (all:Bool) (M:Mem) (a:Int) (xs:List Int) (y:Int) (a0:0≤a) (a1:a < 4294967296):M.lay all a (xs++[y])=(M.lay all a xs).put all ((a+xs.length)%4294967296) y:=by
 rw [lay_append all xs [y] M a a0 a1];rfl
def WrL (w:World) (R:Rf) (M:Mem) (x v:Int) (n k:Nat) (s:Value) (wr:World):Prop:=
 ∃ i:Nat,s=.int .i64 i∧i≤n∧n - i≤k∧RefAt wr R (M.lay false x ((bytesV v).take i))∧Kp R.has w wr
theorem take_byte (v:Int) (i:Nat) (h:i < 4):(bytesV v).take (i+1)=(bytesV v).take i++[(bytesV v).getD i 0]:=by
 rcases (by omega:i=0∨i=1∨i=2∨i=3) with rfl | rfl | rfl | rfl<;>rfl
theorem lay_step (M:Mem) (x v:Int) (i:Nat) (h:i < 4) (x0:0≤x) (x1:x < 4294967296):M.lay false x ((bytesV v).take (i+1))=(M.lay false x ((bytesV v).take i)).put false ((x+i)%4294967296) ((bytesV v).getD i 0):=by
 rw [take_byte v i h,lay_snoc _ _ _ _ _ x0 x1]
 have:((bytesV v).take i).length=i:=by simp [bytesV];omega
 rw [this]
set_option maxRecDepth 100000 in
set_option maxHeartbeats 1000000 in
theorem refWrite_ok (w:World) (R:Rf) (M:Mem) (h:RefAt w R M) (x s v:Int) (x0:0≤x) (x1:x < 4294967296) (v0:0≤v) (v1:v < 4294967296) (hs:okS s=true):
  Calls Tryz.prog 52 #[.pointer (some ⟨R.r,0,none⟩),.int .u32 x,.int .i64 s,.int .u32 v] w fun e w'=>e=.returned (.int .i64 0)∧RefAt w' R (M.lay false x ((bytesV v).take s.toNat))∧Kp R.has w w':=by
 have hs1:s=1∨s=2∨s=4:=by simpa [okS] using hs
 obtain ⟨n,hn⟩:∃ n:Nat,n=s.toNat:=⟨_,rfl⟩
 rw [← hn]
 have n4:n≤4:=by omega
 have es:s=(n:Int):=by omega
 have HN:Hid (s=(n:Int)):=es
 clear hn es hs
 rcases hs1 with rfl | rfl | rfl
 all_goals
  go_enter Tryz.func52,Tryz.ntmps52
  go_wp2_with fail
  go_loopg [9] n (WrL w R M x v n)
  case atStart=>exact ⟨0,rfl,Nat.zero_le _,Nat.le_refl _,h,Kp.refl _ _⟩
  case round=>
   obtain ⟨i,rfl,hi,hik,hr,kk⟩:=hrel
   have hn:=HN.out
   by_cases hlt:i < n
   ·have hz:(i:Int) < (n:Int):=by omega
    rw [← hn] at hz
    have st:=lay_step M x v i (by omega) x0 x1
    have cP:=refPut_any wr R _ hr ((x+i)%4294967296) ((bytesV v).getD i 0) false (by omega) (by omega)
    rw [← st] at cP
    have HC:Hid (∀ z bv:Int,z=(x+i)%4294967296→bv=(bytesV v).getD i 0→Calls Tryz.prog 121 #[.pointer (some ⟨R.r,0,none⟩),.int .u32 z,.int .u8 bv,.bool false] wr (PutPost wr R (M.lay false x ((bytesV v).take (i+1))))):=by
     rintro _ _ rfl rfl;exact cP
    obtain ⟨j,hj⟩:∃ j,j=i+1:=⟨_,rfl⟩
    have HJ:Hid (j=i+1):=hj
    have HK:Hid (n - i≤gk):=hik
    clear st hr hn hik cP hj
    rcases (by omega:i=0∨i=1∨i=2∨i=3) with rfl | rfl | rfl | rfl
    all_goals first
     | (exfalso;omega)
     | skip
    all_goals go_wp2_with fail
    all_goals
     refine (HC.out _ _ (by omega) (by first | rfl | (show v / 16777216%256=v / 16777216;omega))).mono ?_
     rintro e w1 ⟨rfl,h1,k1⟩
     clear HC
     go_wp2_with fail
     go_roundg (n - j)
     case measure=>have:=HJ.out;have:=HK.out;omega
     case rel=>exact ⟨j,by rw [HJ.out];rfl,by have:=HJ.out;omega,Nat.le_refl _,by rw [HJ.out];exact h1,kk.trans k1⟩
   ·have hz:¬ (i:Int) < (n:Int):=by omega
    rw [← hn] at hz
    obtain rfl:i=n:=by omega
    clear hn hik
    go_wp2
    go_ret
    exact ⟨rfl,hr,kk⟩
theorem Sp.at_bd (s:Sp) (j:Nat):0≤s.at j∧s.at j < 4294967296:=by unfold Sp.at;split<;>omega
abbrev SpS (V B X:Nat) (s:Sp) (W:World):Prop:=W.cell? ⟨V,0,none⟩=some (.pointer (some ⟨B+3,0,none⟩))∧W.cell? ⟨X,0,none⟩=some (.int .u32 s.a)∧W.cell? ⟨X,1,none⟩=some (.int .u32 s.b)∧W.cell? ⟨X,2,none⟩=some (.int .i64 s.h)∧W.cell? ⟨X,3,none⟩=some (.int .i64 s.n)
theorem SpS.kp {V B X:Nat} {s:Sp} {S:Nat→Prop} {W W':World} (h:SpS V B X s W) (k:Kp S W W') (h1:¬ S V) (h2:¬ S X):SpS V B X s W':=⟨cell_kp h.1 k h1,cell_kp h.2.1 k h2,cell_kp h.2.2.1 k h2,cell_kp h.2.2.2.1 k h2,cell_kp h.2.2.2.2 k h2⟩
theorem rdS_one (M:Mem) (s:Sp) (hs:s.h=s.n):M.rdS s=M.read s.a s.n:=by
 unfold Mem.rdS Mem.read
 have e:∀ j,M.spB s j=cellB M s.a s.n j:=fun j=>by
  unfold Mem.spB cellB Sp.at
  rw [hs]
  split
  ·rfl
  ·rfl
 rw [e,e,e,e]
def Mem.rdK (M:Mem) (s:Sp):Nat→Int
 | 0=>0
 | k+1=>M.rdK s k+M.rd (s.at k)*256 ^ k
theorem rdK_all (M:Mem) (s:Sp) (hn:s.n=1∨s.n=2∨s.n=4):M.rdK s s.n=M.rdS s:=by
 unfold Mem.rdS Mem.spB
 rcases hn with e | e | e<;>simp [e,Mem.rdK]
theorem rdK_bd {M:Mem} (hb:RdB M) (s:Sp) (i:Nat) (hi:i < 4):0≤M.rdK s i∧M.rdK s i < 256 ^ i:=by
 have b:∀ j,0≤M.rd (s.at j)∧M.rd (s.at j) < 256:=fun j=>hb _ (s.at_bd j).1 (s.at_bd j).2
 have r0:=b 0;have r1:=b 1;have r2:=b 2
 rcases (by omega:i=0∨i=1∨i=2∨i=3) with rfl | rfl | rfl | rfl
 ·show 0≤(0:Int)∧(0:Int) < 1;omega
 ·show 0≤0+M.rd (s.at 0)*1∧0+M.rd (s.at 0)*1 < 256;omega
 ·show 0≤0+M.rd (s.at 0)*1+M.rd (s.at 1)*256∧0+M.rd (s.at 0)*1+M.rd (s.at 1)*256 < 65536;omega
 ·show 0≤0+M.rd (s.at 0)*1+M.rd (s.at 1)*256+M.rd (s.at 2)*65536∧0+M.rd (s.at 0)*1+M.rd (s.at 1)*256+M.rd (s.at 2)*65536 < 16777216;omega
theorem read1 (M:Mem) (x:Int) (x0:0≤x) (x1:x < 4294967296):M.read x 1=M.rd x:=by
 unfold Mem.read cellB
 have:x%4294967296=x:=by omega
 simp [this]
theorem vread_one (w:World) (V K B pl tn:Nat) (M:Mem) (h:VmAt w V K B pl tn M) (s:Sp) (hs:s.Ok) (he:s.h=s.n):
  Calls Tryz.prog 202 #[.pointer (some ⟨V,0,none⟩),s.val] w (fun e w'=>e=.returned (.int .u32 (M.rdS s))∧Kp noB w w'):=by
 rw [rdS_one M s he]
 obtain ⟨a,b,hh,n⟩:=s
 simp only at he
 subst he
 have a0:=hs.a0;have a1:=hs.a1
 have hn:=hs.n1
 simp only at a0 a1 hn
 clear hs
 unfold Sp.val
 simp only
 obtain ⟨W0,hW0⟩:∃ W,W=w.alloc (.cells #[.int .u32 a,.int .u32 b,.int .i64 hh,.int .i64 hh] 295):=⟨_,rfl⟩
 obtain ⟨X,hX⟩:∃ X,w.heap.size=X:=⟨_,rfl⟩
 have k0:Kp noB w W0:=by rw [hW0];exact Kp.alloc _ _ _
 have rX:RowS W0 X a b hh hh:=by rw [hW0,← hX];exact (MapKept.heap_alloc w _).1
 have h0:=h.kp0 k0
 have c2:=rX.c2;have c3:=rX.c3
 have HS0:Hid (SpS V B X ⟨a,b,hh,hh⟩ W0.drew):=⟨h0.c0,rX.c0,rX.c1,rX.c2,rX.c3⟩
 have HSK:Hid (∀ W',Kp noB W0.drew W'→SpS V B X ⟨a,b,hh,hh⟩ W'):=fun W' k=>HS0.out.kp k (fun f=>f) (fun f=>f)
 have HC:Hid _:=read_ok W0.drew B M (h0.ram.kp (Kp.refl noB W0).drew (fun _ _ f=>f)) a hh a0 a1 (by unfold okS;exact decide_eq_true (by omega))
 rw [Int.toNat_natCast] at HC
 clear h hn
 go_enter Tryz.func202,Tryz.ntmps202
 rw [hW0] at c2 c3
 go_upto_region 2 with fail
 rw [← hW0]
 clear hW0 hX c2 c3
 go_region_held3 (fun W=>W.cell? ⟨V,0,none⟩=some (.pointer (some ⟨B+3,0,none⟩))∧W.cell? ⟨X,0,none⟩=some (.int .u32 a)∧W.cell? ⟨X,1,none⟩=some (.int .u32 b)∧W.cell? ⟨X,2,none⟩=some (.int .i64 hh)∧W.cell? ⟨X,3,none⟩=some (.int .i64 hh))
  (first | with_reducible exact HS0.out | with_reducible exact HSK.out _ k4)
  (first | (go_at_call 20;refine Calls.mono HC.out ?_;rintro e w4 ⟨rfl,k4⟩))
 go_wp2
 go_ret
 exact ⟨rfl,k0.trans k4.undrew⟩
theorem or_step {a b:Int} (i:Nat) (hi:i < 4) (a0:0≤a) (a1:a < 256 ^ i) (b0:0≤b) (b1:b < 256):bits .or .u32 a (b*256 ^ i)=a+b*256 ^ i:=by
 have key:∀ j:Nat,((2 ^ j:Nat):Int)=256 ^ i→j≤24→bits .or .u32 a (b*256 ^ i)=a+b*256 ^ i:=fun j e hj=>by
  have:=or_add (a:=a) (b:=b) j a0 b0 (by rw [e];exact a1) (by rcases (by omega:i=0∨i=1∨i=2∨i=3) with rfl | rfl | rfl | rfl<;>simp at a1<;>omega) (by rw [e];rcases (by omega:i=0∨i=1∨i=2∨i=3) with rfl | rfl | rfl | rfl<;>simp<;>omega)
  rw [e] at this
  exact this
 rcases (by omega:i=0∨i=1∨i=2∨i=3) with rfl | rfl | rfl | rfl
 ·exact key 0 (by decide) (by decide)
 ·exact key 8 (by decide) (by decide)
 ·exact key 16 (by decide) (by decide)
 ·exact key 24 (by decide) (by decide)
def RdQ (w:World) (RK:Nat→Int) (n k:Nat) (s7 s31:Value) (wr:World):Prop:=
 ∃ i:Nat,s31=.int .i64 i∧s7=.int .u32 (RK i)∧i≤n∧n - i≤k∧Kp noB w wr
set_option maxHeartbeats 1000000 in
theorem vread_two (w:World) (V K B pl tn:Nat) (M:Mem) (h:VmAt w V K B pl tn M) (s:Sp) (hs:s.Ok) (he:s.h < s.n):
  Calls Tryz.prog 202 #[.pointer (some ⟨V,0,none⟩),s.val] w (fun e w'=>e=.returned (.int .u32 (M.rdS s))∧Kp noB w w'):=by
 have hn:=hs.n1
 have hh0:=hs.h0
 have hb:=h.ram.rdB
 have HR:Hid (M.rdK s s.n=M.rdS s):=rdK_all M s hn
 have HA:Hid (∀ W (j:Nat),j < s.n→Calls Tryz.prog 244 #[.agg #[.int .u32 s.a,.int .u32 s.b,.int .i64 s.h,.int .i64 s.n],.int .i64 j] W fun e w'=>e=.returned (.int .u32 (s.at j))∧Kp noB W w'):=fun W j hj=>spAt_any W s hs j hj
 have HB:Hid (∀ j,0≤s.at j∧s.at j < 4294967296):=s.at_bd
 have HD:Hid (∀ j,0≤M.rd (s.at j)∧M.rd (s.at j) < 256):=fun j=>hb _ (s.at_bd j).1 (s.at_bd j).2
 have HK:Hid (∀ i,i < 4→0≤M.rdK s i∧M.rdK s i < 256 ^ i):=fun i hi=>rdK_bd hb s i hi
 have HT:Hid (∀ i,M.rdK s (i+1)=M.rdK s i+M.rd (s.at i)*256 ^ i):=fun i=>rfl
 have H0:Hid (M.rdK s 0=0):=rfl
 unfold Sp.val
 generalize M.rdK s=RK at *
 generalize M.rdS s=rs at *
 generalize s.at=AT at *
 obtain ⟨a,b,hh,n⟩:=s
 simp only at *
 clear hs hb
 obtain ⟨W0,hW0⟩:∃ W,W=w.alloc (.cells #[.int .u32 a,.int .u32 b,.int .i64 hh,.int .i64 n] 295):=⟨_,rfl⟩
 obtain ⟨X,hX⟩:∃ X,w.heap.size=X:=⟨_,rfl⟩
 have k0:Kp noB w W0:=by rw [hW0];exact Kp.alloc _ _ _
 have rX:RowS W0 X a b hh n:=by rw [hW0,← hX];exact (MapKept.heap_alloc w _).1
 have h0:=h.kp0 k0
 have c2:=rX.c2;have c3:=rX.c3
 have HS0:Hid (SpS V B X ⟨a,b,hh,n⟩ W0):=⟨h0.c0,rX.c0,rX.c1,rX.c2,rX.c3⟩
 have HM:Hid (RamAt W0 B M):=h0.ram
 have he2:(hh==n)=false:=by rw [beq_eq_false_iff_ne];omega
 have he':((hh:Int)==(n:Int))=false:=by rw [beq_eq_false_iff_ne];omega
 have hn4:n=2∨n=4:=by omega
 clear h hn rX h0
 go_enter Tryz.func202,Tryz.ntmps202
 rw [hW0] at c2 c3
 go_wp2_with fail
 rw [← hW0]
 clear hW0 hX c2 c3
 go_loopg [7,31] n (RdQ W0 RK n)
 case atStart=>exact ⟨0,rfl,by rw [H0.out],Nat.zero_le _,Nat.le_refl _,Kp.refl _ _⟩
 case round=>
  obtain ⟨i,rfl,rfl,hi,hik,kk⟩:=hrel
  by_cases hlt:i < n
  ·have hz:(i:Int) < (n:Int):=by omega
   have HC1:Hid _:=HA.out wr.drew i hlt
   have HC2:Hid (∀ W,Kp noB wr.drew W→Calls Tryz.prog 20 #[.pointer (some ⟨B+3,0,none⟩),.int .u32 (AT i),.int .i64 1] W fun e w'=>e=.returned (.tuple #[.int .u32 (M.rd (AT i)),.int .i64 0])∧Kp noB wr.drew w'):=fun W k=>by
    have c:=read_ok W B M (((HM.out.kp kk (fun _ _ f=>f)).kp (Kp.refl noB wr).drew (fun _ _ f=>f)).kp k (fun _ _ f=>f)) (AT i) 1 (HB.out i).1 (HB.out i).2 rfl
    rw [show ((1:Int)).toNat=1 from rfl,read1 M _ (HB.out i).1 (HB.out i).2] at c
    exact c.mono (fun e w' ⟨h1,h2⟩=>⟨h1,k.trans h2⟩)
   have HT0:Hid (SpS V B X ⟨a,b,hh,n⟩ wr.drew):=SpS.kp (S:=noB) (W:=W0) HS0.out kk.drew (fun f=>f) (fun f=>f)
   have HTK:Hid (∀ W',Kp noB wr.drew W'→SpS V B X ⟨a,b,hh,n⟩ W'):=fun W' k=>SpS.kp (S:=noB) HT0.out k (fun f=>f) (fun f=>f)
   obtain ⟨bv,hbv⟩:∃ bv,bv=M.rd (AT i):=⟨_,rfl⟩
   obtain ⟨sv,hsv⟩:∃ sv,sv=RK i:=⟨_,rfl⟩
   have hor:=or_step (a:=sv) (b:=bv) i (by omega) (by rw [hsv];exact (HK.out i (by omega)).1) (by rw [hsv];exact (HK.out i (by omega)).2) (by rw [hbv];exact (HD.out i).1) (by rw [hbv];exact (HD.out i).2)
   have hbb:0≤bv∧bv < 256:=by rw [hbv];exact HD.out i
   have HS:Hid (RK (i+1)=sv+bv*256 ^ i):=by rw [hsv,hbv];exact HT.out i
   rw [← hbv] at HC2
   rw [← hsv]
   obtain ⟨j,hj⟩:∃ j,j=i+1:=⟨_,rfl⟩
   have HJ:Hid (j=i+1):=hj
   have HKk:Hid (n - i≤gk):=hik
   obtain ⟨b0,b1⟩:=hbb
   clear hik hj hbv hsv
   generalize AT i=at' at *
   go_upto_region 8 with fail
   go_region_held3 (fun W=>W.cell? ⟨V,0,none⟩=some (.pointer (some ⟨B+3,0,none⟩))∧W.cell? ⟨X,0,none⟩=some (.int .u32 a)∧W.cell? ⟨X,1,none⟩=some (.int .u32 b)∧W.cell? ⟨X,2,none⟩=some (.int .i64 hh)∧W.cell? ⟨X,3,none⟩=some (.int .i64 n))
    (first | with_reducible exact HT0.out | with_reducible exact HTK.out _ k4 | with_reducible exact HTK.out _ k5)
    (first | (go_at_call 244;refine Calls.mono HC1.out ?_;rintro e w4 ⟨rfl,k4⟩) | (go_at_call 20;refine Calls.mono (HC2.out _ k4) ?_;rintro e w5 ⟨rfl,k5⟩))
   clear HC1 HC2 HTK HT0
   rcases (by omega:i=0∨i=1∨i=2∨i=3) with rfl | rfl | rfl | rfl
   all_goals
    simp at hor
    go_wp2_with fail
    go_roundg (n - j)
    case measure=>have:=HJ.out;have:=HKk.out;omega
    case rel=>exact ⟨j,by rw [HJ.out];rfl,by rw [HJ.out,HS.out];first | rfl | (congr 1;omega),by have:=HJ.out;omega,Nat.le_refl _,kk.trans k5.undrew⟩
  ·have hz:¬ (i:Int) < (n:Int):=by omega
   obtain rfl:i=n:=by omega
   rw [HR.out]
   clear hik
   go_wp2
   go_ret
   exact ⟨rfl,k0.trans kk⟩
theorem vread_any (w:World) (V K B pl tn:Nat) (M:Mem) (h:VmAt w V K B pl tn M) (s:Sp) (hs:s.Ok):
  Calls Tryz.prog 202 #[.pointer (some ⟨V,0,none⟩),s.val] w (fun e w'=>e=.returned (.int .u32 (M.rdS s))∧Kp noB w w'):=by
 by_cases he:s.h=s.n
 ·exact vread_one w V K B pl tn M h s hs he
 ·exact vread_two w V K B pl tn M h s hs (by have:=hs.h1;omega)
theorem wrK_same (M:Mem) (s:Sp) (v:Int):∀ k,(M.wrK s v k).n=M.n∧(M.wrK s v k).only=M.only∧(M.wrK s v k).closed=M.closed
 | 0=>⟨rfl,rfl,rfl⟩
 | k+1=>by
  have h:=wrK_same M s v k
  have:=lay_same false [(bytesV v).getD k 0] (M.wrK s v k) (s.at k)
  exact ⟨this.1.trans h.1,this.2.1.trans h.2.1,this.2.2.trans h.2.2⟩
theorem wrK_one (M:Mem) (s:Sp) (hs:s.Ok) (he:s.h=s.n) (v:Int):∀ k,k≤s.n→M.wrK s v k=M.lay false s.a ((bytesV v).take k)
 | 0,_=>rfl
 | k+1,hk=>by
  have h4:s.n≤4:=by rcases hs.n1 with e | e | e<;>omega
  rw [lay_step M s.a v k (by omega) hs.a0 hs.a1,← wrK_one M s hs he v k (by omega)]
  show (M.wrK s v k).put false (s.at k) _=_
  unfold Sp.at
  rw [if_pos (by omega)]
theorem VmAt.wrote {w w':World} {V K B pl tn:Nat} {M M':Mem} (h:VmAt w V K B pl tn M) (k:Kp (inRam B M.n) w w') (r:RamAt w' B M') (hn:M'.n=M.n) (hc:M'.closed=M.closed):VmAt w' V K B pl tn M':=by
 obtain ⟨D,t⟩:=h.tl
 exact h.to (k.mono (fun _ _ f=>.inl f)) (t.kp k (fun j hj=>h.apT j hj)) r hn hc
theorem vwrite_one (w:World) (V K B pl tn:Nat) (M:Mem) (h:VmAt w V K B pl tn M) (s:Sp) (hs:s.Ok) (he:s.h=s.n) (v:Int) (v0:0≤v) (v1:v < 4294967296):
  Calls Tryz.prog 239 #[.pointer (some ⟨V,0,none⟩),s.val,.int .u32 v] w (fun e w'=>e=.returned (.tuple #[])∧VmP w V K B pl tn (M.wrS s v) 0 w'):=by
 have sm:=wrK_same M s v s.n
 have hw1:M.wrS s v=M.lay false s.a ((bytesV v).take s.n):=wrK_one M s hs he v s.n (Nat.le_refl _)
 have HN:Hid ((M.wrS s v).n=M.n∧(M.wrS s v).only=M.only∧(M.wrS s v).closed=M.closed):=sm
 obtain ⟨M',hM'⟩:∃ M',M.wrS s v=M':=⟨_,rfl⟩
 rw [hM'] at hw1 HN ⊢
 clear hM' sm
 obtain ⟨a,b,hh,n⟩:=s
 simp only at he hw1
 subst he
 have a0:=hs.a0;have a1:=hs.a1
 have hn:=hs.n1
 simp only at a0 a1 hn
 clear hs
 unfold Sp.val
 simp only
 obtain ⟨W0,hW0⟩:∃ W,W=w.alloc (.cells #[.int .u32 a,.int .u32 b,.int .i64 hh,.int .i64 hh] 295):=⟨_,rfl⟩
 obtain ⟨X,hX⟩:∃ X,w.heap.size=X:=⟨_,rfl⟩
 have k0:Kp noB w W0:=by rw [hW0];exact Kp.alloc _ _ _
 have rX:RowS W0 X a b hh hh:=by rw [hW0,← hX];exact (MapKept.heap_alloc w _).1
 have h0:=h.kp0 k0
 have nX:¬ inRam B M.n X:=fun f=>by have:=h.in_lt (.inl f);omega
 have nV:¬ inRam B M.n V:=fun f=>h.apV (.inl f)
 have c2:=rX.c2;have c3:=rX.c3
 have h0D:VmAt W0.drew V K B pl tn M:=h0.kp0 (Kp.refl noB W0).drew
 have HS0:Hid (SpS V B X ⟨a,b,hh,hh⟩ W0.drew):=⟨h0.c0,rX.c0,rX.c1,rX.c2,rX.c3⟩
 have HSK:Hid (∀ W',Kp (inRam B M.n) W0.drew W'→SpS V B X ⟨a,b,hh,hh⟩ W'):=fun W' k=>SpS.kp (S:=inRam B M.n) HS0.out k nV nX
 have HC:Hid _:=write_ok W0.drew B M h0D.ram a hh v a0 a1 v0 v1 (by unfold okS;exact decide_eq_true (by omega))
 rw [Int.toNat_natCast,← hw1] at HC
 clear h hn hw1 h0
 go_enter Tryz.func239,Tryz.ntmps239
 rw [hW0] at c2 c3
 go_upto_region 2 with fail
 rw [← hW0]
 clear hW0 hX c2 c3
 go_region_held3 (fun W=>W.cell? ⟨V,0,none⟩=some (.pointer (some ⟨B+3,0,none⟩))∧W.cell? ⟨X,0,none⟩=some (.int .u32 a)∧W.cell? ⟨X,1,none⟩=some (.int .u32 b)∧W.cell? ⟨X,2,none⟩=some (.int .i64 hh)∧W.cell? ⟨X,3,none⟩=some (.int .i64 hh))
  (first | with_reducible exact HS0.out | with_reducible exact HSK.out _ k4)
  (first | (go_at_call 51;refine Calls.mono HC.out ?_;rintro e w4 ⟨rfl,r4,k4⟩))
 go_wp2
 have v4:=h0D.wrote k4 r4 HN.out.1 HN.out.2.2
 have k5:Kp (modVm K B M'.n) w w4:=by rw [HN.out.1];exact (k0.mono (fun _ _ f=>f.elim)).trans (k4.undrew.mono (fun _ _ f=>.inl f))
 first
  | (go_end0;exact ⟨rfl,⟨tn,by omega,v4⟩,k5⟩)
  | exact bodyPost_ret (results_none rfl _ _ _) rfl ⟨rfl,⟨tn,by omega,v4⟩,k5⟩
def WrQ (w:World) (V K B pl tn:Nat) (M0:Mem) (MK:Nat→Mem) (n k:Nat) (s24:Value) (wr:World):Prop:=
 ∃ i:Nat,s24=.int .i64 i∧i≤n∧n - i≤k∧VmAt wr V K B pl tn (MK i)∧Kp (inRam B M0.n) w wr
theorem byte_at (v:Int) (v0:0≤v) (v1:v < 4294967296) (i:Nat) (hi:i < 4):(bytesV (v / 256 ^ i)).take 1=[(bytesV v).getD i 0]:=by
 rcases (by omega:i=0∨i=1∨i=2∨i=3) with rfl | rfl | rfl | rfl
 ·simp [bytesV]
 ·rfl
 ·rfl
 ·show [v / 16777216%256]=[v / 16777216]
  rw [show v / 16777216%256=v / 16777216 by omega]
set_option maxHeartbeats 1000000 in
theorem vwrite_two (w:World) (V K B pl tn:Nat) (M:Mem) (h:VmAt w V K B pl tn M) (s:Sp) (hs:s.Ok) (he:s.h < s.n) (v:Int) (v0:0≤v) (v1:v < 4294967296):
  Calls Tryz.prog 239 #[.pointer (some ⟨V,0,none⟩),s.val,.int .u32 v] w (fun e w'=>e=.returned (.tuple #[])∧VmP w V K B pl tn (M.wrS s v) 0 w'):=by
 have hn:=hs.n1
 have hh0:=hs.h0
 have HR:Hid (M.wrK s v s.n=M.wrS s v):=rfl
 have HA:Hid (∀ W (j:Nat),j < s.n→Calls Tryz.prog 244 #[.agg #[.int .u32 s.a,.int .u32 s.b,.int .i64 s.h,.int .i64 s.n],.int .i64 j] W fun e w'=>e=.returned (.int .u32 (s.at j))∧Kp noB W w'):=fun W j hj=>spAt_any W s hs j hj
 have HB:Hid (∀ j,0≤s.at j∧s.at j < 4294967296):=s.at_bd
 have HT:Hid (∀ i,M.wrK s v (i+1)=(M.wrK s v i).lay false (s.at i) [(bytesV v).getD i 0]):=fun i=>rfl
 have H0:Hid (M.wrK s v 0=M):=rfl
 have HN:Hid (∀ i,(M.wrK s v i).n=M.n∧(M.wrK s v i).closed=M.closed):=fun i=>⟨(wrK_same M s v i).1,(wrK_same M s v i).2.2⟩
 unfold Sp.val
 generalize M.wrK s v=MK at *
 generalize M.wrS s v=Ms at *
 generalize s.at=AT at *
 obtain ⟨a,b,hh,n⟩:=s
 simp only at *
 clear hs
 obtain ⟨W0,hW0⟩:∃ W,W=w.alloc (.cells #[.int .u32 a,.int .u32 b,.int .i64 hh,.int .i64 n] 295):=⟨_,rfl⟩
 obtain ⟨X,hX⟩:∃ X,w.heap.size=X:=⟨_,rfl⟩
 have k0:Kp noB w W0:=by rw [hW0];exact Kp.alloc _ _ _
 have rX:RowS W0 X a b hh n:=by rw [hW0,← hX];exact (MapKept.heap_alloc w _).1
 have h0:=h.kp0 k0
 have nX:¬ inRam B M.n X:=fun f=>by have:=h.in_lt (.inl f);omega
 have nV:¬ inRam B M.n V:=fun f=>h.apV (.inl f)
 have c2:=rX.c2;have c3:=rX.c3
 have HS0:Hid (SpS V B X ⟨a,b,hh,n⟩ W0):=⟨h0.c0,rX.c0,rX.c1,rX.c2,rX.c3⟩
 have he2:(hh==n)=false:=by rw [beq_eq_false_iff_ne];omega
 have he':((hh:Int)==(n:Int))=false:=by rw [beq_eq_false_iff_ne];omega
 have hn4:n=2∨n=4:=by omega
 clear h hn rX
 go_enter Tryz.func239,Tryz.ntmps239
 rw [hW0] at c2 c3
 go_wp2_with fail
 rw [← hW0]
 clear hW0 hX c2 c3
 go_loopg [24] n (WrQ W0 V K B pl tn M MK n)
 case atStart=>exact ⟨0,rfl,Nat.zero_le _,Nat.le_refl _,by rw [H0.out];exact h0,Kp.refl _ _⟩
 case round=>
  obtain ⟨i,rfl,hi,hik,hv,kk⟩:=hrel
  by_cases hlt:i < n
  ·have hz:(i:Int) < (n:Int):=by omega
   have HC1:Hid _:=HA.out wr.drew i hlt
   have hd:=hv.kp0 (Kp.refl noB wr).drew
   have HC2:Hid (∀ W,Kp noB wr.drew W→Calls Tryz.prog 51 #[.pointer (some ⟨B+3,0,none⟩),.int .u32 (AT i),.int .i64 1,.int .u32 (v / 256 ^ i)] W fun e w'=>e=.returned (.int .i64 0)∧VmAt w' V K B pl tn (MK (i+1))∧Kp (inRam B M.n) wr.drew w'):=fun W k=>by
    have hvW:=hd.kp0 k
    have pv:0≤v / 256 ^ i∧v / 256 ^ i < 4294967296:=by
     rcases (by omega:i=0∨i=1∨i=2∨i=3) with rfl | rfl | rfl | rfl<;>simp<;>omega
    have c:=write_ok W B (MK i) hvW.ram (AT i) 1 (v / 256 ^ i) (HB.out i).1 (HB.out i).2 pv.1 pv.2 rfl
    rw [show ((1:Int)).toNat=1 from rfl,byte_at v v0 v1 i (by omega),← HT.out i] at c
    refine c.mono (fun e w' ⟨h1,h2,h3⟩=>⟨h1,hvW.wrote h3 h2 ((HN.out _).1.trans (HN.out i).1.symm) ((HN.out _).2.trans (HN.out i).2.symm),?_⟩)
    rw [(HN.out i).1] at h3
    exact (k.mono (fun _ _ f=>f.elim)).trans h3
   have HT0:Hid (SpS V B X ⟨a,b,hh,n⟩ wr.drew):=SpS.kp (S:=inRam B M.n) (W:=W0) HS0.out kk.drew nV nX
   have HTK:Hid (∀ W',Kp noB wr.drew W'→SpS V B X ⟨a,b,hh,n⟩ W'):=fun W' k=>SpS.kp (S:=noB) HT0.out k (fun f=>f) (fun f=>f)
   have HTW:Hid (∀ W',Kp (inRam B M.n) wr.drew W'→SpS V B X ⟨a,b,hh,n⟩ W'):=fun W' k=>SpS.kp (S:=inRam B M.n) HT0.out k nV nX
   obtain ⟨j,hj⟩:∃ j,j=i+1:=⟨_,rfl⟩
   have HJ:Hid (j=i+1):=hj
   have HKk:Hid (n - i≤gk):=hik
   clear hik hj hd hv
   generalize AT i=at' at *
   rcases (by omega:i=0∨i=1∨i=2∨i=3) with rfl | rfl | rfl | rfl
   all_goals
    simp at HC2
    have e0:IntKind.i64.wrap 0=0:=rfl
    have e1:IntKind.i64.wrap 8=8:=rfl
    have e2:IntKind.i64.wrap 16=16:=rfl
    have e3:IntKind.i64.wrap 24=24:=rfl
    go_upto_region 6 with fail
    go_region_held3 (fun W=>W.cell? ⟨V,0,none⟩=some (.pointer (some ⟨B+3,0,none⟩))∧W.cell? ⟨X,0,none⟩=some (.int .u32 a)∧W.cell? ⟨X,1,none⟩=some (.int .u32 b)∧W.cell? ⟨X,2,none⟩=some (.int .i64 hh)∧W.cell? ⟨X,3,none⟩=some (.int .i64 n))
     (first | with_reducible exact HT0.out | with_reducible exact HTK.out _ k4 | with_reducible exact HTW.out _ k5)
     (first | (go_at_call 244;refine Calls.mono HC1.out ?_;rintro e w4 ⟨rfl,k4⟩) | (go_at_call 51;refine Calls.mono (HC2.out _ k4) ?_;rintro e w5 ⟨rfl,v5,k5⟩))
    go_wp2_with fail
    go_roundg (n - j)
    case measure=>have:=HJ.out;have:=HKk.out;omega
    case rel=>exact ⟨j,by rw [HJ.out];rfl,by have:=HJ.out;omega,Nat.le_refl _,by rw [HJ.out];exact v5,kk.trans k5.undrew⟩
  ·have hz:¬ (i:Int) < (n:Int):=by omega
   obtain rfl:i=n:=by omega
   rw [HR.out] at hv
   have k5:Kp (modVm K B Ms.n) w wr:=by
    rw [← HR.out,(HN.out _).1]
    exact (k0.mono (fun _ _ f=>f.elim)).trans (kk.mono (fun _ _ f=>.inl f))
   clear hik
   go_wp2
   first
    | (go_end0;exact ⟨rfl,⟨tn,by omega,hv⟩,k5⟩)
    | exact bodyPost_ret (results_none rfl _ _ _) rfl ⟨rfl,⟨tn,by omega,hv⟩,k5⟩
theorem vwrite_any (w:World) (V K B pl tn:Nat) (M:Mem) (h:VmAt w V K B pl tn M) (s:Sp) (hs:s.Ok) (v:Int) (v0:0≤v) (v1:v < 4294967296):
  Calls Tryz.prog 239 #[.pointer (some ⟨V,0,none⟩),s.val,.int .u32 v] w (fun e w'=>e=.returned (.tuple #[])∧VmP w V K B pl tn (M.wrS s v) 0 w'):=by
 by_cases he:s.h=s.n
 ·exact vwrite_one w V K B pl tn M h s hs he v v0 v1
 ·exact vwrite_two w V K B pl tn M h s hs (by have:=hs.h1;omega) v v0 v1
def RowV (W:World) (X:Nat) (v:Int):Prop:=W.heap[X]?=some (.cells #[.int .u32 v] 22 (0,0))
theorem RowV.lt {W:World} {X:Nat} {v:Int} (r:RowV W X v):X < W.heap.size:=(Array.getElem?_eq_some_iff.1 r).1
theorem RowV.kp {S:Nat→Prop} {W W':World} {X:Nat} {v:Int} (r:RowV W X v) (k:Kp S W W') (hS:¬ S X):RowV W' X v:=(k.block X r.lt hS).trans r
theorem RowV.c {W:World} {X:Nat} {v:Int} (r:RowV W X v):W.cell? ⟨X,0,none⟩=some (.int .u32 v):=by rw [cell_at r];rfl
theorem RowV.fz {W:World} {X:Nat} {v:Int} (r:RowV W X v):W.frozen? ⟨X,0,none⟩=false:=frozen_at r
theorem RowV.set {W:World} {X:Nat} {v:Int} (r:RowV W X v) (u:Int):RowV (W.setCell ⟨X,0,none⟩ (.int .u32 u)) X u:=heap_setCell_at r _
abbrev BxLoad (X:Nat) (pm pc:Value) (k off z:Int) (W:World):Prop:=W.cell? ⟨X,0,none⟩=some (pm)∧W.cell? ⟨X+1,0,none⟩=some (pc)∧W.cell? ⟨X+2,0,none⟩=some (.int .i64 k)∧W.cell? ⟨X+3,0,none⟩=some (.int .u32 off)∧W.cell? ⟨X+4,0,none⟩=some (.int .i64 z)
theorem BxLoad.kp {X:Nat} {pm pc:Value} {k off z:Int} {S:Nat→Prop} {W W':World} (h:BxLoad X pm pc k off z W) (kq:Kp S W W') (hS:∀ j,S j→j < X∨X+5≤j):BxLoad X pm pc k off z W':=by
 obtain ⟨h0,h1,h2,h3,h4⟩:=h
 exact ⟨cell_kp h0 kq (fun f=>by have:=hS _ f;omega),cell_kp h1 kq (fun f=>by have:=hS _ f;omega),cell_kp h2 kq (fun f=>by have:=hS _ f;omega),cell_kp h3 kq (fun f=>by have:=hS _ f;omega),cell_kp h4 kq (fun f=>by have:=hS _ f;omega)⟩
theorem load1_no (w:World) (X Y:Nat) (pm pc:Value) (k off z:Int) (f:Ft) (S:Nat→Prop) (P:World→Prop) (hb:BxLoad X pm pc k off z w)
  (H:Hid (∀ W,Kp noB w W→Calls Tryz.prog 203 #[pm,pc,.int .i64 k,.int .u32 off,.int .i64 z,.bool false] W fun e w'=>e=.panicked (pan f)∧Kp S W w'∧P w')):
  Calls Tryz.prog 201 #[.pointer (some ⟨X,0,none⟩),.pointer (some ⟨X+1,0,none⟩),.pointer (some ⟨X+2,0,none⟩),.pointer (some ⟨X+3,0,none⟩),.pointer (some ⟨X+4,0,none⟩),.pointer (some ⟨Y,0,none⟩)] w fun e w'=>e=.panicked (pan f)∧Kp S w w'∧P w':=by
 have HC:Hid _:=H.out w.drew (Kp.refl noB w).drew
 obtain ⟨b0,b1,b2,b3,b4⟩:=hb
 go_enter Tryz.func201,Tryz.ntmps201
 refine OrdP.region_vals (τ:=Unit) (fun ch w'=>ch=pan f∧Kp S w.drew w'∧P w') (fun _=>[pm,pm,pc,.int .i64 k,.int .u32 off,.int .i64 z,undef,undef,undef]) (fun _ listed W'=>W'=w.drew∧listed.getD 6 false=false) () ?_ (by kernel_rfl) (by kernel_rfl) (by kernel_rfl) (by kernel_rfl) (fun _=>rfl) (fun t=>by simp only [OrdG.puts,Act.put,List.setIfInBounds_toArray,List.set_cons_zero,List.set_cons_succ];rfl) (fun _=>by kernel_rfl) ⟨rfl,rfl⟩ ?_ ?_
 ·rintro ch a' w' hd ⟨rfl,k,p⟩
  exact ⟨hd,rfl,k.undrew,p⟩
 ·refine ⟨?_,?_,?_,?_,?_,?_,?_,?_,?_,trivial⟩
  all_goals (intro t listed W' hz hSh hl hI hb K hK hK0;obtain ⟨rfl,h7⟩:=hI)
  case refine_7=>
   go_simp
   refine Calls.mono HC.out ?_
   rintro e w4 ⟨rfl,r⟩
   exact ⟨rfl,r⟩
  case refine_9=>exact absurd (OrdG.on_of (i:=6) hb (by kernel_rfl)) (by rw [h7];decide)
  case refine_8=>exact absurd (OrdG.on_of (i:=6) hb (by kernel_rfl)) (by rw [h7];decide)
  all_goals (go_simp;exact hK0 _ ⟨rfl,OrdP.keep h7 (by decide)⟩)
 ·rintro t listed w' hal ⟨_,h7⟩
  have:=hal 6 (by decide)
  rw [h7] at this
  cases this
theorem load1_ok (w:World) (X Y V K B pl tn:Nat) (pc:Value) (k off z:Int) (y0:Int) (hY:RowV w Y y0) (hX:X+5≤Y) (q:Qy) (hq:q.s.Ok) (hb:BxLoad X (.pointer (some ⟨V,0,none⟩)) pc k off z w) (hm:∀ j,modVm K B q.m.n j→j < X) (hV:V < X)
  (H:Hid (∀ W,Kp noB w W→Calls Tryz.prog 203 #[.pointer (some ⟨V,0,none⟩),pc,.int .i64 k,.int .u32 off,.int .i64 z,.bool false] W fun e w'=>e=.returned q.s.val∧VmP W V K B pl tn q.m 2 w')):
  Calls Tryz.prog 201 #[.pointer (some ⟨X,0,none⟩),.pointer (some ⟨X+1,0,none⟩),.pointer (some ⟨X+2,0,none⟩),.pointer (some ⟨X+3,0,none⟩),.pointer (some ⟨X+4,0,none⟩),.pointer (some ⟨Y,0,none⟩)] w fun e w'=>e=.returned (.tuple #[])∧Kp (fun j=>modVm K B q.m.n j∨j=Y) w w'∧(∃ tn',tn'≤tn+2∧VmAt w' V K B pl tn' q.m)∧RowV w' Y (q.m.rdS q.s):=by
 have HC:Hid _:=H.out w.drew (Kp.refl noB w).drew
 have HB0:Hid (BxLoad X (.pointer (some ⟨V,0,none⟩)) pc k off z w.drew):=hb
 have HBV:Hid (∀ W',VmP w.drew V K B pl tn q.m 2 W'→BxLoad X (.pointer (some ⟨V,0,none⟩)) pc k off z W'):=fun W' v=>BxLoad.kp (W:=w.drew) HB0.out v.2 (fun j f=>.inl (hm j f))
 have nY:¬ modVm K B q.m.n Y:=fun f=>by have:=hm _ f;omega
 have HRd:Hid (∀ W',VmP w.drew V K B pl tn q.m 2 W'→Calls Tryz.prog 202 #[.pointer (some ⟨V,0,none⟩),q.s.val] W' fun e w'=>e=.returned (.int .u32 (q.m.rdS q.s))∧Kp noB W' w'):=fun W' ⟨⟨tn',_,v⟩,_⟩=>vread_any W' V K B pl tn' q.m v q.s hq
 have HBR:Hid (∀ W W',VmP w.drew V K B pl tn q.m 2 W→Kp noB W W'→BxLoad X (.pointer (some ⟨V,0,none⟩)) pc k off z W'):=fun W W' v k=>BxLoad.kp (HBV.out _ v) k (fun j f=>f.elim)
 have HBS:Hid (∀ W W' (u:Value),VmP w.drew V K B pl tn q.m 2 W→Kp noB W W'→BxLoad X (.pointer (some ⟨V,0,none⟩)) pc k off z (W'.setCell ⟨Y,0,none⟩ u)):=fun W W' u v k=>BxLoad.kp (HBR.out _ _ v k) (Kp.setCell (S:=fun j=>j=Y) W' (p:=⟨Y,0,none⟩) rfl u) (fun j f=>.inr (by omega))
 have HRY:Hid (∀ W W',VmP w.drew V K B pl tn q.m 2 W→Kp noB W W'→RowV W' Y y0):=fun W W' v k=>by
  have r:RowV w.drew Y y0:=hY
  exact (r.kp v.2 nY).kp k (fun f=>f)
 generalize q.s.val=sv at *
 go_enter Tryz.func201,Tryz.ntmps201
 go_region_held3 (fun W=>W.cell? ⟨X,0,none⟩=some (.pointer (some ⟨V,0,none⟩))∧W.cell? ⟨X+1,0,none⟩=some (pc)∧W.cell? ⟨X+2,0,none⟩=some (.int .i64 k)∧W.cell? ⟨X+3,0,none⟩=some (.int .u32 off)∧W.cell? ⟨X+4,0,none⟩=some (.int .i64 z))
  (first | with_reducible exact HB0.out | with_reducible exact HBV.out _ v4 | with_reducible exact HBR.out _ _ v4 k5 | with_reducible exact HBS.out _ _ _ v4 k5)
  (first | (go_at_call 203;refine Calls.mono HC.out ?_;rintro e w4 ⟨rfl,v4⟩) | (go_at_call 202;refine Calls.mono (HRd.out _ v4) ?_;rintro e w5 ⟨rfl,k5⟩;have rz:=HRY.out _ _ v4 k5;obtain ⟨z0,y0'⟩:=And.intro rz.c rz.fz))
 have r5:=rz.set (q.m.rdS q.s)
 obtain ⟨⟨tn4,ht4,at4⟩,k4⟩:=v4
 have vF:=(at4.kp0 k5).kp (Kp.setCell (S:=fun j=>j=Y) w5 (p:=⟨Y,0,none⟩) rfl (.int .u32 (q.m.rdS q.s))) (fun j hj e=>by
  subst e
  rcases hj with e | e
  ·omega
  ·exact nY e)
 have kF:Kp (fun j=>modVm K B q.m.n j∨j=Y) w _:=((k4.undrew.mono (fun _ _ f=>.inl f)).trans (k5.mono (fun _ _ f=>f.elim))).trans (Kp.setCell (S:=fun j=>modVm K B q.m.n j∨j=Y) w5 (p:=⟨Y,0,none⟩) (.inr rfl) (.int .u32 (q.m.rdS q.s)))
 go_wp2
 go_end0
 exact ⟨rfl,kF,⟨tn4,ht4,vF⟩,r5⟩
abbrev BxStore (X:Nat) (pm pc:Value) (k off z v:Int) (W:World):Prop:=W.cell? ⟨X,0,none⟩=some (pm)∧W.cell? ⟨X+1,0,none⟩=some (pc)∧W.cell? ⟨X+2,0,none⟩=some (.int .i64 k)∧W.cell? ⟨X+3,0,none⟩=some (.int .u32 off)∧W.cell? ⟨X+4,0,none⟩=some (.int .i64 z)∧W.cell? ⟨X+5,0,none⟩=some (.int .u32 v)
theorem BxStore.kp {X:Nat} {pm pc:Value} {k off z v:Int} {S:Nat→Prop} {W W':World} (h:BxStore X pm pc k off z v W) (kq:Kp S W W') (hS:∀ j,S j→j < X∨X+6≤j):BxStore X pm pc k off z v W':=by
 obtain ⟨h0,h1,h2,h3,h4,h5⟩:=h
 exact ⟨cell_kp h0 kq (fun f=>by have:=hS _ f;omega),cell_kp h1 kq (fun f=>by have:=hS _ f;omega),cell_kp h2 kq (fun f=>by have:=hS _ f;omega),cell_kp h3 kq (fun f=>by have:=hS _ f;omega),cell_kp h4 kq (fun f=>by have:=hS _ f;omega),cell_kp h5 kq (fun f=>by have:=hS _ f;omega)⟩
theorem store1_no (w:World) (X:Nat) (pm pc:Value) (k off z v:Int) (f:Ft) (S:Nat→Prop) (P:World→Prop) (hb:BxStore X pm pc k off z v w)
  (H:Hid (∀ W,Kp noB w W→Calls Tryz.prog 203 #[pm,pc,.int .i64 k,.int .u32 off,.int .i64 z,.bool true] W fun e w'=>e=.panicked (pan f)∧Kp S W w'∧P w')):
  Calls Tryz.prog 238 #[.pointer (some ⟨X,0,none⟩),.pointer (some ⟨X+1,0,none⟩),.pointer (some ⟨X+2,0,none⟩),.pointer (some ⟨X+3,0,none⟩),.pointer (some ⟨X+4,0,none⟩),.pointer (some ⟨X+5,0,none⟩)] w fun e w'=>e=.panicked (pan f)∧Kp S w w'∧P w':=by
 have HC:Hid _:=H.out w.drew (Kp.refl noB w).drew
 obtain ⟨b0,b1,b2,b3,b4,b5⟩:=hb
 go_enter Tryz.func238,Tryz.ntmps238
 refine OrdP.region_vals (τ:=Unit) (fun ch w'=>ch=pan f∧Kp S w.drew w'∧P w') (fun _=>[pm,pm,pc,.int .i64 k,.int .u32 off,.int .i64 z,undef,.int .u32 v,undef]) (fun _ listed W'=>W'=w.drew∧listed.getD 6 false=false) () ?_ (by kernel_rfl) (by kernel_rfl) (by kernel_rfl) (by kernel_rfl) (fun _=>rfl) (fun t=>by simp only [OrdG.puts,Act.put,List.setIfInBounds_toArray,List.set_cons_zero,List.set_cons_succ];rfl) (fun _=>by kernel_rfl) ⟨rfl,rfl⟩ ?_ ?_
 ·rintro ch a' w' hd ⟨rfl,k,p⟩
  exact ⟨hd,rfl,k.undrew,p⟩
 ·refine ⟨?_,?_,?_,?_,?_,?_,?_,?_,?_,trivial⟩
  all_goals (intro t listed W' hz hSh hl hI hb K hK hK0;obtain ⟨rfl,h7⟩:=hI)
  case refine_7=>
   go_simp
   refine Calls.mono HC.out ?_
   rintro e w4 ⟨rfl,r⟩
   exact ⟨rfl,r⟩
  case refine_9=>exact absurd (OrdG.on_of (i:=6) hb (by kernel_rfl)) (by rw [h7];decide)
  all_goals (go_simp;exact hK0 _ ⟨rfl,OrdP.keep h7 (by decide)⟩)
 ·rintro t listed w' hal ⟨_,h7⟩
  have:=hal 6 (by decide)
  rw [h7] at this
  cases this
theorem store1_ok (w:World) (X V K B pl tn:Nat) (pc:Value) (k off z v:Int) (v0:0≤v) (v1:v < 4294967296) (q:Qy) (hq:q.s.Ok) (hb:BxStore X (.pointer (some ⟨V,0,none⟩)) pc k off z v w) (hm:∀ j,modVm K B q.m.n j→j < X) (hV:V < X)
  (H:Hid (∀ W,Kp noB w W→Calls Tryz.prog 203 #[.pointer (some ⟨V,0,none⟩),pc,.int .i64 k,.int .u32 off,.int .i64 z,.bool true] W fun e w'=>e=.returned q.s.val∧VmP W V K B pl tn q.m 2 w')):
  Calls Tryz.prog 238 #[.pointer (some ⟨X,0,none⟩),.pointer (some ⟨X+1,0,none⟩),.pointer (some ⟨X+2,0,none⟩),.pointer (some ⟨X+3,0,none⟩),.pointer (some ⟨X+4,0,none⟩),.pointer (some ⟨X+5,0,none⟩)] w fun e w'=>e=.returned (.tuple #[])∧VmP w V K B pl tn (q.m.wrS q.s v) 2 w':=by
 have HC:Hid _:=H.out w.drew (Kp.refl noB w).drew
 have HB0:Hid (BxStore X (.pointer (some ⟨V,0,none⟩)) pc k off z v w.drew):=hb
 have HBV:Hid (∀ W',VmP w.drew V K B pl tn q.m 2 W'→BxStore X (.pointer (some ⟨V,0,none⟩)) pc k off z v W'):=fun W' v=>BxStore.kp (W:=w.drew) HB0.out v.2 (fun j f=>.inl (hm j f))
 have HWr:Hid (∀ W',VmP w.drew V K B pl tn q.m 2 W'→Calls Tryz.prog 239 #[.pointer (some ⟨V,0,none⟩),q.s.val,.int .u32 v] W' fun e w'=>e=.returned (.tuple #[])∧VmP w.drew V K B pl tn (q.m.wrS q.s v) 2 w'):=fun W' ⟨⟨tn',ht,vm⟩,kv⟩=>(vwrite_any W' V K B pl tn' q.m vm q.s hq v v0 v1).mono (fun e w' ⟨h1,⟨tn2,ht2,v2⟩,k2⟩=>⟨h1,⟨tn2,by omega,v2⟩,by rw [(wrK_same q.m q.s v q.s.n).1.symm] at kv;exact kv.trans k2⟩)
 have HBW:Hid (∀ W',VmP w.drew V K B pl tn (q.m.wrS q.s v) 2 W'→BxStore X (.pointer (some ⟨V,0,none⟩)) pc k off z v W'):=fun W' vv=>BxStore.kp (W:=w.drew) HB0.out vv.2 (fun j f=>.inl (hm j (by rw [show (q.m.wrS q.s v).n=q.m.n from (wrK_same q.m q.s v q.s.n).1] at f;exact f)))
 generalize q.s.val=sv at *
 go_enter Tryz.func238,Tryz.ntmps238
 go_region_held3 (fun W=>W.cell? ⟨X,0,none⟩=some (.pointer (some ⟨V,0,none⟩))∧W.cell? ⟨X+1,0,none⟩=some (pc)∧W.cell? ⟨X+2,0,none⟩=some (.int .i64 k)∧W.cell? ⟨X+3,0,none⟩=some (.int .u32 off)∧W.cell? ⟨X+4,0,none⟩=some (.int .i64 z)∧W.cell? ⟨X+5,0,none⟩=some (.int .u32 v))
  (first | with_reducible exact HB0.out | with_reducible exact HBV.out _ v4 | with_reducible exact HBW.out _ v5)
  (first | (go_at_call 203;refine Calls.mono HC.out ?_;rintro e w4 ⟨rfl,v4⟩) | (go_at_call 239;refine Calls.mono (HWr.out _ v4) ?_;rintro e w5 ⟨rfl,v5⟩))
 go_wp2
 go_end0
 exact ⟨rfl,v5.1,v5.2.undrew⟩
abbrev BxCheck (X:Nat) (pm pc:Value) (k off z:Int) (W:World):Prop:=W.cell? ⟨X,0,none⟩=some (pm)∧W.cell? ⟨X+1,0,none⟩=some (pc)∧W.cell? ⟨X+2,0,none⟩=some (.int .i64 k)∧W.cell? ⟨X+3,0,none⟩=some (.int .u32 off)∧W.cell? ⟨X+4,0,none⟩=some (.int .i64 z)
theorem BxCheck.kp {X:Nat} {pm pc:Value} {k off z:Int} {S:Nat→Prop} {W W':World} (h:BxCheck X pm pc k off z W) (kq:Kp S W W') (hS:∀ j,S j→j < X∨X+5≤j):BxCheck X pm pc k off z W':=by
 obtain ⟨h0,h1,h2,h3,h4⟩:=h
 exact ⟨cell_kp h0 kq (fun f=>by have:=hS _ f;omega),cell_kp h1 kq (fun f=>by have:=hS _ f;omega),cell_kp h2 kq (fun f=>by have:=hS _ f;omega),cell_kp h3 kq (fun f=>by have:=hS _ f;omega),cell_kp h4 kq (fun f=>by have:=hS _ f;omega)⟩
abbrev BxSys (X:Nat) (pm pc:Value) (off z:Int) (W:World):Prop:=W.cell? ⟨X,0,none⟩=some (pm)∧W.cell? ⟨X+1,0,none⟩=some (pc)∧W.cell? ⟨X+2,0,none⟩=some (.int .u32 off)∧W.cell? ⟨X+3,0,none⟩=some (.int .i64 z)
theorem BxSys.kp {X:Nat} {pm pc:Value} {off z:Int} {S:Nat→Prop} {W W':World} (h:BxSys X pm pc off z W) (kq:Kp S W W') (hS:∀ j,S j→j < X∨X+4≤j):BxSys X pm pc off z W':=by
 obtain ⟨h0,h1,h2,h3⟩:=h
 exact ⟨cell_kp h0 kq (fun f=>by have:=hS _ f;omega),cell_kp h1 kq (fun f=>by have:=hS _ f;omega),cell_kp h2 kq (fun f=>by have:=hS _ f;omega),cell_kp h3 kq (fun f=>by have:=hS _ f;omega)⟩
theorem sys1_no (w:World) (X Y:Nat) (pm pc:Value) (off z:Int) (f:Ft) (S:Nat→Prop) (P:World→Prop) (hb:BxSys X pm pc off z w)
  (H:Hid (∀ W,Kp noB w W→Calls Tryz.prog 230 #[pm,pc,.int .u32 off,.int .i64 z,.bool false] W fun e w'=>e=.panicked (pan f)∧Kp S W w'∧P w')):
  Calls Tryz.prog 229 #[.pointer (some ⟨X,0,none⟩),.pointer (some ⟨X+1,0,none⟩),.pointer (some ⟨X+2,0,none⟩),.pointer (some ⟨X+3,0,none⟩),.pointer (some ⟨Y,0,none⟩)] w fun e w'=>e=.panicked (pan f)∧Kp S w w'∧P w':=by
 have HC:Hid _:=H.out w.drew (Kp.refl noB w).drew
 obtain ⟨b0,b1,b2,b3⟩:=hb
 go_enter Tryz.func229,Tryz.ntmps229
 refine OrdP.region_vals (τ:=Unit) (fun ch w'=>ch=pan f∧Kp S w.drew w'∧P w') (fun _=>[pm,pm,pc,.int .u32 off,.int .i64 z,undef,undef,undef]) (fun _ listed W'=>W'=w.drew∧listed.getD 5 false=false) () ?_ (by kernel_rfl) (by kernel_rfl) (by kernel_rfl) (by kernel_rfl) (fun _=>rfl) (fun t=>by simp only [OrdG.puts,Act.put,List.setIfInBounds_toArray,List.set_cons_zero,List.set_cons_succ];rfl) (fun _=>by kernel_rfl) ⟨rfl,rfl⟩ ?_ ?_
 ·rintro ch a' w' hd ⟨rfl,k,p⟩
  exact ⟨hd,rfl,k.undrew,p⟩
 ·refine ⟨?_,?_,?_,?_,?_,?_,?_,?_,trivial⟩
  all_goals (intro t listed W' hz hSh hl hI hb K hK hK0;obtain ⟨rfl,h7⟩:=hI)
  case refine_6=>
   go_simp
   refine Calls.mono HC.out ?_
   rintro e w4 ⟨rfl,r⟩
   exact ⟨rfl,r⟩
  case refine_8=>exact absurd (OrdG.on_of (i:=5) hb (by kernel_rfl)) (by rw [h7];decide)
  case refine_7=>exact absurd (OrdG.on_of (i:=5) hb (by kernel_rfl)) (by rw [h7];decide)
  all_goals (go_simp;exact hK0 _ ⟨rfl,OrdP.keep h7 (by decide)⟩)
 ·rintro t listed w' hal ⟨_,h7⟩
  have:=hal 5 (by decide)
  rw [h7] at this
  cases this
theorem sys1_ok (w:World) (X Y V K B pl tn:Nat) (pc:Value) (off z:Int) (y0:Int) (hY:RowV w Y y0) (hX:X+4≤Y) (q:Qy) (hq:q.s.Ok) (hb:BxSys X (.pointer (some ⟨V,0,none⟩)) pc off z w) (hm:∀ j,modVm K B q.m.n j→j < X) (hV:V < X)
  (H:Hid (∀ W,Kp noB w W→Calls Tryz.prog 230 #[.pointer (some ⟨V,0,none⟩),pc,.int .u32 off,.int .i64 z,.bool false] W fun e w'=>e=.returned q.s.val∧VmP W V K B pl tn q.m 2 w')):
  Calls Tryz.prog 229 #[.pointer (some ⟨X,0,none⟩),.pointer (some ⟨X+1,0,none⟩),.pointer (some ⟨X+2,0,none⟩),.pointer (some ⟨X+3,0,none⟩),.pointer (some ⟨Y,0,none⟩)] w fun e w'=>e=.returned (.tuple #[])∧Kp (fun j=>modVm K B q.m.n j∨j=Y) w w'∧(∃ tn',tn'≤tn+2∧VmAt w' V K B pl tn' q.m)∧RowV w' Y (q.m.rdS q.s):=by
 have HC:Hid _:=H.out w.drew (Kp.refl noB w).drew
 have HB0:Hid (BxSys X (.pointer (some ⟨V,0,none⟩)) pc off z w.drew):=hb
 have HBV:Hid (∀ W',VmP w.drew V K B pl tn q.m 2 W'→BxSys X (.pointer (some ⟨V,0,none⟩)) pc off z W'):=fun W' v=>BxSys.kp (W:=w.drew) HB0.out v.2 (fun j f=>.inl (hm j f))
 have nY:¬ modVm K B q.m.n Y:=fun f=>by have:=hm _ f;omega
 have HRd:Hid (∀ W',VmP w.drew V K B pl tn q.m 2 W'→Calls Tryz.prog 202 #[.pointer (some ⟨V,0,none⟩),q.s.val] W' fun e w'=>e=.returned (.int .u32 (q.m.rdS q.s))∧Kp noB W' w'):=fun W' ⟨⟨tn',_,v⟩,_⟩=>vread_any W' V K B pl tn' q.m v q.s hq
 have HBR:Hid (∀ W W',VmP w.drew V K B pl tn q.m 2 W→Kp noB W W'→BxSys X (.pointer (some ⟨V,0,none⟩)) pc off z W'):=fun W W' v k=>BxSys.kp (HBV.out _ v) k (fun j f=>f.elim)
 have HBS:Hid (∀ W W' (u:Value),VmP w.drew V K B pl tn q.m 2 W→Kp noB W W'→BxSys X (.pointer (some ⟨V,0,none⟩)) pc off z (W'.setCell ⟨Y,0,none⟩ u)):=fun W W' u v k=>BxSys.kp (HBR.out _ _ v k) (Kp.setCell (S:=fun j=>j=Y) W' (p:=⟨Y,0,none⟩) rfl u) (fun j f=>.inr (by omega))
 have HRY:Hid (∀ W W',VmP w.drew V K B pl tn q.m 2 W→Kp noB W W'→RowV W' Y y0):=fun W W' v k=>by
  have r:RowV w.drew Y y0:=hY
  exact (r.kp v.2 nY).kp k (fun f=>f)
 generalize q.s.val=sv at *
 go_enter Tryz.func229,Tryz.ntmps229
 go_region_held3 (fun W=>W.cell? ⟨X,0,none⟩=some (.pointer (some ⟨V,0,none⟩))∧W.cell? ⟨X+1,0,none⟩=some (pc)∧W.cell? ⟨X+2,0,none⟩=some (.int .u32 off)∧W.cell? ⟨X+3,0,none⟩=some (.int .i64 z))
  (first | with_reducible exact HB0.out | with_reducible exact HBV.out _ v4 | with_reducible exact HBR.out _ _ v4 k5 | with_reducible exact HBS.out _ _ _ v4 k5)
  (first | (go_at_call 230;refine Calls.mono HC.out ?_;rintro e w4 ⟨rfl,v4⟩) | (go_at_call 202;refine Calls.mono (HRd.out _ v4) ?_;rintro e w5 ⟨rfl,k5⟩;have rz:=HRY.out _ _ v4 k5;obtain ⟨z0,y0'⟩:=And.intro rz.c rz.fz))
 have r5:=rz.set (q.m.rdS q.s)
 obtain ⟨⟨tn4,ht4,at4⟩,k4⟩:=v4
 have vF:=(at4.kp0 k5).kp (Kp.setCell (S:=fun j=>j=Y) w5 (p:=⟨Y,0,none⟩) rfl (.int .u32 (q.m.rdS q.s))) (fun j hj e=>by
  subst e
  rcases hj with e | e
  ·omega
  ·exact nY e)
 have kF:Kp (fun j=>modVm K B q.m.n j∨j=Y) w _:=((k4.undrew.mono (fun _ _ f=>.inl f)).trans (k5.mono (fun _ _ f=>f.elim))).trans (Kp.setCell (S:=fun j=>modVm K B q.m.n j∨j=Y) w5 (p:=⟨Y,0,none⟩) (.inr rfl) (.int .u32 (q.m.rdS q.s)))
 go_wp2
 go_end0
 exact ⟨rfl,kF,⟨tn4,ht4,vF⟩,r5⟩
abbrev BxSetSys (X:Nat) (pm pc:Value) (off z v:Int) (W:World):Prop:=W.cell? ⟨X,0,none⟩=some (pm)∧W.cell? ⟨X+1,0,none⟩=some (pc)∧W.cell? ⟨X+2,0,none⟩=some (.int .u32 off)∧W.cell? ⟨X+3,0,none⟩=some (.int .i64 z)∧W.cell? ⟨X+4,0,none⟩=some (.int .u32 v)
theorem BxSetSys.kp {X:Nat} {pm pc:Value} {off z v:Int} {S:Nat→Prop} {W W':World} (h:BxSetSys X pm pc off z v W) (kq:Kp S W W') (hS:∀ j,S j→j < X∨X+5≤j):BxSetSys X pm pc off z v W':=by
 obtain ⟨h0,h1,h2,h3,h4⟩:=h
 exact ⟨cell_kp h0 kq (fun f=>by have:=hS _ f;omega),cell_kp h1 kq (fun f=>by have:=hS _ f;omega),cell_kp h2 kq (fun f=>by have:=hS _ f;omega),cell_kp h3 kq (fun f=>by have:=hS _ f;omega),cell_kp h4 kq (fun f=>by have:=hS _ f;omega)⟩
def RowB8 (W:World) (X:Nat) (v:Int):Prop:=W.heap[X]?=some (.cells #[.int .u8 v] 5 (0,0))
theorem RowB8.lt {W:World} {X:Nat} {v:Int} (r:RowB8 W X v):X < W.heap.size:=(Array.getElem?_eq_some_iff.1 r).1
theorem RowB8.kp {S:Nat→Prop} {W W':World} {X:Nat} {v:Int} (r:RowB8 W X v) (k:Kp S W W') (hS:¬ S X):RowB8 W' X v:=(k.block X r.lt hS).trans r
theorem RowB8.c {W:World} {X:Nat} {v:Int} (r:RowB8 W X v):W.cell? ⟨X,0,none⟩=some (.int .u8 v):=by rw [cell_at r];rfl
end Go.Proofs.YtacgmoikegcopaaGreatDoor.Rm
