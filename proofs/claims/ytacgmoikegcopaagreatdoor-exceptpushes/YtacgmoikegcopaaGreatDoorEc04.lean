/- The bus and its devices: RamOps2, PgMath, SegMath, VmMathN, SegWord, XcMathN, TlMath, TlMap, RefBase, PgFollow, RefPut, PgMark, PgFind, TlOps, SegGrow. -/
import Derived.Test.YtacgmoikegcopaaGreatDoorEc03
import Derived.Laws.MakeOwn
import Derived.Test.YtacgmoikegcopaaGreatDoorEc01
import Derived.Laws.Bits128
import Derived.LoopN
import Derived.DeepKeys4
import Derived.Maps.RangeWalk
import Derived.Deep.RegionWith
import Derived.Deep.Cut
import Derived.Carry
namespace Go.Proofs.YtacgmoikegcopaaGreatDoor.Rm
open Go.ChangeShapes Go.WideShapes Go.ChangeAt Go.RowKit Go.Maps
set_option linter.unusedVariables false
set_option maxRecDepth 20000
theorem RamAt.drewN {w:World} {B:Nat} {M:Mem} (h:RamAt w B M) (n:Nat):RamAt (w.drewN n) B M:=h.kept (fun _ _=>rfl)
theorem tb_pw (j i:Nat):tb ((2 ^ j:Nat):Int) i=decide (i=j):=by
 have h:=tb_flg true j i
 simpa [flg] using h
theorem pw_lt {j:Nat} (h:j < 32):((2 ^ j:Nat):Int) < 4294967296:=by
 have:(2:Nat) ^ j < 2 ^ 32:=Nat.pow_lt_pow_right (by decide) h
 have e:(2:Nat) ^ 32=4294967296:=by decide
 omega
theorem has_tb {x:Int} (x0:0≤x) (j:Nat):hasF x ((2 ^ j:Nat):Int)=tb x j:=by
 unfold hasF
 rw [flg_tb x0 j]
 cases tb x j<;>rfl
theorem and_pw {x:Int} (x0:0≤x) (x1:x < 4294967296) (j:Nat) (hj:j < 32):bits .and .u32 x ((2 ^ j:Nat):Int)=flg (hasF x ((2 ^ j:Nat):Int)) ((2 ^ j:Nat):Int):=by
 have k0:=pw_pos j
 have k1:=pw_lt hj
 have a1:=and_bd x0 x1 (Int.le_of_lt k0) k1
 rw [has_tb x0 j]
 refine tb_ext a1.1 (by unfold flg;split<;>omega) fun i=>?_
 rw [tb_and x0 x1 (Int.le_of_lt k0) k1,tb_pw,tb_flg]
 by_cases h:i=j
 ·simp [h]
 ·simp [h]
theorem or_pw {x:Int} (x0:0≤x) (x1:x < 4294967296) (j:Nat) (hj:j < 32):bits .or .u32 x ((2 ^ j:Nat):Int)=setF x ((2 ^ j:Nat):Int) true:=by
 have k0:=pw_pos j
 have k1:=pw_lt hj
 have a1:=or_bd x0 x1 (Int.le_of_lt k0) k1
 have s0:0≤setF x ((2 ^ j:Nat):Int) true:=by
  clear k1 a1
  revert k0
  generalize ((2 ^ j:Nat):Int)=k
  intro k0
  unfold setF flg
  rw [if_pos rfl]
  split<;>omega
 refine tb_ext a1.1 s0 fun i=>?_
 rw [tb_or x0 x1 (Int.le_of_lt k0) k1,tb_pw,tb_setF x x0 j]
 by_cases h:i=j
 ·simp [h]
 ·simp [h]
theorem setT_bd {x:Int} (x0:0≤x) (x1:x < 4294967296) (j:Nat) (hj:j < 32):0≤setF x ((2 ^ j:Nat):Int) true∧setF x ((2 ^ j:Nat):Int) true < 4294967296:=by
 rw [← or_pw x0 x1 j hj]
 exact or_bd x0 x1 (Int.le_of_lt (pw_pos j)) (pw_lt hj)
theorem set32_bd {x:Int} (x0:0≤x) (x1:x < 4294967296):0≤setF x 32 true∧setF x 32 true < 4294967296:=setT_bd x0 x1 5 (by decide)
theorem set64_bd {x:Int} (x0:0≤x) (x1:x < 4294967296):0≤setF x 64 true∧setF x 64 true < 4294967296:=setT_bd x0 x1 6 (by decide)
def pdeA (c l:Int):Int:=c - c%4096+l / 4194304*4
def pteA (one l:Int):Int:=one - one%4096+l / 4096%1024*4
def fOne (M:Mem) (c l:Int):Int:=M.read (pdeA c l) 4
def fPte (M:Mem) (c l:Int):Int:=pteA (fOne M c l) l
def fTwo (M:Mem) (c l:Int):Int:=M.read (fPte M c l) 4
def fW (M:Mem) (c l:Int):Bool:=hasF (fOne M c l) 2&&hasF (fTwo M c l) 2
def fU (M:Mem) (c l:Int):Bool:=hasF (fOne M c l) 4&&hasF (fTwo M c l) 4
def letsB (w u wr us wp:Bool):Bool:=!(us&&!u||wr&&!w&&(us||wp))
def codeW (wr us:Bool):Int:=flg wr 2+flg us 4
def fHere (M:Mem) (c l:Int):Bool:=hasF (fOne M c l) 1&&hasF (fTwo M c l) 1
def fOk (M:Mem) (c l:Int) (wr us wp:Bool):Bool:=fHere M c l&&letsB (fW M c l) (fU M c l) wr us wp
def fCode (M:Mem) (c l:Int) (wr us wp:Bool):Int:=if fHere M c l=true then (if letsB (fW M c l) (fU M c l) wr us wp=true then -1 else 1+codeW wr us) else codeW wr us
def fFr (M:Mem) (c l:Int):Int:=fTwo M c l - fTwo M c l%4096
def markW (n:Int) (wr:Bool):Int:=if wr=true then setF (setF n 32 true) 64 true else setF n 32 true
def markM (M:Mem) (a:Int) (wr:Bool):Mem:=if markW (M.read a 4) wr=M.read a 4 then M else M.lay false a (bytesV (markW (M.read a 4) wr))
def fMem (M:Mem) (c l:Int) (wr us wp:Bool):Mem:=if fOk M c l wr us wp=true then markM (markM M (pdeA c l) false) (fPte M c l) wr else M
def RdB (M:Mem):Prop:=∀ a:Int,0≤a→a < 4294967296→0≤M.rd a∧M.rd a < 256
theorem RamAt.rdB {w:World} {B:Nat} {M:Mem} (h:RamAt w B M):RdB M:=fun a a0 a1=>rd_bd h a a0 a1
theorem RdB.put {M:Mem} (h:RdB M) (all:Bool) (a v:Int) (v0:0≤v) (v1:v < 256):RdB (M.put all a v):=by
 intro x x0 x1
 have hx:=h x x0 x1
 unfold Mem.rd at hx ⊢
 rw [put_place,put_n]
 by_cases hlt:M.place x < 4096*M.n
 ·rw [if_pos hlt] at hx ⊢
  unfold Mem.put
  split
  ·simp only
   split
   ·exact ⟨v0,v1⟩
   ·exact hx
  ·exact hx
 ·rw [if_neg hlt]
  omega
theorem RdB.lay (all:Bool):∀ (vs:List Int) (M:Mem) (a:Int),RdB M→(∀ v ∈ vs,0≤v∧v < 256)→RdB (M.lay all a vs)
 | [],M,a,h,_=>h
 | v::r,M,a,h,hv=>RdB.lay all r (M.put all a v) ((a+1)%4294967296) (h.put all a v (hv v (by simp)).1 (hv v (by simp)).2) (fun x hx=>hv x (by simp [hx]))
theorem bytesV_bd {v:Int} (v0:0≤v) (v1:v < 4294967296):∀ x ∈ bytesV v,0≤x∧x < 256:=by
 intro x hx
 simp only [bytesV,List.mem_cons,List.not_mem_nil,or_false] at hx
 rcases hx with rfl | rfl | rfl | rfl<;>omega
theorem RdB.read {M:Mem} (h:RdB M) (x:Int):0≤M.read x 4∧M.read x 4 < 4294967296:=by
 have r0:=h ((x+0)%4294967296) (by omega) (by omega)
 have r1:=h ((x+1)%4294967296) (by omega) (by omega)
 have r2:=h ((x+2)%4294967296) (by omega) (by omega)
 have r3:=h ((x+3)%4294967296) (by omega) (by omega)
 show 0≤M.rd ((x+0)%4294967296)+M.rd ((x+1)%4294967296)*256+M.rd ((x+2)%4294967296)*65536+M.rd ((x+3)%4294967296)*16777216∧M.rd ((x+0)%4294967296)+M.rd ((x+1)%4294967296)*256+M.rd ((x+2)%4294967296)*65536+M.rd ((x+3)%4294967296)*16777216 < 4294967296
 omega
theorem markW_bd {n:Int} (n0:0≤n) (n1:n < 4294967296) (wr:Bool):0≤markW n wr∧markW n wr < 4294967296:=by
 unfold markW
 have b:=set32_bd n0 n1
 split
 ·exact set64_bd b.1 b.2
 ·exact b
theorem RdB.mark {M:Mem} (h:RdB M) (a:Int) (wr:Bool):RdB (markM M a wr):=by
 unfold markM
 split
 ·exact h
 ·have b:=h.read a
  have c:=markW_bd b.1 b.2 wr
  exact RdB.lay false _ _ _ h (bytesV_bd c.1 c.2)
theorem mark_same (M:Mem) (a:Int) (wr:Bool):(markM M a wr).n=M.n∧(markM M a wr).only=M.only∧(markM M a wr).closed=M.closed:=by
 unfold markM
 split
 ·exact ⟨rfl,rfl,rfl⟩
 ·exact lay_same _ _ _ _
theorem fMem_same (M:Mem) (c l:Int) (wr us wp:Bool):(fMem M c l wr us wp).n=M.n∧(fMem M c l wr us wp).only=M.only∧(fMem M c l wr us wp).closed=M.closed:=by
 unfold fMem
 split
 ·have h1:=mark_same M (pdeA c l) false
  have h2:=mark_same (markM M (pdeA c l) false) (fPte M c l) wr
  exact ⟨h2.1.trans h1.1,h2.2.1.trans h1.2.1,h2.2.2.trans h1.2.2⟩
 ·exact ⟨rfl,rfl,rfl⟩
theorem fTwo_bd {M:Mem} (h:RdB M) (c l:Int):0≤fTwo M c l∧fTwo M c l < 4294967296:=h.read _
end Go.Proofs.YtacgmoikegcopaaGreatDoor.Rm
namespace Go.Proofs.YtacgmoikegcopaaGreatDoor.Sg
open Go.RowKit
set_option linter.unusedVariables false
set_option maxRecDepth 20000
theorem nat_even (n:Nat) (hn:n < 18446744073709551616):n &&& 18446744073709551614=n / 2*2:=by
 have h1:(n &&& 18446744073709551614) / 2=n / 2:=by
  have e:=Nat.and_div_two_pow (a:=n) (b:=18446744073709551614) (n:=1)
  rw [show (2:Nat) ^ 1=2 from rfl] at e
  rw [e]
  have m:=Nat.and_two_pow_sub_one_eq_mod (n / 2) 63
  rw [show (18446744073709551614:Nat) / 2=2 ^ 63 - 1 from by decide,m]
  exact Nat.mod_eq_of_lt (by omega)
 have h2:(n &&& 18446744073709551614)%2=0:=by
  have e:=Nat.and_mod_two_pow (a:=n) (b:=18446744073709551614) (n:=1)
  rw [show (2:Nat) ^ 1=2 from rfl] at e
  rw [e]
  simp
 omega
theorem type_even (t:Int) (t0:-9223372036854775808≤t) (t1:t < 9223372036854775808):bits .andNot .i64 t 1=t - t%2:=by
 show IntKind.i64.wrap ((BitVec.ofInt 64 t &&& ~~~BitVec.ofInt 64 1).toNat:Int)=_
 have hw:∀ n:Int,IntKind.i64.wrap n=(n+9223372036854775808)%18446744073709551616 - 9223372036854775808:=fun n=>by
  simp [IntKind.wrap,IntKind.bits,IntKind.signed]
  have:=Int.bmod_def n 18446744073709551616
  omega
 rw [BitVec.toNat_and]
 have e1:(~~~BitVec.ofInt 64 1).toNat=18446744073709551614:=by decide
 have e2:(BitVec.ofInt 64 t).toNat=(t%18446744073709551616).toNat:=by rw [BitVec.toNat_ofInt];rfl
 rw [e1,e2,nat_even _ (by omega),hw]
 omega
def isD (s:Bool) (t:Int):Bool:=!s&&decide (0≤t)&&decide (t < 8)
def isC (s:Bool) (t:Int):Bool:=!s&&decide (8≤t)&&decide (t < 16)
def two (t:Int):Bool:=decide (t / 2%2=1)
def four (t:Int):Bool:=decide (t / 4%2=1)
def rF (s:Bool) (t:Int):Bool:=isC s t&&four t
def rR (s:Bool) (t:Int):Bool:=isD s t||isC s t&&two t
def rW (s:Bool) (t:Int):Bool:=isD s t&&two t
def rD (s:Bool) (t:Int):Bool:=isD s t&&four t
def szB (n:Int):Bool:=n==1||n==2||n==4||n==8
def topB (g:Bool):Int:=if g then 4294967295 else 65535
def reachX (wr R Wt p D g:Bool) (l off size:Int):Bool:=
 (if wr then Wt else R)&&p&&szB size&&(if D then decide (l < off)&&decide (off+size - 1≤topB g) else decide (off+size - 1≤l))
def reachB (l t:Int) (s p g:Bool) (off size:Int) (wr:Bool):Bool:=
 reachX wr (rR s t) (rW s t) p (rD s t) g l off size
def presB (p:Bool) (v:Int):Int:=if p then -1 else v
def fitS (t d:Int) (s p:Bool) (rpl cpl:Int):Int:=if rpl=cpl∧d=cpl∧rW s t=true then presB p 12 else 13
def fitD (t d:Int) (s p:Bool) (rpl cpl:Int):Int:=if rR s t=true∧(rF s t=true∨cpl≤d∧rpl≤d) then presB p 11 else 13
def fitB (reg t d:Int) (s p:Bool) (rpl cpl:Int):Int:=
 if reg=2 then fitS t d s p rpl cpl else if reg=0∨reg=3∨reg=4∨reg=5 then fitD t d s p rpl cpl else 13
def ringsB (f:Bool) (rpl d cpl:Int):Bool:=if f then decide (d≤cpl) else decide (d=cpl)&&decide (rpl≤cpl)
def codeB (t d:Int) (s p g:Bool) (rpl cpl:Int):Int:=if isC s t=true∧g=true∧ringsB (rF s t) rpl d cpl=true then presB p 11 else 13
def kindN (s:Bool) (t:Int):Nat:=if s=false∧0≤t∧t < 16 then (t / 2).toNat else 8
end Go.Proofs.YtacgmoikegcopaaGreatDoor.Sg
namespace Go.Proofs.YtacgmoikegcopaaGreatDoor.Rm
open Go.ChangeShapes Go.WideShapes Go.ChangeAt Go.RowKit Go.Maps
set_option linter.unusedVariables false
set_option maxRecDepth 20000
structure SgR where
 sel:Int
 nl:Bool
 b:Int
 l:Int
 t:Int
 s:Bool
 d:Int
 p:Bool
 g:Bool
structure SgR.Ok (r:SgR):Prop where
 s0:0≤r.sel
 s1:r.sel < 65536
 b0:0≤r.b
 b1:r.b < 4294967296
 l0:0≤r.l
 l1:r.l < 4294967296
 t0:-9223372036854775808≤r.t
 t1:r.t < 9223372036854775808
structure Cp where
 seg:Nat→SgR
 cr0:Int
 cr3:Int
def Cp.pg (c:Cp):Bool:=hasF c.cr0 2147483648
structure Cp.Ok (c:Cp):Prop where
 sg:∀ i,i < 6→(c.seg i).Ok
 z0:0≤c.cr0
 z1:c.cr0 < 4294967296
 t0:0≤c.cr3
 t1:c.cr3 < 4294967296
 np:c.pg=false
def Cp.wp (c:Cp):Bool:=hasF c.cr0 65536
def Cp.us (c:Cp):Bool:=decide ((c.seg 1).sel%4=3)
structure Ft where
 vec:Int
 code:Int
 cr2:Int
def Ft.val (f:Ft):Value:=.agg #[.int .i64 f.vec,.int .i64 f.code,.int .u32 f.cr2]
def noFt:Ft:=⟨-1,-1,0⟩
def ftV (v:Int):Ft:=⟨v,0,0⟩
structure Sp where
 a:Int
 b:Int
 h:Nat
 n:Nat
def Sp.val (s:Sp):Value:=.agg #[.int .u32 s.a,.int .u32 s.b,.int .i64 s.h,.int .i64 s.n]
def Sp.at (s:Sp) (j:Nat):Int:=if j < s.h then (s.a+j)%4294967296 else (s.b+((j:Int) - s.h))%4294967296
structure Sp.Ok (s:Sp):Prop where
 a0:0≤s.a
 a1:s.a < 4294967296
 b0:0≤s.b
 b1:s.b < 4294967296
 h0:1≤s.h
 h1:s.h≤s.n
 n1:s.n=1∨s.n=2∨s.n=4
def Mem.spB (M:Mem) (s:Sp) (j:Nat):Int:=if j < s.n then M.rd (s.at j) else 0
def Mem.rdS (M:Mem) (s:Sp):Int:=M.spB s 0+M.spB s 1*256+M.spB s 2*65536+M.spB s 3*16777216
def Mem.wrK (M:Mem) (s:Sp) (v:Int):Nat→Mem
 | 0=>M
 | k+1=>(M.wrK s v k).put false (s.at k) ((bytesV v).getD k 0)
def Mem.wrS (M:Mem) (s:Sp) (v:Int):Mem:=M.wrK s v s.n
structure Qy where
 f:Option Ft
 m:Mem
 s:Sp
def ahd (l:Int) (n:Nat):Nat:=min n (4096 - (l%4096).toNat)
def nxt (l:Int) (n:Nat):Int:=(l+ahd l n)%4294967296
def plF (M:Mem) (c l:Int) (wr us wp:Bool):Int:=fFr M c l+l%4096
def findQ (M:Mem) (pg:Bool) (c l:Int) (n:Nat) (wr us wp:Bool):Qy:=
 if pg=false then ⟨none,M,⟨l,0,n,n⟩⟩
 else if fOk M c l wr us wp=false then ⟨some ⟨14,fCode M c l wr us wp,l⟩,M,⟨0,0,0,0⟩⟩
 else if n≤ahd l n then ⟨none,fMem M c l wr us wp,⟨plF M c l wr us wp,0,ahd l n,n⟩⟩
 else if fOk (fMem M c l wr us wp) c (nxt l n) wr us wp=false then ⟨some ⟨14,fCode (fMem M c l wr us wp) c (nxt l n) wr us wp,nxt l n⟩,fMem M c l wr us wp,⟨0,0,0,0⟩⟩
 else ⟨none,fMem (fMem M c l wr us wp) c (nxt l n) wr us wp,⟨plF M c l wr us wp,plF (fMem M c l wr us wp) c (nxt l n) wr us wp,ahd l n,n⟩⟩
def vecB (k:Int):Int:=if k=2 then 12 else 13
def linB (b off:Int):Int:=(b+off)%4294967296
def segQ (M:Mem) (c:Cp) (k off z:Int) (wr:Bool):Qy:=
 if okS z=false∨k < 0∨6≤k then ⟨some (ftV 13),M,⟨0,0,0,0⟩⟩
 else if (c.seg k.toNat).nl=true∨Sg.reachB (c.seg k.toNat).l (c.seg k.toNat).t (c.seg k.toNat).s (c.seg k.toNat).p (c.seg k.toNat).g off z wr=false then ⟨some (ftV (vecB k)),M,⟨0,0,0,0⟩⟩
 else findQ M c.pg c.cr3 (linB (c.seg k.toNat).b off) z.toNat wr c.us c.wp
def sysQ (M:Mem) (c:Cp) (l z:Int) (wr:Bool):Qy:=
 if okS z=false then ⟨some (ftV 13),M,⟨0,0,0,0⟩⟩
 else findQ M c.pg c.cr3 l z.toNat wr false c.wp
def Qy.val (q:Qy):Int:=match q.f with | some _=>0 | none=>q.m.rdS q.s
def Qy.ft (q:Qy):Ft:=match q.f with | some f=>f | none=>noFt
def Qy.put (q:Qy) (v:Int):Mem:=match q.f with | some _=>q.m | none=>q.m.wrS q.s v
end Go.Proofs.YtacgmoikegcopaaGreatDoor.Rm
namespace Go.Proofs.YtacgmoikegcopaaGreatDoor.Sg
open Go.RowKit
set_option linter.unusedVariables false
set_option maxRecDepth 20000
theorem nat_hi (n m k:Nat):n &&& (2 ^ k*m)=2 ^ k*(n / 2 ^ k &&& m):=by
 have h1:(n &&& (2 ^ k*m)) / 2 ^ k=n / 2 ^ k &&& m:=by
  rw [Nat.and_div_two_pow,Nat.mul_div_cancel_left _ (Nat.two_pow_pos k)]
 have h2:(n &&& (2 ^ k*m))%2 ^ k=0:=by
  rw [Nat.and_mod_two_pow,Nat.mul_mod_right]
  simp
 have:=Nat.div_add_mod (n &&& (2 ^ k*m)) (2 ^ k)
 rw [h1,h2] at this
 omega
theorem nat_or_at (a b k:Nat) (h:a < 2 ^ k):a ||| (2 ^ k*b)=a+2 ^ k*b:=by
 have:=Nat.two_pow_add_eq_or_of_lt h b
 rw [Nat.or_comm,← this]
 omega
theorem and_low {x:Int} (x0:0≤x) (x1:x < 4294967296) (m:Int) (k:Nat) (hm:m=((2 ^ k - 1:Nat):Int)) (hm1:m < 4294967296):bits .and .u32 x m=x%((2 ^ k:Nat):Int):=by
 subst hm
 rw [u32_and x _ x0 x1 (by omega) hm1]
 have:=Nat.and_two_pow_sub_one_eq_mod x.toNat k
 rw [Int.toNat_natCast,this]
 obtain ⟨n,rfl⟩:=Int.eq_ofNat_of_zero_le x0
 rfl
theorem and_hi {x:Int} (x0:0≤x) (x1:x < 4294967296) (c:Int) (k j:Nat) (hc:c=((2 ^ k*(2 ^ j - 1):Nat):Int)) (hc1:c < 4294967296):bits .and .u32 x c=x / ((2 ^ k:Nat):Int)%((2 ^ j:Nat):Int)*((2 ^ k:Nat):Int):=by
 subst hc
 rw [u32_and x _ x0 x1 (by omega) hc1,Int.toNat_natCast,nat_hi,Nat.and_two_pow_sub_one_eq_mod]
 obtain ⟨n,rfl⟩:=Int.eq_ofNat_of_zero_le x0
 rw [Int.toNat_natCast,Nat.mul_comm]
 rfl
theorem or_at {a b:Int} (a0:0≤a) (b0:0≤b) (P:Int) (k:Nat) (hP:P=((2 ^ k:Nat):Int)) (ha:a < P) (h1:a+b*P < 4294967296):bits .or .u32 a (b*P)=a+b*P:=by
 obtain ⟨m,rfl⟩:=Int.eq_ofNat_of_zero_le a0
 obtain ⟨n,rfl⟩:=Int.eq_ofNat_of_zero_le b0
 subst hP
 have e:(n:Int)*((2 ^ k:Nat):Int)=((2 ^ k*n:Nat):Int):=by rw [Nat.mul_comm];rfl
 rw [e] at h1 ⊢
 rw [u32_or _ _ (by omega) (by omega) (by omega) (by omega),Int.toNat_natCast,Int.toNat_natCast,nat_or_at m n k (by omega)]
 omega
def bitP (x P:Int):Bool:=decide (x / P%2=1)
def baseB (lo hi:Int):Int:=lo / 65536+hi%256*65536+hi / 16777216*16777216
def limS (lo hi:Int):Int:=lo%65536+hi / 65536%16*65536
def limB (lo hi:Int):Int:=if bitP hi 8388608 then limS lo hi*4096+4095 else limS lo hi
def typB (hi:Int):Int:=hi / 256%16
def dplB (hi:Int):Int:=hi / 8192%4
theorem limS_bd (lo hi:Int):0≤limS lo hi∧limS lo hi < 1048576:=by unfold limS;omega
theorem baseB_bd {lo hi:Int} (l0:0≤lo) (l1:lo < 4294967296) (h0:0≤hi) (h1:hi < 4294967296):0≤baseB lo hi∧baseB lo hi < 4294967296:=by unfold baseB;omega
theorem word_page (lo hi:Int):bits .or .u32 (limS lo hi*4096) 4095=limS lo hi*4096+4095:=by
 have:=limS_bd lo hi
 have h:=or_at (a:=4095) (b:=limS lo hi) (by omega) this.1 4096 12 (by decide) (by decide) (by omega)
 have c:bits .or .u32 (limS lo hi*4096) 4095=bits .or .u32 4095 (limS lo hi*4096):=by
  rw [u32_or _ _ (by omega) (by omega) (by decide) (by decide),u32_or _ _ (by decide) (by decide) (by omega) (by omega),Nat.or_comm]
 rw [c,h]
 omega
section
variable {lo hi:Int} (l0:0≤lo) (l1:lo < 4294967296) (h0:0≤hi) (h1:hi < 4294967296)
include l0 l1 h0 h1
theorem word_lim:bits .or .u32 (bits .and .u32 lo 65535) (bits .and .u32 hi 983040)=limS lo hi:=by
 have e1:bits .and .u32 lo 65535=lo%65536:=and_low l0 l1 65535 16 (by decide) (by decide)
 have e2:bits .and .u32 hi 983040=hi / 65536%16*65536:=and_hi h0 h1 983040 16 4 (by decide) (by decide)
 rw [e1,e2]
 exact or_at (by omega) (by omega) 65536 16 (by decide) (by omega) (by omega)
theorem word_base:bits .or .u32 (bits .or .u32 (lo / 65536) (bits .and .u32 hi 255*65536%4294967296)) (bits .and .u32 hi 4278190080)=baseB lo hi:=by
 have e1:bits .and .u32 hi 255=hi%256:=and_low h0 h1 255 8 (by decide) (by decide)
 have e2:bits .and .u32 hi 4278190080=hi / 16777216%256*16777216:=and_hi h0 h1 4278190080 24 8 (by decide) (by decide)
 have e3:hi / 16777216%256=hi / 16777216:=by omega
 rw [e1,e2,e3]
 have e4:hi%256*65536%4294967296=hi%256*65536:=by omega
 rw [e4,or_at (a:=lo / 65536) (b:=hi%256) (by omega) (by omega) 65536 16 (by decide) (by omega) (by omega),or_at (by omega) (by omega) 16777216 24 (by decide) (by omega) (by omega)]
 rfl
end
theorem word_typ {hi:Int} (h0:0≤hi) (h1:hi < 4294967296):bits .and .u32 (hi / 256) 15=typB hi:=and_low (by omega) (by omega) 15 4 (by decide) (by decide)
theorem word_dpl {hi:Int} (h0:0≤hi) (h1:hi < 4294967296):bits .and .u32 (hi / 8192) 3=dplB hi:=and_low (by omega) (by omega) 3 2 (by decide) (by decide)
theorem bit_and {x:Int} (x0:0≤x) (x1:x < 4294967296) (P:Int) (p0:0 < P):(bits .and .u32 (x / P) 1==1)=bitP x P:=by
 have b0:0≤x / P:=Int.ediv_nonneg x0 (by omega)
 have b1:x / P≤x:=Int.ediv_le_self _ x0
 rw [and_low b0 (by omega) 1 1 (by decide) (by decide)]
 unfold bitP
 rw [show ((2 ^ 1:Nat):Int)=2 from rfl]
 by_cases h:x / P%2=1<;>simp [h]
theorem typB_bd (hi:Int):0≤typB hi∧typB hi < 16:=by unfold typB;omega
theorem dplB_bd (hi:Int):0≤dplB hi∧dplB hi < 4:=by unfold dplB;omega
theorem limB_bd (lo hi:Int):0≤limB lo hi∧limB lo hi < 4294967296:=by
 have:=limS_bd lo hi
 unfold limB
 split<;>omega
end Go.Proofs.YtacgmoikegcopaaGreatDoor.Sg
namespace Go.Proofs.YtacgmoikegcopaaGreatDoor.Rm
open Go.ChangeShapes Go.WideShapes Go.ChangeAt Go.RowKit Go.Maps
set_option linter.unusedVariables false
set_option maxRecDepth 20000
structure Cu where
 r:Nat→Int
 ip:Int
 fl:Int
 sg:Nat→SgR
 z0:Int
 z2:Int
 z3:Int
 gb:Int
 gl:Int
 ib:Int
 il:Int
 tr:SgR
 sh:Bool
 ha:Bool
 de:Bool
def Cu.cp (x:Cu):Cp:=⟨x.sg,x.z0,x.z3⟩
def Cu.rg (x:Cu):Int:=(x.sg 1).sel%4
def U32 (v:Int):Prop:=0≤v∧v < 4294967296
def U16 (v:Int):Prop:=0≤v∧v < 65536
def I64 (v:Int):Prop:=-9223372036854775808≤v∧v < 9223372036854775808
structure SgR.Wf (s:SgR):Prop where
 ok:s.Ok
 d:I64 s.d
structure Cu.Bd (x:Cu):Prop where
 r:∀ i,i < 8→U32 (x.r i)
 ip:U32 x.ip
 fl:U32 x.fl
 sg:∀ i,i < 6→(x.sg i).Wf
 z0:U32 x.z0
 z2:U32 x.z2
 z3:U32 x.z3
 gb:U32 x.gb
 gl:U16 x.gl
 ib:U32 x.ib
 il:U16 x.il
 tr:x.tr.Wf
structure Cu.Ok (x:Cu):Prop extends Cu.Bd x where
 np:x.cp.pg=false
theorem Cu.Ok.cp {x:Cu} (h:x.Ok):x.cp.Ok:=⟨fun i hi=>(h.sg i hi).ok,h.z0.1,h.z0.2,h.z3.1,h.z3.2,h.np⟩
def Cu.setR (x:Cu) (i:Nat) (v:Int):Cu:={ x with r:=fun j=>if j=i then v else x.r j }
def Cu.setS (x:Cu) (i:Nat) (s:SgR):Cu:={ x with sg:=fun j=>if j=i then s else x.sg j }
theorem Cu.Ok.setR {x:Cu} (h:x.Ok) (i:Nat) {v:Int} (hv:U32 v):(x.setR i v).Ok:=
 { h with r:=fun j hj=>by unfold Cu.setR;dsimp only;split;exact hv;exact h.r j hj }
theorem Cu.Ok.setS {x:Cu} (h:x.Ok) (i:Nat) {s:SgR} (hs:s.Wf):(x.setS i s).Ok:=
 { h with sg:=fun j hj=>by unfold Cu.setS;dsimp only;split;exact hs;exact h.sg j hj }
structure Dsc where
 b:Int
 l:Int
 t:Int
 s:Bool
 d:Int
 p:Bool
 g:Bool
def Dsc.val (d:Dsc):Value:=.agg #[.int .u32 d.b,.int .u32 d.l,.int .i64 d.t,.bool d.s,.int .i64 d.d,.bool d.p,.bool d.g]
structure Dsc.Ok (d:Dsc):Prop where
 b:U32 d.b
 l:U32 d.l
 t:0≤d.t∧d.t < 16
 d:0≤d.d∧d.d < 4
def parseD (lo hi:Int):Dsc:=⟨Sg.baseB lo hi,Sg.limB lo hi,Sg.typB hi,!Sg.bitP hi 4096,Sg.dplB hi,Sg.bitP hi 32768,Sg.bitP hi 4194304⟩
theorem parseD_ok {lo hi:Int} (hl:U32 lo) (hh:U32 hi):(parseD lo hi).Ok where
 b:=Sg.baseB_bd hl.1 hl.2 hh.1 hh.2
 l:=by
  have:=Sg.limS_bd lo hi
  unfold parseD Sg.limB U32
  dsimp only
  split<;>omega
 t:=by unfold parseD Sg.typB;dsimp only;omega
 d:=by unfold parseD Sg.dplB;dsimp only;omega
def Dsc.sg (d:Dsc) (sel:Int):SgR:=⟨sel,false,d.b,d.l,d.t,d.s,d.d,d.p,d.g⟩
theorem Dsc.Ok.sg {d:Dsc} (h:d.Ok) {sel:Int} (hs:U16 sel):(d.sg sel).Wf where
 ok:=⟨hs.1,hs.2,h.b.1,h.b.2,h.l.1,h.l.2,by have:=h.t;unfold Dsc.sg;dsimp only;omega,by have:=h.t;unfold Dsc.sg;dsimp only;omega⟩
 d:=by have:=h.d;unfold Dsc.sg I64;dsimp only;omega
structure Ou (α:Type) where
 m:Mem
 r:Ft ⊕ α
def Ou.bind {α β:Type} (o:Ou α) (f:Mem→α→Ou β):Ou β:=match o.r with | .inl e=>⟨o.m,.inl e⟩ | .inr a=>f o.m a
def Ou.no {α:Type} (M:Mem) (v c:Int):Ou α:=⟨M,.inl ⟨v,c,0⟩⟩
def Ou.ok {α:Type} (M:Mem) (a:α):Ou α:=⟨M,.inr a⟩
def Qy.ou (q:Qy):Ou Int:=⟨q.m,match q.f with | some f=>.inl f | none=>.inr q.val⟩
def sysO (M:Mem) (c:Cp) (l z:Int):Ou Int:=(sysQ M c l z false).ou
def lodO (M:Mem) (c:Cp) (off z:Int):Ou Int:=(segQ M c 2 off z false).ou
def stoO (M:Mem) (c:Cp) (off v:Int):Ou Unit:=⟨(segQ M c 2 off 4 true).put v,match (segQ M c 2 off 4 true).f with | some f=>.inl f | none=>.inr ()⟩
def cdO (s:Int):Int:=s - s%4
def farS (s gl:Int):Bool:=decide (s / 4%2=1)||decide (gl < s - s%8+7)
def a32 (x y:Int):Int:=(x+y)%4294967296
def findO (M:Mem) (x:Cu) (s:Int):Ou Dsc:=
 if farS s x.gl then .no M 13 (cdO s)
 else (sysO M x.cp (a32 x.gb (s - s%8)) 4).bind fun M lo=>(sysO M x.cp (a32 (a32 x.gb (s - s%8)) 4) 4).bind fun M hi=>.ok M (parseD lo hi)
def tfindO (M:Mem) (x:Cu) (s v c:Int):Ou Dsc:=
 if cdO s=0∨farS s x.gl=true then .no M v c else findO M x s
structure Gt where
 s:Int
 pl:Int
 k:Int
 r:Int
 p:Bool
def Gt.val (g:Gt):Value:=.agg #[.int .u16 g.s,.int .u32 g.pl,.int .i64 g.k,.int .i64 g.r,.bool g.p]
structure Gt.Ok (g:Gt):Prop where
 s:U16 g.s
 pl:U32 g.pl
def plG (lo hi:Int):Int:=bits .or .u32 (bits .and .u32 hi 4294901760) (bits .and .u32 lo 65535)
def gateD (lo hi:Int):Gt:=⟨lo / 65536,plG lo hi,hi / 256%32,hi / 8192%4,decide (hi / 32768%2=1)⟩
def badG (g:Gt) (so:Bool) (ring:Int):Bool:=decide (g.k≠14∧g.k≠15)||(so&&decide (g.r < ring))
def gateO (M:Mem) (x:Cu) (v:Int) (so:Bool) (c:Int):Ou Gt:=
 if x.il < 8*v+7 then .no M 13 c
 else (sysO M x.cp (a32 x.ib (8*v)) 4).bind fun M lo=>(sysO M x.cp (a32 (a32 x.ib (8*v)) 4) 4).bind fun M hi=>
  if badG (gateD lo hi) so x.rg then .no M 13 c
  else if (gateD lo hi).p=false then .no M 11 c
  else .ok M (gateD lo hi)
def handO (M:Mem) (x:Cu) (g:Gt) (o:Int):Ou Dsc:=
 (tfindO M x g.s 13 (cdO g.s+o)).bind fun M d=>
  if 0≤Sg.codeB d.t d.d d.s d.p d.g 0 (min d.d x.rg) then .no M (Sg.codeB d.t d.d d.s d.p d.g 0 (min d.d x.rg)) (cdO g.s+o)
  else if d.l < g.pl then .no M 13 o
  else .ok M d
def stackO (M:Mem) (x:Cu) (s r v c:Int):Ou SgR:=
 (tfindO M x s v c).bind fun M d=>
  if Sg.fitB 2 d.t d.d d.s d.p (s%4) r=13 then .no M v c
  else if Sg.fitB 2 d.t d.d d.s d.p (s%4) r=12 then .no M 12 c
  else .ok M (d.sg s)
def takeO (M:Mem) (x:Cu) (n:Cu) (r o:Int):Ou Cu:=
 if x.tr.l < 4+8*r+7 then .no M 10 (cdO x.tr.sel+o)
 else (sysO M x.cp (a32 x.tr.b (4+8*r)) 4).bind fun M sp=>(sysO M x.cp (a32 (a32 x.tr.b (4+8*r)) 4) 2).bind fun M s=>
  (stackO M x (s%65536) r 10 (cdO (s%65536)+o)).bind fun M g=>.ok M ((n.setS 2 g).setR 4 sp)
def pushO (M:Mem) (n:Cu) (v:Int):Ou Cu:=(stoO M n.cp (a32 (n.r 4) (-4)) v).bind fun M _=>.ok M (n.setR 4 (a32 (n.r 4) (-4)))
def pushesO (M:Mem) (n:Cu):List Int→Ou Cu
 | []=>.ok M n
 | v::l=>(pushO M n v).bind fun M n=>pushesO M n l
def wordsO (x:Cu) (inr:Bool) (c:Int):List Int:=
 (if inr then [(x.sg 2).sel,x.r 4] else [])++[x.fl,(x.sg 1).sel,x.ip]++(if 0≤c then [c%4294967296] else [])
def outX (so:Bool):Int:=if so then 0 else 1
def innB (x:Cu) (d:Dsc):Bool:=decide (d.t / 4%2=0)&&decide (d.d < x.rg)
def rgN (x:Cu) (d:Dsc):Int:=if innB x d then d.d else x.rg
def flD (k fl:Int):Int:=if k=14 then bits .andNot .u32 (bits .andNot .u32 fl 16640) 512 else bits .andNot .u32 fl 16640
def endD (x n:Cu) (g:Gt):Cu:={ n with ip:=g.pl,fl:=flD g.k n.fl,sh:=false,ha:=false }
def toCs (n:Cu) (g:Gt) (d:Dsc) (r:Int):Cu:=n.setS 1 (d.sg (cdO g.s+r))
def enterO (M:Mem) (x:Cu) (v c:Int) (so:Bool):Ou Cu:=
 if v < 0∨256≤v then .no M 13 0
 else (gateO M x v so (8*v+2+outX so)).bind fun M g=>(handO M x g (outX so)).bind fun M d=>
  (if innB x d then takeO M x x d.d (outX so) else .ok M x).bind fun M n=>
   (pushesO M (toCs n g d (rgN x d)) (wordsO x (innB x d) c)).bind fun M n=>.ok M (endD x n g)
structure Ent where
 fr:Int
 p:Int
 q:Int
 bw:Bool
 bu:Bool
 o:Int
 t:Int
 tn:Int
def Good (a b:Int) (e:Ent):Prop:=
 (0≤e.o∧e.o < 4294967296∧0≤e.t∧e.t < 4294967296)∧(hasF e.o 1=true∧hasF e.t 1=true)∧e.p=pdeA a b∧e.q=pteA e.o b∧e.fr=e.t - e.t%4096∧e.bw=(hasF e.o 2&&hasF e.t 2)∧e.bu=(hasF e.o 4&&hasF e.t 4)
def Lik (n m:Int):Prop:=(0≤m∧m < 4294967296)∧n - n%4096=m - m%4096∧n%8=m%8
theorem Lik.trans {a b c:Int} (h:Lik a b) (k:Lik b c):Lik a c:=⟨k.1,h.2.1.trans k.2.1,h.2.2.trans k.2.2⟩
theorem tlLaid:laidOutB Tryz.prog=true:=by kernel_rfl
theorem tlKeyed:Keyed Tryz.prog 351:=Keyed.of_law (deep_law_laid (m:=5) tlLaid (by decide) (of_decide_eq_true (by kernel_rfl)) (by kernel_rfl) (by kernel_rfl))
theorem keptT:Tryz.prog.underlying 210=some (.map 351 355):=by kernel_rfl
def keyV (a b:Int):Value:=.agg #[.int .u32 a,.int .u32 b]
def kl (a b:Int):Lit:=.string (keyBytes [.int .u32 a,.int .u32 b])
theorem key_size:Tryz.prog.cellsOf 351=2:=by kernel_rfl
theorem key_one:Tryz.prog.cellsOf 22=1:=by kernel_rfl
theorem key_type:Tryz.prog.keyType 351=true:=by kernel_rfl
theorem key_depth:∃ d,Tryz.prog.types.size+1=d+1+1:=⟨Tryz.prog.types.size - 1,by have:0 < Tryz.prog.types.size:=of_decide_eq_true (by kernel_rfl);omega⟩
theorem wf32 {x:Int} (h0:0≤x) (h1:x < 4294967296):(Lit.int .u32 x).wf=true:=WalkArith.wf_u32 ⟨h0,by omega⟩
theorem keyK {a b:Int} (a0:0≤a) (a1:a < 4294967296) (b0:0≤b) (b1:b < 4294967296):keyOf Tryz.prog 351 (keyV a b)=some (kl a b):=by
 obtain ⟨d,hd⟩:=key_depth
 have h1:=wf32 a0 a1
 have h2:=wf32 b0 b1
 unfold keyOf keyV kl
 rw [Tryz.underlying351,hd]
 simp [Value.formed,Tryz.underlying351,Tryz.underlying22,key_size,key_one,key_type,Value.cells,Program.keyLits,h1,h2]
theorem kl_inj {a b c d:Int} (ha:0≤a∧a < 4294967296∧0≤b∧b < 4294967296) (hc:0≤c∧c < 4294967296∧0≤d∧d < 4294967296) (h:kl a b=kl c d):a=c∧b=d:=by
 have e:=tlKeyed.inj (keyK ha.1 ha.2.1 ha.2.2.1 ha.2.2.2) (by rw [h];exact keyK hc.1 hc.2.1 hc.2.2.1 hc.2.2.2)
 unfold keyV at e
 simp at e
 exact e
theorem kl_key (a b:Int):WideAt.IsKeyLit (kl a b):=trivial
def Ent.val (e:Ent):Value:=.agg #[.int .u32 e.fr,.int .u32 e.p,.int .u32 e.q,.bool e.bw,.bool e.bu,.int .u32 e.o,.int .u32 e.t,.int .u64 e.tn]
def Ent.dat (e:Ent):DataW Unit:=.agg [.lit (.int .u32 e.fr),.lit (.int .u32 e.p),.lit (.int .u32 e.q),.lit (.bool e.bw),.lit (.bool e.bu),.lit (.int .u32 e.o),.lit (.int .u32 e.t),.lit (.int .u64 e.tn)]
def entElem:Value→Option (DataW Unit × List MemPlace)
 | .agg ⟨[.int .u32 fr,.int .u32 p,.int .u32 q,.bool bw,.bool bu,.int .u32 o,.int .u32 t,.int .u64 tn]⟩=>some (Ent.dat ⟨fr,p,q,bw,bu,o,t,tn⟩,[])
 | _=>none
structure Tidied (D:DataW Unit) (pl tn:Nat):Prop where
 size:Maps.size D≤pl
 good:∀ a b:Int,Maps.has D (kl a b)=true→(0≤a∧a < 4294967296∧0≤b∧b < 4294967296)→∃ e:Ent,(∀ z,D.atKey (kl a b) z=e.dat)∧Good a b e∧0≤e.tn∧e.tn≤tn
theorem Tidied.empty (pl tn:Nat):Tidied (.map []) pl tn:=⟨Nat.zero_le _,fun a b h=>by cases h⟩
theorem Tidied.del {D:DataW Unit} {pl tn:Nat} (h:Tidied D pl tn) (hT:Tidy D) (k:Lit):Tidied (D.del k) pl tn:=by
 have hs:=size_del (k:=k) hT
 have hs':=h.size
 refine ⟨by omega,fun a b hh hb=>?_⟩
 have hne:kl a b≠k:=fun e=>by
  rw [e,has_del_same] at hh
  cases hh
 rw [has_del_other hne] at hh
 obtain ⟨e,h1,h2⟩:=h.good a b hh hb
 exact ⟨e,fun z=>by rw [atKey_del_other hne];exact h1 z,h2⟩
theorem Tidied.put {D:DataW Unit} {pl tn:Nat} (h:Tidied D pl tn) (hT:Tidy D) {a b:Int} (ha:0≤a∧a < 4294967296∧0≤b∧b < 4294967296) {e:Ent} (g:Good a b e) (t0:0≤e.tn) (t1:e.tn≤tn) (hs:Maps.has D (kl a b)=true∨Maps.size D < pl):Tidied (D.put (kl a b) e.dat) pl tn:=by
 have hz:=size_put (k:=kl a b) hT e.dat
 have hs':=h.size
 refine ⟨?_,fun c d hh hb=>?_⟩
 ·rw [hz]
  rcases hs with f | f
  ·rw [if_pos f];exact hs'
  ·split<;>omega
 ·by_cases hne:kl c d=kl a b
  ·obtain ⟨rfl,rfl⟩:=kl_inj hb ha hne
   exact ⟨e,fun z=>atKey_put_same hT.isMap (kl_key _ _) _ _,g,t0,t1⟩
  ·rw [has_put_other hne] at hh
   obtain ⟨e',h1,h2⟩:=h.good c d hh hb
   exact ⟨e',fun z=>by rw [atKey_put_other hne];exact h1 z,h2⟩
structure TlbD (w:World) (K B pl tn:Nat) (D:DataW Unit):Prop where
 c:w.heap[K+1]?=some (.cells #[.pointer (some ⟨B+3,0,none⟩),.int .i64 pl,.map (some K),.int .u64 tn] 212 (0,0))
 m:w.ownsMap Tryz.prog 351 entElem K 65 D
 g:Tidied D pl tn
 lim:pl≤64
def inTlb (K k:Nat):Prop:=k=K∨k=K+1
theorem TlbD.kept {w w':World} {K B pl tn:Nat} {D:DataW Unit} (h:TlbD w K B pl tn D) (e:∀ k,inTlb K k→w'.heap[k]?=w.heap[k]?):TlbD w' K B pl tn D:=
 ⟨(e _ (.inr rfl)).trans h.c,owns_at h.m (e _ (.inl rfl)),h.g,h.lim⟩
theorem TlbD.lt {w:World} {K B pl tn:Nat} {D:DataW Unit} (h:TlbD w K B pl tn D):K+1 < w.heap.size:=(Array.getElem?_eq_some_iff.1 h.c).1
theorem TlbD.kp {S:Nat→Prop} {w w':World} {K B pl tn:Nat} {D:DataW Unit} (h:TlbD w K B pl tn D) (k:Kp S w w') (hS:∀ k,inTlb K k→¬ S k):TlbD w' K B pl tn D:=
 h.kept fun i hi=>k.block i (by have:=h.lt;rcases hi with e | e<;>omega) (hS i hi)
theorem TlbD.tidy {w:World} {K B pl tn:Nat} {D:DataW Unit} (h:TlbD w K B pl tn D):Tidy D:=h.m.tidy tlKeyed
theorem TlbD.turned {w w':World} {K B pl tn:Nat} {D D':DataW Unit} (h:TlbD w K B pl tn D) (ht:w.mapTurned w' K) (ho:w'.ownsMap Tryz.prog 351 entElem K 65 D') (g:Tidied D' pl tn):TlbD w' K B pl tn D':=
 ⟨((Kp.turned (S:=fun j=>j=K) ht rfl).block (K+1) h.lt (by omega)).trans h.c,ho,g,h.lim⟩
theorem TlbD.drop {w:World} {K B pl tn:Nat} {D:DataW Unit} (h:TlbD w K B pl tn D) {a b:Int} (ha:0≤a∧a < 4294967296∧0≤b∧b < 4294967296) (ty:TypeId):
  ∃ w',(Builtin.delete_ #[210,351] ty #[.map (some K),keyV a b]).run Tryz.prog w=.ok (.tuple #[]) w'∧TlbD w' K B pl tn (D.del (kl a b))∧Kp (fun j=>j=K) w w':=by
 obtain ⟨w',hrun,hown,ht⟩:=h.m.drop tlKeyed keptT (keyK ha.1 ha.2.1 ha.2.2.1 ha.2.2.2) ty
 exact ⟨w',hrun,h.turned ht hown (h.g.del h.tidy _),Kp.turned ht rfl⟩
def Col (w:World) (blk n:Nat) (ty:TypeId) (f:Nat→Value):Prop:=∃ cs,w.heap[blk]?=some (.cells cs ty (0,0))∧cs.size=n∧∀ j,j < n→cs[j]?=some (f j)
theorem Col.cell {w:World} {blk n:Nat} {ty:TypeId} {f:Nat→Value} (h:Col w blk n ty f) {j:Nat} (hj:j < n):w.cell? ⟨blk,j,none⟩=some (f j):=by
 obtain ⟨cs,h1,_,h3⟩:=h
 rw [cell_at h1];exact h3 j hj
theorem Col.frozen {w:World} {blk n:Nat} {ty:TypeId} {f:Nat→Value} (h:Col w blk n ty f) (j:Nat):w.frozen? ⟨blk,j,none⟩=false:=by
 obtain ⟨cs,h1,_⟩:=h
 exact frozen_at h1
theorem Col.lt {w:World} {blk n:Nat} {ty:TypeId} {f:Nat→Value} (h:Col w blk n ty f):blk < w.heap.size:=by
 obtain ⟨cs,h1,_⟩:=h
 exact (Array.getElem?_eq_some_iff.1 h1).1
theorem Col.heap {w w':World} {blk n:Nat} {ty:TypeId} {f:Nat→Value} (h:Col w blk n ty f) (e:w'.heap[blk]?=w.heap[blk]?):Col w' blk n ty f:=by
 obtain ⟨cs,h1,h2⟩:=h
 exact ⟨cs,e.trans h1,h2⟩
theorem Col.as {w:World} {blk n:Nat} {ty:TypeId} {f g:Nat→Value} (h:Col w blk n ty f) (e:∀ j,j < n→f j=g j):Col w blk n ty g:=by
 obtain ⟨cs,h1,h2,h3⟩:=h
 exact ⟨cs,h1,h2,fun j hj=>by rw [← e j hj];exact h3 j hj⟩
theorem Col.set {w:World} {blk n:Nat} {ty:TypeId} {f:Nat→Value} (h:Col w blk n ty f) {i:Nat} (hi:i < n) (v:Value):Col (w.setCell ⟨blk,i,none⟩ v) blk n ty (fun j=>if j=i then v else f j):=by
 obtain ⟨cs,h1,h2,h3⟩:=h
 refine ⟨cs.setIfInBounds i v,heap_setCell_at h1 _,by simpa using h2,fun j hj=>?_⟩
 rw [Array.getElem?_setIfInBounds]
 by_cases e:i=j
 ·subst e
  rw [if_pos rfl,if_pos (by omega)]
  simp
 ·have e':¬ j=i:=fun k=>e k.symm
  rw [if_neg e,h3 j hj]
  simp [e']
theorem heap_set_other {w:World} {blk i k:Nat} {v:Value} (h:k≠blk):(w.setCell ⟨blk,i,none⟩ v).heap[k]?=w.heap[k]?:=by
 by_cases hk:k < w.heap.size
 ·exact (Kp.setCell (S:=fun j=>j=blk) w (p:=⟨blk,i,none⟩) rfl v).block k hk h
 ·have e:(w.setCell ⟨blk,i,none⟩ v).heap.size=w.heap.size:=by simp [World.setCell]
  rw [Array.getElem?_eq_none (by omega),Array.getElem?_eq_none (by omega)]
structure Rf where
 r:Nat
 b:Nat
 o:Nat
 t:Nat
 q:Nat
def Rf.has (R:Rf) (k:Nat):Prop:=k=R.r∨k=R.b∨k=R.o∨k=R.t∨k=R.q
structure Rf.apart (R:Rf):Prop where
 rb:R.r≠R.b
 ro:R.r≠R.o
 rt:R.r≠R.t
 rq:R.r≠R.q
 bo:R.b≠R.o
 bt:R.b≠R.t
 bq:R.b≠R.q
 ot:R.o≠R.t
 oq:R.o≠R.q
 tq:R.t≠R.q
structure RefAt (w:World) (R:Rf) (M:Mem):Prop where
 le:M.n≤256
 ap:R.apart
 st:w.heap[R.r]?=some (.cells #[.slice (some ⟨R.b,0,none⟩) (4096*M.n) (4096*M.n),.slice (some ⟨R.o,0,none⟩) M.n M.n,.slice (some ⟨R.t,0,none⟩) (64*M.n) (64*M.n),.slice (some ⟨R.q,0,none⟩) (64*M.n) (64*M.n),.bool M.closed] 143 (0,0))
 cb:Col w R.b (4096*M.n) 5 (fun j=>.int .u8 (M.byte j))
 co:Col w R.o M.n 4 (fun j=>.bool (M.only j))
 ct:Col w R.t (64*M.n) 4 (fun j=>.bool (M.wt (64*j)))
 cq:Col w R.q (64*M.n) 4 (fun j=>.bool (M.nt (64*j)))
theorem RefAt.kept {w w':World} {R:Rf} {M:Mem} (h:RefAt w R M) (e:∀ k,R.has k→w'.heap[k]?=w.heap[k]?):RefAt w' R M where
 le:=h.le
 ap:=h.ap
 st:=(e _ (.inl rfl)).trans h.st
 cb:=h.cb.heap (e _ (.inr (.inl rfl)))
 co:=h.co.heap (e _ (.inr (.inr (.inl rfl))))
 ct:=h.ct.heap (e _ (.inr (.inr (.inr (.inl rfl)))))
 cq:=h.cq.heap (e _ (.inr (.inr (.inr (.inr rfl)))))
theorem RefAt.lt {w:World} {R:Rf} {M:Mem} (h:RefAt w R M) {k:Nat} (hk:R.has k):k < w.heap.size:=by
 rcases hk with rfl | rfl | rfl | rfl | rfl
 ·exact (Array.getElem?_eq_some_iff.1 h.st).1
 ·exact h.cb.lt
 ·exact h.co.lt
 ·exact h.ct.lt
 ·exact h.cq.lt
theorem RefAt.kp {S:Nat→Prop} {w w':World} {R:Rf} {M:Mem} (h:RefAt w R M) (k:Kp S w w') (hS:∀ j,R.has j→¬ S j):RefAt w' R M:=
 h.kept fun i hi=>k.block i (h.lt hi) (hS i hi)
theorem RefAt.c0 {w:World} {R:Rf} {M:Mem} (h:RefAt w R M):w.cell? ⟨R.r,0,none⟩=some (.slice (some ⟨R.b,0,none⟩) (4096*M.n) (4096*M.n)):=by rw [cell_at h.st];rfl
theorem RefAt.c1 {w:World} {R:Rf} {M:Mem} (h:RefAt w R M):w.cell? ⟨R.r,1,none⟩=some (.slice (some ⟨R.o,0,none⟩) M.n M.n):=by rw [cell_at h.st];rfl
theorem RefAt.c2 {w:World} {R:Rf} {M:Mem} (h:RefAt w R M):w.cell? ⟨R.r,2,none⟩=some (.slice (some ⟨R.t,0,none⟩) (64*M.n) (64*M.n)):=by rw [cell_at h.st];rfl
theorem RefAt.c3 {w:World} {R:Rf} {M:Mem} (h:RefAt w R M):w.cell? ⟨R.r,3,none⟩=some (.slice (some ⟨R.q,0,none⟩) (64*M.n) (64*M.n)):=by rw [cell_at h.st];rfl
theorem RefAt.c4 {w:World} {R:Rf} {M:Mem} (h:RefAt w R M):w.cell? ⟨R.r,4,none⟩=some (.bool M.closed):=by rw [cell_at h.st];rfl
theorem RefAt.drewN {w:World} {R:Rf} {M:Mem} (h:RefAt w R M) (n:Nat):RefAt (w.drewN n) R M:=h.kept (fun _ _=>rfl)
set_option maxRecDepth 100000 in
theorem refPlace_any (w:World) (R:Rf) (M:Mem) (h:RefAt w R M) (x:Int) (x0:0≤x) (x1:x < 4294967296):
  Calls Tryz.prog 169 #[.pointer (some ⟨R.r,0,none⟩),.int .u32 x] w fun e w'=>e=.returned (.tuple #[.int .i64 (M.place x),.bool (decide (M.place x < 4096*M.n))])∧Kp noB w w':=by
 have c0:=h.c0
 have c4:=h.c4
 obtain ⟨N,hN⟩:∃ N:Nat,N=4096*M.n:=⟨_,rfl⟩
 have eN:((4096*M.n:Int))=(N:Int):=by omega
 rw [eN]
 rw [← hN] at c0
 clear hN eN
 cases hc:M.closed
 ·have hp:M.place x=x:=by unfold Mem.place;rw [hc];simp
  rw [hp]
  rw [hc] at c4
  go_enter Tryz.func169,Tryz.ntmps169
  go_wp2
  go_region
  all_goals go_wp2
  exact bodyPost_ret (v:=.tuple #[.int .i64 x,.bool (decide (x < (N:Int)))]) (by simp [results,Tryz.results169,go_sem]) rfl ⟨rfl,(Kp.refl _ w).drewN 1⟩
 ·rw [hc] at c4
  by_cases hb:x / 1048576%2=1
  ·have hp:M.place x=x - 1048576:=by unfold Mem.place;rw [if_pos ⟨hc,hb⟩]
   obtain ⟨y,hy⟩:∃ y,x - 1048576=y:=⟨_,rfl⟩
   have y0:0≤y:=by omega
   have y1:y < 4294967296:=by omega
   rw [hp,hy]
   go_enter Tryz.func169,Tryz.ntmps169
   go_wp2
   go_region
   all_goals go_wp2
   exact bodyPost_ret (v:=.tuple #[.int .i64 y,.bool (decide (y < (N:Int)))]) (by simp [results,Tryz.results169,go_sem]) rfl ⟨rfl,(Kp.refl _ w).drewN 1⟩
  ·have hp:M.place x=x:=by unfold Mem.place;rw [if_neg (fun f=>hb f.2)]
   rw [hp]
   have hb':(x / 1048576%2==1)=false:=by simp [hb]
   go_enter Tryz.func169,Tryz.ntmps169
   go_wp2
   go_region
   all_goals go_wp2
   exact bodyPost_ret (v:=.tuple #[.int .i64 x,.bool (decide (x < (N:Int)))]) (by simp [results,Tryz.results169,go_sem]) rfl ⟨rfl,(Kp.refl _ w).drewN 1⟩
def Row4 (W:World) (X:Nat) (a b c d:Int):Prop:=W.heap[X]?=some (.cells #[.int .u32 a,.int .u32 b,.int .u32 c,.int .u32 d] 363 (0,0))
theorem Row4.lt {W:World} {X:Nat} {a b c d:Int} (h:Row4 W X a b c d):X < W.heap.size:=(Array.getElem?_eq_some_iff.1 h).1
theorem Row4.kp {S:Nat→Prop} {W W':World} {X:Nat} {a b c d:Int} (h:Row4 W X a b c d) (k:Kp S W W') (hS:¬ S X):Row4 W' X a b c d:=(k.block X h.lt hS).trans h
theorem has_b (R:Rf):R.has R.b:=.inr (.inl rfl)
theorem has_o (R:Rf):R.has R.o:=.inr (.inr (.inl rfl))
theorem has_t (R:Rf):R.has R.t:=.inr (.inr (.inr (.inl rfl)))
theorem has_q (R:Rf):R.has R.q:=.inr (.inr (.inr (.inr rfl)))
theorem RefAt.byte {w:World} {R:Rf} {M:Mem} (h:RefAt w R M) {i:Nat} (hi:i < 4096*M.n) (v:Int):RefAt (w.setCell ⟨R.b,i,none⟩ (.int .u8 v)) R { M with byte:=fun x=>if x=i then v else M.byte x } where
 le:=h.le
 ap:=h.ap
 st:=(heap_set_other h.ap.rb).trans h.st
 cb:=(h.cb.set hi _).as (fun j hj=>by by_cases e:j=i<;>simp [e])
 co:=h.co.heap (heap_set_other (fun e=>h.ap.bo e.symm))
 ct:=h.ct.heap (heap_set_other (fun e=>h.ap.bt e.symm))
 cq:=h.cq.heap (heap_set_other (fun e=>h.ap.bq e.symm))
theorem RefAt.setOnly {w:World} {R:Rf} {M:Mem} (h:RefAt w R M) {i:Nat} (hi:i < M.n) (b:Bool):RefAt (w.setCell ⟨R.o,i,none⟩ (.bool b)) R { M with only:=fun x=>if x=i then b else M.only x } where
 le:=h.le
 ap:=h.ap
 st:=(heap_set_other h.ap.ro).trans h.st
 cb:=h.cb.heap (heap_set_other h.ap.bo)
 co:=(h.co.set hi _).as (fun j hj=>by by_cases e:j=i<;>simp [e])
 ct:=h.ct.heap (heap_set_other (fun e=>h.ap.ot e.symm))
 cq:=h.cq.heap (heap_set_other (fun e=>h.ap.oq e.symm))
theorem RefAt.setWt {w:World} {R:Rf} {M:Mem} (h:RefAt w R M) {i:Nat} (hi:i < 64*M.n) (b:Bool) (f:Int→Bool) (hf:∀ j:Nat,j < 64*M.n→f (64*j)=if j=i then b else M.wt (64*j)):RefAt (w.setCell ⟨R.t,i,none⟩ (.bool b)) R { M with wt:=f } where
 le:=h.le
 ap:=h.ap
 st:=(heap_set_other h.ap.rt).trans h.st
 cb:=h.cb.heap (heap_set_other h.ap.bt)
 co:=h.co.heap (heap_set_other h.ap.ot)
 ct:=(h.ct.set hi _).as (fun j hj=>by show _=Value.bool (f (64*j));rw [hf j hj];by_cases e:j=i<;>simp [e])
 cq:=h.cq.heap (heap_set_other (fun e=>h.ap.tq e.symm))
theorem RefAt.setNt {w:World} {R:Rf} {M:Mem} (h:RefAt w R M) {i:Nat} (hi:i < 64*M.n) (b:Bool) (f:Int→Bool) (hf:∀ j:Nat,j < 64*M.n→f (64*j)=if j=i then b else M.nt (64*j)):RefAt (w.setCell ⟨R.q,i,none⟩ (.bool b)) R { M with nt:=f } where
 le:=h.le
 ap:=h.ap
 st:=(heap_set_other h.ap.rq).trans h.st
 cb:=h.cb.heap (heap_set_other h.ap.bq)
 co:=h.co.heap (heap_set_other h.ap.oq)
 ct:=h.ct.heap (heap_set_other h.ap.tq)
 cq:=(h.cq.set hi _).as (fun j hj=>by show _=Value.bool (f (64*j));rw [hf j hj];by_cases e:j=i<;>simp [e])
theorem kp_has {w w':World} {R:Rf} {k i:Nat} (h:Kp R.has w w') (hk:R.has k) (v:Value):Kp R.has w (w'.setCell ⟨k,i,none⟩ v):=h.trans (Kp.setCell (S:=R.has) w' (p:=⟨k,i,none⟩) hk v)
theorem kp_no {S:Nat→Prop} {w w':World} (h:Kp noB w w'):Kp S w w':=h.mono (fun _ _ f=>f.elim)
set_option maxRecDepth 100000 in
theorem refRom_ok (w:World) (R:Rf) (M:Mem) (h:RefAt w R M) (i:Nat) (b:Bool) (hi:i < M.n):
  Calls Tryz.prog 54 #[.pointer (some ⟨R.r,0,none⟩),.int .i64 i,.bool b] w fun e w'=>e=.returned (.int .i64 0)∧RefAt w' R { M with only:=fun j=>if j=i then b else M.only j }∧Kp R.has w w':=by
 have c1:=h.c1
 have cc:=h.co.cell hi
 have cf:=h.co.frozen i
 have hlt:(i:Int) < (M.n:Int):=by omega
 have hle:=h.le
 have Rr:=h.setOnly hi b
 have K:=kp_has (i:=i) (Kp.refl _ w) (has_o R) (.bool b)
 obtain ⟨n,hn⟩:∃ n,n=M.n:=⟨_,rfl⟩
 rw [← hn] at c1 hlt hle
 clear hn hi h
 go_enter Tryz.func54,Tryz.ntmps54
 go_wp2
 go_ret
 exact ⟨rfl,Rr,K⟩
set_option maxRecDepth 100000 in
theorem refRom_no (w:World) (R:Rf) (M:Mem) (h:RefAt w R M) (i:Int) (b:Bool) (hi:i < 0∨M.n≤i):
  Calls Tryz.prog 54 #[.pointer (some ⟨R.r,0,none⟩),.int .i64 i,.bool b] w fun e w'=>e=.returned (.int .i64 1)∧w'=w:=by
 have c1:=h.c1
 have hle:=h.le
 obtain ⟨n,hn⟩:∃ n,n=M.n:=⟨_,rfl⟩
 rw [← hn] at c1 hle hi
 clear hn h
 by_cases h0:i < 0
 ·go_enter Tryz.func54,Tryz.ntmps54
  go_wp2
  go_ret
  exact ⟨rfl,rfl⟩
 ·have h1:(n:Int)≤i:=by omega
  go_enter Tryz.func54,Tryz.ntmps54
  go_wp2
  go_ret
  exact ⟨rfl,rfl⟩
theorem RefAt.like {w:World} {R:Rf} {M M':Mem} (h:RefAt w R M) (hn:M'.n=M.n) (hc:M'.closed=M.closed) (hb:∀ j,j < 4096*M.n→M'.byte j=M.byte j) (ho:∀ j,j < M.n→M'.only j=M.only j)
  (hw:∀ j:Nat,j < 64*M.n→M'.wt (64*j)=M.wt (64*j)) (ht:∀ j:Nat,j < 64*M.n→M'.nt (64*j)=M.nt (64*j)):RefAt w R M' where
 le:=by rw [hn];exact h.le
 ap:=h.ap
 st:=by rw [hn,hc];exact h.st
 cb:=by rw [hn];exact h.cb.as (fun j hj=>by rw [hb j hj])
 co:=by rw [hn];exact h.co.as (fun j hj=>by rw [ho j hj])
 ct:=by rw [hn];exact h.ct.as (fun j hj=>by rw [hw j hj])
 cq:=by rw [hn];exact h.cq.as (fun j hj=>by rw [ht j hj])
theorem in_gran (j g:Nat):decide ((64*g:Int)≤64*j∧(64*j:Int) < 64*g+64)=decide (j=g):=decide_eq_decide.2 ⟨fun f=>by omega,fun f=>by omega⟩
def PutPost (w:World) (R:Rf) (M':Mem) (e:Ending) (w':World):Prop:=e=.returned (.tuple #[])∧RefAt w' R M'∧Kp R.has w w'
set_option maxRecDepth 100000 in
set_option maxHeartbeats 1000000 in
theorem refPut_any (w:World) (R:Rf) (M:Mem) (h:RefAt w R M) (x v:Int) (all:Bool) (x0:0≤x) (x1:x < 4294967296):
  Calls Tryz.prog 121 #[.pointer (some ⟨R.r,0,none⟩),.int .u32 x,.int .u8 v,.bool all] w (PutPost w R (M.put all x v)):=by
 have pb:=M.place_bd x0 x1
 have cP:=refPlace_any w R M h x x0 x1
 have hle:=h.le
 have hput:M.put all x v=if M.place x < 4096*M.n∧(all=true∨M.only (M.place x / 4096).toNat=false) then
  { M.note (M.place x - M.place x%64) (M.place x - M.place x%64+64) with byte:=fun y=>if y=(M.place x).toNat then v else M.byte y } else M:=rfl
 obtain ⟨pl,hpl⟩:∃ pl:Nat,M.place x=pl:=⟨(M.place x).toNat,by omega⟩
 rw [hpl] at cP pb hput
 clear hpl
 by_cases hin:(pl:Int) < 4096*M.n
 ·rw [decide_eq_true hin] at cP
  obtain ⟨pg,hpg⟩:∃ pg:Nat,pg=pl / 4096:=⟨_,rfl⟩
  have eg:(pl:Int) / 4096=(pg:Int):=by omega
  have et:Int.tdiv (pl:Int) 4096=(pg:Int):=by rw [hpg];rfl
  have pgl:pg < M.n:=by omega
  have epn:((pl:Int) / 4096).toNat=pg:=by omega
  rw [epn] at hput
  obtain ⟨n,hn⟩:∃ n:Nat,n=M.n:=⟨_,rfl⟩
  have bpg:(pg:Int) < (n:Int):=by omega
  clear hpg epn
  by_cases hgo:all=true∨M.only pg=false
  ·rw [if_pos ⟨hin,hgo⟩] at hput
   obtain ⟨g,hg⟩:∃ g:Nat,g=pl / 64:=⟨_,rfl⟩
   have fg:(pl:Int) / 64=(g:Int):=by omega
   have ft:Int.tdiv (pl:Int) 64=(g:Int):=by rw [hg];rfl
   have gl:g < 64*M.n:=by omega
   have ew:(pl:Int) - (pl:Int)%64=(64*g:Int):=by omega
   have epl:((pl:Nat):Int).toNat=pl:=by omega
   rw [ew,epl] at hput
   rw [hput]
   clear hg ew epl hput
   obtain ⟨N,hN⟩:∃ N:Nat,N=4096*M.n:=⟨_,rfl⟩
   obtain ⟨K,hK⟩:∃ K:Nat,K=64*M.n:=⟨_,rfl⟩
   have bpl:(pl:Int) < (N:Int):=by omega
   have bg:(g:Int) < (K:Int):=by omega
   have hplN:pl < 4096*M.n:=by omega
   by_cases hwt:M.wt (64*g)=false
   ·skip
    go_enter Tryz.func121,Tryz.ntmps121
    go_wp2_with fail
    refine cP.mono ?_;rintro e w1 ⟨rfl,k1⟩
    have h1:=h.kp k1 (fun _ _ f=>f)
    have c0:=h1.c0
    have c1:=h1.c1
    have c2:=h1.c2
    have c3:=h1.c3
    have cb:=h1.cb.cell hplN
    have fb:=h1.cb.frozen pl
    have co:=h1.co.cell pgl
    have ct:=h1.ct.cell gl
    have ff:=h1.ct.frozen g
    have cq:=h1.cq.cell gl
    have fq:=h1.cq.frozen g
    rw [hwt] at ct
    rw [← hN] at c0
    rw [← hn] at c1
    rw [← hK] at c2 c3
    obtain ⟨n1,n2,n3,n4,n5,n6,n7,n8,n9,n10⟩:=h1.ap
    have m1:=n1.symm
    have m3:=n3.symm
    have m4:=n4.symm
    have m6:=n6.symm
    have m7:=n7.symm
    have m10:=n10.symm
    obtain ⟨ob,hob⟩:∃ ob,ob=M.only pg:=⟨_,rfl⟩
    rw [← hob] at co hgo
    obtain ⟨nb,hnb⟩:∃ nb,nb=M.nt (64*g):=⟨_,rfl⟩
    rw [← hnb] at cq
    obtain ⟨vb,hvb⟩:∃ vb,vb=M.byte pl:=⟨_,rfl⟩
    rw [← hvb] at cb
    have RR:=(h1.byte hplN v).like (M':={ M.note (64*g) (64*g+64) with byte:=fun y=>if y=pl then v else M.byte y }) rfl rfl (fun _ _=>rfl) (fun _ _=>rfl)
     (fun j hj=>by show (M.wt (64*j)&&!decide ((64*g:Int)≤64*j∧(64*j:Int) < 64*g+64))=M.wt (64*j);rw [in_gran];by_cases e:j=g;(subst e;rw [hwt];rfl);simp [e])
     (fun j hj=>by show (M.nt (64*j)||(M.wt (64*j)&&decide ((64*g:Int)≤64*j∧(64*j:Int) < 64*g+64)))=M.nt (64*j);rw [in_gran];by_cases e:j=g;(subst e;rw [hwt];simp);simp [e])
    have KK:=kp_has (i:=pl) (kp_no (S:=R.has) k1) (has_b R) (.int .u8 v)
    clear hob hnb hvb hN hn hK hwt cP h h1 hin hplN gl pgl k1 hle
    cases all<;>cases ob<;>first
     | (exfalso;simp at hgo;done)
     | (go_wp2;go_end0;exact ⟨rfl,RR,KK⟩)
   ·replace hwt:M.wt (64*g)=true:=by cases hh:M.wt (64*g);exact absurd hh hwt;rfl
    go_enter Tryz.func121,Tryz.ntmps121
    go_wp2_with fail
    refine cP.mono ?_;rintro e w1 ⟨rfl,k1⟩
    have h1:=h.kp k1 (fun _ _ f=>f)
    have c0:=h1.c0
    have c1:=h1.c1
    have c2:=h1.c2
    have c3:=h1.c3
    have cb:=h1.cb.cell hplN
    have fb:=h1.cb.frozen pl
    have co:=h1.co.cell pgl
    have ct:=h1.ct.cell gl
    have ff:=h1.ct.frozen g
    have cq:=h1.cq.cell gl
    have fq:=h1.cq.frozen g
    rw [hwt] at ct
    rw [← hN] at c0
    rw [← hn] at c1
    rw [← hK] at c2 c3
    obtain ⟨n1,n2,n3,n4,n5,n6,n7,n8,n9,n10⟩:=h1.ap
    have m1:=n1.symm
    have m3:=n3.symm
    have m4:=n4.symm
    have m6:=n6.symm
    have m7:=n7.symm
    have m10:=n10.symm
    obtain ⟨ob,hob⟩:∃ ob,ob=M.only pg:=⟨_,rfl⟩
    rw [← hob] at co hgo
    obtain ⟨nb,hnb⟩:∃ nb,nb=M.nt (64*g):=⟨_,rfl⟩
    rw [← hnb] at cq
    obtain ⟨vb,hvb⟩:∃ vb,vb=M.byte pl:=⟨_,rfl⟩
    rw [← hvb] at cb
    have RR:=((h1.byte hplN v).setWt gl false (fun y=>M.wt y&&!decide ((64*g:Int)≤y∧y < 64*g+64)) (fun j hj=>by show (M.wt (64*j)&&!decide ((64*g:Int)≤64*j∧(64*j:Int) < 64*g+64))=_;rw [in_gran];by_cases e:j=g<;>simp [e])).setNt gl true (fun y=>M.nt y||(M.wt y&&decide ((64*g:Int)≤y∧y < 64*g+64)))
     (fun j hj=>by show (M.nt (64*j)||(M.wt (64*j)&&decide ((64*g:Int)≤64*j∧(64*j:Int) < 64*g+64)))=_;rw [in_gran];by_cases e:j=g;(subst e;rw [hwt];simp);simp [e])
    have KK:=kp_has (i:=g) (kp_has (i:=g) (kp_has (i:=pl) (kp_no (S:=R.has) k1) (has_b R) (.int .u8 v)) (has_t R) (.bool false)) (has_q R) (.bool true)
    clear hob hnb hvb hN hn hK hwt cP h h1 hin hplN gl pgl k1 hle
    cases all<;>cases ob<;>first
     | (exfalso;simp at hgo;done)
     | (go_wp2;go_end0;exact ⟨rfl,RR,KK⟩)
  ·rw [if_neg (fun f=>hgo f.2)] at hput
   rw [hput]
   have ha:all=false:=by cases all;rfl;exact absurd (Or.inl rfl) hgo
   have ho:M.only pg=true:=by cases hh:M.only pg;exact absurd (Or.inr hh) hgo;rfl
   subst ha
   clear hput hgo
   go_enter Tryz.func121,Tryz.ntmps121
   go_wp2_with fail
   refine cP.mono ?_;rintro e w1 ⟨rfl,k1⟩
   have h1:=h.kp k1 (fun _ _ f=>f)
   have c1:=h1.c1
   have cc:=h1.co.cell pgl
   rw [ho] at cc
   rw [← hn] at c1
   clear hn cP hin ho pgl
   go_wp2
   go_end0
   exact ⟨rfl,h1,kp_no k1⟩
 ·rw [decide_eq_false hin] at cP
  rw [if_neg (fun f=>hin f.1)] at hput
  rw [hput]
  clear hput
  go_enter Tryz.func121,Tryz.ntmps121
  go_wp2_with fail
  refine cP.mono ?_;rintro e w1 ⟨rfl,k1⟩
  go_wp2
  go_end0
  exact ⟨rfl,h.kp k1 (fun _ _ f=>f),kp_no k1⟩
def Row2 (W:World) (X:Nat) (a b:Int):Prop:=W.heap[X]?=some (.cells #[.int .u32 a,.int .u32 b] 361 (0,0))
theorem Row2.lt {W:World} {X:Nat} {a b:Int} (h:Row2 W X a b):X < W.heap.size:=(Array.getElem?_eq_some_iff.1 h).1
theorem Row2.kp {S:Nat→Prop} {W W':World} {X:Nat} {a b:Int} (h:Row2 W X a b) (k:Kp S W W') (hS:¬ S X):Row2 W' X a b:=(k.block X h.lt hS).trans h
def RowB (W:World) (X:Nat) (a b c:Bool):Prop:=W.heap[X]?=some (.cells #[.bool a,.bool b,.bool c] 330 (0,0))
theorem RowB.c0 {W:World} {X:Nat} {a b c:Bool} (h:RowB W X a b c):W.cell? ⟨X,0,none⟩=some (.bool a):=by rw [cell_at h];rfl
theorem RowB.c1 {W:World} {X:Nat} {a b c:Bool} (h:RowB W X a b c):W.cell? ⟨X,1,none⟩=some (.bool b):=by rw [cell_at h];rfl
theorem RowB.c2 {W:World} {X:Nat} {a b c:Bool} (h:RowB W X a b c):W.cell? ⟨X,2,none⟩=some (.bool c):=by rw [cell_at h];rfl
theorem RowB.lt {W:World} {X:Nat} {a b c:Bool} (h:RowB W X a b c):X < W.heap.size:=(Array.getElem?_eq_some_iff.1 h).1
theorem RowB.kp {S:Nat→Prop} {W W':World} {X:Nat} {a b c:Bool} (h:RowB W X a b c) (k:Kp S W W') (hS:¬ S X):RowB W' X a b c:=(k.block X h.lt hS).trans h
def RowK (W:World) (X:Nat) (f p q:Int) (a b:Bool):Prop:=W.heap[X]?=some (.cells #[.int .u32 f,.int .u32 p,.int .u32 q,.bool a,.bool b] 340 (0,0))
theorem RowK.lt {W:World} {X:Nat} {f p q:Int} {a b:Bool} (h:RowK W X f p q a b):X < W.heap.size:=(Array.getElem?_eq_some_iff.1 h).1
theorem RowK.kp {S:Nat→Prop} {W W':World} {X:Nat} {f p q:Int} {a b:Bool} (h:RowK W X f p q a b) (k:Kp S W W') (hS:¬ S X):RowK W' X f p q a b:=(k.block X h.lt hS).trans h
theorem Kp.own' {S:Nat→Prop} {w W:World} (h:Kp S w W) {b i:Nat} (hb:w.heap.size≤b) (v:Value):Kp S w (W.setCell ⟨b,i,none⟩ v):=
 h.over (Kp.setCell (S:=fun j=>j=b) W (p:=⟨b,i,none⟩) rfl v) (fun j hj e=>by omega)
theorem tlb_start (w:World) (B pl:Nat) (h:pl≤64):TlbD ((w.alloc (.map #[] 0)).alloc (.cells #[.pointer (some ⟨B+3,0,none⟩),.int .i64 pl,.map (some w.heap.size),.int .u64 0] 212)) w.heap.size B pl 0 (.map []) where
 c:=by
  have h:=(MapKept.heap_alloc (w.alloc (.map #[] 0)) (.cells #[.pointer (some ⟨B+3,0,none⟩),.int .i64 pl,.map (some w.heap.size),.int .u64 0] 212)).1
  simpa using h
 m:=((World.ownsMap_made w Tryz.prog 351 entElem).mono (Nat.zero_le _)).alloc _
 g:=Tidied.empty _ _
 lim:=h
theorem tlNew_ok (w:World) (B p:Nat) (h:p≤64):Calls Tryz.prog 55 #[.pointer (some ⟨B+3,0,none⟩),.int .i64 p] w fun e w'=>e=.returned (.tuple #[.pointer (some ⟨w.heap.size+1,0,none⟩),.int .i64 0])∧TlbD w' w.heap.size B p 0 (.map [])∧Kp noB w w':=by
 have h':decide ((p:Int) < 0)=false:=decide_eq_false (by omega)
 have h2:decide (64 < (p:Int))=false:=decide_eq_false (by omega)
 have hmm:=@run_makeMap Tryz.prog
 have R:=tlb_start w B p h
 have k:Kp noB w ((w.alloc (.map #[] 0)).alloc (.cells #[.pointer (some ⟨B+3,0,none⟩),.int .i64 p,.map (some w.heap.size),.int .u64 0] 212)):=(Kp.alloc _ _ _).trans (Kp.alloc _ _ _)
 go_enter Tryz.func55,Tryz.ntmps55
 go_wp2
 go_ret2
 exact ⟨by simp,R,k⟩
end Go.Proofs.YtacgmoikegcopaaGreatDoor.Rm
namespace Go.Proofs.YtacgmoikegcopaaGreatDoor.Sg
def Grown (W w':World):Prop:=W.keptBut w' (fun _=>False)∧(∀ a,w'.frozen? a=W.frozen? a)∧(W.heap.size≤w'.heap.size∧w'.tape=W.tape)
theorem Grown.to {W w':World} (h:Grown W w'):Go.RowKit.Grown W w':=⟨h.1,h.2.1,h.2.2.1⟩
theorem Grown.of {W w':World} (h:Go.RowKit.Grown W w') (t:w'.tape=W.tape):Grown W w':=⟨h.1,h.2.1,h.2.2,t⟩
theorem Grown.refl (W:World):Grown W W:=.of (Go.RowKit.Grown.refl W) rfl
theorem Grown.alloc {W w':World} (h:Grown W w') (c:Array Value) (t:TypeId):Grown W (w'.alloc (.cells c t)):=.of (h.to.alloc c t) h.2.2.2
theorem Grown.allocMap {W w':World} (h:Grown W w') (es:Array MapEntry) (c:Nat):Grown W (w'.alloc (.map es c)):=.of (Go.RowKit.Grown.allocMap h.to es c) h.2.2.2
theorem Grown.drew {W w':World} (h:Grown W w'):Grown W w'.drew:=h
theorem Grown.trans {a b c:World} (h:Grown a b) (k:Grown b c):Grown a c:=.of (_root_.Go.Proofs.YtacgmoikegcopaaGreatDoor.Grown.trans h.to k.to) (k.2.2.2.trans h.2.2.2)
theorem Grown.cell {W w':World} (h:Grown W w') {p:Addr} (hp:p.block < W.heap.size):w'.cell? p=W.cell? p:=_root_.Go.Proofs.YtacgmoikegcopaaGreatDoor.Grown.cell h.to hp
end Go.Proofs.YtacgmoikegcopaaGreatDoor.Sg
