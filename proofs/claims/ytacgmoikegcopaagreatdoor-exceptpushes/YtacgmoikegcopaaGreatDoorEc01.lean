/- The bus and its devices: AluMath, AluSpec, ShiftMath, Grow, RamBase, RamLeaf, RamNew2, RamNote, RamTell. -/
import Derived.WalkKit
import Derived.ProofKit
import Derived.Laws.BitsAllLaws
import Derived.Lib.BitFns
import Derived.Test.YtacgmoikegcopaaGreatDoorRows
import Derived.OpenShut
import Derived.Laws.EntriesVeiled
import Derived.Deep.QuietTactic
import Derived.BigQuiet
import Derived.Lib.Tables
import Derived.Deep.RegionHeld3
import Derived.Maps.OwnSet
import Derived.Maps.Range
import Derived.Laws.CopyOwn
import Derived.LoopTactic
namespace Go.Proofs.YtacgmoikegcopaaGreatDoor
set_option linter.unusedVariables false
set_option maxRecDepth 20000
def tb (f:Int) (i:Nat):Bool:=f.toNat.testBit i
def flg (b:Bool) (f:Int):Int:=if b then f else 0
def setF (f k:Int) (b:Bool):Int:=(if f / k%2=1 then f - k else f)+flg b k
def hasF (f k:Int):Bool:=f / k%2==1
def Sz (s H M sp bt:Int):Prop:=(s=1∧H=128∧M=256∧sp=24∧bt=8)∨(s=2∧H=32768∧M=65536∧sp=16∧bt=16)∨(s=4∧H=2147483648∧M=4294967296∧sp=0∧bt=32)
theorem tb_ext {a b:Int} (ha:0≤a) (hb:0≤b) (h:∀ i,tb a i=tb b i):a=b:=by
 have e:a.toNat=b.toNat:=Nat.eq_of_testBit_eq h
 omega
theorem tb_high {a:Int} (h:a < 4294967296) {i:Nat} (hi:32≤i):tb a i=false:=by
 unfold tb
 apply Nat.testBit_lt_two_pow
 have:(2:Nat) ^ 32≤2 ^ i:=Nat.pow_le_pow_right (by decide) hi
 have e:(2:Nat) ^ 32=4294967296:=by decide
 omega
theorem lt32_or {a b:Nat} (ha:a < 4294967296) (hb:b < 4294967296):a ||| b < 4294967296:=Nat.or_lt_two_pow (n:=32) ha hb
theorem lt32_and {a b:Nat} (hb:b < 4294967296):a &&& b < 4294967296:=Nat.and_lt_two_pow (n:=32) a hb
theorem or_bd {a b:Int} (a0:0≤a) (a1:a < 4294967296) (b0:0≤b) (b1:b < 4294967296):0≤bits .or .u32 a b∧bits .or .u32 a b < 4294967296:=by
 rw [u32_or a b a0 a1 b0 b1]
 have:=lt32_or (a:=a.toNat) (b:=b.toNat) (by omega) (by omega)
 omega
theorem and_bd {a b:Int} (a0:0≤a) (a1:a < 4294967296) (b0:0≤b) (b1:b < 4294967296):0≤bits .and .u32 a b∧bits .and .u32 a b < 4294967296:=by
 rw [u32_and a b a0 a1 b0 b1]
 have:=lt32_and (a:=a.toNat) (b:=b.toNat) (by omega)
 omega
theorem andNot_bd {a b:Int} (a0:0≤a) (a1:a < 4294967296) (b0:0≤b) (b1:b < 4294967296):0≤bits .andNot .u32 a b∧bits .andNot .u32 a b < 4294967296:=by
 rw [u32_andNot a b a0 a1 b0 b1]
 have:=lt32_and (a:=a.toNat) (b:=4294967295 - b.toNat) (by omega)
 omega
theorem tb_or {a b:Int} (a0:0≤a) (a1:a < 4294967296) (b0:0≤b) (b1:b < 4294967296) (i:Nat):tb (bits .or .u32 a b) i=(tb a i||tb b i):=by
 rw [u32_or a b a0 a1 b0 b1];simp [tb]
theorem tb_and {a b:Int} (a0:0≤a) (a1:a < 4294967296) (b0:0≤b) (b1:b < 4294967296) (i:Nat):tb (bits .and .u32 a b) i=(tb a i&&tb b i):=by
 rw [u32_and a b a0 a1 b0 b1];simp [tb]
theorem tb_not {b:Int} (b0:0≤b) (b1:b < 4294967296) {i:Nat} (hi:i < 32):tb (4294967295 - b) i=!tb b i:=by
 have e:(4294967295 - b).toNat=2 ^ 32 - (b.toNat+1):=by
  have:(2:Nat) ^ 32=4294967296:=by decide
  omega
 unfold tb
 rw [e,Nat.testBit_two_pow_sub_succ (by have:(2:Nat) ^ 32=4294967296:=(by decide);omega)]
 simp [hi]
theorem tb_andNot {a b:Int} (a0:0≤a) (a1:a < 4294967296) (b0:0≤b) (b1:b < 4294967296) (i:Nat):tb (bits .andNot .u32 a b) i=(tb a i&&!tb b i):=by
 rw [u32_andNot a b a0 a1 b0 b1]
 by_cases hi:i < 32
 ·have h:=tb_not b0 b1 hi
  have e:(4294967295 - b).toNat=4294967295 - b.toNat:=by omega
  unfold tb at h ⊢
  rw [e] at h
  simp [h]
 ·have h:=tb_high a1 (i:=i) (by omega)
  unfold tb at h ⊢
  simp [h]
theorem tb_flg (b:Bool) (j:Nat) (i:Nat):tb (flg b ((2 ^ j:Nat):Int)) i=(b&&decide (i=j)):=by
 cases b
 ·simp [flg,tb]
 ·simp only [flg,if_true,tb,Int.toNat_natCast,Nat.testBit_two_pow,Bool.true_and]
  simp [eq_comm]
theorem lay_bit (m r j i:Nat) (c:Nat) (hr:r < 2 ^ j) (hc:c < 2):(2 ^ j*(2*m+c)+r).testBit i=if i=j then decide (c=1) else if i < j then r.testBit i else m.testBit (i - j - 1):=by
 rw [Nat.testBit_two_pow_mul_add _ hr]
 by_cases h1:i < j
 ·simp [h1,Nat.ne_of_lt h1]
 ·by_cases h2:i=j
  ·subst h2
   have:c=0∨c=1:=by omega
   rcases this with rfl | rfl<;>simp [Nat.testBit_zero]<;>omega
  ·obtain ⟨t,rfl⟩:∃ t,i=j+(t+1):=⟨i - j - 1,by omega⟩
   have e1:j+(t+1) - j=t+1:=by omega
   have e2:j+(t+1) - j - 1=t:=by omega
   rw [if_neg h1,if_neg h2,if_neg h1,e2,e1,Nat.testBit_succ]
   congr 1
   omega
theorem setF_nat (f j:Nat) (b:Bool):setF (f:Int) ((2 ^ j:Nat):Int) b=((2 ^ j*(2*(f / 2 ^ j / 2)+b.toNat)+f%2 ^ j:Nat):Int):=by
 have hd:=Nat.div_add_mod f (2 ^ j)
 have hq:f / 2 ^ j=2*(f / 2 ^ j / 2)+f / 2 ^ j%2:=by omega
 have hc:f / 2 ^ j%2=0∨f / 2 ^ j%2=1:=by omega
 have e1:((f:Int) / ((2 ^ j:Nat):Int)%2)=((f / 2 ^ j%2:Nat):Int):=by
  rw [Int.natCast_emod,Int.natCast_ediv];rfl
 unfold setF
 rw [e1]
 generalize hm:f / 2 ^ j / 2=m at *
 generalize hr:f%2 ^ j=r at *
 generalize hp:2 ^ j=p at *
 generalize hqq:f / p=q at *
 rcases hc with hc | hc
 ·rw [hc] at hq ⊢
  have e2:q=2*m:=by omega
  rw [if_neg (by decide)]
  have e3:f=p*(2*m)+r:=by rw [← e2];exact hd.symm
  cases b
  ·simp only [flg,Bool.toNat_false];rw [e3];push_cast;simp
  ·simp only [flg,Bool.toNat_true,if_true];rw [e3,Nat.mul_add];push_cast;simp;omega
 ·rw [hc] at hq ⊢
  have e3:f=p*(2*m)+p+r:=by rw [← hd,hq,Nat.mul_add];omega
  rw [if_pos (by decide)]
  cases b
  ·simp only [flg,Bool.toNat_false];rw [e3];push_cast;simp;omega
  ·simp only [flg,Bool.toNat_true,if_true];rw [e3,Nat.mul_add];push_cast;simp
theorem tb_setF (f:Int) (f0:0≤f) (j:Nat) (b:Bool) (i:Nat):tb (setF f ((2 ^ j:Nat):Int) b) i=if i=j then b else tb f i:=by
 obtain ⟨n,rfl⟩:=Int.eq_ofNat_of_zero_le f0
 rw [setF_nat]
 unfold tb
 rw [Int.toNat_natCast,Int.toNat_natCast,lay_bit _ _ _ _ _ (Nat.mod_lt _ (Nat.two_pow_pos j)) (by cases b<;>decide)]
 by_cases h:i=j
 ·simp only [h,if_true];cases b<;>rfl
 ·rw [if_neg h,if_neg h]
  have e:n=2 ^ j*(2*(n / 2 ^ j / 2)+n / 2 ^ j%2)+n%2 ^ j:=by
   have hd:=Nat.div_add_mod n (2 ^ j)
   have hq:2*(n / 2 ^ j / 2)+n / 2 ^ j%2=n / 2 ^ j:=by omega
   rw [hq];exact hd.symm
  have:=lay_bit (n / 2 ^ j / 2) (n%2 ^ j) j i (n / 2 ^ j%2) (Nat.mod_lt _ (Nat.two_pow_pos j)) (Nat.mod_lt _ (by decide))
  rw [← e,if_neg h] at this
  exact this.symm
theorem setF_bd {f:Int} (f0:0≤f) (f1:f < 4294967296) (k:Int) (hk:k=1∨k=4∨k=16∨k=64∨k=128∨k=2048) (b:Bool):0≤setF f k b∧setF f k b < 4294967296:=by
 unfold setF flg
 rcases hk with rfl | rfl | rfl | rfl | rfl | rfl<;>cases b<;>simp<;>split<;>omega
theorem tb_div (x:Int) (x0:0≤x) (j:Nat):tb x j=decide (x / ((2 ^ j:Nat):Int)%2=1):=by
 obtain ⟨n,rfl⟩:=Int.eq_ofNat_of_zero_le x0
 unfold tb
 rw [Int.toNat_natCast,Nat.testBit_eq_decide_div_mod_eq]
 congr 1
 rw [← Int.natCast_ediv,show (2:Int)=((2:Nat):Int) from rfl,← Int.natCast_emod]
 simp only [eq_iff_iff]
 omega
open Go.RowKit
def okSize (s:Int):Bool:=s==1||s==2||s==4
theorem Sz.ok {s H M sp bt:Int} (hS:Sz s H M sp bt):okSize s=true:=by
 rcases hS with ⟨rfl,rfl,rfl,rfl,rfl⟩ | ⟨rfl,rfl,rfl,rfl,rfl⟩ | ⟨rfl,rfl,rfl,rfl,rfl⟩<;>rfl
def isFlag (k:Int):Prop:=k=1∨k=4∨k=16∨k=64∨k=128∨k=2048
theorem bd1 {f:Int} (f0:0≤f) (f1:f < 4294967296) (k:Int) (hk:isFlag k) (b:Bool):0≤setF f k b∧setF f k b < 4294967296:=setF_bd f0 f1 k hk b
theorem sz2:Sz 2 32768 65536 16 16:=Or.inr (Or.inl ⟨rfl,rfl,rfl,rfl,rfl⟩)
theorem sz1:Sz 1 128 256 24 8:=Or.inl ⟨rfl,rfl,rfl,rfl,rfl⟩
theorem sz4:Sz 4 2147483648 4294967296 0 32:=Or.inr (Or.inr ⟨rfl,rfl,rfl,rfl,rfl⟩)
open Go.RowKit
def Sw (s H M:Int) (W:Nat):Prop:=(s=1∧H=128∧M=256∧W=8)∨(s=2∧H=32768∧M=65536∧W=16)∨(s=4∧H=2147483648∧M=4294967296∧W=32)
theorem Sw.sz {s H M:Int} {W:Nat} (h:Sw s H M W):∃ sp,Sz s H M sp (W:Int):=by
 rcases h with ⟨rfl,rfl,rfl,rfl⟩ | ⟨rfl,rfl,rfl,rfl⟩ | ⟨rfl,rfl,rfl,rfl⟩
 ·exact ⟨24,sz1⟩
 ·exact ⟨16,sz2⟩
 ·exact ⟨0,sz4⟩
theorem Sw.ok {s H M:Int} {W:Nat} (h:Sw s H M W):okSize s=true:=by
 obtain ⟨sp,hS⟩:=h.sz
 exact hS.ok
theorem pw_pos (k:Nat):0 < ((2 ^ k:Nat):Int):=by have:=Nat.two_pow_pos k;omega
theorem flg_tb {x:Int} (x0:0≤x) (j:Nat):x / ((2 ^ j:Nat):Int)%2=flg (tb x j) 1:=by
 rw [tb_div x x0 j]
 unfold flg
 by_cases h:x / ((2 ^ j:Nat):Int)%2=1
 ·rw [h];rfl
 ·rw [decide_eq_false h,if_neg (by decide)];omega
def rot (R n k:Nat):Nat:=(2 ^ k*n+n / 2 ^ (R - k))%2 ^ R
def turn (R:Nat) (n:Int) (k:Nat):Int:=((rot R n.toNat (k%R):Nat):Int)
open Go.ChangeShapes Go.WideShapes Go.ChangeAt Go.RowKit
theorem Grown.trans {a b c:World} (h:Grown a b) (k:Grown b c):Grown a c:=
 ⟨World.keptBut_trans h.1 k.1,fun x=>(k.2.1 x).trans (h.2.1 x),Nat.le_trans h.2.2 k.2.2⟩
theorem ret_int {k:IntKind} {a b:Int} (h:a=b):Ending.returned (.int k a)=.returned (.int k b):=by rw [h]
theorem ret_bool {a b:Bool} (h:a=b):Ending.returned (.bool a)=.returned (.bool b):=by rw [h]
theorem Grown.block {W w':World} (h:Grown W w') {i:Nat} (hi:i < W.heap.size):w'.heap[i]?=W.heap[i]?:=by
 have k:=h.1.2.2 i hi
 split at k
 ·rename_i c t fr c' t' fr' e1 e2
  obtain ⟨rfl,rfl,hs,hj⟩:=k
  have:c'=c:=Array.ext_getElem? fun j=>hj j (fun f=>f)
  rw [e1,e2,this]
 ·rename_i e1 e2
  rcases k with f | ⟨rfl,rfl⟩
  ·exact f.elim
  ·rw [e1,e2]
 ·exact k
theorem Grown.cell {W w':World} (h:Grown W w') {p:Addr} (hp:p.block < W.heap.size):w'.cell? p=W.cell? p:=World.cell?_of_block (w:=W) (Grown.block h hp)
end Go.Proofs.YtacgmoikegcopaaGreatDoor
namespace Go.Proofs.YtacgmoikegcopaaGreatDoor.Rm
open Go.ChangeShapes Go.WideShapes Go.ChangeAt Go.RowKit Go.Maps
set_option linter.unusedVariables false
set_option maxRecDepth 20000
structure Kp (S:Nat→Prop) (w w':World):Prop where
 os:w'.os=w.os
 tape:w'.tape=w.tape
 output:w'.output=w.output
 size:w.heap.size≤w'.heap.size
 block:∀ k,k < w.heap.size→¬ S k→w'.heap[k]?=w.heap[k]?
theorem Kp.refl (S:Nat→Prop) (w:World):Kp S w w:=⟨rfl,rfl,rfl,Nat.le_refl _,fun _ _ _=>rfl⟩
theorem Kp.trans {S:Nat→Prop} {a b c:World} (h:Kp S a b) (k:Kp S b c):Kp S a c:=
 ⟨k.os.trans h.os,k.tape.trans h.tape,k.output.trans h.output,Nat.le_trans h.size k.size,fun i hi hs=>(k.block i (Nat.lt_of_lt_of_le hi h.size) hs).trans (h.block i hi hs)⟩
theorem Kp.mono {S T:Nat→Prop} {a b:World} (h:Kp S a b) (hST:∀ k,k < a.heap.size→S k→T k):Kp T a b:=
 ⟨h.os,h.tape,h.output,h.size,fun i hi hs=>h.block i hi (fun g=>hs (hST i hi g))⟩
theorem Kp.alloc (S:Nat→Prop) (w:World) (o:Obj):Kp S w (w.alloc o):=
 ⟨rfl,rfl,rfl,by simp,fun k hk _=>Below.heap_alloc _ _ _ hk⟩
theorem Kp.setCell {S:Nat→Prop} (w:World) {p:Addr} (hp:S p.block) (u:Value):Kp S w (w.setCell p u):=
 ⟨rfl,rfl,rfl,by simp [World.setCell],fun k hk hs=>Below.heap_setCell _ _ _ _ (fun e=>hs (e ▸ hp))⟩
theorem Kp.setRow {S:Nat→Prop} (w:World) {g:Nat} (hp:S g) (cs:Array Value):Kp S w (w.setRow g cs):=
 ⟨rfl,rfl,rfl,by simp [World.setRow],fun k hk hs=>setRow_other w g k cs (fun e=>hs (e ▸ hp))⟩
theorem Kp.turned {S:Nat→Prop} {w w':World} {b:Nat} (h:w.mapTurned w' b) (hb:S b):Kp S w w':=by
 have g:=h.grown
 exact ⟨g.os,g.tape,g.output,g.size,fun k hk hs=>g.block k hk (fun e=>hs (by cases e;exact hb))⟩
theorem Kp.below {S:Nat→Prop} {w w':World} {B:Nat} (h:Kp S w w') (hB:B≤w.heap.size) (hS:∀ k,S k→B≤k):Below B w w':=
 ⟨h.os,h.tape,h.output,h.size,fun k hk=>h.block k (by omega) (fun g=>by have:=hS k g;omega)⟩
theorem Kp.ofBelow {S:Nat→Prop} {w w':World} {B:Nat} (h:Below B w w') (hS:∀ k,k < w.heap.size→B≤k→S k):Kp S w w':=
 ⟨h.os,h.tape,h.output,h.size,fun k hk hs=>h.block k (by rcases Nat.lt_or_ge k B with g | g;exact g;exact (hs (hS k hk g)).elim)⟩
theorem Kp.drew {S:Nat→Prop} {w w':World} (h:Kp S w w'):Kp S w w'.drew:=⟨h.os,h.tape,h.output,h.size,h.block⟩
theorem Kp.drewN {S:Nat→Prop} {w w':World} (h:Kp S w w') (n:Nat):Kp S w (w'.drewN n):=⟨h.os,h.tape,h.output,h.size,h.block⟩
structure Mem where
 n:Nat
 byte:Nat→Int
 only:Nat→Bool
 wt:Int→Bool
 nt:Int→Bool
 closed:Bool
def Mem.place (M:Mem) (a:Int):Int:=if M.closed=true∧a / 1048576%2=1 then a - 1048576 else a
def ptrElem:Value→Option (DataW Unit × List MemPlace)
 | .pointer none=>some (.lit (.int .i64 (-1)),[])
 | .pointer (some ⟨b,0,none⟩)=>some (.lit (.int .i64 b),[])
 | _=>none
theorem ptrElem_nil:ptrElem (.pointer none)=some (.lit (.int .i64 (-1)),[]):=rfl
theorem ptrElem_some (b:Nat):ptrElem (.pointer (some ⟨b,0,none⟩))=some (.lit (.int .i64 b),[]):=rfl
theorem ptrElem_inv {v:Value} {c:Int} {ps:List MemPlace} (h:ptrElem v=some (.lit (.int .i64 c),ps)):(v=.pointer none∧c=-1)∨∃ b:Nat,v=.pointer (some ⟨b,0,none⟩)∧c=b:=by
 unfold ptrElem at h
 split at h
 ·left;simp at h;exact ⟨rfl,h.1.symm⟩
 ·right;rename_i b;simp at h;exact ⟨b,rfl,h.1.symm⟩
 ·cases h
def noPage:DataW Unit:=.lit (.int .i64 (-1))
def pageAt (B n:Nat) (i:Int):Int:=if 0≤i∧i < n then (B:Int)+4+i else -1
structure RamAt (w:World) (B:Nat) (M:Mem):Prop where
 le:M.n≤256
 r:w.heap[B+3]?=some (.cells #[.map (some B),.bool M.closed,.map (some (B+1)),.map (some (B+2))] 207 (0,0))
 p:∃ D,w.ownsMap Tryz.prog 3 ptrElem B 256 D∧(∀ i:Int,D.atKey (.int .i64 i) noPage=.lit (.int .i64 (pageAt B M.n i)))∧(∀ i:Int,Maps.has D (.int .i64 i)=decide (0≤i∧i < M.n))∧Maps.size D=M.n
 pg:∀ i,i < M.n→∃ cs,w.heap[B+4+i]?=some (.cells cs 202 (0,0))∧cs.size=4097∧(∀ j,j < 4096→cs[j]?=some (.int .u8 (M.byte (4096*i+j))))∧cs[4096]?=some (.bool (M.only i))
 wm:∃ D:DataW Unit,w.ownsMap Tryz.prog 22 unitElem (B+1) 16384 D∧∀ x:Int,Maps.has D (.int .u32 x)=M.wt x
 nm:∃ D:DataW Unit,w.ownsMap Tryz.prog 22 unitElem (B+2) 16384 D∧∀ x:Int,Maps.has D (.int .u32 x)=M.nt x
 wb:∀ x,M.wt x=true→0≤x∧x < 4096*M.n∧x%64=0
 nb:∀ x,M.nt x=true→0≤x∧x < 4096*M.n∧x%64=0
 bb:∀ p,p < 4096*M.n→0≤M.byte p∧M.byte p < 256
def inRam (B n k:Nat):Prop:=B≤k∧k < B+4+n
theorem RamAt.lt {w:World} {B:Nat} {M:Mem} (h:RamAt w B M):B+4+M.n≤w.heap.size:=by
 have h3:=(Array.getElem?_eq_some_iff.1 h.r).1
 rcases Nat.eq_zero_or_pos M.n with e | e
 ·omega
 ·obtain ⟨cs,hc,_⟩:=h.pg (M.n - 1) (by omega)
  have:=(Array.getElem?_eq_some_iff.1 hc).1
  omega
theorem owns_at {H:Type} {P:Program} {k:TypeId} {R:Value→Option (DataW H × List MemPlace)} {w w':World} {b n:Nat} {D:DataW H} (h:w.ownsMap P k R b n D) (e:w'.heap[b]?=w.heap[b]?):w'.ownsMap P k R b n D:=by
 obtain ⟨es,clock,hb,r⟩:=h
 exact ⟨es,clock,e.trans hb,r⟩
theorem RamAt.kept {w w':World} {B:Nat} {M:Mem} (h:RamAt w B M) (e:∀ k,inRam B M.n k→w'.heap[k]?=w.heap[k]?):RamAt w' B M where
 le:=h.le
 r:=(e _ ⟨by omega,by omega⟩).trans h.r
 p:=by obtain ⟨D,h1,h2⟩:=h.p;exact ⟨D,owns_at h1 (e _ ⟨by omega,by omega⟩),h2⟩
 pg:=fun i hi=>by obtain ⟨cs,h1,h2⟩:=h.pg i hi;exact ⟨cs,(e _ ⟨by omega,by omega⟩).trans h1,h2⟩
 wm:=by obtain ⟨D,h1,h2⟩:=h.wm;exact ⟨D,owns_at h1 (e _ ⟨by omega,by omega⟩),h2⟩
 nm:=by obtain ⟨D,h1,h2⟩:=h.nm;exact ⟨D,owns_at h1 (e _ ⟨by omega,by omega⟩),h2⟩
 wb:=h.wb
 nb:=h.nb
 bb:=h.bb
theorem RamAt.kp {S:Nat→Prop} {w w':World} {B:Nat} {M:Mem} (h:RamAt w B M) (k:Kp S w w') (hS:∀ k,inRam B M.n k→¬ S k):RamAt w' B M:=
 h.kept fun i hi=>k.block i (by have:=h.lt;have:=hi.2;omega) (hS i hi)
theorem RamAt.alloc {w:World} {B:Nat} {M:Mem} (h:RamAt w B M) (o:Obj):RamAt (w.alloc o) B M:=
 h.kp (Kp.alloc (fun _=>False) w o) (fun _ _ f=>f)
theorem RamAt.c0 {w:World} {B:Nat} {M:Mem} (h:RamAt w B M):w.cell? ⟨B+3,0,none⟩=some (.map (some B)):=by simp [World.cell?,h.r]
theorem RamAt.c1 {w:World} {B:Nat} {M:Mem} (h:RamAt w B M):w.cell? ⟨B+3,1,none⟩=some (.bool M.closed):=by simp [World.cell?,h.r]
theorem RamAt.c2 {w:World} {B:Nat} {M:Mem} (h:RamAt w B M):w.cell? ⟨B+3,2,none⟩=some (.map (some (B+1))):=by simp [World.cell?,h.r]
theorem RamAt.c3 {w:World} {B:Nat} {M:Mem} (h:RamAt w B M):w.cell? ⟨B+3,3,none⟩=some (.map (some (B+2))):=by simp [World.cell?,h.r]
theorem RamAt.fz {w:World} {B:Nat} {M:Mem} (h:RamAt w B M) (j:Nat):w.frozen? ⟨B+3,j,none⟩=false:=by simp [World.frozen?,h.r]
theorem u32T:Tryz.prog.underlying 22=some (.int .u32):=by kernel_rfl
theorem intT:Tryz.prog.underlying 3=some (.int .i64):=by kernel_rfl
theorem setT:Tryz.prog.underlying 205=some (.map 22 302):=by kernel_rfl
theorem pagesT:Tryz.prog.underlying 204=some (.map 3 198):=by kernel_rfl
theorem zeroUnit (w:World):(zeroValue 302).run Tryz.prog w=.ok (.agg #[]) w:=by kernel_rfl
theorem zeroPtr (w:World):(zeroValue 198).run Tryz.prog w=.ok (.pointer none) w:=by kernel_rfl
theorem keyU {x:Int} (h0:0≤x) (h1:x < 4294967296):keyOf Tryz.prog 22 (.int .u32 x)=some (.int .u32 x):=
 keyOf_int_mk u32T (WalkArith.wf_u32 ⟨h0,by omega⟩)
theorem keyI {x:Int} (h0:-9223372036854775808≤x) (h1:x≤9223372036854775807):keyOf Tryz.prog 3 (.int .i64 x)=some (.int .i64 x):=
 keyOf_int_mk intT (WalkArith.wf_i64 ⟨h0,h1⟩)
theorem nodup_range_le:∀ (n:Nat) (l:List Nat),l.Nodup→(∀ x ∈ l,x < n)→l.length≤n
 | 0,[],_,_=>Nat.le_refl _
 | 0,x::_,_,h=>absurd (h x (by simp)) (Nat.not_lt_zero _)
 | n+1,l,hn,h=>by
  have e:(l.filter (·≠n)).length≤n:=nodup_range_le n _ (hn.filter _) (fun x hx=>by
   rw [List.mem_filter] at hx
   have:=h x hx.1
   have h2:x≠n:=by simpa using hx.2
   omega)
  have c:l.length≤(l.filter (·≠n)).length+1:=by
   have hc:(l.filter (·≠n)).length+(l.filter (fun x=>!decide (x≠n))).length=l.length:=by
    clear e hn h
    induction l with
    | nil=>rfl
    | cons a r ih=>by_cases ha:a=n<;>simp_all<;>omega
   have hd:(l.filter (fun x=>!decide (x≠n))).length≤1:=by
    have hq:(l.filter (fun x=>!decide (x≠n))).Nodup:=hn.filter _
    have hall:∀ x ∈ l.filter (fun x=>!decide (x≠n)),x=n:=fun x hx=>by
     rw [List.mem_filter] at hx;simpa using hx.2
    match hl:l.filter (fun x=>!decide (x≠n)),hq,hall with
    | [],_,_=>simp
    | [a],_,_=>simp
    | a::b::r,hq,hall=>
     have ea:=hall a (by simp)
     have eb:=hall b (by simp)
     rw [ea,eb] at hq
     simp at hq
   omega
  omega
theorem set_size {w:World} {b n:Nat} {D:DataW Unit} (h:w.ownsMap Tryz.prog 22 unitElem b n D) (f:Int→Bool) (hf:∀ x:Int,Maps.has D (.int .u32 x)=f x) (hb:∀ x,f x=true→0≤x∧x < 1048576∧x%64=0):Maps.size D≤16384:=by
 obtain ⟨es,hD,hp,hk⟩:=h.entries (int_keyed u32T)
 obtain ⟨es',clock,_,F,_,hD'⟩:=h
 have ks:∀ p ∈ es,∃ x:Int,p.1=.int .u32 x∧f x=true:=by
  intro p hpm
  have hm:p ∈ (es'.toList.map (Go.WideElems.rg Tryz.prog 22 unitElem)):=by
   rw [hD] at hD'
   have e:=DataW.map.inj hD'
   rw [e] at hpm
   exact mem_sorted.1 hpm
  obtain ⟨v,hv⟩:=fit_keys F p hm
  have hx:∃ x:Int,p.1=.int .u32 x:=by
   cases v<;>simp [keyOf,mapKey] at hv
   exact ⟨_,hv.2.symm⟩
  obtain ⟨x,hx⟩:=hx
  refine ⟨x,hx,?_⟩
  rw [← hf x,hD,Maps.has_eq,List.any_eq_true]
  exact ⟨p,hpm,by rw [hx];simp [Lit.sameKey]⟩
 have q:(es.map fun p=>match p.1 with | .int _ x=>x.toNat / 64 | _=>0).length≤16384:=by
  refine nodup_range_le 16384 _ ?_ ?_
  ·refine List.pairwise_map.2 (hp.imp_of_mem fun {p q} hp' hq' hne e=>hne ?_)
   obtain ⟨a,ha,fa⟩:=ks p hp'
   obtain ⟨c,hc,fc⟩:=ks q hq'
   rw [ha,hc] at e ⊢
   simp only at e
   have:=hb a fa
   have:=hb c fc
   have:a=c:=by omega
   rw [this]
  ·intro y hy
   obtain ⟨p,hp',rfl⟩:=List.mem_map.1 hy
   obtain ⟨a,ha,fa⟩:=ks p hp'
   have:=hb a fa
   rw [ha]
   simp only
   omega
 rw [hD,Maps.size_eq]
 simpa using q
theorem owns_tight {H:Type} {P:Program} {k:TypeId} {R:Value→Option (DataW H × List MemPlace)} {w:World} {b n m:Nat} {D:DataW H} (h:w.ownsMap P k R b n D) (hm:Maps.size D≤m):w.ownsMap P k R b m D:=by
 obtain ⟨es,clock,hb,F,hs,hD⟩:=h
 refine ⟨es,clock,hb,F,?_,hD⟩
 rw [hD] at hm
 simpa [Maps.size,length_sorted] using hm
theorem granuleOf_any (w:World) (x:Int) (h0:0≤x) (h1:x < 4294967296):
  Calls Tryz.prog 214 #[.int .u32 x] w fun e w'=>e=.returned (.int .u32 (x - x%64))∧w'=w:=by
 go_enter Tryz.func214,Tryz.ntmps214
 go_wp2
 go_ret
 refine ⟨ret_int ?_,rfl⟩
 omega
theorem isSize_any (w:World) (x:Int) (h0:-9223372036854775808≤x) (h1:x≤9223372036854775807):
  Calls Tryz.prog 47 #[.int .i64 x] w fun e w'=>e=.returned (.bool (decide (x=1∨x=2∨x=4)))∧w'=w:=by
 go_enter Tryz.func47,Tryz.ntmps47
 go_wp2<;>go_ret<;>refine ⟨ret_bool ?_,rfl⟩<;>first | (subst_vars;rfl) | (by_cases h4:x=4<;>simp_all)
theorem lengthInPage_any (w:World) (x n:Int) (h0:0≤x) (h1:x < 4294967296) (n0:0≤n) (n1:n < 9223372036854775808):
  Calls Tryz.prog 117 #[.int .u32 x,.int .i64 n] w fun e w'=>e=.returned (.int .i64 (min n (4096 - x%4096)))∧w'=w:=by
 go_enter Tryz.func117,Tryz.ntmps117
 go_wp2<;>go_ret<;>refine ⟨ret_int ?_,rfl⟩<;>omega
theorem tbp20 (i:Nat):tb 1048576 i=decide (i=20):=by
 unfold tb
 show (1048576:Nat).testBit i=_
 rw [show (1048576:Nat)=2 ^ 20 by decide,Nat.testBit_two_pow]
 by_cases h:i=20
 ·simp [h]
 ·have:¬ 20=i:=fun e=>h e.symm
  simp [h,this]
theorem not20 {f:Int} (f0:0≤f) (f1:f < 4294967296):bits .andNot .u32 f 1048576=if f / 1048576%2=1 then f - 1048576 else f:=by
 have a1:=andNot_bd f0 f1 (b:=1048576) (by decide) (by decide)
 have e:(if f / 1048576%2=1 then f - 1048576 else f)=setF f 1048576 false:=by unfold setF flg;simp
 rw [e]
 refine tb_ext a1.1 (by unfold setF flg;simp;split<;>omega) fun i=>?_
 have k:=tb_setF f f0 20 false i
 rw [show ((2 ^ 20:Nat):Int)=1048576 by decide] at k
 rw [tb_andNot f0 f1 (by decide) (by decide),tbp20,k]
 by_cases h:i=20
 ·simp [h]
 ·simp [h]
theorem place_any (w:World) (B:Nat) (M:Mem) (h:RamAt w B M) (x:Int) (h0:0≤x) (h1:x < 4294967296):
  Calls Tryz.prog 116 #[.pointer (some ⟨B+3,0,none⟩),.int .u32 x] w fun e w'=>e=.returned (.int .u32 (M.place x))∧w'=w:=by
 have c1:=h.c1
 go_enter Tryz.func116,Tryz.ntmps116
 go_wp2
 all_goals go_ret
 all_goals refine ⟨ret_int ?_,rfl⟩
 ·rename_i hc
  rw [not20 h0 h1];unfold Mem.place;simp [hc]
 ·rename_i hc
  unfold Mem.place;simp [hc]
theorem Mem.place_bd (M:Mem) {x:Int} (h0:0≤x) (h1:x < 4294967296):0≤M.place x∧M.place x < 4294967296:=by
 unfold Mem.place;split<;>omega
theorem wpList_page {P:Program} (w:World) {ops:Array Oper} {rest:List Oper} {o:Oper} {a:Act} {Q:Exit→Act→World→Prop}
  (hg:o.guard=none) (m x:Operand) (t:TypeId) (hop:o.op=Op.lookup t m x false)
  (k e:TypeId) (K:Keyed P k) (ht:P.underlying t=some (.map k e)) (hz:(zeroValue e).run P w=.ok (.pointer none) w) (b n:Nat) (D:DataW Unit)
  (hm:a.eval m=.map (some b)) (hown:w.ownsMap P k ptrElem b n D) (key:Value) (kl:Lit) (hx:a.eval x=key) (hkey:keyOf P k key=some kl)
  (c:Int) (hc:D.atKey kl noPage=.lit (.int .i64 c))
  (hK:wpList P ops Q rest (a.put o.dst (.pointer (if 0≤c then some ⟨c.toNat,0,none⟩ else none))) w):
  wpList P ops Q (o::rest) a w:=by
 refine wpList_plain hg fun K' hK'=>?_
 obtain ⟨v,ps,hrun,hv⟩:=hown.lookup K ht hz ptrElem_nil hkey
 have hc':=hc
 unfold noPage at hc'
 rw [hc'] at hv
 have e1:v=.pointer (if 0≤c then some ⟨c.toNat,0,none⟩ else none):=by
  rcases ptrElem_inv hv with ⟨rfl,rfl⟩ | ⟨b',rfl,rfl⟩
  ·simp
  ·simp
 rw [e1] at hrun
 unfold Oper.wp
 simp [execOp,hop,hm,hx,hrun,Result.andThen]
 exact hK' _ _ (by simpa using hK)
theorem pageOf_some (w:World) (B:Nat) (M:Mem) (h:RamAt w B M) (x:Int) (h0:0≤x) (h1:x < 4294967296) (hx:x < 4096*M.n):
  Calls Tryz.prog 118 #[.pointer (some ⟨B+3,0,none⟩),.int .u32 x] w fun e w'=>e=.returned (.pointer (some ⟨B+4+(x / 4096).toNat,0,none⟩))∧w'=w:=by
 have c0:=h.c0
 obtain ⟨D,hown,hat,_,_⟩:=h.p
 have hp:pageAt B M.n (x / 4096)=(B:Int)+4+x / 4096:=by unfold pageAt;rw [if_pos (by omega)]
 go_enter Tryz.func118,Tryz.ntmps118
 go_wp2_with (first
  | (at_lookup;refine wpList_page _ rfl _ _ 204 rfl 3 198 (int_keyed intT) pagesT (zeroPtr _) B 256 D rfl hown _ _ rfl (keyI (x:=x / 4096) (by omega) (by omega)) _ (hat _) ?_;rw [hp,if_pos (by omega)])
  | go_in)
 go_ret
 refine ⟨?_,rfl⟩
 have:((B:Int)+4+x / 4096).toNat=B+4+(x / 4096).toNat:=by omega
 rw [this]
 rfl
theorem pageOf_none (w:World) (B:Nat) (M:Mem) (h:RamAt w B M) (x:Int) (h0:0≤x) (h1:x < 4294967296) (hx:4096*M.n≤x):
  Calls Tryz.prog 118 #[.pointer (some ⟨B+3,0,none⟩),.int .u32 x] w fun e w'=>e=.returned (.pointer none)∧w'=w:=by
 have c0:=h.c0
 obtain ⟨D,hown,hat,_,_⟩:=h.p
 have hp:pageAt B M.n (x / 4096)=-1:=by unfold pageAt;rw [if_neg (by omega)]
 go_enter Tryz.func118,Tryz.ntmps118
 go_wp2_with (first
  | (at_lookup;refine wpList_page _ rfl _ _ 204 rfl 3 198 (int_keyed intT) pagesT (zeroPtr _) B 256 D rfl hown _ _ rfl (keyI (x:=x / 4096) (by omega) (by omega)) _ (hat _) ?_;rw [hp,if_neg (by omega)])
  | go_in)
 go_ret
 exact ⟨rfl,rfl⟩
def pageL:List Value:=List.replicate 4096 (.int .u8 0)++[.bool false]
def pageZ:Array Value:=pageL.toArray
theorem zeroPage (w:World):(zeroValue 202).run Tryz.prog w=.ok (.agg pageZ) w:=by kernel_rfl
def mem0 (n:Nat):Mem:={ n:=n,byte:=fun _=>0,only:=fun _=>false,wt:=fun _=>false,nt:=fun _=>false,closed:=false }
theorem pageL_len:pageL.length=4097:=by unfold pageL;rw [List.length_append,List.length_replicate];rfl
theorem pageZ_size:pageZ.size=4097:=pageL_len
theorem pageZ_byte (j:Nat) (h:j < 4096):pageZ[j]?=some (.int .u8 0):=by
 unfold pageZ
 rw [List.getElem?_toArray]
 unfold pageL
 rw [List.getElem?_append_left (by rw [List.length_replicate];exact h),List.getElem?_replicate,if_pos h]
theorem pageZ_only:pageZ[4096]?=some (.bool false):=by
 unfold pageZ
 rw [List.getElem?_toArray]
 unfold pageL
 rw [List.getElem?_append_right (by rw [List.length_replicate];exact Nat.le_refl _),List.length_replicate]
 rfl
theorem ram_start (w:World):RamAt ((((w.alloc (.map #[] 0)).alloc (.map #[] 0)).alloc (.map #[] 0)).alloc (.cells #[.map (some w.heap.size),.bool false,.map (some (w.heap.size+1)),.map (some (w.heap.size+2))] 207)) w.heap.size (mem0 0) where
 le:=Nat.zero_le _
 r:=by
  have h:=(MapKept.heap_alloc (((w.alloc (.map #[] 0)).alloc (.map #[] 0)).alloc (.map #[] 0)) (.cells #[.map (some w.heap.size),.bool false,.map (some (w.heap.size+1)),.map (some (w.heap.size+2))] 207)).1
  simpa [mem0] using h
 p:=by
  refine ⟨.map [],?_,?_,fun i=>(decide_eq_false (by simp only [mem0];omega)).symm,rfl⟩
  ·exact ((((World.ownsMap_made w Tryz.prog 3 ptrElem).mono (Nat.zero_le _)).alloc _).alloc _).alloc _
  ·intro i;simp [pageAt,mem0,noPage,DataW.atKey];omega
 pg:=fun i hi=>absurd hi (Nat.not_lt_zero _)
 wm:=by
  have h:=(World.ownsMap_made (H:=Unit) (w.alloc (.map #[] 0)) Tryz.prog 22 unitElem).mono (Nat.zero_le 16384)
  refine ⟨.map [],?_,fun _=>rfl⟩
  have:=(h.alloc (.map #[] 0)).alloc (.cells #[.map (some w.heap.size),.bool false,.map (some (w.heap.size+1)),.map (some (w.heap.size+2))] 207)
  simpa using this
 nm:=by
  have h:=(World.ownsMap_made (H:=Unit) ((w.alloc (.map #[] 0)).alloc (.map #[] 0)) Tryz.prog 22 unitElem).mono (Nat.zero_le 16384)
  refine ⟨.map [],?_,fun _=>rfl⟩
  have:=h.alloc (.cells #[.map (some w.heap.size),.bool false,.map (some (w.heap.size+1)),.map (some (w.heap.size+2))] 207)
  simpa using this
 wb:=fun x h=>by cases h
 nb:=fun x h=>by cases h
 bb:=fun p h=>by simp [mem0]
theorem ram_page {wr w1:World} {B k:Nat} {D:DataW Unit} (h:RamAt wr B (mem0 k)) (hs:wr.heap.size=B+4+k) (hk:k < 256)
  (hhas:∀ i:Int,Maps.has D (.int .i64 i)=decide (0≤i∧i < (mem0 k).n)) (hat:∀ i:Int,D.atKey (.int .i64 i) noPage=.lit (.int .i64 (pageAt B (mem0 k).n i))) (hsz:Maps.size D=(mem0 k).n) (hown:wr.ownsMap Tryz.prog 3 ptrElem B 256 D)
  (hown1:w1.ownsMap Tryz.prog 3 ptrElem B (256+1) (D.put (.int .i64 k) (.lit (.int .i64 (B+4+k:Nat))))) (hturn:(wr.alloc (.cells pageZ 202)).mapTurned w1 B):
  RamAt w1 B (mem0 (k+1))∧w1.heap.size=B+4+(k+1)∧Below B wr w1:=by
 have hK:Kp (fun j=>j=B) wr w1:=(Kp.alloc _ wr _).trans (Kp.turned hturn rfl)
 have hg:=hturn.grown
 have hnew:w1.heap[B+4+k]?=some (.cells pageZ 202 (0,0)):=by
  rw [hg.block _ (by simp;omega) (by simp;omega),← hs]
  exact (MapKept.heap_alloc wr _).1
 have hsize:w1.heap.size=B+4+(k+1):=by
  obtain ⟨es,clock,es',clock',hb,rfl⟩:=hturn
  simp [ChangeMaps.setBlock,hs];omega
 have hold:∀ j,inRam B k j→j≠B→w1.heap[j]?=wr.heap[j]?:=fun j hj hne=>hK.block j (by have:=hj.2;omega) hne
 have hnot:Maps.has D (.int .i64 k)=false:=by rw [hhas];simp [mem0]
 have hsz1:Maps.size (D.put (.int .i64 k) (.lit (.int .i64 (B+4+k:Nat))))=k+1:=by
  rw [Maps.size_put (hown.tidy (int_keyed intT)),hnot,if_neg (by simp),hsz];rfl
 refine ⟨?_,hsize,hK.below (by omega) (fun j e=>by omega)⟩
 exact {
  le:=by simp [mem0];omega
  r:=(hold _ ⟨by omega,by omega⟩ (by omega)).trans h.r
  p:=by
   refine ⟨_,owns_tight hown1 (by rw [hsz1];omega),?_,?_,hsz1⟩
   ·intro i
    by_cases hi:i=k
    ·subst hi
     rw [Maps.atKey_put_same hown.isMap (by simp [WideAt.IsKeyLit])]
     unfold pageAt mem0;rw [if_pos (by simp only;omega)];simp
    ·rw [Maps.atKey_put_other (by simpa using hi),hat i]
     have e:pageAt B (mem0 k).n i=pageAt B (mem0 (k+1)).n i:=by
      unfold pageAt mem0
      simp only
      by_cases g:0≤i∧i < (k:Int)
      ·rw [if_pos g,if_pos (by omega)]
      ·rw [if_neg g,if_neg (by omega)]
     rw [e]
   ·intro i
    by_cases hi:i=k
    ·subst hi
     rw [Maps.has_put_same hown.isMap (by simp [WideAt.IsKeyLit])]
     simp [mem0];omega
    ·rw [Maps.has_put_other (by simpa using hi),hhas i]
     refine decide_eq_decide.2 ?_
     show (0≤i∧i < (k:Int))↔(0≤i∧i < ((k+1:Nat):Int))
     omega
  pg:=fun i hi=>by
   have hi':i < k+1:=hi
   by_cases e:i=k
   ·subst e
    exact ⟨pageZ,hnew,pageZ_size,fun j hj=>pageZ_byte j hj,pageZ_only⟩
   ·obtain ⟨cs,h1,h2⟩:=h.pg i (by show i < k;omega)
    exact ⟨cs,(hold _ ⟨by omega,by omega⟩ (by omega)).trans h1,h2⟩
  wm:=by obtain ⟨D',h1,h2⟩:=h.wm;exact ⟨D',owns_at h1 (hold _ ⟨by omega,by omega⟩ (by omega)),h2⟩
  nm:=by obtain ⟨D',h1,h2⟩:=h.nm;exact ⟨D',owns_at h1 (hold _ ⟨by omega,by omega⟩ (by omega)),h2⟩
  wb:=fun x h=>by cases h
  nb:=fun x h=>by cases h
  bb:=fun p h=>by simp [mem0] }
theorem new_no (w:World) (p:Int) (h:p < 1∨256 < p):
  Calls Tryz.prog 49 #[.int .i64 p] w fun e w'=>e=.returned (.tuple #[.pointer none,.int .i64 50])∧w'=w:=by
 go_enter Tryz.func49,Tryz.ntmps49
 rcases h with h | h
 ·go_wp2
  exact bodyPost_ret (v:=.tuple #[.pointer none,.int .i64 50]) (by simp [results,Tryz.results49,go_sem]) rfl ⟨rfl,rfl⟩
 ·have h1:¬ p < 1:=by omega
  go_wp2
  exact bodyPost_ret (v:=.tuple #[.pointer none,.int .i64 50]) (by simp [results,Tryz.results49,go_sem]) rfl ⟨rfl,rfl⟩
set_option maxRecDepth 100000 in
theorem new_ok (w:World) (n:Nat) (h0:1≤n) (h1:n≤256):
  Calls Tryz.prog 49 #[.int .i64 n] w fun e w'=>e=.returned (.tuple #[.pointer (some ⟨w.heap.size+3,0,none⟩),.int .i64 0])∧RamAt w' w.heap.size (mem0 n)∧w'.heap.size=w.heap.size+4+n∧Below w.heap.size w w':=by
 have hmm:=@run_makeMap Tryz.prog
 have hs:=ram_start w
 have hz:=zeroPage
 have hze:pageZ≠#[]:=fun e=>by have:=pageZ_size;rw [e] at this;cases this
 have hzs:=pageZ_size
 have g1:¬ (n:Int) < 1:=by omega
 have g2:¬ (256:Int) < (n:Int):=by omega
 go_enter Tryz.func49,Tryz.ntmps49
 go_wp2
 go_loopw [18] (fun i wr=>∃ k:Nat,k≤n∧i=.int .i64 k∧RamAt wr w.heap.size (mem0 k)∧wr.heap.size=w.heap.size+4+k∧Below w.heap.size w wr) (fun i _=>n - (intOf i).toNat)
 case atStart=>exact ⟨0,Nat.zero_le _,rfl,hs,by simp,(((((Below.refl _ w).alloc (Nat.le_refl _) _).alloc (by simp) _).alloc (by simp;omega) _).alloc (by simp;omega) _)⟩
 case round=>
  obtain ⟨k,hk,rfl,hr,hsz,hb⟩:=hrel
  have c0:wr.cell? ⟨w.heap.size+1+1+1,0,none⟩=some (.map (some w.heap.size)):=hr.c0
  obtain ⟨D,hown,hat,hhas,hsize⟩:=hr.p
  go_wp2_with (first
   | (at_mapUpdate;refine wpList_mapUpdate_in _ rfl _ _ _ 204 rfl 3 198 (int_keyed intT) pagesT ptrElem w.heap.size 256 D rfl (hown.alloc _) (by unfold maxLen;omega) _ _ _ rfl rfl (keyI (x:=(k:Int)) (by omega) (by omega)) _ [] (ptrElem_some _) ?_;intro w1 hown1 hturn1)
   | go_in)
  ·have R:=ram_page hr hsz (by omega) hhas hat hsize hown hown1 hturn1
   clear hown1 hturn1 hown hat hhas hsize c0
   go_wp2
   go_roundw
   case rel=>exact ⟨k+1,by omega,by go_num,R.1,R.2.1,hb.trans R.2.2⟩
   case measure=>simp [intOf];omega
  ·have e:k=n:=by omega
   subst e
   exact bodyPost_ret (v:=.tuple #[.pointer (some ⟨w.heap.size+3,0,none⟩),.int .i64 0]) (by simp [results,Tryz.results49,go_sem]) rfl ⟨rfl,hr,hsz,hb⟩
theorem RamAt.as {w:World} {B:Nat} {M M':Mem} (h:RamAt w B M) (e:M=M'):RamAt w B M':=e ▸ h
def Mem.note (M:Mem) (lo hi:Int):Mem:={ M with wt:=fun x=>M.wt x&&!decide (lo≤x∧x < hi),nt:=fun x=>M.nt x||(M.wt x&&decide (lo≤x∧x < hi)) }
theorem ram_unwatch {w w1:World} {B:Nat} {M:Mem} (h:RamAt w B M) {D:DataW Unit} (hD:∀ x:Int,Maps.has D (.int .u32 x)=M.wt x) (g:Int)
  (hown:w1.ownsMap Tryz.prog 22 unitElem (B+1) 16384 (D.del (.int .u32 g))) (hturn:w.mapTurned w1 (B+1)):
  RamAt w1 B { M with wt:=fun x=>M.wt x&&!decide (x=g) }:=by
 have hK:Kp (fun j=>j=B+1) w w1:=Kp.turned hturn rfl
 have hold:∀ j,inRam B M.n j→j≠B+1→w1.heap[j]?=w.heap[j]?:=fun j hj hne=>hK.block j (by have:=h.lt;have:=hj.2;omega) hne
 exact {
  le:=h.le
  r:=(hold _ ⟨by omega,by omega⟩ (by omega)).trans h.r
  p:=by obtain ⟨D',h1,h2⟩:=h.p;exact ⟨D',owns_at h1 (hold _ ⟨by omega,by omega⟩ (by omega)),h2⟩
  pg:=fun i hi=>by obtain ⟨cs,h1,h2⟩:=h.pg i hi;exact ⟨cs,(hold _ ⟨by omega,by have:i < M.n:=hi;omega⟩ (by omega)).trans h1,h2⟩
  wm:=by
   refine ⟨_,hown,fun x=>?_⟩
   by_cases e:x=g
   ·subst e;rw [Maps.has_del_same];simp
   ·rw [Maps.has_del_other (by simpa using e),hD];simp [e]
  nm:=by obtain ⟨D',h1,h2⟩:=h.nm;exact ⟨D',owns_at h1 (hold _ ⟨by omega,by omega⟩ (by omega)),h2⟩
  wb:=fun x hx=>h.wb x (by simp at hx;exact hx.1)
  nb:=h.nb
  bb:=h.bb }
theorem ram_watch {w w1:World} {B:Nat} {M:Mem} (h:RamAt w B M) {D:DataW Unit} (hD:∀ x:Int,Maps.has D (.int .u32 x)=M.wt x) (hm:Maps.IsMap D) (g:Int) (g0:0≤g) (g1:g < 4096*M.n) (g2:g%64=0)
  (hown:w1.ownsMap Tryz.prog 22 unitElem (B+1) (16384+1) (D.put (.int .u32 g) (.agg []))) (hturn:w.mapTurned w1 (B+1)):
  RamAt w1 B { M with wt:=fun x=>M.wt x||decide (x=g) }:=by
 have hK:Kp (fun j=>j=B+1) w w1:=Kp.turned hturn rfl
 have hold:∀ j,inRam B M.n j→j≠B+1→w1.heap[j]?=w.heap[j]?:=fun j hj hne=>hK.block j (by have:=h.lt;have:=hj.2;omega) hne
 have hb:∀ x,(M.wt x||decide (x=g))=true→0≤x∧x < 4096*M.n∧x%64=0:=fun x hx=>by
  simp at hx
  rcases hx with hx | rfl
  ·exact h.wb x hx
  ·exact ⟨g0,g1,g2⟩
 have hhas:∀ x:Int,Maps.has (D.put (.int .u32 g) (.agg [])) (.int .u32 x)=(M.wt x||decide (x=g)):=fun x=>by
  by_cases e:x=g
  ·subst e;rw [Maps.has_put_same hm (by simp [WideAt.IsKeyLit])];simp
  ·rw [Maps.has_put_other (by simpa using e),hD];simp [e]
 have hle:=h.le
 exact {
  le:=h.le
  r:=(hold _ ⟨by omega,by omega⟩ (by omega)).trans h.r
  p:=by obtain ⟨D',h1,h2⟩:=h.p;exact ⟨D',owns_at h1 (hold _ ⟨by omega,by omega⟩ (by omega)),h2⟩
  pg:=fun i hi=>by obtain ⟨cs,h1,h2⟩:=h.pg i hi;exact ⟨cs,(hold _ ⟨by omega,by have:i < M.n:=hi;omega⟩ (by omega)).trans h1,h2⟩
  wm:=⟨_,owns_tight hown (set_size hown _ hhas (fun x hx=>by have:=hb x hx;omega)),hhas⟩
  nm:=by obtain ⟨D',h1,h2⟩:=h.nm;exact ⟨D',owns_at h1 (hold _ ⟨by omega,by omega⟩ (by omega)),h2⟩
  wb:=hb
  nb:=h.nb
  bb:=h.bb }
theorem ram_mark {w w1:World} {B:Nat} {M:Mem} (h:RamAt w B M) {D:DataW Unit} (hD:∀ x:Int,Maps.has D (.int .u32 x)=M.nt x) (hm:Maps.IsMap D) (g:Int) (g0:0≤g) (g1:g < 4096*M.n) (g2:g%64=0)
  (hown:w1.ownsMap Tryz.prog 22 unitElem (B+2) (16384+1) (D.put (.int .u32 g) (.agg []))) (hturn:w.mapTurned w1 (B+2)):
  RamAt w1 B { M with nt:=fun x=>M.nt x||decide (x=g) }:=by
 have hK:Kp (fun j=>j=B+2) w w1:=Kp.turned hturn rfl
 have hold:∀ j,inRam B M.n j→j≠B+2→w1.heap[j]?=w.heap[j]?:=fun j hj hne=>hK.block j (by have:=h.lt;have:=hj.2;omega) hne
 have hb:∀ x,(M.nt x||decide (x=g))=true→0≤x∧x < 4096*M.n∧x%64=0:=fun x hx=>by
  simp at hx
  rcases hx with hx | rfl
  ·exact h.nb x hx
  ·exact ⟨g0,g1,g2⟩
 have hhas:∀ x:Int,Maps.has (D.put (.int .u32 g) (.agg [])) (.int .u32 x)=(M.nt x||decide (x=g)):=fun x=>by
  by_cases e:x=g
  ·subst e;rw [Maps.has_put_same hm (by simp [WideAt.IsKeyLit])];simp
  ·rw [Maps.has_put_other (by simpa using e),hD];simp [e]
 have hle:=h.le
 exact {
  le:=h.le
  r:=(hold _ ⟨by omega,by omega⟩ (by omega)).trans h.r
  p:=by obtain ⟨D',h1,h2⟩:=h.p;exact ⟨D',owns_at h1 (hold _ ⟨by omega,by omega⟩ (by omega)),h2⟩
  pg:=fun i hi=>by obtain ⟨cs,h1,h2⟩:=h.pg i hi;exact ⟨cs,(hold _ ⟨by omega,by have:i < M.n:=hi;omega⟩ (by omega)).trans h1,h2⟩
  wm:=by obtain ⟨D',h1,h2⟩:=h.wm;exact ⟨D',owns_at h1 (hold _ ⟨by omega,by omega⟩ (by omega)),h2⟩
  nm:=⟨_,owns_tight hown (set_size hown _ hhas (fun x hx=>by have:=hb x hx;omega)),hhas⟩
  wb:=h.wb
  nb:=hb
  bb:=h.bb }
theorem note_pt (a b:Bool) (P Q E:Prop) [Decidable P] [Decidable Q] [Decidable E] (k:a=true→(P↔Q∨E)) (e:E→a=true):
  (a&&!decide P)=((a&&!decide Q)&&!decide E)∧(b||(a&&decide P))=((b||(a&&decide Q))||decide E):=by
 cases a
 ·have:¬ E:=fun h=>by simpa using e h
  simp [this]
 ·have:=k rfl
  by_cases hq:Q<;>by_cases he:E<;>simp_all
theorem note_pu (a b:Bool) (P Q:Prop) [Decidable P] [Decidable Q] (k:a=true→(P↔Q)):
  (a&&!decide P)=(a&&!decide Q)∧(b||(a&&decide P))=(b||(a&&decide Q)):=by
 cases a
 ·simp
 ·have:=k rfl
  by_cases hq:Q<;>simp_all
theorem note_step (M:Mem) (lo g:Int) (hg:lo≤g) (hw:∀ x,M.wt x=true→(x - g)%64=0):
  M.note lo (g+64)=if M.wt g=true then { M.note lo g with wt:=fun x=>(M.note lo g).wt x&&!decide (x=g),nt:=fun x=>(M.note lo g).nt x||decide (x=g) } else M.note lo g:=by
 have key:∀ x,M.wt x=true→(lo≤x∧x < g+64↔(lo≤x∧x < g)∨x=g):=fun x hx=>by have:=hw x hx;omega
 split
 ·rename_i hg1
  have q:=fun x=>note_pt (M.wt x) (M.nt x) (lo≤x∧x < g+64) (lo≤x∧x < g) (x=g) (key x) (fun e=>by rw [e];exact hg1)
  unfold Mem.note
  congr 1
  ·funext x;exact (q x).1
  ·funext x;exact (q x).2
 ·rename_i hg1
  have q:=fun x=>note_pu (M.wt x) (M.nt x) (lo≤x∧x < g+64) (lo≤x∧x < g) (fun hx=>by
   have:=key x hx
   have e:x≠g:=fun e=>hg1 (e ▸ hx)
   omega)
  unfold Mem.note
  congr 1
  ·funext x;exact (q x).1
  ·funext x;exact (q x).2
theorem note_none (M:Mem) (lo:Int):M.note lo lo=M:=by
 have f:∀ x,decide (lo≤x∧x < lo)=false:=fun x=>decide_eq_false (by omega)
 unfold Mem.note
 simp [f]
theorem note_any (w:World) (B:Nat) (M:Mem) (h:RamAt w B M) (pl n:Int) (h0:0≤pl) (n1:1≤n) (h1:pl+n≤4096*M.n):
  Calls Tryz.prog 168 #[.pointer (some ⟨B+3,0,none⟩),.int .u32 pl,.int .i64 n] w fun e w'=>e=.returned (.tuple #[])∧RamAt w' B (M.note (pl - pl%64) ((pl+n - 1) - (pl+n - 1)%64+64))∧Kp (fun j=>j=B+1∨j=B+2) w w':=by
 have hle:=h.le
 have a1:pl+n < 4294967296:=by omega
 have a2:n < 4294967296:=by omega
 go_enter Tryz.func168,Tryz.ntmps168
 go_wp2_with (first
  | (go_at_call 214;refine (granuleOf_any _ _ (by omega) (by omega)).mono ?_;rintro e w' ⟨rfl,hw⟩;replace hw:=hw.symm;subst hw)
  | go_in)
 obtain ⟨lo,hlo⟩:∃ lo,lo=pl - pl%64:=⟨_,rfl⟩
 obtain ⟨hi,hhi⟩:∃ hi,hi=pl+n - 1 - (pl+n - 1)%64:=⟨_,rfl⟩
 rw [← hlo,← hhi]
 have b0:0≤lo:=by omega
 have b1:lo≤hi:=by omega
 have b2:hi+64≤4096*M.n:=by omega
 have b3:lo%64=0:=by omega
 have b4:hi%64=0:=by omega
 have HLO:Hid (lo=pl - pl%64):=hlo
 have HHI:Hid (hi=pl+n - 1 - (pl+n - 1)%64):=hhi
 clear hlo hhi
 go_loopw [7] (fun i wr=>∃ g:Int,i=.int .u32 g∧lo≤g∧g≤hi+64∧g%64=0∧RamAt wr B (M.note lo g)∧Kp (fun j=>j=B+1∨j=B+2) w wr) (fun i _=>(hi+64 - intOf i).toNat)
 case atStart=>exact ⟨lo,rfl,Int.le_refl _,by omega,b3,h.as (note_none M lo).symm,Kp.refl _ _⟩
 case round=>
  obtain ⟨g,rfl,g0,g1,g2,hr,hk⟩:=hrel
  have c2:=hr.c2
  obtain ⟨D,hown,hD⟩:=hr.wm
  have hra:=hr.alloc (.cells #[] 302)
  have c2a:=hra.c2
  have hka:Kp (fun j=>j=B+1∨j=B+2) w (wr.alloc (.cells #[] 302)):=hk.trans (Kp.alloc _ wr _)
  have hwt:∀ x,M.wt x=true→(x - g)%64=0:=fun x hx=>by have:=h.wb x hx;omega
  have hstep:=note_step M lo g g0 hwt
  have hng:(M.note lo g).wt g=M.wt g:=by simp [Mem.note]
  have HS:Hid (M.note lo (g+64)=if M.wt g=true then { M.note lo g with wt:=fun x=>(M.note lo g).wt x&&!decide (x=g),nt:=fun x=>(M.note lo g).nt x||decide (x=g) } else M.note lo g):=hstep
  have HN:Hid ((M.note lo g).wt g=M.wt g):=hng
  clear hstep hng
  go_wp2_with (first
   | (at_lookup;refine wpList_lookup_own_unit _ rfl _ _ 205 rfl 22 302 (int_keyed u32T) setT (zeroUnit _) (B+1) 16384 D rfl hown _ _ rfl (keyU (x:=g) (by omega) (by omega)) ?_)
   | (at_delete;refine wpList_delete_own _ rfl _ _ 205 22 rfl 302 (int_keyed u32T) setT unitElem (B+1) 16384 D rfl (hown.alloc _) _ _ rfl (keyU (x:=g) (by omega) (by omega)) ?_;intro w2 hown2 hturn2;have hr2:=ram_unwatch hra hD g hown2 hturn2;have hk2:Kp (fun j=>j=B+1∨j=B+2) w w2:=hka.trans (Kp.turned hturn2 (Or.inl rfl));have c3:=hr2.c3;obtain ⟨D3,hown3,hD3⟩:=hr2.nm;clear hown2 hturn2)
   | (at_mapUpdate;refine wpList_mapUpdate_in _ rfl _ _ _ 205 rfl 22 302 (int_keyed u32T) setT unitElem (B+2) 16384 D3 rfl hown3 (by unfold maxLen;omega) _ _ _ rfl rfl (keyU (x:=g) (by omega) (by omega)) _ [] unitElem_mk ?_;intro w3 hown4 hturn4;have hr4:=ram_mark hr2 hD3 hown3.isMap g (by omega) (by show g < 4096*M.n;omega) g2 hown4 hturn4;have hk4:Kp (fun j=>j=B+1∨j=B+2) w w3:=hk2.trans (Kp.turned hturn4 (Or.inr rfl));clear hown4 hturn4)
   | go_in)
  ·have hwg:M.wt g=true:=by rw [← HN.out];assumption
   go_roundw
   case rel=>
    refine ⟨g+64,rfl,by omega,by omega,by omega,hr4.as ?_,hk4⟩
    rw [HS.out,if_pos hwg]
   case measure=>simp [intOf];omega
  ·have hwg:¬ M.wt g=true:=by rw [← HN.out];simp;assumption
   go_roundw
   case rel=>
    refine ⟨g+64,rfl,by omega,by omega,by omega,hra.as ?_,hka⟩
    rw [HS.out,if_neg hwg]
   case measure=>simp [intOf];omega
  ·have e:g=hi+64:=by omega
   subst e
   go_end0
   refine ⟨rfl,?_,hk⟩
   rw [← HLO.out,← HHI.out]
   exact hr
def Laid (cur cur':Array Value) (o L:Nat) (f:Nat→Value):Prop:=cur'.size=cur.size∧∀ j,cur'[j]?=if o≤j∧j < o+L then some (f (j - o)) else cur[j]?
theorem Laid.none (cur:Array Value) (o:Nat) (f:Nat→Value):Laid cur cur o 0 f:=⟨rfl,fun j=>by rw [if_neg (by omega)]⟩
theorem Laid.then {c1 c2 c3:Array Value} {o L K:Nat} {f g:Nat→Value} (h:Laid c1 c2 o L f) (k:Laid c2 c3 (o+L) K g) (e:∀ j,j < K→g j=f (L+j)):Laid c1 c3 o (L+K) f:=by
 refine ⟨k.1.trans h.1,fun j=>?_⟩
 rw [k.2 j]
 by_cases a:o+L≤j∧j < o+L+K
 ·rw [if_pos a,if_pos (by omega),e _ (by omega)];congr 2;omega
 ·rw [if_neg a,h.2 j]
  by_cases b:o≤j∧j < o+L
  ·rw [if_pos b,if_pos (by omega)]
  ·rw [if_neg b,if_neg (by omega)]
theorem Laid.one {cur:Array Value} {o:Nat} (ho:o < cur.size) (v:Value):Laid cur (cur.setIfInBounds o v) o 1 (fun _=>v):=by
 refine ⟨by simp,fun j=>?_⟩
 rw [Array.getElem?_setIfInBounds]
 by_cases e:o=j
 ·subst e;rw [if_pos rfl,if_pos ho,if_pos (by omega)]
 ·rw [if_neg e,if_neg (by omega)]
theorem Laid.splice {cur:Array Value} {o:Nat} {cs:List Value} (ho:o+cs.length≤cur.size) (f:Nat→Value) (hf:∀ j,j < cs.length→cs[j]?=some (f j)):
  Laid cur (cur.toList.take o++cs++cur.toList.drop (o+cs.length)).toArray o cs.length f:=by
 refine ⟨by simp;omega,fun j=>?_⟩
 rw [List.getElem?_toArray]
 by_cases a:j < o
 ·rw [if_neg (by omega),List.append_assoc,List.getElem?_append_left (by simp;omega),List.getElem?_take_of_lt a,Array.getElem?_toList]
 ·by_cases b:j < o+cs.length
  ·rw [if_pos (by omega),List.getElem?_append_left (by simp;omega),List.getElem?_append_right (by simp;omega)]
   have e:j - (cur.toList.take o).length=j - o:=by simp;omega
   rw [e,hf _ (by omega)]
  ·rw [if_neg (by omega),List.getElem?_append_right (by simp;omega)]
   have e:j - (cur.toList.take o++cs).length=j - (o+cs.length):=by simp;omega
   rw [e,List.getElem?_drop,Array.getElem?_toList]
   congr 1;omega
theorem heap_setCell_at {w:World} {S o:Nat} {cur:Array Value} {t:TypeId} (h:w.heap[S]?=some (.cells cur t (0,0))) (v:Value):(w.setCell ⟨S,o,none⟩ v).heap[S]?=some (.cells (cur.setIfInBounds o v) t (0,0)):=by
 rw [setCell_eq_setRow w S o cur t (0,0) v h]
 exact setRow_heap w S cur _ t _ h
theorem cell_at {w:World} {S o:Nat} {cur:Array Value} {t:TypeId} (h:w.heap[S]?=some (.cells cur t (0,0))):w.cell? ⟨S,o,none⟩=cur[o]?:=by simp [World.cell?,h]
theorem frozen_at {w:World} {S o:Nat} {cur:Array Value} {t:TypeId} (h:w.heap[S]?=some (.cells cur t (0,0))):w.frozen? ⟨S,o,none⟩=false:=by simp [World.frozen?,h]
theorem fill_any (w:World) (S o L c:Nat) (v:Int) (cur:Array Value) (t:TypeId) (h:w.heap[S]?=some (.cells cur t (0,0))) (ho:o+L≤cur.size) (hL:L < 9223372036854775808) (hc:L≤c):
  Calls Tryz.prog 119 #[.slice (some ⟨S,o,none⟩) L c,.int .u8 v] w fun e w'=>e=.returned (.tuple #[])∧(∃ cur',w'.heap[S]?=some (.cells cur' t (0,0))∧Laid cur cur' o L (fun _=>.int .u8 v))∧Kp (fun j=>j=S) w w':=by
 go_enter Tryz.func119,Tryz.ntmps119
 go_wp2
 go_loopw [7] (fun i wr=>∃ k:Nat,k≤L∧i=.int .i64 k∧(∃ cur',wr.heap[S]?=some (.cells cur' t (0,0))∧Laid cur cur' o k (fun _=>.int .u8 v))∧Kp (fun j=>j=S) w wr) (fun i _=>L - (intOf i).toNat)
 case atStart=>exact ⟨0,Nat.zero_le _,rfl,⟨cur,h,Laid.none _ _ _⟩,Kp.refl _ _⟩
 case round=>
  obtain ⟨k,hk,rfl,⟨cur',hh,hl⟩,hkp⟩:=hrel
  have hcell:k < L→∃ u,wr.cell? ⟨S,o+k,none⟩=some u:=fun hkL=>by
   rw [cell_at hh];have:=hl.1;exact ⟨_,Array.getElem?_eq_getElem (by omega)⟩
  have hfz:=frozen_at (o:=o+k) hh
  by_cases hkL:k < L
  ·obtain ⟨u,hu⟩:=hcell hkL
   clear hcell
   have R:∃ cur'',(wr.setCell ⟨S,o+k,none⟩ (.int .u8 v)).heap[S]?=some (.cells cur'' t (0,0))∧Laid cur cur'' o (k+1) (fun _=>.int .u8 v):=
    ⟨_,heap_setCell_at hh _,hl.then (Laid.one (by have:=hl.1;omega) _) (fun _ _=>rfl)⟩
   have hkp':Kp (fun j=>j=S) w (wr.setCell ⟨S,o+k,none⟩ (.int .u8 v)):=hkp.trans (Kp.setCell (S:=fun j=>j=S) wr (p:=⟨S,o+k,none⟩) rfl _)
   go_wp2
   go_roundw
   case rel=>exact ⟨k+1,by omega,by go_num,R,hkp'⟩
   case measure=>simp [intOf];omega
  ·clear hcell
   have e:k=L:=by omega
   subst e
   go_wp2
   go_end0
   exact ⟨rfl,⟨cur',hh,hl⟩,hkp⟩
def slLen:Value→Nat | .slice _ l _=>l | _=>0
def Mem.rd (M:Mem) (a:Int):Int:=if M.place a < 4096*M.n then M.byte (M.place a).toNat else 255
theorem byteT:(Tryz.prog.info? 5).map (·.size)=some 1:=by kernel_rfl
theorem bytesT:Tryz.prog.underlying 79=some (.slice 5):=by kernel_rfl
theorem arrayT:Tryz.prog.underlying 200=some (.array 4096 5):=by kernel_rfl
theorem run_pageSlice (w:World) (b q:Nat) (h:q < 4096):(Instr.sliceAt 200 (.pointer (some ⟨b,0,none⟩)) (some (.int .u32 q)) none none).run Tryz.prog w=.ok (.slice (some ⟨b,q,none⟩) (4096 - q) (4096 - q)) w:=by
 have hq:¬ 4096=q:=by omega
 have hz:q=0→0=q:=fun e=>e.symm
 have h2:(q:Int)≤4096:=by omega
 cases hi:Tryz.prog.info? 5 with
 | none=>have:=byteT;rw [hi] at this;cases this
 | some i=>
  have hs:i.size=1:=by have:=byteT;rw [hi] at this;simpa using this
  simp [Instr.sliceAt,Instr.sureAddr,run_underlying arrayT,Instr.sliceBounds,run_sliceBound,sizeOf,typeInfo,hi,hs,hq,h2,Addr.add]
  exact hz
theorem place_add (M:Mem) {a:Int} (a0:0≤a) (a1:a < 4294967296) (j:Nat) (h:M.place a%4096+j < 4096):M.place ((a+j)%4294967296)=M.place a+j:=by
 unfold Mem.place at h ⊢
 by_cases c:M.closed=true
 ·simp only [c,true_and] at h ⊢
  split at h
  ·rw [if_pos (by omega),if_pos (by omega)];omega
  ·rw [if_neg (by omega),if_neg (by omega)];omega
 ·simp only [c] at h ⊢
  simp at h ⊢
  omega
theorem rd_in (M:Mem) {at_ a:Int} {k j:Nat} (ha:a=(at_+k)%4294967296) (j0:M.place a%4096+j < 4096) (i q:Nat) (hq:q < 4096) (hi:M.place a=4096*i+q) (hn:i < M.n):M.rd ((at_+(k+j:Nat))%4294967296)=M.byte (4096*i+(q+j)):=by
 have e:(at_+(k+j:Nat))%4294967296=(a+j)%4294967296:=by omega
 have p:=place_add M (a:=a) (by omega) (by omega) j j0
 unfold Mem.rd
 rw [e,p,hi,if_pos (by omega)]
 congr 1
 omega
theorem rd_out (M:Mem) {at_ a:Int} {k j:Nat} (ha:a=(at_+k)%4294967296) (j0:M.place a%4096+j < 4096) (hn:4096*M.n≤M.place a):M.rd ((at_+(k+j:Nat))%4294967296)=255:=by
 have e:(at_+(k+j:Nat))%4294967296=(a+j)%4294967296:=by omega
 have p:=place_add M (a:=a) (by omega) (by omega) j j0
 unfold Mem.rd
 rw [e,p,if_neg (by omega)]
theorem copy_any (w:World) (S o dLen dCap b q sLen sCap n:Nat) (hn:n=Nat.min sLen dLen) (cur:Array Value) (t:TypeId) (hS:w.heap[S]?=some (.cells cur t (0,0))) (ho:o+n≤cur.size) (f:Nat→Int)
  (hsrc:∀ j,j < n→w.cell? ⟨b,q+j,none⟩=some (.int .u8 (f j))):
  ∃ w2,(Builtin.copy_ #[79,79] 3 #[.slice (some ⟨S,o,none⟩) dLen dCap,.slice (some ⟨b,q,none⟩) sLen sCap]).run Tryz.prog w=.ok (.int .i64 n) w2 ∧
   (∃ cur',w2.heap[S]?=some (.cells cur' t (0,0))∧Laid cur cur' o n (fun j=>.int .u8 (f j)))∧Kp (fun j=>j=S) w w2:=by
 obtain ⟨cs,hcs⟩:∃ cs:List Value,cs=(List.range n).map (fun j=>Value.int .u8 (f j)):=⟨_,rfl⟩
 have hlen:cs.length=n:=by rw [hcs];simp
 have hget:∀ j,j < cs.length→cs[j]?=some (.int .u8 (f j)):=fun j hj=>by
  rw [hlen] at hj
  rw [hcs,List.getElem?_map,List.getElem?_range hj]
  rfl
 have hl:=Laid.splice (cur:=cur) (o:=o) (cs:=cs) (by omega) (fun j=>.int .u8 (f j)) hget
 have hrun:=run_copy_row Tryz.prog w 79 79 3 5 S o dLen dCap ⟨b,q,none⟩ sLen sCap cur t cs bytesT byteT hS (by omega) (fun j v hv=>by
   have hj:j < cs.length:=(List.getElem?_eq_some_iff.1 hv).1
   rw [hget j hj] at hv
   cases hv
   have e:(⟨b,q,none⟩:Addr).add j=⟨b,q+j,none⟩:=by unfold Addr.add;split<;>simp_all
   rw [e]
   exact hsrc j (by omega)) (by omega) (fun v hv=>by rw [hcs] at hv;simp at hv;obtain ⟨j,_,rfl⟩:=hv;rfl)
 rw [hlen] at hrun hl
 refine ⟨_,hrun,⟨_,setRow_heap w S _ _ t _ hS,hl⟩,Kp.setRow (S:=fun j=>j=S) w rfl _⟩
set_option maxRecDepth 100000 in
theorem tell_any (w:World) (B:Nat) (M:Mem) (h:RamAt w B M) (at_:Int) (a0:0≤at_) (a1:at_ < 4294967296) (S o L c:Nat) (cur:Array Value) (t:TypeId) (hS:w.heap[S]?=some (.cells cur t (0,0))) (ho:o+L≤cur.size) (hL:L < 4611686018427387904) (hc:L≤c) (hn:¬ inRam B M.n S):
  Calls Tryz.prog 48 #[.pointer (some ⟨B+3,0,none⟩),.int .u32 at_,.slice (some ⟨S,o,none⟩) L c] w fun e w'=>e=.returned (.tuple #[])∧(∃ cur',w'.heap[S]?=some (.cells cur' t (0,0))∧Laid cur cur' o L (fun i=>.int .u8 (M.rd ((at_+i)%4294967296))))∧Kp (fun j=>j=S) w w':=by
 go_enter Tryz.func48,Tryz.ntmps48
 go_wp2
 go_loopw [1,2] (fun a sl wr=>∃ k:Nat,k≤L∧a=.int .u32 ((at_+k)%4294967296)∧(∃ p c',sl=.slice p (L - k) c'∧(k < L→p=some ⟨S,o+k,none⟩∧L - k≤c'))∧(∃ cur',wr.heap[S]?=some (.cells cur' t (0,0))∧Laid cur cur' o k (fun i=>.int .u8 (M.rd ((at_+i)%4294967296))))∧Kp (fun j=>j=S) w wr) (fun _ sl _=>slLen sl)
 case atStart=>exact ⟨0,Nat.zero_le _,by simp;omega,⟨_,c,rfl,fun _=>⟨rfl,hc⟩⟩,⟨cur,hS,Laid.none _ _ _⟩,Kp.refl _ _⟩
 case round=>
  obtain ⟨k,hk,rfl,⟨p,c',rfl,hp⟩,⟨cur',hh,hl⟩,hkp⟩:=hrel
  have hr:RamAt wr B M:=h.kp hkp (fun j hj e=>hn (e ▸ hj))
  by_cases hkL:k < L
  ·obtain ⟨rfl,hc'⟩:=hp hkL
   obtain ⟨a,ha⟩:∃ a,a=(at_+k)%4294967296:=⟨_,rfl⟩
   rw [← ha]
   have b0:0≤a:=by omega
   have b1:a < 4294967296:=by omega
   have HA:Hid (a=(at_+k)%4294967296):=ha
   clear ha
   have pb:=M.place_bd b0 b1
   obtain ⟨pl,hpl⟩:∃ pl,pl=M.place a:=⟨_,rfl⟩
   have cP:=place_any wr B M hr a b0 b1
   rw [← hpl] at cP pb
   have HP:Hid (pl=M.place a):=hpl
   clear hpl
   obtain ⟨p0,p1⟩:=pb
   obtain ⟨n,hn⟩:∃ n:Nat,n=(min ((L - k:Nat):Int) (4096 - pl%4096)).toNat:=⟨_,rfl⟩
   have cL:=lengthInPage_any wr pl (L - k:Nat) p0 p1 (by omega) (by omega)
   have en:min ((L - k:Nat):Int) (4096 - pl%4096)=n:=by omega
   rw [en] at cL
   have n0:1≤n:=by omega
   have n1:n≤L - k:=by omega
   have n2:n≤4096:=by omega
   obtain ⟨q,hq⟩:∃ q:Nat,pl%4096=q:=⟨(pl%4096).toNat,by omega⟩
   have q1:q+n≤4096:=by omega
   have q2:q < 4096:=by omega
   clear hn en
   by_cases hpn:pl < 4096*M.n
   ·have cO:=pageOf_some wr B M hr pl p0 p1 hpn
    obtain ⟨i,hi⟩:∃ i:Nat,i=(pl / 4096).toNat:=⟨_,rfl⟩
    rw [← hi] at cO
    have HI:Hid (pl=4096*i+q):=show _=_ by omega
    obtain ⟨cs,hcs,hz,hby,hon⟩:=hr.pg i (by omega)
    have HIN:Hid (i < M.n):=show _ < _ by omega
    clear hi hpn
    have hsl:=run_pageSlice wr (B+4+i) q q2
    obtain ⟨w2,hcp,⟨cur2,hh2,hl2⟩,hk2⟩:=copy_any wr S (o+k) n c' (B+4+i) q (4096 - q) (4096 - q) n (Nat.min_eq_right (by omega)).symm cur' t hh (by have:=hl.1;omega) (fun j=>M.byte (4096*i+(q+j))) (fun j hj=>by rw [cell_at hcs];exact hby _ (by omega))
    have hkp2:=hkp.trans hk2
    have hlF:=hl.then hl2 (fun j hj=>by
     show Value.int .u8 _=Value.int .u8 _
     congr 1
     have e2:=HP.out
     have e3:=HI.out
     exact (rd_in M HA.out (by rw [← e2];omega) i q q2 (by rw [← e2];exact e3) HIN.out).symm)
    clear hl2 hl hk2 hh hcs hz hby hon hr
    go_wp2_with fail
    refine cP.mono ?_;rintro e w' ⟨rfl,hw⟩;replace hw:=hw.symm;subst hw
    go_wp2_with fail
    refine cL.mono ?_;rintro e w' ⟨rfl,hw⟩;replace hw:=hw.symm;subst hw
    go_wp2_with fail
    refine cO.mono ?_;rintro e w' ⟨rfl,hw⟩;replace hw:=hw.symm;subst hw
    go_wp2
    go_roundw
    case rel=>
     refine ⟨k+n,by omega,?_,?_,⟨cur2,hh2,hlF⟩,hkp2⟩
     ·congr 1;have:=HA.out;omega
     ·refine ⟨_,_,by congr 1;omega,fun hlt=>?_⟩
      rw [if_neg (by omega)]
      exact ⟨by congr 2;omega,by omega⟩
    case measure=>simp [slLen];omega
   ·have cO:=pageOf_none wr B M hr pl p0 p1 (by omega)
    have cF:=fill_any wr S (o+k) n c' 255 cur' t hh (by have:=hl.1;omega) (by omega) (by omega)
    have HPN:Hid (4096*M.n≤pl):=show _≤_ by omega
    clear hpn
    go_wp2_with fail
    refine cP.mono ?_;rintro e w' ⟨rfl,hw⟩;replace hw:=hw.symm;subst hw
    go_wp2_with fail
    refine cL.mono ?_;rintro e w' ⟨rfl,hw⟩;replace hw:=hw.symm;subst hw
    go_wp2_with fail
    refine cO.mono ?_;rintro e w' ⟨rfl,hw⟩;replace hw:=hw.symm;subst hw
    go_wp2_with fail
    refine cF.mono ?_;rintro e w2 ⟨rfl,⟨cur2,hh2,hl2⟩,hk2⟩
    have hkp2:=hkp.trans hk2
    have hlF:=hl.then hl2 (fun j hj=>by
     show Value.int .u8 _=Value.int .u8 _
     congr 1
     have e2:=HP.out
     exact (rd_out M HA.out (by rw [← e2];omega) (by rw [← e2];exact HPN.out)).symm)
    clear hl2 hl hk2 hh hr
    go_wp2
    go_roundw
    case rel=>
     refine ⟨k+n,by omega,?_,?_,⟨cur2,hh2,hlF⟩,hkp2⟩
     ·congr 1;have:=HA.out;omega
     ·refine ⟨_,_,by congr 1;omega,fun hlt=>?_⟩
      rw [if_neg (by omega)]
      exact ⟨by congr 2;omega,by omega⟩
    case measure=>simp [slLen];omega
  ·have e:k=L:=by omega
   subst e
   clear hp
   go_wp2
   go_end0
   exact ⟨rfl,⟨cur',hh,hl⟩,hkp⟩
end Go.Proofs.YtacgmoikegcopaaGreatDoor.Rm
