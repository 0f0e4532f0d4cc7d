/- Delivery: the flags that a delivery is tried with. -/
import Derived.Test.YtacgmoikegcopaaGreatDoorXcBackMP
namespace Go.Proofs.YtacgmoikegcopaaGreatDoor.Rm
open Go.ChangeShapes Go.WideShapes Go.ChangeAt Go.RowKit Go.Maps
set_option linter.unusedVariables false
set_option maxRecDepth 20000
theorem and12 (n:Nat) (h:n < 32768):bits .andNot .u32 (n:Int) 28672=((n%4096:Nat):Int):=by
 show IntKind.u32.wrap ((BitVec.ofInt 32 (n:Int) &&& ~~~BitVec.ofInt 32 28672).toNat:Int)=_
 rw [BitVec.toNat_and]
 have e1:(~~~BitVec.ofInt 32 28672).toNat=4294938623:=by decide
 have e2:(BitVec.ofInt 32 (n:Int)).toNat=n:=by rw [BitVec.toNat_ofInt];show ((n:Int)%4294967296).toNat=n;omega
 have h1:n &&& 32767=n:=by
  have:=Nat.and_two_pow_sub_one_eq_mod n 15
  rw [show (32767:Nat)=2 ^ 15 - 1 by decide,this]
  exact Nat.mod_eq_of_lt h
 have h2:n &&& 4294938623=n%4096:=by
  have:=Nat.and_two_pow_sub_one_eq_mod n 12
  rw [← h1,Nat.and_assoc,show (32767 &&& 4294938623:Nat)=2 ^ 12 - 1 by decide,h1]
  exact this
 rw [e1,e2,h2,IntKind.wrap_u32]
 omega
def flB (n:Nat):Int:=bits .or .u32 ((n%4096:Nat):Int) 2
def flBo (n:Nat):Int:=bits .or .u32 (flB n) 512
def fbOk (n:Nat):Bool:=(decide (0≤flB n∧flB n < 4096∧flB n / 2%2=1)&&decide (0≤flBo n∧flBo n < 4096∧flBo n / 2%2=1))
def fbGo:Nat→Bool
 | 0=>true
 | n+1=>fbOk n&&fbGo n
theorem fbGo_4096:fbGo 4096=true:=by kernel_rfl
theorem fbGo_all:∀ N,fbGo N=true→∀ n,n < N→fbOk n=true
 | 0,_,n,h=>by omega
 | N+1,hg,n,h=>by
  unfold fbGo at hg
  rw [Bool.and_eq_true] at hg
  by_cases e:n=N
  ·subst e;exact hg.1
  ·exact fbGo_all N hg.2 n (by omega)
theorem fb_all (n:Nat):(0≤flB n∧flB n < 4096∧flB n / 2%2=1)∧(0≤flBo n∧flBo n < 4096∧flBo n / 2%2=1):=by
 have h:=fbGo_all 4096 fbGo_4096 (n%4096) (by omega)
 unfold fbOk at h
 have e:flB (n%4096)=flB n:=by unfold flB;rw [Nat.mod_mod]
 have e':flBo (n%4096)=flBo n:=by unfold flBo;rw [e]
 rw [e,e'] at h
 simpa only [Bool.and_eq_true,decide_eq_true_eq] using h
end Go.Proofs.YtacgmoikegcopaaGreatDoor.Rm
