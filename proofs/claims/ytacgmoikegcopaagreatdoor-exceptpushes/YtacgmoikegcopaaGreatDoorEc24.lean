/- The bus and its devices: PcOps, PcBits, PtMath, IdMath, IdBase, IdLeaf, IdZero, IdTake, IdOps2, IdNew, IdW, BsMath. -/
import Derived.Test.YtacgmoikegcopaaGreatDoorEc23
import Derived.Test.YtacgmoikegcopaaGreatDoorEc01
import Derived.MapKept
import Derived.Maps.AppendAt
import Derived.OwnWalk
import Derived.Laws.CopyRow
import Derived.Deep.MidRow
import Derived.Lib.EndianBits
import Derived.Deep.QuietTactic
import Derived.BigQuiet
import Derived.BigRegion
import Derived.Deep.RegionHeld3
import Derived.Laws.CopyOwn
import Derived.Deep.RegionLaw
import Derived.Outline
import Derived.Laws.AppendOwnNone
import Derived.Laws.MakeOwn
import Derived.Laws.IdiomCopy
import Derived.Test.YtacgmoikegcopaaGreatDoorEc19
import Derived.Test.YtacgmoikegcopaaGreatDoorEc03
namespace Go.Proofs.YtacgmoikegcopaaGreatDoor.Pc
open Go.ChangeShapes Go.WideShapes Go.ChangeAt Go.RowKit
set_option linter.unusedVariables false
set_option maxRecDepth 20000
def M2.out (m:M2) (p v:Int):M2:=(if p=0 then m.set false (m.a.cmd v) else if p=1 then m.set false (m.a.dat v) else if p=2 then m.set true (m.b.cmd v) else m.set true (m.b.dat v)).settle
def M2.line (m:M2) (n:Int) (u:Bool):M2:=(if n=2 then m else if n < 8 then m.set false (m.a.line n u) else m.set true (m.b.line (n - 8) u)).settle
theorem M2.Ok.out {m:M2} (k:m.Ok) {p v:Int} (hv:By v):(m.out p v).Ok:=by
 unfold M2.out
 apply M2.Ok.settle
 split
 ·exact k.set false (k.a.cmd hv)
 ·split
  ·exact k.set false (k.a.dat hv)
  ·split
   ·exact k.set true (k.b.cmd hv)
   ·exact k.set true (k.b.dat hv)
theorem M2.Ok.line {m:M2} (k:m.Ok) {n:Int} (n0:0≤n) (n1:n < 16) (u:Bool):(m.line n u).Ok:=by
 unfold M2.line
 apply M2.Ok.settle
 split
 ·exact k
 ·split
  ·exact k.set false (k.a.line n0 (by omega) u)
  ·exact k.set true (k.b.line (by omega) (by omega) u)
theorem heap_new (w:World) (o:Obj):(w.alloc o).heap[w.heap.size]?=some o:=(MapKept.heap_alloc w o).1
theorem new_cell (w:World) (v:Value) (t:TypeId):(w.alloc (.cells #[v] t)).cell? ⟨w.heap.size,0,none⟩=some v:=by
 simp [go_sem]
theorem out_ok (w:World) (B:Nat) (m:M2) (h:PAt w B m) (k:m.Ok) (p v:Int) (p0:0≤p) (p1:p < 4) (hv:By v):Calls Tryz.prog 124 #[.pointer (some ⟨B,0,none⟩),.int .i64 p,.int .u8 v] w fun e w'=>e=.returned (.int .i64 0)∧PAt w' B (m.out p v)∧Kp (isB B) w w':=by
 have h1:PAt (w.alloc (.cells #[.int .u8 v] 5)) B m:=h.alloc _
 have c1:=new_cell w (.int .u8 v) 5
 have k1:Kp (isB B) w (w.alloc (.cells #[.int .u8 v] 5)):=Kp.alloc _ _ _
 have H:Hid (Calls Tryz.prog 170 #[.pointer (some ⟨B,0,none⟩),.int .i64 p,.int .i64 2,.func (.func 171) #[] #[.pointer (some ⟨w.heap.size,0,none⟩)]] (w.alloc (.cells #[.int .u8 v] 5)) fun e w'=>e=.returned (.int .i64 0)∧PAt w' B (m.out p v)∧Kp (isB B) w w'):=by
  have cases4:p=0∨p=1∨p=2∨p=3:=by omega
  rcases cases4 with rfl | rfl | rfl | rfl
  ·exact (withO_0 _ B _ m h1 k v hv c1).mono fun e w' ⟨a,b,c⟩=>⟨a,b,k1.trans c⟩
  ·exact (withO_1 _ B _ m h1 k v hv c1).mono fun e w' ⟨a,b,c⟩=>⟨a,b,k1.trans c⟩
  ·exact (withO_2 _ B _ m h1 k v hv c1).mono fun e w' ⟨a,b,c⟩=>⟨a,b,k1.trans c⟩
  ·exact (withO_3 _ B _ m h1 k v hv c1).mono fun e w' ⟨a,b,c⟩=>⟨a,b,k1.trans c⟩
 clear h1 c1 k1
 go_enter Tryz.func124,Tryz.ntmps124
 go_wp2_with fail
 refine Calls.mono H.out ?_;rintro e w2 ⟨rfl,h2,k2⟩
 go_wp2
 go_ret
 exact ⟨rfl,h2,k2⟩
theorem new_first (w:World) (v:Value) (t:TypeId) (o:Obj):((w.alloc (.cells #[v] t)).alloc o).cell? ⟨w.heap.size,0,none⟩=some v:=by
 rw [World.cell?_alloc_lt _ _ _ (by simp)];exact new_cell w v t
theorem line_ok (w:World) (B:Nat) (m:M2) (h:PAt w B m) (k:m.Ok) (n:Int) (u:Bool) (n0:0≤n) (n1:n < 16):Calls Tryz.prog 134 #[.pointer (some ⟨B,0,none⟩),.int .i64 n,.bool u] w fun e w'=>e=.returned (.int .i64 0)∧PAt w' B (m.line n u)∧Kp (isB B) w w':=by
 have h1:PAt ((w.alloc (.cells #[.int .i64 n] 3)).alloc (.cells #[.bool u] 4)) B m:=(h.alloc _).alloc _
 have c1:=new_first w (.int .i64 n) 3 (.cells #[.bool u] 4)
 have c2:=new_cell (w.alloc (.cells #[.int .i64 n] 3)) (.bool u) 4
 have s1:(w.alloc (.cells #[.int .i64 n] 3)).heap.size=w.heap.size+1:=by simp
 rw [s1] at c2
 have k1:Kp (isB B) w ((w.alloc (.cells #[.int .i64 n] 3)).alloc (.cells #[.bool u] 4)):=(Kp.alloc _ _ _).trans (Kp.alloc _ _ _)
 have H:Hid (Calls Tryz.prog 170 #[.pointer (some ⟨B,0,none⟩),.int .i64 n,.int .i64 8,.func (.func 184) #[] #[.pointer (some ⟨w.heap.size,0,none⟩),.pointer (some ⟨w.heap.size+1,0,none⟩)]] ((w.alloc (.cells #[.int .i64 n] 3)).alloc (.cells #[.bool u] 4)) fun e w'=>e=.returned (.int .i64 0)∧PAt w' B (m.line n u)∧Kp (isB B) w w'):=by
  unfold M2.line
  by_cases e2:n=2
  ·subst e2
   exact (withL_2 _ B _ _ m h1 k c1).mono fun e w' ⟨a,b,c⟩=>⟨a,by rw [if_pos rfl];exact b,k1.trans c⟩
  ·by_cases e8:n < 8
   ·rw [if_neg e2,if_pos e8]
    exact (withL_a _ B _ _ m h1 k n n u n0 e8 rfl (by simp [e2]) c1 c2).mono fun e w' ⟨a,b,c⟩=>⟨a,b,k1.trans c⟩
   ·rw [if_neg e2,if_neg e8]
    exact (withL_b _ B _ _ m h1 k (n - 8) n u (by omega) (by omega) (by omega) (by simp [e2]) c1 c2).mono fun e w' ⟨a,b,c⟩=>⟨a,b,k1.trans c⟩
 have c0:=c1
 clear h1 c1 c2 k1 s1
 go_enter Tryz.func134,Tryz.ntmps134
 go_wp2_with fail
 refine Calls.mono H.out ?_;rintro e w2 ⟨rfl,h2,k2⟩
 go_wp2
 go_ret
 exact ⟨rfl,h2,k2⟩
open Go.RowKit
theorem tb8_and {a b:Int} (ha:By a) (hb:By b) (i:Nat):tb (bits .and .u8 a b) i=(tb a i&&tb b i):=by
 rw [u8_and a b ha.1 ha.2 hb.1 hb.2];simp [tb]
theorem tb8_or {a b:Int} (ha:By a) (hb:By b) (i:Nat):tb (bits .or .u8 a b) i=(tb a i||tb b i):=by
 rw [u8_or a b ha.1 ha.2 hb.1 hb.2];simp [tb]
theorem tb8_hi {a:Int} (ha:By a) {i:Nat} (h:8≤i):tb a i=false:=by
 unfold tb
 apply Nat.testBit_lt_two_pow
 have:(2:Nat) ^ 8≤2 ^ i:=Nat.pow_le_pow_right (by decide) h
 have e:(2:Nat) ^ 8=256:=by decide
 have:=ha.1;have:=ha.2
 omega
theorem tb8_not {b:Int} (hb:By b) {i:Nat} (hi:i < 8):tb (255 - b) i=!tb b i:=by
 have:=hb.1;have:=hb.2
 have e:(255 - b).toNat=2 ^ 8 - (b.toNat+1):=by
  have:(2:Nat) ^ 8=256:=by decide
  omega
 unfold tb
 rw [e,Nat.testBit_two_pow_sub_succ (by have:(2:Nat) ^ 8=256:=(by decide);omega)]
 simp [hi]
theorem tb8_andNot {a b:Int} (ha:By a) (hb:By b) (i:Nat):tb (bits .andNot .u8 a b) i=(tb a i&&!tb b i):=by
 rw [u8_andNot a b ha.1 ha.2 hb.1 hb.2]
 by_cases hi:i < 8
 ·have h:=tb8_not hb hi
  have e:(255 - b).toNat=255 - b.toNat:=by have:=hb.1;have:=hb.2;omega
  unfold tb at h ⊢
  rw [e] at h
  simp [h]
 ·have h:=tb8_hi ha (i:=i) (by omega)
  unfold tb at h ⊢
  simp [h]
theorem tb_pw (n i:Nat):tb (pw (n:Int)) i=decide (i=n):=by
 unfold pw tb
 rw [show ((n:Int)).toNat=n from rfl,show (((2 ^ n:Nat):Int)).toNat=2 ^ n from rfl,Nat.testBit_two_pow]
 simp [eq_comm]
theorem by_ext {a b:Int} (ha:By a) (hb:By b) (h:∀ i,i < 8→tb a i=tb b i):a=b:=by
 refine tb_ext ha.1 hb.1 fun i=>?_
 by_cases hi:i < 8
 ·exact h i hi
 ·rw [tb8_hi ha (by omega),tb8_hi hb (by omega)]
theorem bt_pw {x:Int} (hx:By x) {n:Nat} (hn:n < 8):bt x (pw (n:Int))=tb x n:=by
 have hp:=by_pw (n:=(n:Int)) (by omega) (by omega)
 have h:=tb8_and hx hp
 unfold bt
 cases e:tb x n
 ·have z:bits .and .u8 x (pw (n:Int))=0:=by
   refine by_ext (by_and hx hp) ⟨by decide,by decide⟩ fun i hi=>?_
   rw [h i,tb_pw]
   by_cases hin:i=n
   ·subst hin;rw [e];simp [tb]
   ·simp [hin,tb]
  rw [z];rfl
 ·have z:¬ bits .and .u8 x (pw (n:Int))=0:=fun z=>by
   have:=h n
   rw [z,e,tb_pw] at this
   simp [tb] at this
  simpa using z
theorem zero_tb (i:Nat):tb 0 i=false:=by simp [tb]
theorem settle_asks {m:M2} (h:m.Ok) (k:Nat):tb m.settle.a.asks k=if k=2 then (m.b.next != -1) else tb m.a.asks k:=by
 have f:By 4:=by_lit 4 (by decide) (by decide)
 have e4:∀ k,tb 4 k=decide (k=2):=fun k=>tb_pw 2 k
 show tb (if m.b.next=-1 then bits .andNot .u8 m.a.asks 4 else bits .or .u8 (bits .andNot .u8 m.a.asks 4) 4) k=_
 by_cases g:m.b.next=-1
 ·rw [if_pos g,tb8_andNot h.a.asks f,e4,g]
  by_cases hk:k=2
  ·subst hk;simp
  ·simp [hk]
 ·rw [if_neg g,tb8_or (by_andNot h.a.asks f) f,tb8_andNot h.a.asks f,e4]
  by_cases hk:k=2
  ·subst hk;simp [g]
  ·simp [hk]
end Go.Proofs.YtacgmoikegcopaaGreatDoor.Pc
namespace Go.Proofs.YtacgmoikegcopaaGreatDoor.Pt
open Go.RowKit
set_option linter.unusedVariables false
set_option maxRecDepth 20000
structure Cn where
 mode:Int
 how:Int
 len:Int
 began:Int
 st:Bool
 fst:Int
 wants:Bool
 upper:Bool
 held:Int
 holds:Bool
def Cn.whole (c:Cn):Int:=if c.len=0 then 65536 else c.len
def Cn.steps (c:Cn) (now:Int):Int:=(now - c.began)%18446744073709551616
def Cn.value (c:Cn) (now:Int):Int:=
 if c.st then c.whole%65536
 else if c.mode=0 then (c.whole - c.steps now)%65536
 else if c.mode=2 then (c.whole - c.steps now%c.whole)%65536
 else if c.mode=3 then (c.whole - c.steps now%c.whole)%65536
 else c.whole%65536
def Cn.line (c:Cn) (now:Int):Bool:=
 if c.st then c.mode != 0
 else if c.mode=0 then decide (c.whole≤c.steps now)
 else if c.mode=2 then c.steps now%c.whole != c.whole - 1
 else if c.mode=3 then decide (c.steps now%c.whole < (c.whole+1) / 2)
 else true
def Cn.hold (c:Cn) (now:Int):Cn:=if c.holds then c else { c with held:=c.value now,holds:=true }
def md (n:Int):Int:=if 5 < n then n - 4 else n
def Cn.setUp (c:Cn) (b n:Int):Cn:=⟨md n,b,c.len,0,true,0,false,b==2,0,false⟩
def Cn.begin (c:Cn) (l now:Int):Cn:={ c with len:=l,began:=now,st:=false }
def Cn.write (c:Cn) (v now:Int):Cn:=
 if c.how=1 then c.begin v now
 else if c.how=2 then c.begin (v*256) now
 else if c.wants then { c with wants:=false }.begin (v*256+c.fst) now
 else { c with fst:=v,wants:=true }
structure Cn.Ok (c:Cn):Prop where
 mode:0≤c.mode∧c.mode≤5
 how:1≤c.how∧c.how≤3
 len:0≤c.len∧c.len < 65536
 began:0≤c.began∧c.began < 18446744073709551616
 fst:0≤c.fst∧c.fst < 256
 held:0≤c.held∧c.held < 65536
 up:c.upper=true→c.how≠1
 up2:c.how=2→c.upper=true
theorem Cn.Ok.whole {c:Cn} (h:c.Ok):1≤c.whole∧c.whole≤65536:=by
 have:=h.len
 unfold Cn.whole
 split<;>omega
theorem Cn.steps_bd (c:Cn) (now:Int):0≤c.steps now∧c.steps now < 18446744073709551616:=by
 unfold Cn.steps
 omega
def upd (f:Nat→Cn) (i:Nat) (c:Cn):Nat→Cn:=fun j=>if j=i then c else f j
theorem upd_at (f:Nat→Cn) (i:Nat) (c:Cn):upd f i c i=c:=by unfold upd;rw [if_pos rfl]
theorem upd_ne (f:Nat→Cn) {i j:Nat} (c:Cn) (h:j≠i):upd f i c j=f j:=by unfold upd;rw [if_neg h]
theorem upd_self (f:Nat→Cn) (i:Nat):upd f i (f i)=f:=by
 funext j
 unfold upd
 split
 ·rename_i h;rw [h]
 ·rfl
def Oks (f:Nat→Cn):Prop:=∀ i,(f i).Ok
def cmdF (f:Nat→Cn) (v now:Int):Nat→Cn:=
 if v / 64=3 then f
 else if v / 16%4=0 then upd f (v / 64).toNat ((f (v / 64).toNat).hold now)
 else upd f (v / 64).toNat ((f (v / 64).toNat).setUp (v / 16%4) (v / 2%8))
def outF (f:Nat→Cn) (p v now:Int):Nat→Cn:=if p=3 then cmdF f v now else upd f p.toNat ((f p.toNat).write v now)
def cn0:Cn:=⟨3,3,0,0,false,0,false,false,0,false⟩
theorem cn0_ok:cn0.Ok:=⟨by decide,by decide,by decide,by decide,by decide,by decide,by decide,by decide⟩
end Go.Proofs.YtacgmoikegcopaaGreatDoor.Pt
namespace Go.Proofs.YtacgmoikegcopaaGreatDoor.Dk
open Go.RowKit
set_option linter.unusedVariables false
set_option maxRecDepth 20000
structure Id where
 n:Nat
 D:Nat→Int
 r1:Int
 r2:Int
 r3:Int
 r4:Int
 r5:Int
 r6:Int
 c:Int
 buf:Nat→Int
 don:Nat
 mode:Int
 mark:Bool
 failed:Bool
 log:List Int
def byt (x:Int):Prop:=0≤x∧x < 256
structure Id.Ok (d:Id):Prop where
 few:d.n≤64
 D:∀ i,i < 512*d.n→byt (d.D i)
 r1:byt d.r1
 r2:byt d.r2
 r3:byt d.r3
 r4:byt d.r4
 r5:byt d.r5
 r6:byt d.r6
 c:byt d.c
 buf:∀ i,i < 512→byt (d.buf i)
 don:d.don < 512
 mode:d.mode=0∨d.mode=1∨d.mode=2∨d.mode=3
def Id.off (d:Id):Bool:=d.r6 / 16%2==1
def Id.meant (d:Id):Bool:=d.r6 / 64%2==1
def Id.place (d:Id):Int:=d.r3+d.r4*256+d.r5*65536+d.r6%16*16777216
def Id.there (d:Id):Bool:=decide (d.place+1≤d.n)
def Id.at (d:Id):Nat:=d.place.toNat*512
def Id.fresh (d:Id):Id:={ d with r1:=1,r2:=1,r3:=1,r4:=0,r5:=0,r6:=0,mode:=0,don:=0,mark:=false,failed:=false }
def Id.fail (d:Id) (e:Int):Id:={ d with r1:=e,failed:=true,mode:=0,mark:=true }
def Id.begin (d:Id) (m:Int):Id:=
 if d.there=true then (if m=1 then { d with mode:=m,don:=0,buf:=fun i=>d.D (d.at+i),mark:=true } else { d with mode:=m,don:=0 })
 else d.fail 16
def ecB (n:Nat) (i:Nat):Int:=if i=0 then 64 else if i=99 then 2 else if i=120 then n%256 else 0
def Id.clear (d:Id):Id:={ d with mark:=false,r1:=0,failed:=false,mode:=0 }
def Id.command (d:Id) (k:Int):Id:=
 if d.off=true then d
 else if k=32∨k=33∨k=48∨k=49 then
  (if d.meant=true then (if k < 48 then d.clear.begin 1 else d.clear.begin 2) else d.clear.fail 4)
 else if k=236 then { d.clear with buf:=ecB d.n,mode:=3,don:=0,mark:=true }
 else if k=231∨k=145 then { d.clear with mark:=true }
 else d.clear.fail 4
def Id.next (d:Id):Id:=
 { d with r3:=(d.place+1)%256,r4:=(d.place+1) / 256%256,r5:=(d.place+1) / 65536%256,r6:=d.r6 - d.r6%16+(d.place+1) / 16777216%16,r2:=(d.r2 - 1)%256 }
def Id.one (d:Id):Id:=if d.next.r2=0 then { d.next with mode:=0 } else d.next.begin d.mode
def Id.lay (d:Id):Id:={ d with D:=fun i=>if d.at≤i∧i < d.at+512 then d.buf (i - d.at) else d.D i,log:=d.log++[d.place] }
def setB (f:Nat→Int) (k:Nat) (x:Int):Nat→Int:=fun i=>if i=k then x else f i
def Id.put (d : Id) (b : Int) : Id :=
  if d.mode = 2 then
    (if d.don + 1 < 512 then { d with buf := setB d.buf d.don b, don := d.don + 1 }
     else if d.there = true then { (({ d with buf := setB d.buf d.don b, don := 0 } : Id).lay.one) with mark := true }
     else ({ d with buf := setB d.buf d.don b, don := 0 } : Id).fail 16)
  else d
def Id.puts (d:Id) (v:Int):Nat→Id
 | 0=>d
 | k+1=>(d.puts v k).put (v / 2 ^ (8*k)%256)
def Id.ctl (d:Id) (b:Int):Id:=if b / 4%2=1 then ({ d with c:=b }:Id).fresh else { d with c:=b }
def Id.out (d:Id) (reg:Int) (size:Nat) (v:Int):Id:=
 if reg=0 then (if d.off=true then d else d.puts v size)
 else if reg=1 then d
 else if reg=2 then { d with r2:=v%256 }
 else if reg=3 then { d with r3:=v%256 }
 else if reg=4 then { d with r4:=v%256 }
 else if reg=5 then { d with r5:=v%256 }
 else if reg=6 then { d with r6:=v%256 }
 else if reg=7 then d.command (v%256)
 else d.ctl (v%256)
def Id.line (d:Id):Bool:=d.mark&&!(d.c / 2%2==1)
def id0 (n:Nat) (D:Nat→Int):Id:=⟨n,D,1,1,1,0,0,0,0,fun _=>0,0,0,false,false,[]⟩
theorem byt_m {v:Int}:byt (v%256):=⟨by omega,by omega⟩
theorem byt0:byt 0:=⟨by decide,by decide⟩
theorem byt1:byt 1:=⟨by decide,by decide⟩
theorem id0_ok {n:Nat} {D:Nat→Int} (h:n≤64) (hD:∀ i,i < 512*n→byt (D i)):(id0 n D).Ok:=
 ⟨h,hD,byt1,byt1,byt1,byt0,byt0,byt0,byt0,fun _ _=>byt0,Nat.zero_lt_succ _,.inl rfl⟩
section
variable {d:Id}
end
open Go.ChangeShapes Go.WideShapes Go.ChangeAt Go.RowKit
structure Kp (S:Nat→Prop) (w w':World):Prop where
 os:w'.os=w.os
 tape:w'.tape=w.tape
 output:w'.output=w.output
 size:w.heap.size≤w'.heap.size
 block:∀ k,k < w.heap.size→¬ S k→w'.heap[k]?=w.heap[k]?
theorem Kp.refl (S:Nat→Prop) (w:World):Kp S w w:=⟨rfl,rfl,rfl,Nat.le_refl _,fun _ _ _=>rfl⟩
theorem Kp.trans {S:Nat→Prop} {a b c:World} (h:Kp S a b) (k:Kp S b c):Kp S a c:=
 ⟨k.os.trans h.os,k.tape.trans h.tape,k.output.trans h.output,Nat.le_trans h.size k.size,fun i hi hs=>(k.block i (Nat.lt_of_lt_of_le hi h.size) hs).trans (h.block i hi hs)⟩
theorem Kp.alloc (S:Nat→Prop) (w:World) (o:Obj):Kp S w (w.alloc o):=
 ⟨rfl,rfl,rfl,by simp,fun k hk _=>Below.heap_alloc _ _ _ hk⟩
theorem Kp.setCell {S:Nat→Prop} (w:World) {p:Addr} (hp:S p.block) (u:Value):Kp S w (w.setCell p u):=
 ⟨rfl,rfl,rfl,by simp [World.setCell],fun k hk hs=>Below.heap_setCell _ _ _ _ (fun e=>hs (e ▸ hp))⟩
theorem Kp.drew {S:Nat→Prop} {w w':World} (h:Kp S w w'):Kp S w w'.drew:=⟨h.os,h.tape,h.output,h.size,h.block⟩
theorem Kp.over {S T:Nat→Prop} {a b c:World} (h:Kp T a b) (k:Kp S b c) (hS:∀ j,j < a.heap.size→S j→T j):Kp T a c:=
 ⟨k.os.trans h.os,k.tape.trans h.tape,k.output.trans h.output,Nat.le_trans h.size k.size,fun i hi hs=>(k.block i (Nat.lt_of_lt_of_le hi h.size) (fun g=>hs (hS i hi g))).trans (h.block i hi hs)⟩
theorem heap_lt {w:World} {b:Nat} {o:Obj} (h:w.heap[b]?=some o):b < w.heap.size:=(Array.getElem?_eq_some_iff.1 h).1
theorem heap_kept {S:Nat→Prop} {w w':World} {b:Nat} {o:Obj} (h:w.heap[b]?=some o) (k:Kp S w w') (hS:¬ S b):w'.heap[b]?=some o:=(k.block b (heap_lt h) hS).trans h
theorem heap_set {w:World} {b k:Nat} {v:Value} {c:Array Value} {t:TypeId} {fr:Nat × Nat} (h:w.heap[b]?=some (.cells c t fr)):(w.setCell ⟨b,k,none⟩ v).heap[b]?=some (.cells (c.setIfInBounds k v) t fr):=by
 simp [World.setCell,Array.getElem?_modify,h]
def noB (_:Nat):Prop:=False
def isB (B k:Nat):Prop:=k=B
theorem kpB (B:Nat) (w:World) (k:Nat) (v:Value):Kp (isB B) w (w.setCell ⟨B,k,none⟩ v):=Kp.setCell (S:=isB B) w (p:=⟨B,k,none⟩) rfl v
theorem heap_new (w:World) (o:Obj):(w.alloc o).heap[w.heap.size]?=some o:=(MapKept.heap_alloc w o).1
theorem Kp.setRow {S:Nat→Prop} (w:World) {g:Nat} (hp:S g) (cs:Array Value):Kp S w (w.setRow g cs):=
 ⟨rfl,rfl,rfl,by simp [World.setRow],fun k hk hs=>setRow_other w g k cs (fun e=>hs (e ▸ hp))⟩
def OwnI (w:World) (v:Value) (l:List Int):Prop:=w.ownsRow 0 3 1 v l.length (l.map (Value.int .i64))
theorem OwnI.kept {S:Nat→Prop} {w w':World} {v:Value} {l:List Int} (h:OwnI w v l) (k:Kp S w w') (hS:∀ g,v.ownBlock=some g→¬ S g):OwnI w' v l:=by
 refine ⟨h.1,?_⟩
 rcases h.2 with g | ⟨g,cap,cur,rfl,hb,hg,r⟩
 ·exact .inl g
 ·exact .inr ⟨g,cap,cur,rfl,hb,heap_kept hg k (hS g rfl),r⟩
theorem OwnI.lt {w:World} {v:Value} {l:List Int} (h:OwnI w v l) {g:Nat} (e:v.ownBlock=some g):∃ cur,w.heap[g]?=some (.cells cur 3 (0,0)):=by
 rcases h.2 with ⟨rfl,_⟩ | ⟨g',cap,cur,rfl,hb,hg,r⟩
 ·cases e
 ·simp only [Value.ownBlock,Option.some.injEq] at e
  subst e
  exact ⟨cur,hg⟩
theorem OwnI.nil (w:World):OwnI w (.slice none 0 0) []:=⟨rfl,.inl ⟨rfl,rfl⟩⟩
def Laid (cur cur':Array Value) (o L:Nat) (f:Nat→Value):Prop:=cur'.size=cur.size∧∀ j,cur'[j]?=if o≤j∧j < o+L then some (f (j - o)) else cur[j]?
theorem Laid.none (cur:Array Value) (o:Nat) (f:Nat→Value):Laid cur cur o 0 f:=⟨rfl,fun j=>by rw [if_neg (by omega)]⟩
theorem Laid.splice {cur:Array Value} {o:Nat} {cs:List Value} (ho:o+cs.length≤cur.size) (f:Nat→Value) (hf:∀ j,j < cs.length→cs[j]?=some (f j)):
  Laid cur (cur.toList.take o++cs++cur.toList.drop (o+cs.length)).toArray o cs.length f:=by
 refine ⟨by simp;omega,fun j=>?_⟩
 rw [List.getElem?_toArray]
 by_cases a:j < o
 ·rw [if_neg (by omega),List.append_assoc,List.getElem?_append_left (by simp;omega),List.getElem?_take_of_lt a,Array.getElem?_toList]
 ·by_cases b:j < o+cs.length
  ·rw [if_pos (by omega),List.getElem?_append_left (by simp;omega),List.getElem?_append_right (by simp;omega)]
   have e:j - (cur.toList.take o).length=j - o:=by simp;omega
   rw [e,hf _ (by omega)]
  ·rw [if_neg (by omega),List.getElem?_append_right (by simp;omega)]
   have e:j - (cur.toList.take o++cs).length=j - (o+cs.length):=by simp;omega
   rw [e,List.getElem?_drop,Array.getElem?_toList]
   congr 1;omega
theorem cell_at {w:World} {S o:Nat} {cur:Array Value} {t:TypeId} (h:w.heap[S]?=some (.cells cur t (0,0))):w.cell? ⟨S,o,none⟩=cur[o]?:=by simp [World.cell?,h]
theorem frozen_at {w:World} {S o:Nat} {cur:Array Value} {t:TypeId} (h:w.heap[S]?=some (.cells cur t (0,0))):w.frozen? ⟨S,o,none⟩=false:=by simp [World.frozen?,h]
theorem bytesT:Tryz.prog.underlying 79=some (.slice 5):=Tryz.underlying79
theorem byteT:(Tryz.prog.info? 5).map (·.size)=some 1:=by kernel_rfl
theorem copy_any (w:World) (S o dLen dCap b q sLen sCap n:Nat) (hn:n=Nat.min sLen dLen) (cur:Array Value) (t:TypeId) (hS:w.heap[S]?=some (.cells cur t (0,0))) (ho:o+n≤cur.size) (f:Nat→Int)
  (hsrc:∀ j,j < n→w.cell? ⟨b,q+j,none⟩=some (.int .u8 (f j))):
  ∃ w2,(Builtin.copy_ #[79,79] 3 #[.slice (some ⟨S,o,none⟩) dLen dCap,.slice (some ⟨b,q,none⟩) sLen sCap]).run Tryz.prog w=.ok (.int .i64 n) w2 ∧
   (∃ cur',w2.heap[S]?=some (.cells cur' t (0,0))∧Laid cur cur' o n (fun j=>.int .u8 (f j)))∧Kp (isB S) w w2:=by
 obtain ⟨cs,hcs⟩:∃ cs:List Value,cs=(List.range n).map (fun j=>Value.int .u8 (f j)):=⟨_,rfl⟩
 have hlen:cs.length=n:=by rw [hcs];simp
 have hget:∀ j,j < cs.length→cs[j]?=some (.int .u8 (f j)):=fun j hj=>by
  rw [hlen] at hj
  rw [hcs,List.getElem?_map,List.getElem?_range hj]
  rfl
 have hl:=Laid.splice (cur:=cur) (o:=o) (cs:=cs) (by omega) (fun j=>.int .u8 (f j)) hget
 have hrun:=run_copy_row Tryz.prog w 79 79 3 5 S o dLen dCap ⟨b,q,none⟩ sLen sCap cur t cs bytesT byteT hS (by omega) (fun j v hv=>by
   have hj:j < cs.length:=(List.getElem?_eq_some_iff.1 hv).1
   rw [hget j hj] at hv
   cases hv
   have e:(⟨b,q,none⟩:Addr).add j=⟨b,q+j,none⟩:=by unfold Addr.add;split<;>simp_all
   rw [e]
   exact hsrc j (by omega)) (by omega) (fun v hv=>by rw [hcs] at hv;simp at hv;obtain ⟨j,_,rfl⟩:=hv;rfl)
 rw [hlen] at hrun hl
 refine ⟨_,hrun,⟨_,setRow_heap w S _ _ t _ hS,hl⟩,Kp.setRow (S:=isB S) w rfl _⟩
def goV (m:Int):Int:=if m=2 then 3 else if m=3 then 2 else m
def Id.reg (d:Id) (j:Nat):Int:=if j=1 then d.r1 else if j=2 then d.r2 else if j=3 then d.r3 else if j=4 then d.r4 else if j=5 then d.r5 else if j=6 then d.r6 else if j=8 then d.c else 0
def cC (D:Nat→Int) (n:Nat) (R:Nat→Int) (buf:Nat→Int) (dn go:Int) (mk:Bool) (sv:Value) (k:Nat):Value:=
 if k < 32768 then .int .u8 (D k) else if k=32768 then .int .i64 n else if k < 32778 then .int .u8 (R (k - 32769)) else if k < 33290 then .int .u8 (buf (k - 32778)) else if k=33290 then .int .i64 dn else if k=33291 then .int .i64 go else if k=33292 then .bool mk else sv
def CAt (w:World) (B:Nat) (f:Nat→Value):Prop:=∃ cur:Array Value,w.heap[B]?=some (.cells cur 216 (0,0))∧cur.size=33294∧∀ k,k < 33294→cur[k]?=some (f k)
section
variable {w w':World} {B:Nat} {f:Nat→Value}
theorem CAt.kept {S:Nat→Prop} (h:CAt w B f) (k:Kp S w w') (hS:¬ S B):CAt w' B f:=by
 obtain ⟨cur,h1,h2⟩:=h
 exact ⟨cur,heap_kept h1 k hS,h2⟩
theorem CAt.lt (h:CAt w B f):B < w.heap.size:=by
 obtain ⟨cur,h1,h2⟩:=h
 exact heap_lt h1
theorem CAt.cell (h:CAt w B f) (k:Nat) (hk:k < 33294):w.cell? ⟨B,k,none⟩=some (f k):=by
 obtain ⟨cur,h1,h2,h3⟩:=h
 rw [cell_at h1]
 exact h3 k hk
theorem CAt.fz (h:CAt w B f) (k:Nat):w.frozen? ⟨B,k,none⟩=false:=by
 obtain ⟨cur,h1,h2,h3⟩:=h
 exact frozen_at h1
theorem CAt.of (h:CAt w B f) {g:Nat→Value} (e:∀ k,k < 33294→f k=g k):CAt w B g:=by
 obtain ⟨cur,h1,h2,h3⟩:=h
 exact ⟨cur,h1,h2,fun k hk=>by rw [h3 k hk,e k hk]⟩
theorem CAt.set (h:CAt w B f) (k:Nat) (hk:k < 33294) (v:Value):CAt (w.setCell ⟨B,k,none⟩ v) B (fun j=>if j=k then v else f j):=by
 obtain ⟨cur,h1,h2,h3⟩:=h
 refine ⟨_,heap_set h1,by rw [Array.size_setIfInBounds];exact h2,fun j hj=>?_⟩
 rw [Array.getElem?_setIfInBounds]
 by_cases e:k=j
 ·subst e
  rw [if_pos rfl,if_pos (by omega)]
  show some v=some (if k=k then v else f k)
  rw [if_pos rfl]
 ·rw [if_neg e]
  show cur[j]?=some (if j=k then v else f j)
  rw [if_neg (by omega)]
  exact h3 j hj
theorem CAt.laid (h:CAt w B f) {cur cur':Array Value} (hb:w.heap[B]?=some (.cells cur 216 (0,0))) (hb':w'.heap[B]?=some (.cells cur' 216 (0,0))) {o n:Nat} {g:Nat→Value} (hl:Laid cur cur' o n g):CAt w' B (fun j=>if o≤j∧j < o+n then g (j - o) else f j):=by
 obtain ⟨c0,h1,h2,h3⟩:=h
 rw [h1] at hb
 have e:c0=cur:=by injection hb with hb;injection hb
 subst e
 refine ⟨cur',hb',by rw [hl.1];exact h2,fun j hj=>?_⟩
 rw [hl.2 j]
 by_cases e:o≤j∧j < o+n
 ·rw [if_pos e]
  show some (g (j - o))=some (if o≤j∧j < o+n then g (j - o) else f j)
  rw [if_pos e]
 ·rw [if_neg e]
  show c0[j]?=some (if o≤j∧j < o+n then g (j - o) else f j)
  rw [if_neg e]
  exact h3 j hj
end
section
variable {D:Nat→Int} {n:Nat} {R buf:Nat→Int} {dn go:Int} {mk:Bool} {sv:Value}
theorem cC_D {k:Nat} (h:k < 32768):cC D n R buf dn go mk sv k=.int .u8 (D k):=by unfold cC;rw [if_pos h]
theorem cC_R {j:Nat} (h:j < 9):cC D n R buf dn go mk sv (32769+j)=.int .u8 (R j):=by
 unfold cC
 rw [if_neg (by omega),if_neg (by omega),if_pos (by omega),show 32769+j - 32769=j by omega]
theorem cC_b {j:Nat} (h:j < 512):cC D n R buf dn go mk sv (32778+j)=.int .u8 (buf j):=by
 unfold cC
 rw [if_neg (by omega),if_neg (by omega),if_neg (by omega),if_pos (by omega),show 32778+j - 32778=j by omega]
theorem cC_setR {j:Nat} (h:j < 9) (x:Int) (k:Nat) (hk:k < 33294):(if k=32769+j then Value.int .u8 x else cC D n R buf dn go mk sv k)=cC D n (setB R j x) buf dn go mk sv k:=by
 by_cases e:k=32769+j
 ·subst e
  rw [if_pos rfl,cC_R h]
  unfold setB
  rw [if_pos rfl]
 ·rw [if_neg e]
  unfold cC
  by_cases a:k < 32768
  ·rw [if_pos a,if_pos a]
  ·rw [if_neg a,if_neg a]
   by_cases b:k=32768
   ·rw [if_pos b,if_pos b]
   ·rw [if_neg b,if_neg b]
    by_cases c:k < 32778
    ·rw [if_pos c,if_pos c]
     unfold setB
     rw [if_neg (by omega)]
    ·rw [if_neg c,if_neg c]
theorem cC_setgo (x:Int) (k:Nat):(if k=33291 then Value.int .i64 x else cC D n R buf dn go mk sv k)=cC D n R buf dn x mk sv k:=by
 by_cases e:k=33291
 ·subst e;rfl
 ·rw [if_neg e];unfold cC;rw [if_neg e,if_neg e]
theorem cC_setmk (x:Bool) (k:Nat):(if k=33292 then Value.bool x else cC D n R buf dn go mk sv k)=cC D n R buf dn go x sv k:=by
 by_cases e:k=33292
 ·subst e;rfl
 ·rw [if_neg e];unfold cC;rw [if_neg e,if_neg e]
def layB (f:Nat→Int) (o n:Nat) (g:Nat→Int):Nat→Int:=fun i=>if o≤i∧i < o+n then g (i - o) else f i
theorem cC_laydisk {o m:Nat} (h:o+m≤32768) (g:Nat→Int) (k:Nat):(if o≤k∧k < o+m then Value.int .u8 (g (k - o)) else cC D n R buf dn go mk sv k)=cC (layB D o m g) n R buf dn go mk sv k:=by
 by_cases e:o≤k∧k < o+m
 ·rw [if_pos e,cC_D (by omega)]
  unfold layB
  rw [if_pos e]
 ·rw [if_neg e]
  unfold cC
  by_cases a:k < 32768
  ·rw [if_pos a,if_pos a]
   unfold layB
   rw [if_neg e]
  ·rw [if_neg a,if_neg a]
end
section
variable {d:Id}
theorem reg_1 (x:Int):({ d with r1:=x }:Id).reg=setB d.reg 1 x:=by
 funext j;unfold Id.reg setB;by_cases e:j=1<;>simp [e]
end
def fC (d:Id) (dn:Int) (sv:Value):Nat→Value:=cC d.D d.n d.reg d.buf dn (goV d.mode) d.mark sv
structure IAt (w:World) (B:Nat) (dn:Int) (sv:Value) (d:Id):Prop where
 blk:CAt w B (fC d dn sv)
 log:OwnI w sv d.log
 fl:d.failed=decide (d.r1≠0∧d.r1≠1)
section
variable {w:World} {B:Nat} {dn:Int} {sv:Value} {d:Id}
theorem IAt.kept {S:Nat→Prop} {w':World} (h:IAt w B dn sv d) (k:Kp S w w') (hB:¬ S B) (hs:∀ g,sv.ownBlock=some g→¬ S g):IAt w' B dn sv d:=
 ⟨h.blk.kept k hB,h.log.kept k hs,h.fl⟩
theorem IAt.lt (h:IAt w B dn sv d):B < w.heap.size:=h.blk.lt
theorem IAt.fz (h:IAt w B dn sv d) (k:Nat):w.frozen? ⟨B,k,none⟩=false:=h.blk.fz k
theorem IAt.cr (h:IAt w B dn sv d) (j:Nat) (hj:j < 9):w.cell? ⟨B,32769+j,none⟩=some (.int .u8 (d.reg j)):=by rw [h.blk.cell _ (by omega)];unfold fC;rw [cC_R hj]
theorem IAt.c1 (h:IAt w B dn sv d):w.cell? ⟨B,32770,none⟩=some (.int .u8 d.r1):=h.cr 1 (by decide)
theorem IAt.c2 (h:IAt w B dn sv d):w.cell? ⟨B,32771,none⟩=some (.int .u8 d.r2):=h.cr 2 (by decide)
theorem IAt.c3 (h:IAt w B dn sv d):w.cell? ⟨B,32772,none⟩=some (.int .u8 d.r3):=h.cr 3 (by decide)
theorem IAt.c4 (h:IAt w B dn sv d):w.cell? ⟨B,32773,none⟩=some (.int .u8 d.r4):=h.cr 4 (by decide)
theorem IAt.c5 (h:IAt w B dn sv d):w.cell? ⟨B,32774,none⟩=some (.int .u8 d.r5):=h.cr 5 (by decide)
theorem IAt.c6 (h:IAt w B dn sv d):w.cell? ⟨B,32775,none⟩=some (.int .u8 d.r6):=h.cr 6 (by decide)
theorem IAt.c8 (h:IAt w B dn sv d):w.cell? ⟨B,32777,none⟩=some (.int .u8 d.c):=h.cr 8 (by decide)
theorem IAt.cgo (h:IAt w B dn sv d):w.cell? ⟨B,33291,none⟩=some (.int .i64 (goV d.mode)):=h.blk.cell 33291 (by decide)
theorem IAt.cmk (h:IAt w B dn sv d):w.cell? ⟨B,33292,none⟩=some (.bool d.mark):=h.blk.cell 33292 (by decide)
end
structure Raw (w:World) (B:Nat) (sv:Value) (l:List Int) (D:Nat→Int) (n:Nat) (R buf:Nat→Int) (dn go:Int) (mk:Bool):Prop where
 blk:CAt w B (cC D n R buf dn go mk sv)
 log:OwnI w sv l
section
variable {w:World} {B:Nat} {sv:Value} {l:List Int} {D:Nat→Int} {n:Nat} {R buf:Nat→Int} {dn go:Int} {mk:Bool}
theorem Raw.notB (h:Raw w B sv l D n R buf dn go mk) {g:Nat} (e:sv.ownBlock=some g):¬ isB B g:=by
 rintro (rfl:g=B)
 obtain ⟨cur,h1⟩:=h.log.lt e
 obtain ⟨c,h2,_⟩:=h.blk
 rw [h1] at h2
 simp at h2
theorem Raw.setR (h:Raw w B sv l D n R buf dn go mk) (j:Nat) (hj:j < 9) (k:Nat) (hk:k=32769+j) (x:Int):Raw (w.setCell ⟨B,k,none⟩ (.int .u8 x)) B sv l D n (setB R j x) buf dn go mk:=by
 subst hk
 exact ⟨(h.blk.set _ (by omega) _).of (fun i hi=>cC_setR hj x i hi),h.log.kept (kpB B _ _ _) (fun g e=>h.notB e)⟩
theorem Raw.setgo (h:Raw w B sv l D n R buf dn go mk) (x:Int):Raw (w.setCell ⟨B,33291,none⟩ (.int .i64 x)) B sv l D n R buf dn x mk:=
 ⟨(h.blk.set _ (by decide) _).of (fun i hi=>cC_setgo x i),h.log.kept (kpB B _ _ _) (fun g e=>h.notB e)⟩
theorem Raw.setmk (h:Raw w B sv l D n R buf dn go mk) (x:Bool):Raw (w.setCell ⟨B,33292,none⟩ (.bool x)) B sv l D n R buf dn go x:=
 ⟨(h.blk.set _ (by decide) _).of (fun i hi=>cC_setmk x i),h.log.kept (kpB B _ _ _) (fun g e=>h.notB e)⟩
theorem Raw.laydisk {w':World} (h:Raw w B sv l D n R buf dn go mk) {cur cur':Array Value} (hb:w.heap[B]?=some (.cells cur 216 (0,0))) (hb':w'.heap[B]?=some (.cells cur' 216 (0,0))) {o m:Nat} {g:Nat→Int} (ho:o+m≤32768) (hl:Laid cur cur' o m (fun j=>.int .u8 (g j))) (hk:Kp (isB B) w w'):Raw w' B sv l (layB D o m g) n R buf dn go mk:=
 ⟨(h.blk.laid hb hb' hl).of (fun i hi=>cC_laydisk ho g i),h.log.kept hk (fun g e=>h.notB e)⟩
end
theorem IAt.raw {w:World} {B:Nat} {dn:Int} {sv:Value} {d:Id} (h:IAt w B dn sv d):Raw w B sv d.log d.D d.n d.reg d.buf dn (goV d.mode) d.mark:=⟨h.blk,h.log⟩
theorem Raw.id {w:World} {B:Nat} {sv:Value} {l:List Int} {D:Nat→Int} {n:Nat} {R buf:Nat→Int} {dn go:Int} {mk:Bool} (h:Raw w B sv l D n R buf dn go mk) (d:Id) (hl:l=d.log) (hD:D=d.D) (hn:n=d.n) (hR:R=d.reg) (hb:buf=d.buf) (hg:go=goV d.mode) (hm:mk=d.mark) (hf:d.failed=decide (d.r1≠0∧d.r1≠1)):IAt w B dn sv d:=by
 subst hl;subst hD;subst hn;subst hR;subst hb;subst hg;subst hm
 exact ⟨h.blk,h.log,hf⟩
def foot (B:Nat) (sv:Value) (k:Nat):Prop:=k=B∨sv.ownBlock=some k
open Go.ChangeShapes Go.WideShapes Go.ChangeAt Go.RowKit
theorem iand2':∀ n:Fin 256,(bits .and .u8 (n.val:Int) 2==0)=!((n.val:Int) / 2%2==1):=by decide +kernel
theorem byFin {p:Int→Prop} (h:∀ n:Fin 256,p (n.val:Int)) {v:Int} (hv:byt v):p v:=by
 have:=h ⟨v.toNat,by have:=hv.1;have:=hv.2;omega⟩
 simp only [Int.toNat_of_nonneg hv.1] at this
 exact this
theorem iand2 {v:Int} (h:byt v):(bits .and .u8 v 2==0)=!(v / 2%2==1):=byFin (p:=fun v=>(bits .and .u8 v 2==0)=!(v / 2%2==1)) iand2' h
def Dn (d:Id) (dn:Int):Prop:=d.mode≠0→dn=d.don
def DOk (w:World) (B:Nat) (sv:Value) (d:Id) (w':World):Prop:=∃ dn',IAt w' B dn' sv d∧Dn d dn'∧Kp (isB B) w w'
section
variable {w:World} {B:Nat} {dn:Int} {sv:Value} {d:Id}
theorem Dn.none {dn:Int} (e:d.mode=0):Dn d dn:=fun q=>absurd e q
theorem fail_ok (h:IAt w B dn sv d) (x:Int) (hx:x=4∨x=16):Calls Tryz.prog 213 #[.pointer (some ⟨B,0,none⟩),.int .u8 x] w fun e w'=>e=.returned (.tuple #[])∧DOk w B sv (d.fail x) w':=by
 have c1:=h.c1
 have cg:=h.cgo
 have cm:=h.cmk
 have z1:=h.fz 32770
 have z2:=h.fz 33291
 have z3:=h.fz 33292
 have H:Hid (DOk w B sv (d.fail x) (((w.setCell ⟨B,32770,none⟩ (.int .u8 x)).setCell ⟨B,33291,none⟩ (.int .i64 0)).setCell ⟨B,33292,none⟩ (.bool true))):=by
  refine ⟨dn,(((h.raw.setR 1 (by decide) 32770 rfl x).setgo 0).setmk true).id (d.fail x) rfl rfl rfl ?_ rfl rfl rfl ?_,Dn.none rfl,((kpB B _ _ _).trans (kpB B _ _ _)).trans (kpB B _ _ _)⟩
  ·exact (reg_1 (d:={ d with failed:=true,mode:=0,mark:=true }) x).symm
  ·show true=decide (x≠0∧x≠1)
   rcases hx with rfl | rfl<;>rfl
 clear h
 go_enter Tryz.func213,Tryz.ntmps213
 go_wp2
 go_end0
 exact ⟨rfl,H.out⟩
theorem reg_start (d:Id):setB (setB (setB (setB (setB (setB (setB (setB (setB d.reg 0 0) 1 1) 2 1) 3 1) 4 0) 5 0) 6 0) 7 0) 8 0=({ d with c:=0 }:Id).fresh.reg:=by
 funext j
 rcases (by omega:j=0∨j=1∨j=2∨j=3∨j=4∨j=5∨j=6∨j=7∨j=8∨9≤j) with rfl | rfl | rfl | rfl | rfl | rfl | rfl | rfl | rfl | h
 ·rfl
 ·rfl
 ·rfl
 ·rfl
 ·rfl
 ·rfl
 ·rfl
 ·rfl
 ·rfl
 ·have n0:j≠0:=by omega
  have n1:j≠1:=by omega
  have n2:j≠2:=by omega
  have n3:j≠3:=by omega
  have n4:j≠4:=by omega
  have n5:j≠5:=by omega
  have n6:j≠6:=by omega
  have n7:j≠7:=by omega
  have n8:j≠8:=by omega
  simp only [setB,Id.reg,Id.fresh,if_neg n0,if_neg n1,if_neg n2,if_neg n3,if_neg n4,if_neg n5,if_neg n6,if_neg n7,if_neg n8]
theorem start_ok (h:IAt w B dn sv d):Calls Tryz.prog 122 #[.pointer (some ⟨B,0,none⟩)] w fun e w'=>e=.returned (.tuple #[])∧DOk w B sv ({ d with c:=0 }:Id).fresh w':=by
 have c0:w.cell? ⟨B,32769,none⟩=some (.int .u8 0):=h.cr 0 (by decide)
 have c1:=h.c1
 have c2:=h.c2
 have c3:=h.c3
 have c4:=h.c4
 have c5:=h.c5
 have c6:=h.c6
 have c7:w.cell? ⟨B,32776,none⟩=some (.int .u8 0):=h.cr 7 (by decide)
 have c8:=h.c8
 have cg:=h.cgo
 have cm:=h.cmk
 have y0:=h.fz 32769
 have y1:=h.fz 32770
 have y2:=h.fz 32771
 have y3:=h.fz 32772
 have y4:=h.fz 32773
 have y5:=h.fz 32774
 have y6:=h.fz 32775
 have y7:=h.fz 32776
 have y8:=h.fz 32777
 have y9:=h.fz 33291
 have ya:=h.fz 33292
 have hC:Hid (IAt w B dn sv d):=h
 clear h
 go_enter Tryz.func122,Tryz.ntmps122
 go_wp2
 go_end0
 refine ⟨rfl,dn,?_,Dn.none rfl,?_⟩
 ·refine (((((((((((hC.out.raw.setR 0 (by decide) 32769 rfl 0).setR 1 (by decide) 32770 rfl 1).setR 2 (by decide) 32771 rfl 1).setR 3 (by decide) 32772 rfl 1).setR 4 (by decide) 32773 rfl 0).setR 5 (by decide) 32774 rfl 0).setR 6 (by decide) 32775 rfl 0).setR 7 (by decide) 32776 rfl 0).setR 8 (by decide) 32777 rfl 0).setgo 0).setmk false).id _ rfl rfl rfl ?_ rfl rfl rfl rfl
  exact reg_start d
 ·exact (((((((((((kpB B _ _ _).trans (kpB B _ _ _)).trans (kpB B _ _ _)).trans (kpB B _ _ _)).trans (kpB B _ _ _)).trans (kpB B _ _ _)).trans (kpB B _ _ _)).trans (kpB B _ _ _)).trans (kpB B _ _ _)).trans (kpB B _ _ _)).trans (kpB B _ _ _))
end
def z8:Value:=.int .u8 0
def zr (n:Nat):List Value:=List.replicate n z8
def zp (n:Nat) (l:List Value):List Value:=zr n++l
theorem zr_one:[Value.int .u8 0]=zr 1:=rfl
theorem zr_cons (n:Nat):Value.int .u8 0::zr n=zr (n+1):=rfl
theorem zr_app (a b:Nat):List.append (zr a) (zr b)=zr (a+b):=by
 show List.replicate a z8++List.replicate b z8=_
 rw [List.replicate_append_replicate]
 rfl
theorem zp_app (a:Nat) (l:List Value):List.append (zr a) l=zp a l:=rfl
theorem zp_zr (a b:Nat):zp a (zr b)=zr (a+b):=zr_app a b
theorem zp_zp (a b:Nat) (l:List Value):zp a (zp b l)=zp (a+b) l:=by
 unfold zp
 rw [← List.append_assoc]
 congr 1
 exact zr_app a b
theorem zp_cons (a:Nat) (l:List Value):Value.int .u8 0::zp a l=zp (a+1) l:=rfl
theorem zp_i (l:List Value):Value.int .u8 0::Value.int .i64 0::l=zp 1 (Value.int .i64 0::l):=rfl
theorem zp_l (a:Nat) (l m:List Value):List.append (zp a l) m=zp a (List.append l m):=by
 show zr a++l++m=zr a++(l++m)
 exact List.append_assoc _ _ _
theorem ap_i (l m:List Value):List.append (Value.int .i64 0::l) m=Value.int .i64 0::List.append l m:=rfl
theorem ap_s (l m:List Value):List.append (Value.slice none 0 0::l) m=Value.slice none 0 0::List.append l m:=rfl
set_option maxRecDepth 100000 in
theorem zero57:Tryz.t216.zero=some (.agg (zp 32768 (Value.int .i64 0::zp 521 [.int .i64 0,.int .i64 0,.bool false,.slice none 0 0])).toArray):=by
 unfold Tryz.t216
 simp only [zr_one,zr_cons,zp_app,zp_zr,zp_zp,zp_cons,zp_i,zp_l,ap_i,Nat.reduceAdd]
set_option maxRecDepth 100000 in
theorem zero45:Tryz.t191.zero=some (.agg (Value.slice none 0 0::zp 520 [.int .i64 0,.int .i64 0,.bool false,.bool false,.slice none 0 0]).toArray):=by
 unfold Tryz.t191
 simp only [zr_one,zr_cons,zp_app,zp_zr,zp_zp,zp_cons,zp_i,ap_s,Nat.reduceAdd]
theorem zr_get {n j:Nat} (h:j < n):(zr n)[j]?=some z8:=by unfold zr;rw [List.getElem?_replicate,if_pos h]
theorem zr_len (n:Nat):(zr n).length=n:=List.length_replicate
theorem zp_get {n j:Nat} {l:List Value}:(zp n l)[j]?=if j < n then some z8 else l[j - n]?:=by
 unfold zp
 by_cases h:j < n
 ·rw [if_pos h,List.getElem?_append_left (by rw [zr_len];exact h),zr_get h]
 ·rw [if_neg h,List.getElem?_append_right (by rw [zr_len];omega),zr_len]
theorem zp_len (n:Nat) (l:List Value):(zp n l).length=n+l.length:=by
 unfold zp
 rw [List.length_append,zr_len]
def zI:Array Value:=(zp 32768 (Value.int .i64 0::zp 521 [.int .i64 0,.int .i64 0,.bool false,.slice none 0 0])).toArray
theorem zI_size:zI.size=33294:=by
 unfold zI
 rw [List.size_toArray,zp_len,List.length_cons,zp_len]
 rfl
theorem zI_get {k:Nat} (hk:k < 33294):zI[k]?=some (cC (fun _=>0) 0 (fun _=>0) (fun _=>0) 0 0 false (.slice none 0 0) k):=by
 unfold zI
 rw [List.getElem?_toArray,zp_get]
 by_cases a:k < 32768
 ·rw [if_pos a,cC_D a]
  rfl
 ·rw [if_neg a]
  by_cases b:k=32768
  ·subst b
   rfl
  ·obtain ⟨j,rfl⟩:∃ j,k=32769+j:=⟨k - 32769,by omega⟩
   rw [show 32769+j - 32768=j+1 by omega,List.getElem?_cons_succ,zp_get]
   by_cases c:j < 9
   ·rw [if_pos (by omega),cC_R c]
    rfl
   ·by_cases e:j < 521
    ·rw [if_pos e]
     obtain ⟨i,rfl⟩:∃ i,j=9+i:=⟨j - 9,by omega⟩
     rw [show 32769+(9+i)=32778+i by omega,cC_b (by omega)]
     rfl
    ·rw [if_neg e]
     rcases (by omega:j=521∨j=522∨j=523∨j=524) with rfl | rfl | rfl | rfl<;>rfl
open Go.ChangeShapes Go.WideShapes Go.ChangeAt Go.RowKit
theorem cell_below {w:World} {b o:Nat} {v:Value} (h:w.cell? ⟨b,o,none⟩=some v):b < w.heap.size:=by
 by_cases e:b < w.heap.size
 ·exact e
 ·have:w.heap[b]?=none:=Array.getElem?_eq_none (by omega)
  simp [World.cell?,this] at h
theorem cell_kept {S:Nat→Prop} {w w':World} {b o:Nat} {v:Value} (h:w.cell? ⟨b,o,none⟩=some v) (k:Kp S w w') (hS:¬ S b):w'.cell? ⟨b,o,none⟩=some v:=by
 have:=k.block b (cell_below h) hS
 unfold World.cell? at h ⊢
 simpa only [this] using h
section
variable {w:World} {B:Nat} {dn:Int} {sv:Value} {d:Id}
end
open Go.ChangeShapes Go.WideShapes Go.ChangeAt Go.RowKit
section
variable {w:World} {B:Nat} {dn:Int} {sv:Value} {d:Id}
theorem line_ok (h:IAt w B dn sv d) (k:d.Ok):Calls Tryz.prog 137 #[.pointer (some ⟨B,0,none⟩)] w fun e w'=>e=.returned (.bool d.line)∧w'=w:=by
 have cm:=h.cmk
 have c8:=h.c8
 have e2:=iand2 k.c
 clear h k
 unfold Id.line
 cases q:d.mark
 ·rw [q] at cm
  clear q
  go_enter Tryz.func137,Tryz.ntmps137
  go_wp2
  go_ret
  exact ⟨rfl,rfl⟩
 ·rw [q] at cm
  clear q
  go_enter Tryz.func137,Tryz.ntmps137
  go_wp2
  go_ret
  exact ⟨ret_bool (by simp),rfl⟩
end
open Go.ChangeShapes Go.WideShapes Go.ChangeAt Go.RowKit
theorem info8:(Tryz.prog.info? 5).map (fun i=>(i.zero,i.size,i.bytes))=some (some (.int .u8 0),1,1):=by kernel_rfl
theorem info_of {t:TypeId} {z:Value} {s b:Nat} (h:(Tryz.prog.info? t).map (fun i=>(i.zero,i.size,i.bytes))=some (some z,s,b)):∃ i,Tryz.prog.info? t=some i∧i.zero=some z∧i.size=s∧i.bytes=b:=by
 cases hi:Tryz.prog.info? t with
 | none=>rw [hi] at h;cases h
 | some i=>
  rw [hi] at h
  simp only [Option.map_some,Option.some.injEq,Prod.mk.injEq] at h
  exact ⟨i,rfl,h.1,h.2.1,h.2.2⟩
def made8 (n:Nat):Array Value:=madeCells (Value.int .u8 0).cells n
theorem made8_at (n:Nat):(made8 n).size=n∧∀ j,j < n→(made8 n)[j]?=some (.int .u8 0):=by
 unfold made8
 rw [show (Value.int .u8 0).cells=#[Value.int .u8 0] from rfl]
 refine ⟨by simp [madeCells],fun j hj=>by simp [madeCells,hj,Nat.mod_one]⟩
theorem make8 (w:World) (n:Nat) (h:n≤2147483647):(Instr.makeSlice 79 (.int .i64 n) (.int .i64 n)).run Tryz.prog w=.ok (.slice (some ⟨w.heap.size,0,none⟩) n n) (w.alloc (.cells (made8 n) 5)):=by
 obtain ⟨i0,hi,hz0,hz1,hz2⟩:=info_of info8
 have r:=run_make (P:=Tryz.prog) w 79 5 i0 (.int .u8 0) bytesT hi hz0 .i64 .i64 n n (by omega) (Int.le_refl _) (by rw [hz2];omega) (by omega)
 rw [Int.toNat_natCast,hz1,Nat.mul_one] at r
 exact r
def BytAt (w:World) (a:Option Addr) (L:Nat) (bt:Nat→Int):Prop:=∀ j,j < L→∃ b o,a=some ⟨b,o,none⟩∧b < w.heap.size∧w.cell? ⟨b,o+j,none⟩=some (.int .u8 (bt j))
theorem BytAt.kept {S:Nat→Prop} {w w':World} {a:Option Addr} {L:Nat} {bt:Nat→Int} (h:BytAt w a L bt) (k:Kp S w w') (hS:∀ b,b < w.heap.size→¬ S b):BytAt w' a L bt:=fun j hj=>by
 obtain ⟨b,o,e,hb,hc⟩:=h j hj
 exact ⟨b,o,e,Nat.lt_of_lt_of_le hb k.size,cell_kept hc k (hS b hb)⟩
theorem copy_byt (w:World) (S o dLen dCap L c:Nat) (a:Option Addr) (bt:Nat→Int) (hb:BytAt w a L bt) (n:Nat) (hn:n=Nat.min L dLen) (cur:Array Value) (t:TypeId) (hS:w.heap[S]?=some (.cells cur t (0,0))) (ho:o+n≤cur.size):
  ∃ w2,(Builtin.copy_ #[79,79] 3 #[.slice (some ⟨S,o,none⟩) dLen dCap,.slice a L c]).run Tryz.prog w=.ok (.int .i64 n) w2 ∧
   (∃ cur',w2.heap[S]?=some (.cells cur' t (0,0))∧Laid cur cur' o n (fun j=>.int .u8 (bt j)))∧Kp (isB S) w w2:=by
 by_cases h0:n=0
 ·subst h0
  exact ⟨w,run_copy_none (P:=Tryz.prog) w 79 79 3 5 _ a dLen dCap L c bytesT byteT hn.symm,⟨cur,hS,Laid.none _ _ _⟩,Kp.refl _ _⟩
 ·have hle:n≤L:=by rw [hn];exact Nat.min_le_left _ _
  obtain ⟨b,q,rfl,_,_⟩:=hb 0 (by omega)
  refine copy_any w S o dLen dCap b q L c n hn cur t hS ho bt (fun j hj=>?_)
  obtain ⟨b',q',e,_,hc⟩:=hb j (by omega)
  injection e with e
  injection e with e1 e2
  subst e1;subst e2
  exact hc
theorem zeroI (w:World):(zeroValue 216).run Tryz.prog w=.ok (.agg zI) w:=by
 simp [zeroValue,typeInfo,show Tryz.prog.info? 216=some Tryz.t216 from Tryz.type216,zero57,zI]
theorem placesI:∃ fs ps,(∀ w,(underlying 216).run Tryz.prog w=.ok (.struct fs) w)∧(∀ w,(Array.mapM (fun f:Field=>Prod.mk f.offset <$> sizeOf f.type) fs).run Tryz.prog w=.ok ps w)∧ps[1]?=some (32768,1):=
 ⟨(match Tryz.prog.underlying 216 with | some (.struct f)=>f | _=>#[]),#[(0,32768),(32768,1),(32769,9),(32778,512),(33290,1),(33291,1),(33292,1),(33293,1)],fun w=>by kernel_rfl,fun w=>by kernel_rfl,rfl⟩
structure VlI (T:TypeId) (Z:Array Value) (fs:Array Field) (ps:Array (Nat × Nat)):Prop where
 t:T=216
 z:Z=zI
 zero:∀ w,(zeroValue T).run Tryz.prog w=.ok (.agg Z) w
 under:∀ w,(underlying T).run Tryz.prog w=.ok (.struct fs) w
 map:∀ w,(Array.mapM (fun f:Field=>Prod.mk f.offset <$> sizeOf f.type) fs).run Tryz.prog w=.ok ps w
 place:ps[1]?=some (32768,1)
 zs:Z.size=33294
theorem vlI:∃ T Z fs ps,VlI T Z fs ps:=by
 obtain ⟨fs,ps,h1,h2,h3⟩:=placesI
 exact ⟨_,_,fs,ps,rfl,rfl,zeroI,h1,h2,h3,zI_size⟩
theorem VlI.ops {T:TypeId} {Z:Array Value} {fs:Array Field} {ps:Array (Nat × Nat)} (h:VlI T Z fs ps):(∀ x,Op.build 216 x=Op.build T x)∧(∀ x,Op.box 216 x=Op.box T x):=by
 rw [h.t]
 exact ⟨fun _=>rfl,fun _=>rfl⟩
theorem new_raw {T:TypeId} {Z:Array Value} {fs:Array Field} {ps:Array (Nat × Nat)} (V:VlI T Z fs ps) (w:World) (n:Nat):Raw (w.alloc (.cells (Z.setIfInBounds 32768 (.int .i64 n)) T)) w.heap.size (.slice none 0 0) [] (fun _=>0) n (fun _=>0) (fun _=>0) 0 0 false:=by
 refine ⟨⟨_,by rw [heap_new,V.t],?_,fun k hk=>?_⟩,OwnI.nil _⟩
 ·rw [Array.size_setIfInBounds,V.z,zI_size]
 ·rw [V.z,Array.getElem?_setIfInBounds]
  by_cases e:32768=k
  ·subst e
   rw [if_pos rfl,if_pos (by rw [zI_size];decide)]
   rfl
  ·rw [if_neg e,zI_get hk]
   have e':¬ k=32768:=fun g=>e g.symm
   unfold cC
   simp only [if_neg e']
def dB (L:Nat) (bt:Nat→Int) (i:Nat):Int:=if i < L then bt i else 0
theorem new_no (w:World) (a:Option Addr) (L c:Nat) (h:L%512≠0∨32768 < L) (hL:L < 9223372036854775808):Calls Tryz.prog 56 #[.slice a L c] w fun e w'=>e=.returned (.tuple #[.pointer none,.int .i64 140])∧w'=w:=by
 by_cases q:L%512=0
 ·have q1:((L:Int)%512 != 0)=false:=by rw [bne_eq_false_iff_eq];omega
  have q2:decide ((L:Int) > 32768)=true:=by simp;omega
  go_enter Tryz.func56,Tryz.ntmps56
  go_wp2
  go_ret2
  exact ⟨rfl,rfl⟩
 ·have q1:((L:Int)%512 != 0)=true:=by rw [bne_iff_ne];omega
  go_enter Tryz.func56,Tryz.ntmps56
  go_wp2
  go_ret2
  exact ⟨rfl,rfl⟩
def NewPost (w:World) (L:Nat) (bt:Nat→Int) (w':World):Prop:=∃ dn,IAt w' w.heap.size dn (.slice none 0 0) (id0 (L / 512) (dB L bt))∧Kp noB w w'
theorem new_ok (w:World) (a:Option Addr) (L c:Nat) (bt:Nat→Int) (hb:BytAt w a L bt) (h1:L%512=0) (h2:L≤32768):Calls Tryz.prog 56 #[.slice a L c] w fun e w'=>e=.returned (.tuple #[.pointer (some ⟨w.heap.size,0,none⟩),.int .i64 0])∧NewPost w L bt w':=by
 obtain ⟨T,Z,fs,ps,V⟩:=vlI
 have q1:((L:Int)%512 != 0)=false:=by rw [bne_eq_false_iff_eq];omega
 have q2:decide ((L:Int) > 32768)=false:=by simp;omega
 have q3:(L:Int) / 512=((L / 512:Nat):Int):=by omega
 obtain ⟨N,hN⟩:∃ N,N=L / 512:=⟨_,rfl⟩
 rw [← hN] at q3
 have r0:=new_raw V w N
 obtain ⟨w1,e1⟩:∃ w1,w1=w.alloc (.cells (Z.setIfInBounds 32768 (.int .i64 N)) T):=⟨_,rfl⟩
 have k1:Kp noB w w1:=by rw [e1];exact Kp.alloc _ _ _
 rw [← e1] at r0
 obtain ⟨cur,g1,g2,g3⟩:=r0.blk
 obtain ⟨w2,hcp,⟨cur2,hh2,hl2⟩,hk2⟩:=copy_byt w1 w.heap.size 0 32768 32768 L c a bt (hb.kept k1 (fun _ _=>id)) L (Nat.min_eq_left h2).symm cur _ g1 (by omega)
 have r2:=r0.laydisk g1 hh2 (by omega) hl2 hk2
 have h3:IAt w2 w.heap.size 0 (.slice none 0 0) { id0 N (dB L bt) with r1:=0,r2:=0,r3:=0 }:=by
  refine ⟨r2.blk.of fun k hk=>?_,r2.log,rfl⟩
  have hD:layB (fun _=>0) 0 L bt=dB L bt:=by
   funext i
   unfold layB dB
   by_cases q:i < L
   ·rw [if_pos (by omega),if_pos q,Nat.sub_zero]
   ·rw [if_neg (by omega),if_neg q]
  rw [hD]
  unfold fC
  have hR:(fun _:Nat=>(0:Int))=({ id0 N (dB L bt) with r1:=0,r2:=0,r3:=0 }:Id).reg:=by
   funext j
   unfold Id.reg id0
   simp only
   repeat' split
   all_goals rfl
  rw [← hR]
  rfl
 have HS:Hid _:=start_ok h3
 have ef:({ ({ id0 N (dB L bt) with r1:=0,r2:=0,r3:=0 }:Id) with c:=0 }:Id).fresh=id0 N (dB L bt):=rfl
 rw [ef] at HS
 have HF:Hid (∀ w3,DOk w2 w.heap.size (.slice none 0 0) (id0 N (dB L bt)) w3→NewPost w L bt w3):=by
  rintro w3 ⟨dn,h4,d4,k4⟩
  unfold NewPost
  rw [← hN]
  exact ⟨dn,h4,(k1.over hk2 (fun j hj (e:j=_)=>by omega)).over k4 (fun j hj (e:j=_)=>by omega)⟩
 have o1:=V.ops
 have v1:=V.zero
 have v2:=V.under
 have v3:=V.map
 have v4:=V.place
 have v5:=V.zs
 have v6:wrap64 (N:Int)=N:=IntWalk.wrap64_in _ ⟨by omega,by omega⟩
 rw [e1] at hcp
 clear r0 g1 g2 g3 hh2 hl2 hk2 r2 h3 ef k1 V hb h1 h2 e1 hN
 go_enter Tryz.func56,Tryz.ntmps56
 simp only [o1.1,o1.2]
 go_wp2_with fail
 refine Calls.mono HS.out ?_;rintro e w3 ⟨rfl,h3⟩
 have H:Hid (NewPost w L bt w3):=HF.out _ h3
 clear h3 HS HF hcp
 go_wp2
 go_ret2
 exact ⟨rfl,H.out⟩
open Go.ChangeShapes Go.WideShapes Go.ChangeAt Go.RowKit
def ck (reg size:Int):Int:=if reg < 0∨9≤reg then 1 else if reg=0∧size≠1∧size≠2∧size≠4 then 2 else 0
def Id.o (d:Id) (reg size v:Int):Id:=if ck reg size=0 then d.out reg size.toNat v else d
structure Nxt (w:World) (S:Nat→Prop) (w':World) (S':Nat→Prop):Prop where
 sub:∀ k,S' k→S k∨w.heap.size≤k
 kp:Kp S w w'
theorem Nxt.refl (w:World) (S:Nat→Prop):Nxt w S w S:=⟨fun _ f=>.inl f,Kp.refl _ _⟩
structure IW (w:World) (S:Nat→Prop) (B:Nat) (d:Id):Prop where
 ex:∃ dn sv,IAt w B dn sv d∧Dn d dn∧∀ k,foot B sv k→S k
 lt:∀ k,S k→k < w.heap.size
theorem IW.kept {w w':World} {S T:Nat→Prop} {B:Nat} {d:Id} (h:IW w S B d) (k:Kp T w w') (hS:∀ k,S k→¬ T k):IW w' S B d:=by
 obtain ⟨dn,sv,h1,hd,h2⟩:=h.ex
 exact ⟨⟨dn,sv,h1.kept k (hS _ (h2 _ (.inl rfl))) (fun g e=>hS _ (h2 _ (.inr e))),hd,h2⟩,fun j hj=>Nat.lt_of_lt_of_le (h.lt j hj) k.size⟩
def INx (w:World) (S:Nat→Prop) (B:Nat) (d:Id) (w':World):Prop:=∃ S',IW w' S' B d∧Nxt w S w' S'
section
variable {w:World} {S:Nat→Prop} {B:Nat} {d:Id}
theorem INx.same {w':World} (h:IW w S B d) (e:w'=w):INx w S B d w':=by
 subst e
 exact ⟨S,h,Nxt.refl _ _⟩
theorem wLine (h:IW w S B d) (k:d.Ok):Calls Tryz.prog 137 #[.pointer (some ⟨B,0,none⟩)] w fun e w'=>e=.returned (.bool d.line)∧w'=w:=by
 obtain ⟨dn,sv,h1,hd,h2⟩:=h.ex
 exact line_ok h1 k
end
def INew (w:World) (L:Nat) (bt:Nat→Int) (w':World):Prop:=∃ S,IW w' S w.heap.size (id0 (L / 512) (dB L bt))∧(∀ k,S k→w.heap.size≤k)∧Kp noB w w'
theorem wNew (w:World) (a:Option Addr) (L c:Nat) (bt:Nat→Int) (hb:BytAt w a L bt) (h1:L%512=0) (h2:L≤32768):Calls Tryz.prog 56 #[.slice a L c] w fun e w'=>e=.returned (.tuple #[.pointer (some ⟨w.heap.size,0,none⟩),.int .i64 0])∧INew w L bt w':=by
 refine (new_ok w a L c bt hb h1 h2).mono fun e w' ⟨a,dn,b1,b3⟩=>⟨a,fun k=>k=w.heap.size,⟨⟨dn,_,b1,fun q=>absurd rfl q,fun k g=>?_⟩,fun k g=>?_⟩,fun k g=>by omega,b3⟩
 ·rcases g with g | g
  ·exact g
  ·cases g
 ·have:=b1.lt
  omega
theorem dB_byt {L:Nat} {bt:Nat→Int} (h:∀ j,j < L→byt (bt j)) (i:Nat):byt (dB L bt i):=by
 unfold dB
 split
 ·exact h i ‹_›
 ·exact byt0
theorem idN_ok {L:Nat} {bt:Nat→Int} (h2:L≤32768) (h:∀ j,j < L→byt (bt j)):(id0 (L / 512) (dB L bt)).Ok:=id0_ok (by omega) (fun i _=>dB_byt h i)
end Go.Proofs.YtacgmoikegcopaaGreatDoor.Dk
namespace Go.Proofs.YtacgmoikegcopaaGreatDoor.Bs
open Go.RowKit
set_option linter.unusedVariables false
set_option maxRecDepth 20000
structure Bm where
 p:Pc.M2
 f:Nat→Pt.Cn
 u:Ut.U
 d:Dk.Id
 m:Rm.Mem
 cl:Bool
 now:Int
def Bm.tell (x:Bm):Bm:={ x with p:=((x.p.line 0 ((x.f 0).line x.now)).line 4 x.u.ln).line 14 x.d.line }
inductive Dv where
 | pic
 | pit
 | uart
 | ide
 | gate
def portOf (p:Int):Option (Dv × Int):=
 if p=32∨p=33 then some (.pic,p - 32) else if p=160∨p=161 then some (.pic,p - 158) else if 64≤p∧p < 68 then some (.pit,p - 64)
 else if 1016≤p∧p < 1024 then some (.uart,p - 1016) else if 496≤p∧p < 504 then some (.ide,p - 496) else if p=1014 then some (.ide,8) else if p=146 then some (.gate,0) else none
def shutV (v:Int):Bool:=v / 2%2==0
def Bm.outD (x:Bm) (v:Int):Option (Dv × Int)→Bm
 | some (.pic,a)=>{ x with p:=x.p.out a v }
 | some (.pit,a)=>{ x with f:=Pt.outF x.f a v x.now }
 | some (.uart,a)=>{ x with u:=x.u.out a v }
 | some (.ide,a)=>{ x with d:=x.d.o a 1 v }
 | some (.gate,_)=>{ x with cl:=shutV v,m:={ x.m with closed:=shutV v } }
 | none=>x
def Bm.out1 (x:Bm) (p v:Int):Bm:=x.outD v (portOf p)
def nxt (p:Int):Int:=(p+1)%65536
def Bm.outN:Nat→Bm→Int→Int→Bm
 | 0,x,_,_=>x
 | n+1,x,p,v=>Bm.outN n (x.out1 p (v%256)) (nxt p) (v / 256)
def okS (s:Int):Prop:=s=1∨s=2∨s=4
instance (s:Int):Decidable (okS s):=by unfold okS;exact inferInstance
def Bm.put (x:Bm) (p s v:Int):Bm:=if p=496 then { x with d:=x.d.o 0 s v } else x.outN s.toNat p v
def Bm.out (x:Bm) (p s v:Int):Bm:=if okS s then (x.put p s v).tell else x
def erS (s:Int):Int:=if okS s then 0 else 2
def Byt (x:Int):Prop:=0≤x∧x < 256
structure Bm.Ok (x:Bm):Prop where
 p:x.p.Ok
 st:x.p.settle=x.p
 f:Pt.Oks x.f
 u:x.u.Ok
 d:x.d.Ok
 n0:0≤x.now
 n1:x.now < 18446744073709551616
theorem settle_idem {m:Pc.M2} (k:m.Ok):m.settle.settle=m.settle:=by
 have e:m.settle.settle.a.asks=m.settle.a.asks:=Pc.by_ext k.settle.settle.a.asks k.settle.a.asks fun j hj=>by
  rw [Pc.settle_asks k.settle,Pc.settle_asks k]
  by_cases q:j=2
  ·subst q;rw [if_pos rfl];rfl
  ·rw [if_neg q,if_neg q]
 have e2:m.settle.settle=⟨{ m.settle.a with asks:=m.settle.settle.a.asks },m.settle.b⟩:=rfl
 rw [e2,e]
theorem line_st {m:Pc.M2} (k:m.Ok) {n:Int} (n0:0≤n) (n1:n < 16) (u:Bool):(m.line n u).settle=m.line n u:=by
 unfold Pc.M2.line
 apply settle_idem
 split
 ·exact k
 ·split
  ·exact k.set false (k.a.line n0 (by omega) u)
  ·exact k.set true (k.b.line (by omega) (by omega) u)
theorem out_st {m:Pc.M2} (k:m.Ok) {p v:Int} (hv:Pc.By v):(m.out p v).settle=m.out p v:=by
 unfold Pc.M2.out
 apply settle_idem
 split
 ·exact k.set false (k.a.cmd hv)
 ·split
  ·exact k.set false (k.a.dat hv)
  ·split
   ·exact k.set true (k.b.cmd hv)
   ·exact k.set true (k.b.dat hv)
theorem Bm.Ok.tell {x:Bm} (h:x.Ok):x.tell.Ok:=by
 have k1:=h.p.line (n:=0) (by decide) (by decide) ((x.f 0).line x.now)
 have k2:=k1.line (n:=4) (by decide) (by decide) x.u.ln
 have k3:=k2.line (n:=14) (by decide) (by decide) x.d.line
 exact { h with p:=k3,st:=line_st k2 (by decide) (by decide) _ }
end Go.Proofs.YtacgmoikegcopaaGreatDoor.Bs
