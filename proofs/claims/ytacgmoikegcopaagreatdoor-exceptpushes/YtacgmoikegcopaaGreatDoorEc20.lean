/- The bus and its devices: UtW, BsRes, PcMath, PcBase, PcLeaf. -/
import Derived.Test.YtacgmoikegcopaaGreatDoorEc19
import Derived.Conc.LoneSelectN
import Derived.Conc.LoneSelect
import Derived.Test.YtacgmoikegcopaaGreatDoorEc01
import Derived.Lib.BitFns
import Derived.Laws.BitsAllLaws
namespace Go.Proofs.YtacgmoikegcopaaGreatDoor.Ut
open Go.ChangeShapes Go.WideShapes Go.ChangeAt Go.RowKit
set_option linter.unusedVariables false
set_option maxRecDepth 20000
structure Nxt (w:World) (S:Nat→Prop) (w':World) (S':Nat→Prop):Prop where
 sub:∀ k,S' k→S k∨w.heap.size≤k
 kp:Kp S w w'
def UNx (w:World) (S:Nat→Prop) (B:Nat) (u:U) (w':World):Prop:=∃ S',UW w' S' B u∧Nxt w S w' S'
section
variable {w:World} {S:Nat→Prop} {B:Nat} {u:U}
theorem UNx.same {w':World} (h:UW w S B u) (e:w'=w):UNx w S B u w':=by
 subst e
 exact ⟨S,h,fun _ f=>.inl f,Kp.refl _ _⟩
theorem wLine (h:UW w S B u) (k:u.Ok):Calls Tryz.prog 136 #[.pointer (some ⟨B,0,none⟩)] w fun e w'=>e=.returned (.bool u.ln)∧w'=w:=by
 obtain ⟨cv,sv,h1,h2⟩:=h.ex
 exact line_ok h1 k
end
theorem wNew (w:World):Calls Tryz.prog 59 #[] w fun e w'=>∃ B S,e=.returned (.pointer (some ⟨B,0,none⟩))∧UW w' S B u0∧(∀ k,S k→w.heap.size≤k)∧Kp noB w w':=by
 refine (new_ok w).mono fun e w' ⟨a,b1,b3⟩=>⟨w.heap.size,fun k=>k=w.heap.size,a,⟨⟨_,_,b1,fun k g=>?_⟩,fun k g=>?_⟩,fun k g=>by omega,b3⟩
 ·rcases g with g | g | g
  ·exact g
  ·cases g
  ·cases g
 ·have:=b1.lt
  omega
end Go.Proofs.YtacgmoikegcopaaGreatDoor.Ut
namespace Go.Proofs.YtacgmoikegcopaaGreatDoor.Bs
open Go.ChangeShapes Go.WideShapes Go.ChangeAt Go.RowKit
open Go.Proofs.YtacgmoikegcopaaGreatDoor.Ut (Kp heap_lt heap_kept heap_set heap_new noB isB kpB)
set_option linter.unusedVariables false
set_option maxRecDepth 20000
structure Res where
 R:World→(Nat→Prop)→Prop
 loc:∀ {w w':World} {S T:Nat→Prop},R w S→Kp T w w'→(∀ k,S k→¬ T k)→R w' S
structure Nx (w:World) (S:Nat→Prop) (w':World) (S':Nat→Prop):Prop where
 sub:∀ k,S' k→S k∨w.heap.size≤k
 kp:Kp S w w'
theorem Nx.refl (w:World) (S:Nat→Prop):Nx w S w S:=⟨fun _ f=>.inl f,Kp.refl _ _⟩
theorem Nx.trans {a b c:World} {S T U:Nat→Prop} (h:Nx a S b T) (k:Nx b T c U):Nx a S c U:=
 ⟨fun i g=>by
  rcases k.sub i g with f | f
  ·exact h.sub i f
  ·exact .inr (Nat.le_trans h.kp.size f),h.kp.over k.kp (fun j hj g=>by
  rcases h.sub j g with f | f
  ·exact f
  ·omega)⟩
theorem Nx.keep {w w':World} {S:Nat→Prop} (k:Kp noB w w'):Nx w S w' S:=⟨fun _ f=>.inl f,k.any⟩
def Res.none:Res:=⟨fun _ _=>True,fun _ _ _=>trivial⟩
def Res.blk (B:Nat) (o:Obj):Res:=⟨fun w S=>S B∧w.heap[B]?=some o,fun h k d=>⟨h.1,heap_kept h.2 k (d _ h.1)⟩⟩
def Sys (w:World) (S:Nat→Prop) (Rs:Nat→Res):Prop:=∃ own:Nat→Nat,∀ i,∃ T,(Rs i).R w T∧∀ k,T k→own k=i∧S k∧k < w.heap.size
def updR (Rs:Nat→Res) (i:Nat) (r:Res):Nat→Res:=fun j=>if j=i then r else Rs j
section
variable {w:World} {S:Nat→Prop} {Rs:Nat→Res}
theorem Sys.at (h:Sys w S Rs) (i:Nat):∃ T,(Rs i).R w T∧∀ k,T k→S k∧k < w.heap.size:=by
 obtain ⟨own,hs⟩:=h
 obtain ⟨T,a,b⟩:=hs i
 exact ⟨T,a,fun k g=>(b k g).2⟩
theorem Sys.keep {w':World} (h:Sys w S Rs) (k:Kp noB w w'):Sys w' S Rs:=by
 obtain ⟨own,hs⟩:=h
 refine ⟨own,fun i=>?_⟩
 obtain ⟨T,a,b⟩:=hs i
 exact ⟨T,(Rs i).loc a k (fun _ _=>id),fun j g=>⟨(b j g).1,(b j g).2.1,Nat.lt_of_lt_of_le (b j g).2.2 k.size⟩⟩
theorem Sys.drew (h:Sys w S Rs):Sys w.drew S Rs:=h.keep (Kp.refl _ _).drew
theorem Sys.fst (h:Sys w S Rs) (i:Nat):∃ T,(Rs i).R w T∧(∀ k,T k→S k∧k < w.heap.size)∧∀ (r':Res) (w':World) (T':Nat→Prop),r'.R w' T'→Nx w T w' T'→(∀ k,T' k→k < w'.heap.size)→∃ S',Sys w' S' (updR Rs i r')∧Nx w S w' S':=by
 obtain ⟨own,hs⟩:=h
 obtain ⟨T,hT,hb⟩:=hs i
 refine ⟨T,hT,fun k g=>(hb k g).2,fun r' w' T' b1 b2 b3=>⟨fun k=>k < w'.heap.size∧(S k∨w.heap.size≤k),⟨fun k=>if w.heap.size≤k then i else own k,fun j=>?_⟩,⟨fun k hk=>hk.2,b2.kp.mono (fun k _ g=>(hb k g).2.1)⟩⟩⟩
 by_cases e:j=i
 ·subst e
  refine ⟨T',by rw [updR,if_pos rfl];exact b1,fun k g=>?_⟩
  rcases b2.sub k g with f | f
  ·obtain ⟨c1,c2,c3⟩:=hb k f
   exact ⟨by dsimp only;rw [if_neg (by omega)];exact c1,⟨b3 k g,.inl c2⟩,b3 k g⟩
  ·exact ⟨by dsimp only;rw [if_pos f],⟨b3 k g,.inr f⟩,b3 k g⟩
 ·obtain ⟨Tj,hj,hbj⟩:=hs j
  refine ⟨Tj,by rw [updR,if_neg e];exact (Rs j).loc hj b2.kp (fun k g f=>e ((hbj k g).1.symm.trans (hb k f).1)),fun k g=>?_⟩
  obtain ⟨c1,c2,c3⟩:=hbj k g
  have:=b2.kp.size
  exact ⟨by dsimp only;rw [if_neg (by omega)];exact c1,⟨by omega,.inl c2⟩,by omega⟩
theorem Sys.loc {w':World} {T:Nat→Prop} (h:Sys w S Rs) (k:Kp T w w') (hS:∀ k,S k→¬ T k):Sys w' S Rs:=by
 obtain ⟨own,hs⟩:=h
 refine ⟨own,fun i=>?_⟩
 obtain ⟨Ti,a,b⟩:=hs i
 exact ⟨Ti,(Rs i).loc a k (fun j g=>hS j (b j g).2.1),fun j g=>⟨(b j g).1,(b j g).2.1,Nat.lt_of_lt_of_le (b j g).2.2 k.size⟩⟩
theorem Sys.call {P:Program} {f:FuncId} {args:Array Value} {E:Ending→Prop} (h:Sys w S Rs) (i:Nat) (r':Res) (hc:∀ T,(Rs i).R w T→(∀ k,T k→k < w.heap.size)→Calls P f args w fun e w'=>E e∧∃ T',r'.R w' T'∧Nx w T w' T'∧∀ k,T' k→k < w'.heap.size):Calls P f args w fun e w'=>E e∧∃ S',Sys w' S' (updR Rs i r')∧Nx w S w' S':=by
 obtain ⟨T,a,b,c⟩:=h.fst i
 exact (hc T a (fun k g=>(b k g).2)).mono fun e w' ⟨q,T',b1,b2,b3⟩=>⟨q,c r' w' T' b1 b2 b3⟩
theorem Sys.set (h:Sys w S Rs) {i B:Nat} {o o':Obj} {w':World} (hi:Rs i=Res.blk B o) (k:Kp (isB B) w w') (ho:w'.heap[B]?=some o'):∃ S',Sys w' S' (updR Rs i (Res.blk B o'))∧Nx w S w' S':=by
 obtain ⟨T,a,b,c⟩:=h.fst i
 rw [hi] at a
 refine c _ w' T ⟨a.1,ho⟩ ⟨fun _ f=>.inl f,k.mono (fun j _ (e:j=B)=>e ▸ a.1)⟩ (fun j g=>Nat.lt_of_lt_of_le (b j g).2 k.size)
theorem Sys.new (h:Sys w S Rs) {i:Nat} (hi:Rs i=Res.none) {r':Res} {w':World} {T':Nat→Prop} (a:r'.R w' T') (n:∀ k,T' k→w.heap.size≤k∧k < w'.heap.size) (k:Kp noB w w'):∃ S',Sys w' S' (updR Rs i r')∧Nx w S w' S':=by
 obtain ⟨own,hs⟩:=h
 refine ⟨fun k=>k < w'.heap.size∧(S k∨w.heap.size≤k),⟨fun k=>if w.heap.size≤k then i else own k,fun j=>?_⟩,⟨fun k hk=>hk.2,k.any⟩⟩
 by_cases e:j=i
 ·subst e
  refine ⟨T',by rw [updR,if_pos rfl];exact a,fun k g=>?_⟩
  obtain ⟨c1,c2⟩:=n k g
  exact ⟨by dsimp only;rw [if_pos c1],⟨c2,.inr c1⟩,c2⟩
 ·obtain ⟨Tj,hj,hbj⟩:=hs j
  refine ⟨Tj,by rw [updR,if_neg e];exact (Rs j).loc hj k (fun _ _=>id),fun q g=>?_⟩
  obtain ⟨c1,c2,c3⟩:=hbj q g
  have:=k.size
  exact ⟨by dsimp only;rw [if_neg (by omega)];exact c1,⟨by omega,.inl c2⟩,by omega⟩
theorem Sys.lt (h:Sys w S Rs):Sys w (fun k=>S k∧k < w.heap.size) Rs:=by
 obtain ⟨own,hs⟩:=h
 refine ⟨own,fun i=>?_⟩
 obtain ⟨T,a,b⟩:=hs i
 exact ⟨T,a,fun k g=>⟨(b k g).1,⟨(b k g).2.1,(b k g).2.2⟩,(b k g).2.2⟩⟩
theorem Sys.split (h:Sys w S Rs) (i j:Nat) (ij:i≠j) (hj:Rs j=Res.none):∃ T,(Rs i).R w T∧(∀ k,T k→S k∧k < w.heap.size)∧∀ (r' q':Res) (w':World) (T' U':Nat→Prop),r'.R w' T'→q'.R w' U'→Nx w T w' T'→(∀ k,T' k→k < w'.heap.size)→(∀ k,U' k→(T k∨w.heap.size≤k)∧k < w'.heap.size∧¬ T' k)→∃ S',Sys w' S' (updR (updR Rs i r') j q')∧Nx w S w' S':=by
 obtain ⟨own,hs⟩:=h
 obtain ⟨T,hT,hb⟩:=hs i
 refine ⟨T,hT,fun k g=>(hb k g).2,fun r' q' w' T' U' b1 q1 b2 b3 u1=>?_⟩
 classical
 refine ⟨fun k=>k < w'.heap.size∧(S k∨w.heap.size≤k),⟨fun k=>if U' k then j else if w.heap.size≤k then i else own k,fun l=>?_⟩,⟨fun k hk=>hk.2,b2.kp.mono (fun k _ g=>(hb k g).2.1)⟩⟩
 by_cases e:l=j
 ·subst e
  refine ⟨U',by rw [updR,if_pos rfl];exact q1,fun k g=>?_⟩
  obtain ⟨c1,c2,c3⟩:=u1 k g
  refine ⟨by dsimp only;rw [if_pos g],⟨c2,?_⟩,c2⟩
  rcases c1 with f | f
  ·exact .inl (hb k f).2.1
  ·exact .inr f
 ·by_cases e':l=i
  ·subst e'
   refine ⟨T',by rw [updR,if_neg e,updR,if_pos rfl];exact b1,fun k g=>?_⟩
   have nu:¬ U' k:=fun f=>(u1 k f).2.2 g
   rcases b2.sub k g with f | f
   ·obtain ⟨c1,c2,c3⟩:=hb k f
    exact ⟨by dsimp only;rw [if_neg nu,if_neg (by omega)];exact c1,⟨b3 k g,.inl c2⟩,b3 k g⟩
   ·exact ⟨by dsimp only;rw [if_neg nu,if_pos f],⟨b3 k g,.inr f⟩,b3 k g⟩
  ·obtain ⟨Tl,hl,hbl⟩:=hs l
   refine ⟨Tl,by rw [updR,if_neg e,updR,if_neg e'];exact (Rs l).loc hl b2.kp (fun k g f=>e' ((hbl k g).1.symm.trans (hb k f).1)),fun k g=>?_⟩
   obtain ⟨c1,c2,c3⟩:=hbl k g
   have:=b2.kp.size
   have nu:¬ U' k:=fun f=>by
    rcases (u1 k f).1 with x | x
    ·exact e' (c1.symm.trans (hb k x).1)
    ·omega
   exact ⟨by dsimp only;rw [if_neg nu,if_neg (by omega)];exact c1,⟨by omega,.inl c2⟩,by omega⟩
end
end Go.Proofs.YtacgmoikegcopaaGreatDoor.Bs
namespace Go.Proofs.YtacgmoikegcopaaGreatDoor.Pc
open Go.RowKit
set_option linter.unusedVariables false
set_option maxRecDepth 20000
structure Ch where
 up:Int
 asks:Int
 srv:Int
 msk:Int
 base:Int
 due:Int
 sh:Bool
 ends : Bool
def tz (x:Int):Int:=(Lib.trailingZeros8 x.toNat:Int)
def nextZ (a m s:Int):Int:=if tz s≤tz (bits .andNot .u8 a m) then -1 else tz (bits .andNot .u8 a m)
def Ch.next (c:Ch):Int:=nextZ c.asks c.msk c.srv
def bt (v k:Int):Bool:=bits .and .u8 v k != 0
def setUpD (v:Int):Int:=if bt v 2 then (if bt v 1 then 5 else 1) else (if bt v 1 then 7 else 3)
def pw (n:Int):Int:=((2 ^ n.toNat:Nat):Int)
def Ch.cmd (v:Int) (c:Ch):Ch:=
 if bt v 16 then { up:=c.up,asks:=0,srv:=0,msk:=0,base:=c.base,due:=setUpD v,sh:=false,ends:=false }
 else if bt v 8 then (if bt v 2 then { c with sh:=bt v 1 } else c)
 else if v / 32=1 then { c with srv:=bits .and .u8 c.srv ((c.srv - 1)%256) }
 else if v / 32=3 then { c with srv:=bits .andNot .u8 c.srv (pw (v%8)) }
 else c
def lowB (d:Int):Int:=bits .and .u8 d (-d%256)
def Ch.dat1 (v:Int) (c:Ch):Ch:=
 if lowB c.due=0 then { c with msk:=v }
 else if lowB c.due=1 then { c with base:=v - v%8 }
 else if lowB c.due=4 then { c with ends:=bt v 2 }
 else c
def Ch.dat (v:Int) (c:Ch):Ch:={ c.dat1 v with due:=bits .and .u8 c.due ((c.due - 1)%256) }
def Ch.line (n:Int) (u:Bool) (c:Ch):Ch:=
 if u then (if bt c.up (pw n) then c else { c with up:=bits .or .u8 c.up (pw n),asks:=bits .or .u8 c.asks (pw n) })
 else { c with up:=bits .andNot .u8 c.up (pw n),asks:=bits .andNot .u8 c.asks (pw n) }
structure M2 where
 a:Ch
 b:Ch
def M2.get (m:M2):Bool→Ch
 | false=>m.a
 | true=>m.b
def M2.set (m:M2) (i:Bool) (c:Ch):M2:=
 match i with
 | false=>⟨c,m.b⟩
 | true=>⟨m.a,c⟩
def M2.settle (m:M2):M2:=⟨{ m.a with asks:=if m.b.next=-1 then bits .andNot .u8 m.a.asks 4 else bits .or .u8 (bits .andNot .u8 m.a.asks 4) 4 },m.b⟩
def By (x:Int):Prop:=0≤x∧x < 256
structure Ch.Ok (c:Ch):Prop where
 up:By c.up
 asks:By c.asks
 srv:By c.srv
 msk:By c.msk
 base:By c.base
 b8:c.base%8=0
 due:0≤c.due∧c.due < 8
structure M2.Ok (m:M2):Prop where
 a:m.a.Ok
 b:m.b.Ok
theorem M2.Ok.get {m:M2} (h:m.Ok) (i:Bool):(m.get i).Ok:=by cases i;exact h.a;exact h.b
theorem M2.Ok.set {m:M2} (h:m.Ok) (i:Bool) {c:Ch} (k:c.Ok):(m.set i c).Ok:=by cases i;exact ⟨k,h.b⟩;exact ⟨h.a,k⟩
theorem by_and {a b:Int} (ha:By a) (hb:By b):By (bits .and .u8 a b):=by
 rw [u8_and a b ha.1 ha.2 hb.1 hb.2]
 have:=Nat.and_lt_two_pow (n:=8) a.toNat (show b.toNat < 2 ^ 8 by have:=hb.1;have:=hb.2;omega)
 exact ⟨by omega,by omega⟩
theorem by_or {a b:Int} (ha:By a) (hb:By b):By (bits .or .u8 a b):=by
 rw [u8_or a b ha.1 ha.2 hb.1 hb.2]
 have:=Nat.or_lt_two_pow (n:=8) (x:=a.toNat) (y:=b.toNat) (by have:=ha.1;have:=ha.2;omega) (by have:=hb.1;have:=hb.2;omega)
 exact ⟨by omega,by omega⟩
theorem by_andNot {a b:Int} (ha:By a) (hb:By b):By (bits .andNot .u8 a b):=by
 rw [u8_andNot a b ha.1 ha.2 hb.1 hb.2]
 have:=Nat.and_lt_two_pow (n:=8) a.toNat (show 255 - b.toNat < 2 ^ 8 by omega)
 exact ⟨by omega,by omega⟩
theorem by_pw {n:Int} (h0:0≤n) (h1:n < 8):By (pw n):=by
 obtain ⟨k,rfl⟩:=Int.eq_ofNat_of_zero_le h0
 have h:(2:Nat) ^ k≤2 ^ 7:=Nat.pow_le_pow_right (by decide) (by omega)
 unfold pw
 rw [show ((k:Int)).toNat=k from rfl]
 obtain ⟨q,hq⟩:∃ q,q=(2:Nat) ^ k:=⟨_,rfl⟩
 rw [← hq] at h ⊢
 have e:(2:Nat) ^ 7=128:=by decide
 exact ⟨by omega,by omega⟩
theorem by_mod (x:Int):By (x%256):=⟨by omega,by omega⟩
theorem by_lit (k:Int) (h0:0≤k) (h1:k < 256):By k:=⟨h0,h1⟩
theorem tz_bd {x:Int} (h:By x):0≤tz x∧tz x≤8:=by
 have l:=Lib.trailingZeros8_le8 ⟨x.toNat,by have:=h.1;have:=h.2;omega⟩
 unfold tz
 simp only at l
 omega
theorem setUpD_bd (v:Int):0≤setUpD v∧setUpD v < 8:=by
 unfold setUpD
 cases bt v 2<;>cases bt v 1<;>decide
theorem due_low:∀ n:Fin 8,0≤bits .and .u8 (n.val:Int) (((n.val:Int) - 1)%256)∧bits .and .u8 (n.val:Int) (((n.val:Int) - 1)%256) < 8:=by decide +kernel
theorem due_bd {d:Int} (h:0≤d∧d < 8):0≤bits .and .u8 d ((d - 1)%256)∧bits .and .u8 d ((d - 1)%256) < 8:=by
 have:=due_low ⟨d.toNat,by omega⟩
 simp only [Int.toNat_of_nonneg h.1] at this
 exact this
theorem Ch.Ok.cmd {c:Ch} (h:c.Ok) {v:Int} (hv:By v):(c.cmd v).Ok:=by
 have z:By 0:=by_lit 0 (by decide) (by decide)
 unfold Ch.cmd
 split
 ·exact ⟨h.up,z,z,z,h.base,h.b8,setUpD_bd v⟩
 ·split
  ·split
   ·exact ⟨h.up,h.asks,h.srv,h.msk,h.base,h.b8,h.due⟩
   ·exact h
  ·split
   ·exact ⟨h.up,h.asks,by_and h.srv (by_mod _),h.msk,h.base,h.b8,h.due⟩
   ·split
    ·exact ⟨h.up,h.asks,by_andNot h.srv (by_pw (by omega) (by omega)),h.msk,h.base,h.b8,h.due⟩
    ·exact h
theorem Ch.Ok.dat1 {c:Ch} (h:c.Ok) {v:Int} (hv:By v):(c.dat1 v).Ok:=by
 have z:=hv.1
 have z1:=hv.2
 unfold Ch.dat1
 split
 ·exact ⟨h.up,h.asks,h.srv,hv,h.base,h.b8,h.due⟩
 ·split
  ·exact ⟨h.up,h.asks,h.srv,h.msk,⟨by show 0≤v - v%8;omega,by show v - v%8 < 256;omega⟩,by show (v - v%8)%8=0;omega,h.due⟩
  ·split
   ·exact ⟨h.up,h.asks,h.srv,h.msk,h.base,h.b8,h.due⟩
   ·exact h
theorem Ch.Ok.dat {c:Ch} (h:c.Ok) {v:Int} (hv:By v):(c.dat v).Ok:=by
 have k:=h.dat1 hv
 exact ⟨k.up,k.asks,k.srv,k.msk,k.base,k.b8,due_bd h.due⟩
theorem Ch.Ok.line {c:Ch} (h:c.Ok) {n:Int} (n0:0≤n) (n1:n < 8) (u:Bool):(c.line n u).Ok:=by
 have p:=by_pw n0 n1
 unfold Ch.line
 split
 ·split
  ·exact h
  ·exact ⟨by_or h.up p,by_or h.asks p,h.srv,h.msk,h.base,h.b8,h.due⟩
 ·exact ⟨by_andNot h.up p,by_andNot h.asks p,h.srv,h.msk,h.base,h.b8,h.due⟩
theorem M2.Ok.settle {m:M2} (h:m.Ok):m.settle.Ok:=by
 have f:By 4:=by_lit 4 (by decide) (by decide)
 refine ⟨⟨h.a.up,?_,h.a.srv,h.a.msk,h.a.base,h.a.b8,h.a.due⟩,h.b⟩
 show By (if _ then _ else _)
 split
 ·exact by_andNot h.a.asks f
 ·exact by_or (by_andNot h.a.asks f) f
open Go.ChangeShapes Go.WideShapes Go.ChangeAt Go.RowKit
structure Kp (S:Nat→Prop) (w w':World):Prop where
 os:w'.os=w.os
 tape:w'.tape=w.tape
 output:w'.output=w.output
 size:w.heap.size≤w'.heap.size
 block:∀ k,k < w.heap.size→¬ S k→w'.heap[k]?=w.heap[k]?
theorem Kp.refl (S:Nat→Prop) (w:World):Kp S w w:=⟨rfl,rfl,rfl,Nat.le_refl _,fun _ _ _=>rfl⟩
theorem Kp.trans {S:Nat→Prop} {a b c:World} (h:Kp S a b) (k:Kp S b c):Kp S a c:=
 ⟨k.os.trans h.os,k.tape.trans h.tape,k.output.trans h.output,Nat.le_trans h.size k.size,fun i hi hs=>(k.block i (Nat.lt_of_lt_of_le hi h.size) hs).trans (h.block i hi hs)⟩
theorem Kp.mono {S T:Nat→Prop} {a b:World} (h:Kp S a b) (hST:∀ k,k < a.heap.size→S k→T k):Kp T a b:=
 ⟨h.os,h.tape,h.output,h.size,fun i hi hs=>h.block i hi (fun g=>hs (hST i hi g))⟩
theorem Kp.alloc (S:Nat→Prop) (w:World) (o:Obj):Kp S w (w.alloc o):=
 ⟨rfl,rfl,rfl,by simp,fun k hk _=>Below.heap_alloc _ _ _ hk⟩
theorem Kp.setCell {S:Nat→Prop} (w:World) {p:Addr} (hp:S p.block) (u:Value):Kp S w (w.setCell p u):=
 ⟨rfl,rfl,rfl,by simp [World.setCell],fun k hk hs=>Below.heap_setCell _ _ _ _ (fun e=>hs (e ▸ hp))⟩
theorem Kp.drew {S:Nat→Prop} {w w':World} (h:Kp S w w'):Kp S w w'.drew:=⟨h.os,h.tape,h.output,h.size,h.block⟩
theorem Kp.drewN {S:Nat→Prop} {w w':World} (h:Kp S w w') (n:Nat):Kp S w (w'.drewN n):=⟨h.os,h.tape,h.output,h.size,h.block⟩
theorem heap_lt {w:World} {b:Nat} {o:Obj} (h:w.heap[b]?=some o):b < w.heap.size:=(Array.getElem?_eq_some_iff.1 h).1
theorem heap_kept {S:Nat→Prop} {w w':World} {b:Nat} {o:Obj} (h:w.heap[b]?=some o) (k:Kp S w w') (hS:¬ S b):w'.heap[b]?=some o:=(k.block b (heap_lt h) hS).trans h
theorem heap_set {w:World} {b k:Nat} {v:Value} {c:Array Value} {t:TypeId} {fr:Nat × Nat} (h:w.heap[b]?=some (.cells c t fr)):(w.setCell ⟨b,k,none⟩ v).heap[b]?=some (.cells (c.setIfInBounds k v) t fr):=by
 simp [World.setCell,Array.getElem?_modify,h]
def noB (_:Nat):Prop:=False
def isB (B k:Nat):Prop:=k=B
theorem Kp.any {S:Nat→Prop} {w w':World} (h:Kp noB w w'):Kp S w w':=h.mono fun _ _ f=>f.elim
def pcC (m:M2):Array Value:=#[.int .u8 m.a.up,.int .u8 m.a.asks,.int .u8 m.a.srv,.int .u8 m.a.msk,.int .u8 m.a.base,.int .u8 m.a.due,.bool m.a.sh,.bool m.a.ends,.int .u8 m.b.up,.int .u8 m.b.asks,.int .u8 m.b.srv,.int .u8 m.b.msk,.int .u8 m.b.base,.int .u8 m.b.due,.bool m.b.sh,.bool m.b.ends]
structure PAt (w:World) (B:Nat) (m:M2):Prop where
 blk:w.heap[B]?=some (.cells (pcC m) 221 (0,0))
theorem PAt.kept {S:Nat→Prop} {w w':World} {B:Nat} {m:M2} (h:PAt w B m) (k:Kp S w w') (hS:¬ S B):PAt w' B m:=⟨heap_kept h.blk k hS⟩
theorem PAt.set {w:World} {B:Nat} {m:M2} (h:PAt w B m) (k:Nat) (v:Value) (m':M2) (e:(pcC m).setIfInBounds k v=pcC m'):PAt (w.setCell ⟨B,k,none⟩ v) B m':=⟨by rw [heap_set h.blk,e]⟩
theorem kpB (B:Nat) (w:World) (k:Nat) (v:Value):Kp (isB B) w (w.setCell ⟨B,k,none⟩ v):=Kp.setCell (S:=isB B) w (p:=⟨B,k,none⟩) rfl v
section
variable {w:World} {B:Nat} {m:M2}
theorem PAt.c0 (h:PAt w B m):w.cell? ⟨B,0,none⟩=some (.int .u8 m.a.up):=by simp [World.cell?,h.blk,pcC]
theorem PAt.c1 (h:PAt w B m):w.cell? ⟨B,1,none⟩=some (.int .u8 m.a.asks):=by simp [World.cell?,h.blk,pcC]
theorem PAt.c2 (h:PAt w B m):w.cell? ⟨B,2,none⟩=some (.int .u8 m.a.srv):=by simp [World.cell?,h.blk,pcC]
theorem PAt.c3 (h:PAt w B m):w.cell? ⟨B,3,none⟩=some (.int .u8 m.a.msk):=by simp [World.cell?,h.blk,pcC]
theorem PAt.c4 (h:PAt w B m):w.cell? ⟨B,4,none⟩=some (.int .u8 m.a.base):=by simp [World.cell?,h.blk,pcC]
theorem PAt.c5 (h:PAt w B m):w.cell? ⟨B,5,none⟩=some (.int .u8 m.a.due):=by simp [World.cell?,h.blk,pcC]
theorem PAt.c6 (h:PAt w B m):w.cell? ⟨B,6,none⟩=some (.bool m.a.sh):=by simp [World.cell?,h.blk,pcC]
theorem PAt.c7 (h:PAt w B m):w.cell? ⟨B,7,none⟩=some (.bool m.a.ends):=by simp [World.cell?,h.blk,pcC]
theorem PAt.c8 (h:PAt w B m):w.cell? ⟨B,8,none⟩=some (.int .u8 m.b.up):=by simp [World.cell?,h.blk,pcC]
theorem PAt.c9 (h:PAt w B m):w.cell? ⟨B,9,none⟩=some (.int .u8 m.b.asks):=by simp [World.cell?,h.blk,pcC]
theorem PAt.c10 (h:PAt w B m):w.cell? ⟨B,10,none⟩=some (.int .u8 m.b.srv):=by simp [World.cell?,h.blk,pcC]
theorem PAt.c11 (h:PAt w B m):w.cell? ⟨B,11,none⟩=some (.int .u8 m.b.msk):=by simp [World.cell?,h.blk,pcC]
theorem PAt.c12 (h:PAt w B m):w.cell? ⟨B,12,none⟩=some (.int .u8 m.b.base):=by simp [World.cell?,h.blk,pcC]
theorem PAt.c13 (h:PAt w B m):w.cell? ⟨B,13,none⟩=some (.int .u8 m.b.due):=by simp [World.cell?,h.blk,pcC]
theorem PAt.c14 (h:PAt w B m):w.cell? ⟨B,14,none⟩=some (.bool m.b.sh):=by simp [World.cell?,h.blk,pcC]
theorem PAt.c15 (h:PAt w B m):w.cell? ⟨B,15,none⟩=some (.bool m.b.ends):=by simp [World.cell?,h.blk,pcC]
theorem PAt.fz (h:PAt w B m) (j:Nat):w.frozen? ⟨B,j,none⟩=false:=by simp [World.frozen?,h.blk]
theorem PAt.lt (h:PAt w B m):B < w.heap.size:=heap_lt h.blk
theorem PAt.drewN (h:PAt w B m) (n:Nat):PAt (w.drewN n) B m:=h.kept ((Kp.refl noB _).drewN n) id
theorem PAt.drew (h:PAt w B m):PAt w.drew B m:=h.kept ((Kp.refl noB _).drew) id
theorem PAt.alloc (h:PAt w B m) (o:Obj):PAt (w.alloc o) B m:=h.kept (Kp.alloc noB _ _) id
end
open Go.ChangeShapes Go.WideShapes Go.ChangeAt Go.RowKit
theorem tz_any (w:World) (x:Int) (h:By x):Calls Tryz.prog 254 #[.int .u8 x] w fun e w'=>e=.returned (.int .i64 (tz x))∧w'=w:=by
 obtain ⟨h0,h1⟩:=h
 have h1':x≤255:=by omega
 have e:=Lib.ntz8_int x h0 (by omega)
 have e':wrap64 (Lib.ntz8 x)=tz x:=by
  unfold tz
  rw [← e]
  unfold wrap64
  omega
 go_enter Tryz.func254,Tryz.ntmps254
 go_wp2
 go_ret
 exact ⟨ret_int e',rfl⟩
theorem and8_7':∀ n:Fin 256,bits .and .u8 (n.val:Int) 7=(n.val:Int)%8:=by decide +kernel
theorem and8_7 {v:Int} (v0:0≤v) (v1:v < 256):bits .and .u8 v 7=v%8:=by
 have:=and8_7' ⟨v.toNat,by omega⟩
 simp only [Int.toNat_of_nonneg v0] at this
 exact this
theorem not8_7':∀ n:Fin 256,bits .andNot .u8 (n.val:Int) 7=(n.val:Int) - (n.val:Int)%8:=by decide +kernel
theorem not8_7 {v:Int} (v0:0≤v) (v1:v < 256):bits .andNot .u8 v 7=v - v%8:=by
 have:=not8_7' ⟨v.toNat,by omega⟩
 simp only [Int.toNat_of_nonneg v0] at this
 exact this
theorem pw_mod {n:Int} (n0:0≤n) (n1:n < 8):(2:Int) ^ n.toNat%256=pw n:=by
 have h:=by_pw n0 n1
 have e:pw n=(2:Int) ^ n.toNat:=by unfold pw;simp
 rw [← e]
 obtain ⟨h0,h1⟩:=h
 omega
theorem setUp_any (w:World) (v:Int):Calls Tryz.prog 216 #[.int .u8 v] w fun e w'=>e=.returned (.int .u8 (setUpD v))∧w'=w:=by
 unfold setUpD
 have h2:(bits .and .u8 v 2==0)=!bt v 2:=by unfold bt;simp [bne]
 have h1:(bits .and .u8 v 1 != 0)=bt v 1:=rfl
 cases e2:bt v 2<;>cases e1:bt v 1
 all_goals
  rw [e2] at h2
  rw [e1] at h1
  go_enter Tryz.func216,Tryz.ntmps216
  go_wp2
  go_ret
  exact ⟨ret_int (by decide),rfl⟩
theorem next_a (w:World) (B:Nat) (m:M2) (h:PAt w B m) (k:m.a.Ok):Calls Tryz.prog 207 #[.pointer (some ⟨B,0,none⟩)] w fun e w'=>e=.returned (.int .i64 m.a.next)∧Kp noB w w':=by
 have k1:Hid (∀ w,_):=fun w=>tz_any w _ (by_andNot k.asks k.msk)
 have k2:Hid (∀ w,_):=fun w=>tz_any w _ k.srv
 have c1:=h.c1
 have c2:=h.c2
 have c3:=h.c3
 have b1:=tz_bd (by_andNot k.asks k.msk)
 have b2:=tz_bd k.srv
 obtain ⟨N,hN⟩:∃ N,N=m.a.next:=⟨_,rfl⟩
 rw [← hN]
 unfold Ch.next nextZ at hN
 obtain ⟨t1,ht1⟩:∃ t,t=tz (bits .andNot .u8 m.a.asks m.a.msk):=⟨_,rfl⟩
 obtain ⟨t2,ht2⟩:∃ t,t=tz m.a.srv:=⟨_,rfl⟩
 rw [← ht1] at k1 b1 hN
 rw [← ht2] at k2 b2 hN
 clear ht1 ht2
 obtain ⟨b1,b1'⟩:=b1
 obtain ⟨b2,b2'⟩:=b2
 by_cases g:t2≤t1
 ·rw [if_pos g] at hN
  subst hN
  go_enter Tryz.func207,Tryz.ntmps207
  go_wp2
  go_quiet ((go_at_call 254;exact Calls.quiet_of_same (k1.out _)))
  go_wp2_with fail
  refine (k2.out _).mono ?_;rintro e w1 ⟨rfl,hw⟩;replace hw:=hw.symm;subst hw
  go_wp2
  go_ret
  exact ⟨rfl,(Kp.refl _ _).drewN _⟩
 ·have g':decide (t1 ≥ t2)=false:=by simp;omega
  rw [if_neg g] at hN
  subst hN
  go_enter Tryz.func207,Tryz.ntmps207
  go_wp2
  go_quiet ((go_at_call 254;exact Calls.quiet_of_same (k1.out _)))
  go_wp2_with fail
  refine (k2.out _).mono ?_;rintro e w1 ⟨rfl,hw⟩;replace hw:=hw.symm;subst hw
  go_wp2
  go_ret
  exact ⟨rfl,(Kp.refl _ _).drewN _⟩
theorem next_b (w:World) (B:Nat) (m:M2) (h:PAt w B m) (k:m.b.Ok):Calls Tryz.prog 207 #[.pointer (some ⟨B,8,none⟩)] w fun e w'=>e=.returned (.int .i64 m.b.next)∧Kp noB w w':=by
 have k1:Hid (∀ w,_):=fun w=>tz_any w _ (by_andNot k.asks k.msk)
 have k2:Hid (∀ w,_):=fun w=>tz_any w _ k.srv
 have c1:=h.c9
 have c2:=h.c10
 have c3:=h.c11
 have b1:=tz_bd (by_andNot k.asks k.msk)
 have b2:=tz_bd k.srv
 obtain ⟨N,hN⟩:∃ N,N=m.b.next:=⟨_,rfl⟩
 rw [← hN]
 unfold Ch.next nextZ at hN
 obtain ⟨t1,ht1⟩:∃ t,t=tz (bits .andNot .u8 m.b.asks m.b.msk):=⟨_,rfl⟩
 obtain ⟨t2,ht2⟩:∃ t,t=tz m.b.srv:=⟨_,rfl⟩
 rw [← ht1] at k1 b1 hN
 rw [← ht2] at k2 b2 hN
 clear ht1 ht2
 obtain ⟨b1,b1'⟩:=b1
 obtain ⟨b2,b2'⟩:=b2
 by_cases g:t2≤t1
 ·rw [if_pos g] at hN
  subst hN
  go_enter Tryz.func207,Tryz.ntmps207
  go_wp2
  go_quiet ((go_at_call 254;exact Calls.quiet_of_same (k1.out _)))
  go_wp2_with fail
  refine (k2.out _).mono ?_;rintro e w1 ⟨rfl,hw⟩;replace hw:=hw.symm;subst hw
  go_wp2
  go_ret
  exact ⟨rfl,(Kp.refl _ _).drewN _⟩
 ·have g':decide (t1 ≥ t2)=false:=by simp;omega
  rw [if_neg g] at hN
  subst hN
  go_enter Tryz.func207,Tryz.ntmps207
  go_wp2
  go_quiet ((go_at_call 254;exact Calls.quiet_of_same (k1.out _)))
  go_wp2_with fail
  refine (k2.out _).mono ?_;rintro e w1 ⟨rfl,hw⟩;replace hw:=hw.symm;subst hw
  go_wp2
  go_ret
  exact ⟨rfl,(Kp.refl _ _).drewN _⟩
end Go.Proofs.YtacgmoikegcopaaGreatDoor.Pc
