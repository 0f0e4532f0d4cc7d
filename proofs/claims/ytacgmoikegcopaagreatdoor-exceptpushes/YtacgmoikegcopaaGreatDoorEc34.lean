/- The bus and its devices: BsBoth, XeNew, XeBoth, PgRef, PgBoth, XcBoth, XcTabs, VmFlat, XeFlat, XcFlatN. -/
import Derived.Test.YtacgmoikegcopaaGreatDoorEc32
import Derived.Test.YtacgmoikegcopaaGreatDoorEc33
import Derived.Test.YtacgmoikegcopaaGreatDoorEc06
import Derived.Test.YtacgmoikegcopaaGreatDoorEc27
import Derived.LoopN
import Derived.Test.YtacgmoikegcopaaGreatDoorEc10
import Derived.Laws.Tables
import Derived.Test.YtacgmoikegcopaaGreatDoorEc04
import Derived.Deep.RegionWith
import Derived.Deep.Cut
import Derived.Deep.LoopGhost
import Derived.Test.YtacgmoikegcopaaGreatDoorEc19
import Derived.Maps.AppendAt
import Derived.Test.YtacgmoikegcopaaGreatDoorEc05
namespace Go.Proofs.YtacgmoikegcopaaGreatDoor.Bs
open Go.ChangeShapes Go.WideShapes Go.ChangeAt Go.RowKit
open Go.Proofs.YtacgmoikegcopaaGreatDoor.Ut (Kp heap_lt heap_kept heap_set heap_new noB isB kpB)
set_option linter.unusedVariables false
set_option maxRecDepth 20000
def sysR (Rs:Nat→Res):Res:=⟨fun w S=>Sys w S Rs,fun h k d=>h.loc k d⟩
def busR (L:Loc) (x:Bm):Res:=sysR (busRs L x)
def docR (L:LocR) (x:Bm):Res:=sysR (docRs L x)
structure Hs (W w:World) (Rs:Nat→Res):Prop where
 ex:∃ S,Sys w S Rs∧∀ k,S k→W.heap.size≤k
 kp:Kp noB W w
section
variable {W w:World} {Rs:Nat→Res}
theorem Hs.mk' {S S':Nat→Prop} {w':World} {Rs':Nat→Res} (kp:Kp noB W w) (hS:∀ k,S k→W.heap.size≤k) (a:Sys w' S' Rs') (n:Nx w S w' S'):Hs W w' Rs':=
 ⟨⟨S',a,fun k g=>by
  rcases n.sub k g with f | f
  ·exact hS k f
  ·exact Nat.le_trans kp.size f⟩,kp.over n.kp (fun j hj g=>by have:=hS j g;omega)⟩
theorem Hs.keep {w':World} (h:Hs W w Rs) (k:Kp noB w w'):Hs W w' Rs:=by
 obtain ⟨S,a,b⟩:=h.ex
 exact ⟨⟨S,a.keep k,b⟩,h.kp.trans k⟩
theorem Hs.new {w':World} {T':Nat→Prop} (h:Hs W w Rs) {i:Nat} (hi:Rs i=.none) {r':Res} (a:r'.R w' T') (n:∀ k,T' k→w.heap.size≤k∧k < w'.heap.size) (k:Kp noB w w'):Hs W w' (updR Rs i r'):=by
 obtain ⟨S,q,b⟩:=h.ex
 obtain ⟨S',c,d⟩:=q.new hi a n k
 exact .mk' h.kp b c d
theorem Hs.call {f:FuncId} {args:Array Value} {E:Ending→World→Res→Prop} (h:Hs W w Rs) (i:Nat) (hc:∀ T,(Rs i).R w T→Calls Tryz.prog f args w fun e w'=>∃ r' T',E e w' r'∧r'.R w' T'∧Nx w T w' T'∧∀ k,T' k→k < w'.heap.size):Calls Tryz.prog f args w fun e w'=>∃ r',E e w' r'∧Hs W w' (updR Rs i r'):=by
 obtain ⟨S,q,b⟩:=h.ex
 obtain ⟨T,a1,a2,a3⟩:=q.fst i
 refine (hc T a1).mono fun e w' ⟨r',T',c1,c2,c3,c4⟩=>?_
 obtain ⟨S',d1,d2⟩:=a3 r' w' T' c2 c3 c4
 exact ⟨r',c1,.mk' h.kp b d1 d2⟩
theorem Hs.bus {f:FuncId} {args:Array Value} {E:Ending→Prop} {L:Loc} {x x':Bm} (h:Hs W w Rs) (i:Nat) (hi:Rs i=busR L x) (hc:∀ S,BW w S L x→Calls Tryz.prog f args w fun e w'=>E e∧BNx w S L x' w'):Calls Tryz.prog f args w fun e w'=>E e∧Hs W w' (updR Rs i (busR L x')):=by
 refine (h.call (E:=fun e w' r'=>E e∧r'=busR L x') i (fun T a=>?_)).mono fun e w' ⟨r',⟨q,r⟩,z⟩=>⟨q,r ▸ z⟩
 rw [hi] at a
 exact (hc T a).mono fun e w' ⟨q,S',b,n⟩=>⟨busR L x',fun k=>S' k∧k < w'.heap.size,⟨q,rfl⟩,b.lt,⟨fun k g=>n.sub k g.1,n.kp⟩,fun k g=>g.2⟩
end
def two (r r':Res):Nat→Res:=fun j=>if j=0 then r else if j=1 then r' else .none
theorem rmNo {w w':World} (h:Rm.Kp Rm.noB w w'):Kp noB w w':=⟨h.os,h.tape,h.output,h.size,fun k hk _=>h.block k hk (fun f=>f)⟩
theorem noRm {w w':World} (h:Kp noB w w'):Rm.Kp Rm.noB w w':=⟨h.os,h.tape,h.output,h.size,fun k hk _=>h.block k hk (fun f=>f)⟩
def tlR (V K B pl tn:Nat):Res:=⟨fun w S=>(S V∧∀ j,Rm.inTlb K j→S j)∧w.heap[V]?=some (.cells #[.pointer (some ⟨B+3,0,none⟩),.pointer (some ⟨K+1,0,none⟩)] 108 (0,0))∧∃ D,Rm.TlbD w K B pl tn D,
 fun h k d=>⟨h.1,(k.block V (Array.getElem?_eq_some_iff.1 h.2.1).1 (d _ h.1.1)).trans h.2.1,by obtain ⟨D,t⟩:=h.2.2;exact ⟨D,t.kp (rmK k) (fun j hj=>d j (h.1.2 j hj))⟩⟩⟩
theorem vNew17 (w:World) (B p:Nat) (h:p≤64):Calls Tryz.prog 22 #[.pointer (some ⟨B+3,0,none⟩),.int .i64 p] w fun e w'=>∃ V,e=.returned (.tuple #[.pointer (some ⟨V,0,none⟩),.int .i64 0])∧(tlR V w.heap.size B p 0).R w' (fun j=>j=V∨Rm.inTlb w.heap.size j)∧(∀ k,(k=V∨Rm.inTlb w.heap.size k)→w.heap.size≤k∧k < w'.heap.size)∧V≠w.heap.size∧V≠w.heap.size+1∧Kp noB w w':=by
 have cN:=Rm.tlNew_ok w B p h
 go_enter Tryz.func22,Tryz.ntmps22
 go_wp2_with (go_at_call 55;refine cN.mono ?_;rintro e w1 ⟨rfl,t1,k1⟩)
 go_ret2
 have kA:=Rm.Kp.alloc Rm.noB w1 (.cells #[.pointer (some ⟨B+3,0,none⟩),.pointer (some ⟨w.heap.size+1,0,none⟩)] 108)
 have t1l:=t1.lt
 have s1:(w1.alloc (.cells #[.pointer (some ⟨B+3,0,none⟩),.pointer (some ⟨w.heap.size+1,0,none⟩)] 108)).heap.size=w1.heap.size+1:=by simp
 refine ⟨w1.heap.size,rfl,⟨⟨.inl rfl,fun j hj=>.inr hj⟩,(MapKept.heap_alloc w1 _).1,⟨_,t1.kp kA (fun _ _ f=>f)⟩⟩,fun k g=>?_,by omega,by omega,rmNo (k1.trans kA)⟩
 have:=k1.size
 rw [s1]
 rcases g with e | e | e<;>omega
def shapeOf (P:Program) (t:TypeId):Option (Array Value × List (Nat × Nat)):=
 match P.info? t,P.underlying t with
 | some it,some (.struct fields)=>
  match it.zero,fields.toList.mapM (fun f=>(P.info? f.type).map fun i=>(f.offset,i.size)) with
  | some z,some pl=>some (z.cells,pl)
  | _,_=>none
 | _,_=>none
theorem built_of {P:Program} {t:TypeId} {z:Array Value} {pl:List (Nat × Nat)} (h:shapeOf P t=some (z,pl)) (parts:List (Nat × Value)):P.built t parts=Instr.fill (pl.toArray[·]?) z parts:=by
 unfold shapeOf at h
 unfold Program.built
 cases h1:P.info? t with
 | none=>simp [h1] at h
 | some it=>
  cases h2:P.underlying t with
  | none=>simp [h1,h2] at h
  | some d=>
   cases d<;>try (simp [h1,h2] at h;done)
   case struct fields=>
    cases h3:it.zero with
    | none=>simp [h1,h2,h3] at h
    | some zz=>
     cases h4:fields.toList.mapM (fun f=>(P.info? f.type).map fun i=>(f.offset,i.size)) with
     | none=>simp [h1,h2,h3,h4] at h
     | some p2=>
      simp only [h1,h2,h3,h4,Option.some.injEq,Prod.mk.injEq] at h
      obtain ⟨rfl,rfl⟩:=h
      simp only [h3,h4]
theorem fold_at0 (l:List Value):∀ (k:Nat) (z:Array Value),k+l.length≤z.size→((l.zipIdx k).foldl (fun cs (x:Value × Nat)=>cs.setIfInBounds (0+x.2) x.1) z).toList=z.toList.take k++l++z.toList.drop (k+l.length):=by
 induction l with
 | nil=>intro k z h;simp
 | cons v l ih=>
  intro k z h
  simp only [List.length_cons] at h
  rw [List.zipIdx_cons,List.foldl_cons,ih (k+1) _ (by simp;omega)]
  have hk:k < z.toList.length:=by rw [Array.length_toList];omega
  have h1:(z.toList.set k v).take k=z.toList.take k:=by rw [List.take_set];exact List.set_eq_of_length_le (by rw [List.length_take];omega)
  have h2:(z.toList.set k v)[k]?=some v:=List.getElem?_set_self hk
  simp only [Nat.zero_add,Array.toList_setIfInBounds]
  rw [List.take_add_one,List.drop_set_of_lt (by omega),h1,h2,List.length_cons,show k+1+l.length=k+(l.length+1) by omega]
  simp
theorem built_cpu {P:Program} {t:TypeId} {z:Array Value} {pl:List (Nat × Nat)} (h:shapeOf P t=some (z,(0,83)::(83,1)::(84,1)::pl)) (hz:85≤z.size) (cs:Array Value) (hs:cs.size=83) (p q:Addr):
  P.built t [(0,.agg cs),(1,.pointer (some p)),(2,.pointer (some q))]=some (cs++(((z.toList.drop 83).set 0 (.pointer (some p))).set 1 (.pointer (some q))).toArray):=by
 rw [built_of h]
 have e:(cs.zipIdx.foldl (fun cs (x:Value × Nat)=>cs.setIfInBounds (0+x.2) x.1) z)=cs++(z.toList.drop 83).toArray:=by
  apply Array.toList_inj.1
  rw [← Array.foldl_toList,Array.toList_zipIdx,fold_at0 cs.toList 0 z (by simp [hs];omega)]
  simp [hs]
 have e':Array.foldl (fun cs x=>cs.setIfInBounds x.snd x.fst) z cs.zipIdx 0 83=cs++(z.toList.drop 83).toArray:=by simpa [hs] using e
 have h1:¬ z.size < 83:=by omega
 have h2:84≤83+(z.size - 83):=by omega
 have h3:85≤83+(z.size - 83):=by omega
 simp [Instr.fill,Value.cells,hs,e',h1,h2,h3]
theorem shape_env:∃ z,shapeOf Tryz.prog 54=some (z,[(0,83),(83,1),(84,1)])∧z.size=85:=by
 have h:(shapeOf Tryz.prog 54).map (fun p=>(p.1.size,p.2))=some (85,[(0,83),(83,1),(84,1)]):=by kernel_rfl
 obtain ⟨⟨z,pl⟩,h1,h2⟩:=Option.map_eq_some_iff.1 h
 simp only [Prod.mk.injEq] at h2
 rw [h1,h2.2]
 exact ⟨z,rfl,h2.1⟩
theorem built_env (cs:Array Value) (hs:cs.size=83) (p q:Addr):Tryz.prog.built 54 [(0,.agg cs),(1,.pointer (some p)),(2,.pointer (some q))]=some (cs++#[.pointer (some p),.pointer (some q)]):=by
 obtain ⟨z,h,hz⟩:=shape_env
 rw [built_cpu h (by omega) cs hs p q]
 have hl:(z.toList.drop 83).length=2:=by simp [hz]
 match hd:z.toList.drop 83,hl with
 | [a,b],_=>rfl
theorem shape_ref:∃ z pl,shapeOf Tryz.prog 58=some (z,(0,83)::(83,1)::(84,1)::pl)∧85≤z.size:=by
 have h:(shapeOf Tryz.prog 58).map (fun p=>(decide (85≤p.1.size),p.2.take 3))=some (true,[(0,83),(83,1),(84,1)]):=by kernel_rfl
 obtain ⟨⟨z,pl⟩,h1,h2⟩:=Option.map_eq_some_iff.1 h
 simp only [Prod.mk.injEq,decide_eq_true_eq] at h2
 refine ⟨z,pl.drop 3,?_,h2.1⟩
 rw [h1]
 have:=List.take_append_drop 3 pl
 rw [h2.2] at this
 rw [← this]
 rfl
theorem built_ref (cs:Array Value) (hs:cs.size=83) (p q:Addr):∃ c,Tryz.prog.built 58 [(0,.agg cs),(1,.pointer (some p)),(2,.pointer (some q))]=some c:=by
 obtain ⟨z,pl,h,hz⟩:=shape_ref
 exact ⟨_,built_cpu h hz cs hs p q⟩
theorem run_of_build {P:Program} {t:TypeId} {parts:Array (Nat × Operand)} {ps:Array (Nat × Value)} {o:Oper} {ev:Operand→Value} {v:Value} {w:World} (ho:o.op=.build t parts) (hp:(parts.map fun (i,x)=>(i,ev x))=ps) (h:(Instr.build t ps).run P w=.ok v w):(execOp ev o).run P w=.ok (.value v) w:=by
 unfold execOp
 simp only [ho,Sem.run_bind,hp,h,Result.andThen_ok]
 rfl
def three (r r' q:Res):Nat→Res:=fun j=>if j=0 then r else if j=1 then r' else if j=2 then q else .none
theorem three_0 (r r' q s:Res):updR (three r r' q) 0 s=three s r' q:=by
 funext j
 match j with
 | 0 | 1 | 2=>rfl
 | n+3=>rfl
theorem three_1 (r r' q s:Res):updR (three r r' q) 1 s=three r s q:=by
 funext j
 match j with
 | 0 | 1 | 2=>rfl
 | n+3=>rfl
theorem two_2 (r r' q:Res):updR (two r r') 2 q=three r r' q:=by
 funext j
 match j with
 | 0 | 1 | 2=>rfl
 | n+3=>rfl
structure Made (w w6 w':World) (E V K:Nat) (L:Loc) (x:Bm) (cs:Array Value):Prop where
 hs:∃ L':LocR,Hs w w6 (three (busR L x) (docR L' x) (tlR V K L.M 8 0))
 ea:Rm.EAt w' E cs (.pointer (some ⟨V,0,none⟩)) (.pointer (some ⟨L.B,0,none⟩))
 lt:w6.heap.size≤E
 kp:Kp noB w6 w'
end Go.Proofs.YtacgmoikegcopaaGreatDoor.Bs
namespace Go.Proofs.YtacgmoikegcopaaGreatDoor.Rm
open Go.ChangeShapes Go.WideShapes Go.ChangeAt Go.RowKit Go.Maps
set_option linter.unusedVariables false
set_option maxRecDepth 20000
structure Both (w:World) (B:Nat) (R:Rf) (M:Mem):Prop where
 ram:RamAt w B M
 ref:RefAt w R M
 ap:∀ k,R.has k→¬ inRam B M.n k
def both (B n:Nat) (R:Rf) (k:Nat):Prop:=inRam B n k∨R.has k
theorem Both.lt {w:World} {B:Nat} {R:Rf} {M:Mem} (h:Both w B R M) {k:Nat} (hk:both B M.n R k):k < w.heap.size:=by
 rcases hk with e | e
 ·have:=h.ram.lt;have:=e.2;omega
 ·exact h.ref.lt e
def WordIn (w:World) (x:Option Addr) (f g:Nat→Int) (i:Nat):Prop:=
 ∃ (blk off:Nat),x=some ⟨blk,off,none⟩∧blk < w.heap.size∧w.cell? ⟨blk,off+i*2,none⟩=some (.int .u32 (f i))∧w.cell? ⟨blk,off+i*2+1,none⟩=some (.int .u32 (g i))∧(0≤f i∧f i < 4294967296∧0≤g i∧g i < 4294967296)
def OnlyIn (w:World) (x:Option Addr) (h:Nat→Int) (i:Nat):Prop:=
 ∃ (blk off:Nat),x=some ⟨blk,off,none⟩∧blk < w.heap.size∧w.cell? ⟨blk,off+i,none⟩=some (.int .i64 (h i))∧(-9223372036854775808≤h i∧h i≤9223372036854775807)
theorem WordIn.kp {w w':World} {x:Option Addr} {f g:Nat→Int} {i:Nat} (h:WordIn w x f g i) (k:Kp noB w w'):WordIn w' x f g i:=by
 obtain ⟨blk,off,h1,h2,h3,h4,h5⟩:=h
 exact ⟨blk,off,h1,Nat.lt_of_lt_of_le h2 k.size,cell_kp h3 k (fun f=>f),cell_kp h4 k (fun f=>f),h5⟩
theorem OnlyIn.kp {w w':World} {x:Option Addr} {h:Nat→Int} {i:Nat} (q:OnlyIn w x h i) (k:Kp noB w w'):OnlyIn w' x h i:=by
 obtain ⟨blk,off,h1,h2,h3,h4⟩:=q
 exact ⟨blk,off,h1,Nat.lt_of_lt_of_le h2 k.size,cell_kp h3 k (fun f=>f),h4⟩
def wordsM (M:Mem) (f g:Nat→Int):Nat→Mem
 | 0=>M
 | i+1=>(wordsM M f g i).lay false (f i) (bytesV (g i))
def romM (M:Mem) (h:Int):Mem:=if 0≤h∧h < M.n then { M with only:=fun j=>if j=h.toNat then true else M.only j } else M
def romsM (M:Mem) (h:Nat→Int):Nat→Mem
 | 0=>M
 | i+1=>romM (romsM M h i) (h i)
theorem romM_same (M:Mem) (h:Int):(romM M h).n=M.n∧(romM M h).closed=M.closed∧(romM M h).byte=M.byte:=by
 unfold romM;split<;>exact ⟨rfl,rfl,rfl⟩
theorem wordsM_same (M:Mem) (f g:Nat→Int):∀ i,(wordsM M f g i).n=M.n∧(wordsM M f g i).only=M.only∧(wordsM M f g i).closed=M.closed
 | 0=>⟨rfl,rfl,rfl⟩
 | i+1=>by
  have h:=wordsM_same M f g i
  have k:=lay_same false (bytesV (g i)) (wordsM M f g i) (f i)
  exact ⟨k.1.trans h.1,k.2.1.trans h.2.1,k.2.2.trans h.2.2⟩
theorem romsM_same (M:Mem) (h:Nat→Int):∀ i,(romsM M h i).n=M.n∧(romsM M h i).closed=M.closed∧(romsM M h i).byte=M.byte
 | 0=>⟨rfl,rfl,rfl⟩
 | i+1=>by
  have k:=romsM_same M h i
  have q:=romM_same (romsM M h i) (h i)
  exact ⟨q.1.trans k.1,q.2.1.trans k.2.1,q.2.2.trans k.2.2⟩
theorem rom_both (M:Mem) (B:Nat) (R:Rf) (h:Int) (h0:-9223372036854775808≤h) (h1:h≤9223372036854775807):∃ ev:Int,
  (∀ W,RamAt W B M→Calls Tryz.prog 53 #[.pointer (some ⟨B+3,0,none⟩),.int .i64 h,.bool true] W fun e w'=>e=.returned (.int .i64 ev)∧RamAt w' B (romM M h)∧Kp (inRam B M.n) W w') ∧
  (∀ W,RefAt W R M→Calls Tryz.prog 54 #[.pointer (some ⟨R.r,0,none⟩),.int .i64 h,.bool true] W fun e w'=>e=.returned (.int .i64 ev)∧RefAt w' R (romM M h)∧Kp R.has W w'):=by
 by_cases hi:0≤h∧h < M.n
 ·obtain ⟨i,rfl⟩:∃ i:Nat,h=i:=⟨h.toNat,by omega⟩
  refine ⟨0,fun W hW=>?_,fun W hW=>?_⟩
  ·unfold romM;rw [if_pos hi];exact rom_ok W B M hW i true (by omega)
  ·unfold romM;rw [if_pos hi];exact refRom_ok W R M hW i true (by omega)
 ·refine ⟨1,fun W hW=>?_,fun W hW=>?_⟩
  ·unfold romM;rw [if_neg hi]
   refine (rom_no W B M hW h true h0 h1 (by omega)).mono ?_
   rintro e w' ⟨h1,rfl⟩
   exact ⟨h1,hW,Kp.refl _ _⟩
  ·unfold romM;rw [if_neg hi]
   refine (refRom_no W R M hW h true (by omega)).mono ?_
   rintro e w' ⟨h1,rfl⟩
   exact ⟨h1,hW,Kp.refl _ _⟩
def memOf (f g h:Nat→Int) (L K:Nat):Mem:=romsM (wordsM (mem0 16) f g L) h K
theorem memOf_same (f g h:Nat→Int) (L K:Nat):(memOf f g h L K).n=16∧(memOf f g h L K).closed=false:=by
 unfold memOf
 have k:=romsM_same (wordsM (mem0 16) f g L) h K
 have q:=wordsM_same (mem0 16) f g L
 exact ⟨k.1.trans q.1,k.2.1.trans q.2.2⟩
def BothPost (w:World) (M:Mem) (e:Ending) (w':World):Prop:=
 ∃ (B:Nat) (R:Rf),e=.returned (.tuple #[.pointer (some ⟨B+3,0,none⟩),.pointer (some ⟨R.r,0,none⟩)])∧Both w' B R M∧(∀ j,both B 16 R j→w.heap.size≤j)∧Kp noB w w'
def WdL (w:World) (B:Nat) (R:Rf) (f g:Nat→Int) (L k:Nat) (s:Value) (wr:World):Prop:=
 ∃ i:Nat,s=.int .i64 i∧i≤L∧L - i≤k∧Both wr B R (wordsM (mem0 16) f g i)∧Kp noB w wr
def OnL (w:World) (B:Nat) (R:Rf) (M:Mem) (h:Nat→Int) (K k:Nat) (s:Value) (wr:World):Prop:=
 ∃ i:Nat,s=.int .i64 i∧i≤K∧K - i≤k∧Both wr B R (romsM M h i)∧Kp noB w wr
set_option maxRecDepth 100000 in
set_option maxHeartbeats 4000000 in
theorem both_any (w:World) (x y:Option Addr) (L c K d:Nat) (f g h:Nat→Int) (hL:L≤9223372036854775807) (hK:K≤9223372036854775807) (hw:∀ i,i < L→WordIn w x f g i) (ho:∀ i,i < K→OnlyIn w y h i):
  Calls Tryz.prog 21 #[.int .i64 16,.slice x L c,.slice y K d] w (BothPost w (memOf f g h L K)):=by
 have HN:Hid (∀ w,_):=fun w=>new_ok w 16 (by omega) (by omega)
 have HR:Hid (∀ w,_):=fun w=>refNew_ok w 16 (by omega) (by omega)
 have HS:Hid (∀ i,i < L→WordIn w x f g i):=hw
 have HT:Hid (∀ i,i < K→OnlyIn w y h i):=ho
 clear hw ho
 go_enter Tryz.func21,Tryz.ntmps21
 go_wp2_with fail
 refine (HN.out _).mono ?_;rintro e w2 ⟨rfl,hr2,hz2,kb2⟩
 go_wp2_with fail
 refine (HR.out _).mono ?_;rintro e w3 ⟨R,rfl,hf3,hout,k3⟩
 obtain ⟨B,hB⟩:∃ B,B=w.heap.size:=⟨_,rfl⟩
 rw [← hB] at hr2 hz2 ⊢
 have hB3:Both w3 B R (mem0 16):=⟨hr2.kp k3 (fun _ _ f=>f),hf3,fun j hj f=>by have:=hout j hj;have:=f.2;have e:(mem0 16).n=16:=rfl;rw [e] at this;omega⟩
 have kk3:Kp noB w w3:=(Kp.ofBelow (S:=noB) kb2 (fun j h1 h2=>absurd h1 (by omega))).trans k3
 have HO:Hid (∀ j,both B 16 R j→w.heap.size≤j):=fun j hj=>by
  rcases hj with f | f
  ·have:=f.1;omega
  ·have:=hout j f;omega
 clear HN HR hout kb2 k3 hf3 hr2 hz2 hB
 go_wp2_with fail
 go_loopg [12] L (WdL w B R f g L)
 case atStart=>exact ⟨0,rfl,Nat.zero_le _,Nat.le_refl _,hB3,kk3⟩
 case round=>
  clear hB3 kk3
  obtain ⟨i,rfl,hi1,hik,hBo,kk⟩:=hrel
  by_cases hlt:(i:Int) < (L:Int)
  ·have hi':i < L:=by omega
   have hst:wordsM (mem0 16) f g (i+1)=(wordsM (mem0 16) f g i).lay false (f i) (bytesV (g i)):=rfl
   have hnn:=(wordsM_same (mem0 16) f g i).1
   have hnn1:=(wordsM_same (mem0 16) f g (i+1)).1
   have e16:(mem0 16).n=16:=rfl
   rw [e16] at hnn hnn1
   obtain ⟨blk,off,rfl,hblk,c0,c1,a0,a1,v0,v1⟩:=(HS.out i hi').kp kk
   have hblk0:blk < w.heap.size:=by obtain ⟨b',o',e1,h2,_⟩:=HS.out i hi';cases e1;exact h2
   have nb:¬ both B 16 R blk:=fun f=>by have:=HO.out _ f;omega
   have HJ2:Hid (wordsM (mem0 16) f g (i+1)=(wordsM (mem0 16) f g i).lay false (f i) (bytesV (g i))):=hst
   obtain ⟨M,hM⟩:∃ M,M=wordsM (mem0 16) f g i:=⟨_,rfl⟩
   obtain ⟨M',hM'⟩:∃ M',M'=wordsM (mem0 16) f g (i+1):=⟨_,rfl⟩
   rw [← hM] at hBo hnn hst
   rw [← hM'] at hnn1 hst
   have HM':Hid (M'=wordsM (mem0 16) f g (i+1)):=hM'
   generalize f i=a at *
   generalize g i=v at *
   have HC:Hid (∀ W,RamAt W B M→Calls Tryz.prog 51 #[.pointer (some ⟨B+3,0,none⟩),.int .u32 a,.int .i64 4,.int .u32 v] W (fun e w'=>e=.returned (.int .i64 0)∧RamAt w' B M'∧Kp (inRam B 16) W w')):=fun W hW=>by
    have:=write_ok W B M hW a 4 v a0 a1 v0 v1 rfl
    rw [hnn] at this
    rw [hst]
    exact this
   have HD:Hid (∀ W,RefAt W R M→Calls Tryz.prog 52 #[.pointer (some ⟨R.r,0,none⟩),.int .u32 a,.int .i64 4,.int .u32 v] W (fun e w'=>e=.returned (.int .i64 0)∧RefAt w' R M'∧Kp R.has W w')):=fun W hW=>by
    have:=refWrite_ok W R M hW a 4 v a0 a1 v0 v1 rfl
    rw [hst]
    exact this
   obtain ⟨j,hj⟩:∃ j,j=i+1:=⟨_,rfl⟩
   have HJ:Hid (j=i+1):=hj
   have HK:Hid (L - i≤gk):=hik
   have HAp:Hid (∀ j,R.has j→¬ inRam B 16 j):=fun j hj f=>by have:=hBo.ap j hj;rw [hnn] at this;exact this f
   have hra:=hBo.ram
   have hrf:=hBo.ref
   clear hj hik hM hM' hst hBo HJ2
   go_upto_region 10 with fail
   go_region_with (go_at_call 51;refine (HC.out _ (hra.drewN 1)).mono ?_;rintro e w4 ⟨rfl,hr4,k4⟩)
   all_goals
    have k4':Kp (inRam B 16) wr w4:=⟨k4.os,k4.tape,k4.output,k4.size,k4.block⟩
    replace c0:=cell_kp c0 k4' (fun f=>nb (.inl f))
    replace c1:=cell_kp c1 k4' (fun f=>nb (.inl f))
    have hf4:=hrf.kp k4' (fun j hj f=>HAp.out j hj f)
    have kk4:Kp noB w w4:=kk.over k4' (fun t ht f=>by have:=HO.out t (.inl f);omega)
    clear k4 k4' hra hrf
    go_upto_region 11 with fail
    go_region_with (go_at_call 52;refine (HD.out _ (hf4.drewN 1)).mono ?_;rintro e w5 ⟨rfl,hf5,k5⟩)
   all_goals
    have k5':Kp R.has w4 w5:=⟨k5.os,k5.tape,k5.output,k5.size,k5.block⟩
    have hr5:=hr4.kp k5' (fun j hj f=>HAp.out j f (by rw [hnn1] at hj;exact hj))
    have kk5:Kp noB w w5:=kk4.over k5' (fun t ht f=>by have:=HO.out t (.inr f);omega)
    go_wp2_with fail
    go_roundg (L - j)
    case measure=>have:=HJ.out;have:=HK.out;omega
    case rel=>exact ⟨j,by rw [HJ.out];rfl,by have:=HJ.out;omega,Nat.le_refl _,by rw [HJ.out,← HM'.out];exact ⟨hr5,hf5,fun j hj f=>HAp.out j hj (by rw [hnn1] at f;exact f)⟩,kk5⟩
  ·obtain rfl:i=L:=by omega
   clear hik
   have hnM:(wordsM (mem0 16) f g i).n=16:=(wordsM_same (mem0 16) f g i).1
   have HM0:Hid (memOf f g h i K=romsM (wordsM (mem0 16) f g i) h K):=rfl
   obtain ⟨M0,hM0⟩:∃ M0,M0=wordsM (mem0 16) f g i:=⟨_,rfl⟩
   rw [← hM0] at hBo hnM HM0
   clear hM0 HS
   go_wp2_with fail
   go_loopg [13] K (OnL w B R M0 h K)
   case atStart=>exact ⟨0,rfl,Nat.zero_le _,Nat.le_refl _,hBo,kk⟩
   case round=>
    clear hBo kk
    obtain ⟨m,rfl,hm1,hmk,hBo,kk⟩:=hrel
    by_cases hlt':(m:Int) < (K:Int)
    ·have hm':m < K:=by omega
     have hst:romsM M0 h (m+1)=romM (romsM M0 h m) (h m):=rfl
     have hnn:=(romsM_same M0 h m).1
     have hnn1:=(romsM_same M0 h (m+1)).1
     rw [hnM] at hnn hnn1
     obtain ⟨blk,off,rfl,hblk,c0,a0,a1⟩:=(HT.out m hm').kp kk
     have hblk0:blk < w.heap.size:=by obtain ⟨b',o',e1,h2,_⟩:=HT.out m hm';cases e1;exact h2
     have nb:¬ both B 16 R blk:=fun f=>by have:=HO.out _ f;omega
     obtain ⟨ev,HC,HD⟩:=rom_both (romsM M0 h m) B R (h m) a0 a1
     rw [← hst] at HC HD
     obtain ⟨M,hM⟩:∃ M,M=romsM M0 h m:=⟨_,rfl⟩
     obtain ⟨M',hM'⟩:∃ M',M'=romsM M0 h (m+1):=⟨_,rfl⟩
     rw [← hM] at hBo hnn HC HD
     rw [← hM'] at hnn1 HC HD
     have HM':Hid (M'=romsM M0 h (m+1)):=hM'
     generalize h m=a at *
     have HC2:Hid _:=HC
     have HD2:Hid _:=HD
     obtain ⟨j,hj⟩:∃ j,j=m+1:=⟨_,rfl⟩
     have HJ:Hid (j=m+1):=hj
     have HK:Hid (K - m≤gk):=hmk
     have HAp:Hid (∀ j,R.has j→¬ inRam B 16 j):=fun j hj f=>by have:=hBo.ap j hj;rw [hnn] at this;exact this f
     have hra:=hBo.ram
     have hrf:=hBo.ref
     clear hj hmk hM hM' hst hBo HC HD
     go_wp2_with fail
     refine (HC2.out _ hra).mono ?_;rintro e w4 ⟨rfl,hr4,k4⟩
     rw [hnn] at k4
     replace c0:=cell_kp c0 k4 (fun f=>nb (.inl f))
     have hf4:=hrf.kp k4 (fun j hj f=>HAp.out j hj f)
     have kk4:Kp noB w w4:=kk.over k4 (fun t ht f=>by have:=HO.out t (.inl f);omega)
     clear k4 hra hrf
     go_wp2_with fail
     refine (HD2.out _ hf4).mono ?_;rintro e w5 ⟨rfl,hf5,k5⟩
     have hr5:=hr4.kp k5 (fun j hj f=>HAp.out j f (by rw [hnn1] at hj;exact hj))
     have kk5:Kp noB w w5:=kk4.over k5 (fun t ht f=>by have:=HO.out t (.inr f);omega)
     go_wp2_with fail
     go_roundg (K - j)
     case measure=>have:=HJ.out;have:=HK.out;omega
     case rel=>exact ⟨j,by rw [HJ.out];rfl,by have:=HJ.out;omega,Nat.le_refl _,by rw [HJ.out,← HM'.out];exact ⟨hr5,hf5,fun j hj f=>HAp.out j hj (by rw [hnn1] at f;exact f)⟩,kk5⟩
    ·obtain rfl:m=K:=by omega
     clear hmk
     go_wp2
     refine bodyPost_ret (v:=.tuple #[.pointer (some ⟨B+3,0,none⟩),.pointer (some ⟨R.r,0,none⟩)]) (by simp [results,Tryz.results21,go_sem]) rfl ⟨B,R,rfl,by rw [HM0.out];exact hBo,HO.out,kk⟩
end Go.Proofs.YtacgmoikegcopaaGreatDoor.Rm
namespace Go.Proofs.YtacgmoikegcopaaGreatDoor.Bs
open Go.ChangeShapes Go.WideShapes Go.ChangeAt Go.RowKit
open Go.Proofs.YtacgmoikegcopaaGreatDoor.Ut (Kp heap_lt heap_kept heap_set heap_new noB isB kpB)
set_option linter.unusedVariables false
set_option maxRecDepth 20000
def memW (f g:Nat→Int) (L:Nat):Rm.Mem:=Rm.wordsM (Rm.mem0 16) f g L
theorem both9_list (w:World) (x:Option Addr) (Lw cw:Nat) (f g:Nat→Int) (hL:Lw≤9223372036854775807) (hw:∀ i,i < Lw→Rm.WordIn w x f g i):Calls Tryz.prog 21 #[.int .i64 16,.slice x Lw cw,.slice none 0 0] w fun e w'=>∃ M R V0 V1 V2 V3,e=.returned (.tuple #[.pointer (some ⟨M+3,0,none⟩),.pointer (some ⟨R,0,none⟩)])∧Hs w w' (two (sysR (ramRs M (memW f g Lw))) (sysR (memRs R (.cells #[V0,V1,V2,V3,.bool false] 143 (0,0))))):=by
 refine (Rm.both_any w x none Lw cw 0 0 f g (fun _=>0) hL (by decide) hw (fun i hi=>absurd hi (by omega))).mono ?_
 rintro e w' ⟨B,R,rfl,hb,hn,k⟩
 have em:Rm.memOf f g (fun _=>0) Lw 0=memW f g Lw:=rfl
 rw [em] at hb
 have hc:=(Rm.memOf_same f g (fun _=>0) Lw 0)
 rw [em] at hc
 obtain ⟨h16,hcl⟩:=hc
 have hst:=hb.ref.st
 rw [hcl] at hst
 obtain ⟨V0,V1,V2,V3,hs4⟩:∃ V0 V1 V2 V3,w'.heap[R.r]?=some (.cells #[V0,V1,V2,V3,.bool false] 143 (0,0)):=⟨_,_,_,_,hst⟩
 clear hst
 have hrr:R.has R.r:=.inl rfl
 have lr:=hb.ref.lt hrr
 have nr:¬ Rm.inRam B 16 R.r:=by have:=hb.ap R.r hrr;rwa [h16] at this
 have ml:=hb.ram.lt
 rw [h16] at ml
 refine ⟨B,R.r,V0,V1,V2,V3,rfl,⟨⟨fun k=>Rm.inRam B 16 k∨k=R.r,⟨fun k=>if k=R.r then 1 else 0,fun j=>?_⟩,fun k g=>?_⟩,rmNo k⟩⟩
 ·by_cases j0:j=0
  ·subst j0
   refine ⟨Rm.inRam B 16,⟨fun _=>6,fun j=>?_⟩,fun k g=>⟨if_neg (fun (e:k=R.r)=>nr (e ▸ g)),.inl g,by have:=g.2;omega⟩⟩
   by_cases q:j=6
   ·subst q
    exact ⟨Rm.inRam B 16,⟨hb.ram,fun k g=>by rw [h16] at g;exact g⟩,fun k g=>⟨rfl,g,by have:=g.2;omega⟩⟩
   ·exact ⟨noB,by unfold ramRs;rw [if_neg q];trivial,fun _ f=>f.elim⟩
  ·by_cases j1:j=1
   ·subst j1
    refine ⟨isB R.r,⟨fun _=>6,fun j=>?_⟩,fun k (g:k=R.r)=>⟨if_pos g,.inr g,by rw [g];exact lr⟩⟩
    by_cases q:j=6
    ·subst q
     exact ⟨isB R.r,⟨rfl,hs4⟩,fun k (g:k=R.r)=>⟨rfl,g,by rw [g];exact lr⟩⟩
    ·exact ⟨noB,by unfold memRs;rw [if_neg q];trivial,fun _ f=>f.elim⟩
   ·exact ⟨noB,by unfold two;rw [if_neg j0,if_neg j1];trivial,fun _ f=>f.elim⟩
 ·rcases g with g | g
  ·exact hn k (.inl g)
  ·exact hn k (.inr (g ▸ hrr))
def x17M (m:Rm.Mem):Bm:=(bm0 2 (Dk.dB 1024 (Dk.dskS 0)) (memO m)).tell
set_option maxHeartbeats 4000000 in
theorem both17L (w:World) (x:Option Addr) (Lw cw:Nat) (f g:Nat→Int) (hL:Lw≤9223372036854775807) (hw:∀ i,i < Lw→Rm.WordIn w x f g i) (cs:Array Value) (wf:Rm.WfC cs):Calls Tryz.prog 10 #[.agg cs,.slice x Lw cw] w fun e w'=>∃ E R V K L w6,e=.returned (.tuple #[.pointer (some ⟨E,0,none⟩),.pointer (some ⟨R,0,none⟩)])∧Made w w6 w' E V K L (x17M (memW f g Lw)) cs:=by
 obtain ⟨T,nn,Z,hV⟩:=Rm.vlP
 obtain ⟨vl,vs,va,vb⟩:=hV.ops
 have g1:=hV.agg;have g2:=hV.size;have g3:=hV.zero
 have g6:cs.size=nn:=by rw [wf.s,hV.s]
 have rX0:Rm.PAt (w.alloc (.cells cs T)) w.heap.size cs:=hV.at wf w
 obtain ⟨X,hX⟩:∃ X,X=w.heap.size:=⟨_,rfl⟩
 obtain ⟨W0,hW0⟩:∃ W,W=w.alloc (.cells cs T):=⟨_,rfl⟩
 have k0:Kp noB w W0:=by rw [hW0];exact Kp.alloc _ _ _
 rw [← hX,← hW0] at rX0
 have HB9:Hid _:=both9_list W0 x Lw cw f g hL (fun i hi=>(hw i hi).kp (noRm k0))
 clear hw hL
 have HV:Hid _:=hV
 have HWF:Hid _:=wf
 clear hV wf
 go_enter Tryz.func10,Tryz.ntmps10
 simp only [vl,vb]
 go_wp2_with fail
 rw [← hW0,← hX]
 refine Calls.mono HB9.out ?_;rintro e w1 ⟨M,R0,V0,V1,V2,V3,rfl,h1⟩
 have P1:Hid (Hs W0 w1 (two (sysR (ramRs M (memW f g Lw))) (sysR (memRs R0 (.cells #[V0,V1,V2,V3,.bool false] 143 (0,0)))))):=h1
 clear h1 hW0
 go_wp2_with fail
 refine Calls.mono (vNew17 w1 M 8 (by decide)) ?_;rintro e w2 ⟨V,rfl,t1,t2,t3,t4,kv⟩
 obtain ⟨K,hK⟩:∃ K,K=w1.heap.size:=⟨_,rfl⟩
 rw [← hK] at t1 t2 t3 t4
 have P2:Hid (Hs W0 w2 (three (sysR (ramRs M (memW f g Lw))) (sysR (memRs R0 (.cells #[V0,V1,V2,V3,.bool false] 143 (0,0)))) (tlR V K M 8 0))):=by
  rw [← two_2]
  exact P1.out.new (i:=2) rfl t1 (fun k g=>by rw [← hK];exact t2 k g) kv
 clear t1 t2 t3 t4 P1 kv hK
 have HD:Hid (∀ W,Kp noB W W→Calls Tryz.prog 24 #[.int .i64 2,.int .u8 0] W fun e w'=>e=.returned (.slice (some ⟨W.heap.size,0,none⟩) 1024 1024)∧Dk.BytAt w' (some ⟨W.heap.size,0,none⟩) 1024 (Dk.dskS 0)∧Kp noB W w'):=fun W _=>by
  have e1:Dk.secN 2=2:=by kernel_rfl
  have h:=Dk.lDisk_any W 2 0 (by decide) (by decide) ⟨by decide,by decide⟩
  rw [e1] at h
  exact h.mono fun e w' ⟨q,r,k⟩=>⟨q,r.at,kDk k⟩
 go_wp2_with fail
 refine Calls.mono (HD.out w2 (Kp.refl _ _)) ?_;rintro e w3 ⟨rfl,b3,k3⟩
 generalize w2.heap.size=G at *
 have P3:Hid _:=P2.out.keep k3
 have HC:Hid (Calls Tryz.prog 23 #[.pointer (some ⟨M+3,0,none⟩),.slice (some ⟨G,0,none⟩) 1024 1024] w3 fun e w'=>∃ L:Loc,e=.returned (.tuple #[.pointer (some ⟨L.B,0,none⟩),.int .i64 0])∧L.M=M∧Hs W0 w' (three (busR L (x17M (memW f g Lw))) (sysR (memRs R0 (.cells #[V0,V1,V2,V3,.bool false] 143 (0,0)))) (tlR V K M 8 0))):=by
  refine (P3.out.call (E:=fun e w' r'=>∃ L:Loc,e=.returned (.tuple #[.pointer (some ⟨L.B,0,none⟩),.int .i64 0])∧L.M=M∧r'=busR L (x17M (memW f g Lw))) 0 (fun T a=>?_)).mono ?_
  ·refine (new_ok w3 T M (memW f g Lw) a (some ⟨G,0,none⟩) 1024 1024 (Dk.dskS 0) b3 (fun j _=>Dk.dskS_byt 0 j) (by decide) (by decide)).mono ?_
   rintro e w' ⟨B,q,L,S',c1,c2,c3,c4⟩
   subst c1
   exact ⟨_,fun k=>S' k∧k < w'.heap.size,⟨L,q,c2,rfl⟩,Sys.lt c3,⟨fun k g=>c4.sub k g.1,c4.kp⟩,fun k g=>g.2⟩
  ·rintro e w' ⟨r',⟨L,q,c2,rfl⟩,z⟩
   rw [three_0] at z
   exact ⟨L,q,c2,z⟩
 clear P2 P3 b3 k3
 go_wp2_with fail
 refine Calls.mono HC.out ?_;rintro e w4 ⟨L,rfl,eM,h4⟩
 have P4:Hid _:=h4
 have HM:Hid (L.M=M):=eM
 clear h4 HC eM
 go_wp2_with fail
 refine Calls.mono (HD.out w4 (Kp.refl _ _)) ?_;rintro e w5 ⟨rfl,b5,k5⟩
 generalize w4.heap.size=G2 at *
 have P5:Hid _:=P4.out.keep k5
 have HC:Hid (Calls Tryz.prog 25 #[.pointer (some ⟨R0,0,none⟩),.slice (some ⟨G2,0,none⟩) 1024 1024] w5 fun e w'=>∃ L':LocR,e=.returned (.tuple #[.pointer (some ⟨L'.B,0,none⟩),.int .i64 0])∧Hs W0 w' (three (busR L (x17M (memW f g Lw))) (docR L' (x17M (memW f g Lw))) (tlR V K M 8 0))):=by
  refine (P5.out.call (E:=fun e w' r'=>∃ L':LocR,e=.returned (.tuple #[.pointer (some ⟨L'.B,0,none⟩),.int .i64 0])∧r'=docR L' (x17M (memW f g Lw))) 1 (fun T a=>?_)).mono ?_
  ·refine (dnew_ok w5 T R0 V0 V1 V2 V3 false a (some ⟨G2,0,none⟩) 1024 1024 (Dk.dskS 0) b5 (fun j _=>Dk.dskS_byt 0 j) (by decide) (by decide) (memO (memW f g Lw))).mono ?_
   rintro e w' ⟨B,q,L,S',c1,c2,c3,c4⟩
   subst c1
   exact ⟨_,fun k=>S' k∧k < w'.heap.size,⟨L,q,rfl⟩,Sys.lt c3,⟨fun k g=>c4.sub k g.1,c4.kp⟩,fun k g=>g.2⟩
  ·rintro e w' ⟨r',⟨L',q,rfl⟩,z⟩
   rw [three_1] at z
   exact ⟨L',q,z⟩
 clear P4 P5 b5 k5 HD
 go_wp2_with fail
 refine Calls.mono HC.out ?_;rintro e w6 ⟨L',rfl,h6⟩
 have HH:Hid (Hs w w6 (three (busR L (x17M (memW f g Lw))) (docR L' (x17M (memW f g Lw))) (tlR V K M 8 0))):=⟨by obtain ⟨S,a,b⟩:=h6.ex;exact ⟨S,a,fun k g=>Nat.le_trans k0.size (b k g)⟩,k0.trans h6.kp⟩
 have pX:Rm.PAt w6 X cs:=rX0.kp (noRm h6.kp) id
 have HLd:Hid (∀ W,Kp noB w6 W→(loadCellsFrom ⟨X,0,none⟩ 0 nn #[]).run Tryz.prog W=.ok cs W):=fun W k=>HV.out.get (pX.kp (noRm k) id)
 obtain ⟨c2,hc2⟩:=built_ref cs HWF.out.s ⟨R0,0,none⟩ ⟨L'.B,0,none⟩
 have hc1:=built_env cs HWF.out.s ⟨V,0,none⟩ ⟨L.B,0,none⟩
 have HB1:Hid _:=hc1
 have HB2:Hid _:=hc2
 have HXe:Hid (X=w.heap.size):=hX
 clear h6 HC rX0 k0 hX pX hc1 hc2
 go_upto_region 7 with fail
 rw [← HXe.out]
 refine OrdFree.region_vals (τ:=Nat × Nat) (fun t=>[.agg cs,.pointer (some ⟨V,0,none⟩),.pointer (some ⟨L.B,0,none⟩),.agg (cs++#[.pointer (some ⟨V,0,none⟩),.pointer (some ⟨L.B,0,none⟩)]),.pointer (some ⟨t.1,0,none⟩),.agg cs,.pointer (some ⟨R0,0,none⟩),.pointer (some ⟨L'.B,0,none⟩),.agg c2,.pointer (some ⟨t.2,0,none⟩),.pointer (some ⟨t.1,0,none⟩),.pointer (some ⟨t.2,0,none⟩)]) (fun t listed W=>Kp noB w6 W∧(listed.getD 4 false=true→w6.heap.size≤t.1∧Rm.EAt W t.1 cs (.pointer (some ⟨V,0,none⟩)) (.pointer (some ⟨L.B,0,none⟩)))) (0,0) (by kernel_rfl) (by kernel_rfl) (by kernel_rfl) (by kernel_rfl) (fun _=>rfl) (fun t=>by simp only [OrdFree.puts,Act.put,List.setIfInBounds_toArray,List.set_cons_zero,List.set_cons_succ];rfl) ⟨(Kp.refl noB w6).drew,fun f=>by cases f⟩ ?_ ?_
 ·refine ⟨?_,?_,?_,?_,?_,?_,?_,?_,?_,?_,?_,?_,trivial⟩
  all_goals (intro t listed W hz hSh hl hI hb K hK hK0;obtain ⟨kk,hrow⟩:=hI;have hld:=HLd.out W kk)
  ·go_simp
   exact hK0 W ⟨kk,fun h=>hrow (by rwa [getD_set_ne false (by decide)] at h)⟩
  ·go_simp
   exact hK0 W ⟨kk,fun h=>hrow (by rwa [getD_set_ne false (by decide)] at h)⟩
  ·go_simp
   exact hK0 W ⟨kk,fun h=>hrow (by rwa [getD_set_ne false (by decide)] at h)⟩
  ·exact OrdFree.wp_of_run (run_of_build (ps:=#[(0,.agg cs),(1,.pointer (some ⟨V,0,none⟩)),(2,.pointer (some ⟨L.B,0,none⟩))]) rfl (by kernel_rfl) (run_build W _ _ _ HB1.out)) (hK _ _ ⟨t,rfl,fun _ _=>rfl,⟨kk,fun h=>hrow (by rwa [getD_set_ne false (by decide)] at h)⟩⟩)
  ·have n10:=OrdFree.shut_no (j:=10) hSh hl (by kernel_rfl)
   exact OrdFree.wp_of_run (v:=.pointer (some ⟨W.heap.size,0,none⟩)) (w':=W.alloc (.cells (cs++#[.pointer (some ⟨V,0,none⟩),.pointer (some ⟨L.B,0,none⟩)]) 54)) (by kernel_rfl) (hK _ _ ⟨(W.heap.size,t.2),rfl,OrdFree.vals_two (i:=4) (k:=10) (u:=.pointer (some ⟨W.heap.size,0,none⟩)) (v:=.pointer (some ⟨W.heap.size,0,none⟩)) rfl hl n10,kk.trans (Kp.alloc _ _ _),fun _=>⟨kk.size,(MapKept.heap_alloc W _).1,HWF.out⟩⟩)
  ·go_simp
   exact hK0 W ⟨kk,fun h=>hrow (by rwa [getD_set_ne false (by decide)] at h)⟩
  ·go_simp
   exact hK0 W ⟨kk,fun h=>hrow (by rwa [getD_set_ne false (by decide)] at h)⟩
  ·go_simp
   exact hK0 W ⟨kk,fun h=>hrow (by rwa [getD_set_ne false (by decide)] at h)⟩
  ·exact OrdFree.wp_of_run (run_of_build (ps:=#[(0,.agg cs),(1,.pointer (some ⟨R0,0,none⟩)),(2,.pointer (some ⟨L'.B,0,none⟩))]) rfl (by kernel_rfl) (run_build W _ _ _ HB2.out)) (hK _ _ ⟨t,rfl,fun _ _=>rfl,⟨kk,fun h=>hrow (by rwa [getD_set_ne false (by decide)] at h)⟩⟩)
  ·have n11:=OrdFree.shut_no (j:=11) hSh hl (by kernel_rfl)
   exact OrdFree.wp_of_run (v:=.pointer (some ⟨W.heap.size,0,none⟩)) (w':=W.alloc (.cells c2 58)) (by kernel_rfl) (hK _ _ ⟨(t.1,W.heap.size),rfl,OrdFree.vals_two (i:=9) (k:=11) (u:=.pointer (some ⟨W.heap.size,0,none⟩)) (v:=.pointer (some ⟨W.heap.size,0,none⟩)) rfl hl n11,kk.trans (Kp.alloc _ _ _),fun h=>⟨(hrow (by rwa [getD_set_ne false (by decide)] at h)).1,(hrow (by rwa [getD_set_ne false (by decide)] at h)).2.kp0 (noRm (Kp.alloc _ _ _))⟩⟩)
  ·go_simp
   exact hK0 W ⟨kk,fun h=>hrow (by rwa [getD_set_ne false (by decide)] at h)⟩
  ·go_simp
   exact hK0 W ⟨kk,fun h=>hrow (by rwa [getD_set_ne false (by decide)] at h)⟩
 ·rename_i Kx hKx
  rintro t listed W hal ⟨kk,hrow⟩
  obtain ⟨q1,q2⟩:=hrow (hal 4 (by exact (by decide:4 < 12)))
  refine hKx _ _ ?_
  go_wp2
  go_ret2
  refine ⟨t.1,t.2,V,K,L,w6,rfl,⟨⟨L',?_⟩,q2,q1,kk⟩⟩
  rw [HM.out]
  exact HH.out
end Go.Proofs.YtacgmoikegcopaaGreatDoor.Bs
namespace Go.Proofs.YtacgmoikegcopaaGreatDoor.Rm
open Go.ChangeShapes Go.WideShapes Go.ChangeAt Go.RowKit Go.Maps
set_option linter.unusedVariables false
set_option maxRecDepth 20000
def wdL:List (Int × Int)→List Value
 | []=>[]
 | p::l=>.int .u32 p.1::.int .u32 p.2::wdL l
theorem wdL_len:∀ l:List (Int × Int),(wdL l).length=l.length*2
 | []=>rfl
 | p::l=>by unfold wdL;rw [List.length_cons,List.length_cons,wdL_len l,List.length_cons];omega
theorem wdL_app:∀ l m:List (Int × Int),wdL (l++m)=wdL l++wdL m
 | [],m=>rfl
 | p::l,m=>by simp only [List.cons_append,wdL,wdL_app l m]
def tab0:List (Int × Int):=[(2056,65535),(2060,13605376),(2064,65535),(2068,13603328),(2072,65535),(2076,13629952),(2080,65535),(2084,13627904),(2564,40704),(2568,16)]
def tabG (kind:Int):Nat→List (Int × Int)
 | 0=>tab0
 | i+1=>tabG kind i++[((3072+8*(i:Int),524288+(24576+16*(i:Int))):Int × Int),((3076+8*(i:Int),kind):Int × Int)]
theorem appW (base:Nat) {w:World} (hb:base≤w.heap.size) {v:Value} {n:Nat} {xs:List Value} (hv:w.ownsRow base 120 2 v n xs) (A:Nat) (a0 a1 b0 b1:Int) (hA:w.heap[A]?=some (.cells #[.int .u32 a0,.int .u32 a1,.int .u32 b0,.int .u32 b1] 120 (0,0))) (hs:n≤1000):
  ∃ v' w',(Builtin.append_ #[34,34] 34 #[v,.slice (some ⟨A,0,none⟩) 2 2]).run Tryz.prog w=.ok v' w'∧w'.ownsRow base 120 2 v' (n+2) (xs++[.int .u32 a0,.int .u32 a1,.int .u32 b0,.int .u32 b1])∧Kp (fun k=>base≤k) w w':=by
 obtain ⟨v',w',hr,h2,h3,h4⟩:=run_append_own_at (P:=Tryz.prog) w base 34 34 120 _ (.agg #[.int .u32 0,.int .u32 0]) 2 8 Tryz.underlying34 (show Tryz.prog.info? 120=some _ from Tryz.type120) (by kernel_rfl) (by kernel_rfl) (by kernel_rfl) (by kernel_rfl) (by decide)
  v n xs hv ⟨A,0,none⟩ 2 2 [.int .u32 a0,.int .u32 a1,.int .u32 b0,.int .u32 b1] rfl (by
   intro j u hu
   rw [Addr.add_mid,cell_at hA]
   match j,hu with
   | 0,hu=>simpa using hu
   | 1,hu=>simpa using hu
   | 2,hu=>simpa using hu
   | 3,hu=>simpa using hu
   | j+4,hu=>simp at hu) (by simp [Value.oneCell']) (by unfold maxLen;omega) (by omega) hb
 refine ⟨v',w',hr,h2,⟨h3.os,h3.tape,h3.output,h3.size,fun k hk hs=>h3.block k hk (fun e=>hs ?_)⟩⟩
 rcases hv.2 with ⟨rfl,_⟩ | ⟨g,cap,cur,rfl,hb,r⟩
 ·cases e
 ·simp [Value.ownBlock] at e;omega
theorem wpList_appW {P:Program} {w w':World} {ops:Array Oper} {rest:List Oper} {o:Oper} {a:Act} {Q:Exit→Act→World→Prop} {s x:Operand} {t:TypeId} {v u v':Value} (hgd:o.guard=none)
  (ho:o.op=.call { callee:=.builtin .append,args:=#[s,x],argTypes:=#[t,t] }) (hs:a.eval s=v) (hx:a.eval x=u) (hr:(Builtin.append_ #[t,t] o.type #[v,u]).run P w=.ok v' w')
  (h:wpList P ops Q rest (a.put o.dst v') w'):wpList P ops Q (o::rest) a w:=
 wpList_plain hgd fun _ hK=>by
  unfold Oper.wp execOp
  simp only [ho,resolve,invoke,builtin,Sem.run_bind,Sem.run_pure,Result.andThen_ok,List.map_toArray,List.map_cons,List.map_nil,hs,hx,hr]
  exact hK _ _ h
def TbR (w:World) (kind:Int) (k:Nat) (s t:Value) (W:World):Prop:=
 ∃ i:Nat,t=.int .i64 i∧i≤64∧64 - i≤k∧W.ownsRow w.heap.size 120 2 s (10+2*i) (wdL (tabG kind i))∧Kp noB w W
theorem ownsRow_kp {w W:World} {base:Nat} {v:Value} {n:Nat} {xs:List Value} {e:TypeId} {z:Nat} (h:w.ownsRow base e z v n xs) (k:Kp noB w W):W.ownsRow base e z v n xs:=by
 refine ⟨h.1,?_⟩
 rcases h.2 with h2 | ⟨g,cap,cur,hv,hb,hg,r⟩
 ·exact .inl h2
 ·exact .inr ⟨g,cap,cur,hv,hb,(k.block g (Array.getElem?_eq_some_iff.1 hg).1 id).trans hg,r⟩
set_option maxHeartbeats 4000000 in
theorem tables_any (w:World) (kind:Int):
  Calls Tryz.prog 45 #[.int .u32 kind] w fun e w'=>∃ v,e=.returned v∧w'.ownsRow w.heap.size 120 2 v 138 (wdL (tabG kind 64))∧Kp noB w w':=by
 obtain ⟨W0,hW0⟩:∃ W,W=w.alloc (.cells #[.int .u32 2056,.int .u32 65535,.int .u32 2060,.int .u32 13605376,.int .u32 2064,.int .u32 65535,.int .u32 2068,.int .u32 13603328,.int .u32 2072,.int .u32 65535,.int .u32 2076,.int .u32 13629952,.int .u32 2080,.int .u32 65535,.int .u32 2084,.int .u32 13627904,.int .u32 2564,.int .u32 40704,.int .u32 2568,.int .u32 16] 120):=⟨_,rfl⟩
 have HI:Hid (TbR w kind 64 (.slice (some ⟨w.heap.size,0,none⟩) 10 10) (.int .i64 0) W0):=by
  refine ⟨0,rfl,by omega,by omega,⟨by rw [wdL_len];rfl,.inr ⟨w.heap.size,10,_,rfl,Nat.le_refl _,by rw [hW0];exact (MapKept.heap_alloc w _).1,by omega,by unfold maxLen;omega,rfl,rfl⟩⟩,by rw [hW0];exact Kp.alloc _ _ _⟩
 go_enter Tryz.func45,Tryz.ntmps45
 go_wp2_with fail
 go_loopg [3,4] 64 (TbR w kind)
 case atStart=>rw [← hW0];exact HI.out
 case round=>
  clear HI hW0
  obtain ⟨i,rfl,hi4,hik,hO,kk⟩:=hrel
  by_cases h64:i=64
  ·subst h64
   have HF:Hid (wr.ownsRow w.heap.size 120 2 _ 138 (wdL (tabG kind 64))∧Kp noB w wr):=⟨hO,kk⟩
   clear hO kk
   go_wp2
   go_ret
   exact ⟨_,rfl,HF.out⟩
  ·obtain ⟨k,rfl⟩:∃ k,gk=k+1:=⟨gk - 1,by omega⟩
   have hlt:decide ((i:Int) < 64)=true:=decide_eq_true (by omega)
   obtain ⟨e8,he8⟩:∃ q:Int,q=8*(i:Int):=⟨_,rfl⟩
   obtain ⟨a0,ha0⟩:∃ q:Int,q=3072+e8:=⟨_,rfl⟩
   obtain ⟨e16,he16⟩:∃ q:Int,q=16*(i:Int):=⟨_,rfl⟩
   obtain ⟨pl,hpl⟩:∃ q:Int,q=24576+e16:=⟨_,rfl⟩
   obtain ⟨a1,ha1⟩:∃ q:Int,q=524288+pl:=⟨_,rfl⟩
   obtain ⟨b0,hb0⟩:∃ q:Int,q=3076+e8:=⟨_,rfl⟩
   have w1:IntKind.i64.wrap (8*(i:Int))=e8:=by have:=IntKind.wrap_i64 (8*(i:Int));omega
   have w2:IntKind.i64.wrap (3072+e8)=a0:=by have:=IntKind.wrap_i64 (3072+e8);omega
   have w3:IntKind.u32.wrap a0=a0:=by have:=IntKind.wrap_u32 a0;omega
   have w4:IntKind.i64.wrap (16*(i:Int))=e16:=by have:=IntKind.wrap_i64 (16*(i:Int));omega
   have w5:IntKind.i64.wrap (24576+e16)=pl:=by have:=IntKind.wrap_i64 (24576+e16);omega
   have w6:IntKind.u32.wrap pl=pl:=by have:=IntKind.wrap_u32 pl;omega
   have w7:IntKind.u32.wrap (524288+pl)=a1:=by have:=IntKind.wrap_u32 (524288+pl);omega
   have w8:IntKind.i64.wrap (3076+e8)=b0:=by have:=IntKind.wrap_i64 (3076+e8);omega
   have w9:IntKind.u32.wrap b0=b0:=by have:=IntKind.wrap_u32 b0;omega
   have wi:IntKind.i64.wrap ((i:Int)+1)=((i+1:Nat):Int):=by have:=IntKind.wrap_i64 ((i:Int)+1);omega
   have etab:wdL (tabG kind (i+1))=wdL (tabG kind i)++[.int .u32 a0,.int .u32 a1,.int .u32 b0,.int .u32 kind]:=by
    show wdL (tabG kind i++_)=_
    rw [wdL_app,ha0,ha1,hb0,hpl,he8,he16];rfl
   obtain ⟨W1,hW1⟩:∃ W,W=wr.alloc (.cells #[.int .u32 a0,.int .u32 a1,.int .u32 b0,.int .u32 kind] 120):=⟨_,rfl⟩
   have k1:Kp noB wr W1:=by rw [hW1];exact Kp.alloc _ _ _
   obtain ⟨v',w',hr,ho',k2⟩:=appW w.heap.size (by have:=kk.size;have:=k1.size;omega) (ownsRow_kp hO k1) wr.heap.size a0 a1 b0 kind (by rw [hW1];exact (MapKept.heap_alloc wr _).1) (by omega)
   have HR:Hid (TbR w kind k v' (.int .i64 ((i+1:Nat):Int)) w'):=⟨i+1,rfl,by omega,by omega,by rw [etab];exact ho',(kk.trans k1).over k2 (fun j hj f=>by omega)⟩
   rw [hW1] at hr
   clear hW1 k1 k2 ho' etab ha0 ha1 hb0 hpl he8 he16 hO kk
   have HRun:Hid _:=hr
   clear hr
   go_wp2_with (refine wpList_appW rfl rfl rfl rfl HRun.out ?_)
   go_roundg k
   case measure=>omega
   case rel=>exact HR.out
def datS (s d:Int):SgR:=⟨IntKind.u16.wrap (16+s),false,0,4294967295,2,false,d,true,true⟩
def codS (s d:Int):SgR:=⟨IntKind.u16.wrap (8+s),false,0,4294967295,10,false,d,true,true⟩
def flatP (s d cr0 cr3:Int):Cp:=⟨fun i=>if i=1 then codS s d else datS s d,cr0,cr3⟩
theorem SgC.past {cs:Array Value} {o k:Nat} {r:SgR} {v:Value} (h:SgC cs o r) (hk:k < o∨o+9≤k):SgC (cs.setIfInBounds k v) o r:=by
 obtain ⟨b0,b1,b2,b3,b4,b5,b6,b7,b8⟩:=h
 constructor
 all_goals rw [Array.getElem?_setIfInBounds_ne (by omega)];assumption
theorem flat_cells {cs:Array Value} {s d:Int} (wf:WfC cs) (hsg:∀ j,j < 6→SgC cs (10+j*9) (datS s d)) (h66:cs[66]?=some (.int .u32 0)):CpC (((set9 cs 19 (codS s d)).setIfInBounds 64 (.int .u32 1)).setIfInBounds 9 (.int .u32 2)) (flatP s d 1 0):=by
 have sz:(set9 cs 19 (codS s d)).size=83:=(set9_wf wf _ _).s
 refine ⟨fun i hi=>?_,?_,?_⟩
 ·by_cases e:i=1
  ·subst e
   have h1:SgC (set9 cs 19 (codS s d)) (10+1*9) (codS s d):=set9_at (o:=19) _ (by rw [wf.s];omega)
   have h2:(flatP s d 1 0).seg 1=codS s d:=rfl
   rw [h2]
   exact (h1.past (.inr (by omega))).past (.inl (by omega))
  ·have h2:(flatP s d 1 0).seg i=datS s d:=by unfold flatP;simp only [e,if_false]
   rw [h2]
   have h1:SgC (set9 cs 19 (codS s d)) (10+i*9) (datS s d):=(hsg i hi).ne (by omega)
   exact (h1.past (.inr (by omega))).past (.inl (by omega))
 ·have h1:((set9 cs 19 (codS s d)).setIfInBounds 64 (.int .u32 1))[64]?=some (.int .u32 1):=Array.getElem?_setIfInBounds_self_of_lt (by rw [sz];omega)
  rw [Array.getElem?_setIfInBounds_ne (by omega)]
  exact h1
 ·rw [Array.getElem?_setIfInBounds_ne (by omega),Array.getElem?_setIfInBounds_ne (by omega),set9_ne _ (by omega)]
  exact h66
def FlY (w:World) (X:Nat) (s d:Int) (k:Nat) (s7:Value) (wr:World):Prop:=
 ∃ (i:Nat) (cs:Array Value),s7=.int .i64 i∧i≤6∧6 - i≤k∧PAt wr X cs∧(∀ j,j < i→SgC cs (10+j*9) (datS s d))∧cs[64]?=some (.int .u32 0)∧cs[66]?=some (.int .u32 0)∧(∀ k,(k < 10∨64≤k)→cs[k]?=cpuZ[k]?)∧Kp (fun j=>j=X) w wr
set_option maxHeartbeats 2000000 in
theorem flat17 (w:World) (r:Int) (r0:-9223372036854775808≤r) (r1:r≤9223372036854775807):Calls Tryz.prog 44 #[.int .i64 r] w fun e w'=>∃ cs,e=.returned (.agg cs)∧WfC cs∧CpC cs (flatP (IntKind.u16.wrap (r.tmod 4)) (r.tmod 4) 1 0)∧(cs[9]?=some (.int .u32 2)∧∀ k,(k < 9∨65≤k)→cs[k]?=cpuZ[k]?)∧Kp noB w w':=by
 obtain ⟨T,n,Z,h⟩:=vlP
 obtain ⟨vl,vs,va,vb⟩:=h.ops
 have g1:=h.agg;have g2:=h.size;have g3:=h.zero
 obtain ⟨d,hd⟩:∃ d,d=r.tmod 4:=⟨_,rfl⟩
 obtain ⟨s,hs⟩:∃ s,s=IntKind.u16.wrap d:=⟨_,rfl⟩
 rw [← hd,← hs]
 obtain ⟨W0,hW0⟩:∃ W,W=((((w.alloc (.cells Z T)).alloc (.cells Z T)).alloc (.cells #[.int .u32 0,.int .u32 4294967295,.int .i64 10,.bool false,.int .i64 d,.bool true,.bool true] 26)).alloc (.cells #[.int .u32 0,.int .u32 4294967295,.int .i64 2,.bool false,.int .i64 d,.bool true,.bool true] 26)):=⟨_,rfl⟩
 obtain ⟨A,hA⟩:∃ A,w.heap.size=A:=⟨_,rfl⟩
 have kA:=Kp.alloc noB w (.cells Z T)
 have kB:=Kp.alloc noB (w.alloc (.cells Z T)) (.cells Z T)
 have kC:=Kp.alloc noB ((w.alloc (.cells Z T)).alloc (.cells Z T)) (.cells #[.int .u32 0,.int .u32 4294967295,.int .i64 10,.bool false,.int .i64 d,.bool true,.bool true] 26)
 have kD:=Kp.alloc noB (((w.alloc (.cells Z T)).alloc (.cells Z T)).alloc (.cells #[.int .u32 0,.int .u32 4294967295,.int .i64 10,.bool false,.int .i64 d,.bool true,.bool true] 26)) (.cells #[.int .u32 0,.int .u32 4294967295,.int .i64 2,.bool false,.int .i64 d,.bool true,.bool true] 26)
 have k0:Kp noB w W0:=by rw [hW0];exact ((kA.trans kB).trans kC).trans kD
 have pA:PAt W0 A Z:=by rw [hW0,← hA];exact (((h.at h.wf w).kp kB (fun f=>f)).kp kC (fun f=>f)).kp kD (fun f=>f)
 have pX:PAt W0 (A+1) Z:=by
  have:=h.at h.wf (w.alloc (.cells Z T))
  rw [show (w.alloc (.cells Z T)).heap.size=A+1 by simp [hA]] at this
  rw [hW0]
  exact (this.kp kC (fun f=>f)).kp kD (fun f=>f)
 have rC:W0.heap[A+2]?=some (.cells #[.int .u32 0,.int .u32 4294967295,.int .i64 10,.bool false,.int .i64 d,.bool true,.bool true] 26 (0,0)):=by
  have:=(MapKept.heap_alloc ((w.alloc (.cells Z T)).alloc (.cells Z T)) (.cells #[.int .u32 0,.int .u32 4294967295,.int .i64 10,.bool false,.int .i64 d,.bool true,.bool true] 26)).1
  rw [show ((w.alloc (.cells Z T)).alloc (.cells Z T)).heap.size=A+2 by simp [hA]] at this
  rw [hW0]
  exact (kD.block _ (by simp [hA]) (fun f=>f)).trans this
 have rD:W0.heap[A+3]?=some (.cells #[.int .u32 0,.int .u32 4294967295,.int .i64 2,.bool false,.int .i64 d,.bool true,.bool true] 26 (0,0)):=by
  have:=(MapKept.heap_alloc (((w.alloc (.cells Z T)).alloc (.cells Z T)).alloc (.cells #[.int .u32 0,.int .u32 4294967295,.int .i64 10,.bool false,.int .i64 d,.bool true,.bool true] 26)) (.cells #[.int .u32 0,.int .u32 4294967295,.int .i64 2,.bool false,.int .i64 d,.bool true,.bool true] 26)).1
  rw [show (((w.alloc (.cells Z T)).alloc (.cells Z T)).alloc (.cells #[.int .u32 0,.int .u32 4294967295,.int .i64 10,.bool false,.int .i64 d,.bool true,.bool true] 26)).heap.size=A+3 by simp [hA]] at this
  rw [hW0]
  exact this
 have HD:Hid (∀ W,Kp (fun j=>j=A+1) W0 W→W.cell? ⟨A+3,0,none⟩=some (.int .u32 0)∧W.cell? ⟨A+3,1,none⟩=some (.int .u32 4294967295)∧W.cell? ⟨A+3,2,none⟩=some (.int .i64 2)∧W.cell? ⟨A+3,3,none⟩=some (.bool false)∧W.cell? ⟨A+3,4,none⟩=some (.int .i64 d)∧W.cell? ⟨A+3,5,none⟩=some (.bool true)∧W.cell? ⟨A+3,6,none⟩=some (.bool true)):=fun W k=>by
  have r:=(k.block (A+3) (Array.getElem?_eq_some_iff.1 rD).1 (by omega)).trans rD
  refine ⟨?_,?_,?_,?_,?_,?_,?_⟩<;>(rw [cell_at r];rfl)
 have HCd:Hid (∀ W,Kp (fun j=>j=A+1) W0 W→W.cell? ⟨A+2,0,none⟩=some (.int .u32 0)∧W.cell? ⟨A+2,1,none⟩=some (.int .u32 4294967295)∧W.cell? ⟨A+2,2,none⟩=some (.int .i64 10)∧W.cell? ⟨A+2,3,none⟩=some (.bool false)∧W.cell? ⟨A+2,4,none⟩=some (.int .i64 d)∧W.cell? ⟨A+2,5,none⟩=some (.bool true)∧W.cell? ⟨A+2,6,none⟩=some (.bool true)):=fun W k=>by
  have r:=(k.block (A+2) (Array.getElem?_eq_some_iff.1 rC).1 (by omega)).trans rC
  refine ⟨?_,?_,?_,?_,?_,?_,?_⟩<;>(rw [cell_at r];rfl)
 have HV:Hid (VlP T n Z):=h
 have HSo:Hid (∀ (W:World) (cs:Array Value),PAt W (A+1) cs→∀ k,k < 83→∃ v,W.cell? ⟨A+1,k,none⟩=some v):=fun W cs p k hk=>p.some hk
 clear kA kB kC kD rC rD
 go_enter Tryz.func44,Tryz.ntmps44
 simp only [vl,vs,va,vb] at *
 go_wp2_with fail
 simp only [← hd,← hs]
 rw [← hW0]
 have HSs:Hid (s=IntKind.u16.wrap d):=hs
 have HAw:Hid (w.heap.size=A):=hA
 clear hW0 hA hd hs
 go_loopg [7] 6 (FlY W0 (A+1) s d)
 case atStart=>exact ⟨0,Z,rfl,by omega,by omega,pX,fun j hj=>absurd hj (by omega),HV.out.z64,HV.out.z66,(fun k _=>by rw [HV.out.z]),Kp.refl _ _⟩
 case round=>
  obtain ⟨i,cs,rfl,hi,hik,pr,hsg,h64,h66,hrs,kk⟩:=hrel
  by_cases hlt:i < 6
  ·have hz:(i:Int) < 6:=by omega
   have hz':(0:Int)≤i∧(i:Int) < 6:=by omega
   obtain ⟨e0,e1,e2,e3,e4,e5,e6⟩:=HD.out wr kk
   have P9:=pr.set9 (10+i*9) (datS s d)
   have k9:=kk.trans (kp_setW9 wr (A+1) (10+i*9) (datS s d))
   have f9:=pr.fz
   obtain ⟨u0,t0⟩:=HSo.out wr cs pr (10+i*9) (by omega)
   obtain ⟨u1,t1⟩:=HSo.out wr cs pr (10+i*9+1) (by omega)
   obtain ⟨u2,t2⟩:=HSo.out wr cs pr (10+i*9+2) (by omega)
   obtain ⟨u3,t3⟩:=HSo.out wr cs pr (10+i*9+3) (by omega)
   obtain ⟨u4,t4⟩:=HSo.out wr cs pr (10+i*9+4) (by omega)
   obtain ⟨u5,t5⟩:=HSo.out wr cs pr (10+i*9+5) (by omega)
   obtain ⟨u6,t6⟩:=HSo.out wr cs pr (10+i*9+6) (by omega)
   obtain ⟨u7,t7⟩:=HSo.out wr cs pr (10+i*9+7) (by omega)
   obtain ⟨u8,t8⟩:=HSo.out wr cs pr (10+i*9+8) (by omega)
   obtain ⟨j,hj⟩:∃ j,j=i+1:=⟨_,rfl⟩
   have HJ:Hid (j=i+1):=hj
   have HK:Hid (6 - i≤gk):=hik
   have HSG:Hid (∀ m,m < i+1→SgC (set9 cs (10+i*9) (datS s d)) (10+m*9) (datS s d)):=fun m hm=>by
    by_cases e:m=i
    ·subst e;exact set9_at _ (by rw [pr.2.s];omega)
    ·exact (hsg m (by omega)).ne (by omega)
   have H64:Hid ((set9 cs (10+i*9) (datS s d))[64]?=some (.int .u32 0)):=by rw [set9_ne _ (by omega)];exact h64
   have H66:Hid ((set9 cs (10+i*9) (datS s d))[66]?=some (.int .u32 0)):=by rw [set9_ne _ (by omega)];exact h66
   have HRS:Hid (∀ k,(k < 10∨64≤k)→(set9 cs (10+i*9) (datS s d))[k]?=cpuZ[k]?):=fun k hk=>by rw [set9_ne _ (by omega)];exact hrs k hk
   have HP9:Hid _:=P9
   have HK9:Hid _:=k9
   clear hik hj hsg h64 h66 P9 k9 pr hrs
   go_wp2_with fail
   go_roundg (6 - j)
   case measure=>have:=HJ.out;have:=HK.out;omega
   case rel=>
    exact ⟨j,set9 cs (10+i*9) (datS s d),by rw [HJ.out];rfl,by have:=HJ.out;omega,Nat.le_refl _,HP9.out,fun m hm=>HSG.out m (by rw [HJ.out] at hm;exact hm),H64.out,H66.out,HRS.out,HK9.out⟩
  ·obtain rfl:i=6:=by omega
   clear hi hik hlt
   obtain ⟨e0,e1,e2,e3,e4,e5,e6⟩:=HCd.out wr kk
   have P9:=pr.set9 19 (codS s d)
   have k9:=kk.trans (kp_setW9 wr (A+1) 19 (codS s d))
   have f9:=pr.fz
   obtain ⟨u0,t0⟩:=HSo.out wr cs pr 19 (by omega)
   obtain ⟨u1,t1⟩:=HSo.out wr cs pr 20 (by omega)
   obtain ⟨u2,t2⟩:=HSo.out wr cs pr 21 (by omega)
   obtain ⟨u3,t3⟩:=HSo.out wr cs pr 22 (by omega)
   obtain ⟨u4,t4⟩:=HSo.out wr cs pr 23 (by omega)
   obtain ⟨u5,t5⟩:=HSo.out wr cs pr 24 (by omega)
   obtain ⟨u6,t6⟩:=HSo.out wr cs pr 25 (by omega)
   obtain ⟨u7,t7⟩:=HSo.out wr cs pr 26 (by omega)
   obtain ⟨u8,t8⟩:=HSo.out wr cs pr 27 (by omega)
   obtain ⟨u9,t9⟩:=HSo.out wr cs pr 64 (by omega)
   obtain ⟨v9,x9⟩:=HSo.out wr cs pr 9 (by omega)
   have PF:=(P9.set 64 (v:=.int .u32 1) rfl).set 9 (v:=.int .u32 2) rfl
   have kF:=(k9.trans (Kp.setCell (S:=fun j=>j=A+1) _ (p:=⟨A+1,64,none⟩) rfl (.int .u32 1))).trans (Kp.setCell (S:=fun j=>j=A+1) _ (p:=⟨A+1,9,none⟩) rfl (.int .u32 2))
   have hF:=flat_cells pr.2 hsg h66
   have hR9:(((set9 cs 19 (codS s d)).setIfInBounds 64 (.int .u32 1)).setIfInBounds 9 (.int .u32 2))[9]?=some (.int .u32 2):=Array.getElem?_setIfInBounds_self_of_lt (by rw [Array.size_setIfInBounds,(set9_wf pr.2 _ _).s];omega)
   have hRR:∀ k,(k < 9∨65≤k)→(((set9 cs 19 (codS s d)).setIfInBounds 64 (.int .u32 1)).setIfInBounds 9 (.int .u32 2))[k]?=cpuZ[k]?:=fun k hk=>by
    rw [Array.getElem?_setIfInBounds_ne (by omega),Array.getElem?_setIfInBounds_ne (by omega),set9_ne _ (by omega)]
    exact hrs k (by omega)
   have HL:Hid (∀ W cs,PAt W (A+1) cs→(loadCellsFrom ⟨A+1,0,none⟩ 0 n #[]).run Tryz.prog W=.ok cs W):=fun W cs p=>HV.out.get p
   have pA2:=pA.kp kF (by omega)
   have kG:Kp noB w _:=(k0.trans (Kp.refl _ _)).over kF (fun j hj e=>absurd hj (by have:=HAw.out;omega))
   obtain ⟨cF,hcF⟩:∃ c,c=(((set9 cs 19 (codS s d)).setIfInBounds 64 (.int .u32 1)).setIfInBounds 9 (.int .u32 2)):=⟨_,rfl⟩
   have hWF:WfC cF:=by rw [hcF];exact PF.2
   rw [← hcF] at hF PF hR9 hRR
   have HR9:Hid _:=And.intro hR9 hRR
   clear hR9 hRR hrs
   obtain ⟨WF,hWFe⟩:∃ W,W=((setW9 wr (A+1) 19 (codS s d)).setCell ⟨A+1,64,none⟩ (.int .u32 1)).setCell ⟨A+1,9,none⟩ (.int .u32 2):=⟨_,rfl⟩
   rw [← hWFe] at PF kF pA2 kG
   clear hcF P9 k9 pA pX HD HCd HSo hsg h64 h66 pr kk
   unfold setW9 codS at hWFe
   simp only at hWFe
   have hld:=HL.out WF cF PF
   have hst:=VlP.put pA2 hWF
   have hld2:=HV.out.get (pA2.put hWF)
   have hsz:cF.size=n:=by rw [hWF.s,HV.out.s]
   have kH:Kp noB w (WF.setRow A cF):=kG.over (Kp.setRow (S:=fun j=>j=A) WF rfl cF) (fun j hj e=>absurd hj (by have:=HAw.out;omega))
   go_upto_region 12 with fail
   rw [← hWFe]
   clear hWFe
   go_wp2
   refine bodyPost_ret (v:=.agg cF) ?_ rfl ⟨cF,rfl,hWF,hF,HR9.out,kH⟩
   simp [results,Tryz.results44,go_sem,← HV.out.t,g1,g2,hld2]
def flatX (s d:Int):Cu:=⟨fun _=>0,0,2,fun i=>if i=1 then codS s d else datS s d,1,0,0,0,0,0,0,⟨0,false,0,0,0,false,0,false,false⟩,false,false,false⟩
theorem arr83 {cs:Array Value} (h:cs.size=83) {l:List Value} (hl:l.length=83) (f:∀ k,k < 83→cs[k]?=l[k]?):cs=l.toArray:=by
 apply Array.ext_getElem?
 intro k
 by_cases hk:k < 83
 ·rw [f k hk];simp
 ·rw [Array.getElem?_eq_none (by omega),Array.getElem?_eq_none (by simp [hl];omega)]
set_option maxHeartbeats 2000000 in
theorem flatX_of {cs:Array Value} {s d:Int} (wf:WfC cs) (h:CpC cs (flatP s d 1 0)) (h9:cs[9]?=some (.int .u32 2)) (hz:∀ k,(k < 9∨65≤k)→cs[k]?=cpuZ[k]?):cs=(flatX s d).cs:=by
 refine arr83 wf.s (by kernel_rfl) (fun k hk=>?_)
 have s0:=h.sg 0 (by decide)
 have s1:=h.sg 1 (by decide)
 have s2:=h.sg 2 (by decide)
 have s3:=h.sg 3 (by decide)
 have s4:=h.sg 4 (by decide)
 have s5:=h.sg 5 (by decide)
 match k,hk with
 | 0,_=>exact hz 0 (.inl (by decide))
 | 1,_=>exact hz 1 (.inl (by decide))
 | 2,_=>exact hz 2 (.inl (by decide))
 | 3,_=>exact hz 3 (.inl (by decide))
 | 4,_=>exact hz 4 (.inl (by decide))
 | 5,_=>exact hz 5 (.inl (by decide))
 | 6,_=>exact hz 6 (.inl (by decide))
 | 7,_=>exact hz 7 (.inl (by decide))
 | 8,_=>exact hz 8 (.inl (by decide))
 | 9,_=>exact h9
 | 10,_=>exact s0.a0
 | 11,_=>exact s0.a1
 | 12,_=>exact s0.a2
 | 13,_=>exact s0.a3
 | 14,_=>exact s0.a4
 | 15,_=>exact s0.a5
 | 16,_=>exact s0.a6
 | 17,_=>exact s0.a7
 | 18,_=>exact s0.a8
 | 19,_=>exact s1.a0
 | 20,_=>exact s1.a1
 | 21,_=>exact s1.a2
 | 22,_=>exact s1.a3
 | 23,_=>exact s1.a4
 | 24,_=>exact s1.a5
 | 25,_=>exact s1.a6
 | 26,_=>exact s1.a7
 | 27,_=>exact s1.a8
 | 28,_=>exact s2.a0
 | 29,_=>exact s2.a1
 | 30,_=>exact s2.a2
 | 31,_=>exact s2.a3
 | 32,_=>exact s2.a4
 | 33,_=>exact s2.a5
 | 34,_=>exact s2.a6
 | 35,_=>exact s2.a7
 | 36,_=>exact s2.a8
 | 37,_=>exact s3.a0
 | 38,_=>exact s3.a1
 | 39,_=>exact s3.a2
 | 40,_=>exact s3.a3
 | 41,_=>exact s3.a4
 | 42,_=>exact s3.a5
 | 43,_=>exact s3.a6
 | 44,_=>exact s3.a7
 | 45,_=>exact s3.a8
 | 46,_=>exact s4.a0
 | 47,_=>exact s4.a1
 | 48,_=>exact s4.a2
 | 49,_=>exact s4.a3
 | 50,_=>exact s4.a4
 | 51,_=>exact s4.a5
 | 52,_=>exact s4.a6
 | 53,_=>exact s4.a7
 | 54,_=>exact s4.a8
 | 55,_=>exact s5.a0
 | 56,_=>exact s5.a1
 | 57,_=>exact s5.a2
 | 58,_=>exact s5.a3
 | 59,_=>exact s5.a4
 | 60,_=>exact s5.a5
 | 61,_=>exact s5.a6
 | 62,_=>exact s5.a7
 | 63,_=>exact s5.a8
 | 64,_=>exact h.z
 | 65,_=>exact hz 65 (.inr (by decide))
 | 66,_=>exact h.t
 | 67,_=>exact hz 67 (.inr (by decide))
 | 68,_=>exact hz 68 (.inr (by decide))
 | 69,_=>exact hz 69 (.inr (by decide))
 | 70,_=>exact hz 70 (.inr (by decide))
 | 71,_=>exact hz 71 (.inr (by decide))
 | 72,_=>exact hz 72 (.inr (by decide))
 | 73,_=>exact hz 73 (.inr (by decide))
 | 74,_=>exact hz 74 (.inr (by decide))
 | 75,_=>exact hz 75 (.inr (by decide))
 | 76,_=>exact hz 76 (.inr (by decide))
 | 77,_=>exact hz 77 (.inr (by decide))
 | 78,_=>exact hz 78 (.inr (by decide))
 | 79,_=>exact hz 79 (.inr (by decide))
 | 80,_=>exact hz 80 (.inr (by decide))
 | 81,_=>exact hz 81 (.inr (by decide))
 | 82,_=>exact hz 82 (.inr (by decide))
 | n+83,hk=>omega
def stX0:Cu:={ flatX 0 0 with r:=fun i=>if i=4 then 36864 else 0,ip:=256,fl:=514,gb:=2048,gl:=47,ib:=3072,il:=511,tr:=⟨40,false,2560,103,9,true,0,true,false⟩ }
def edits (cs:Array Value):Array Value:=
 ((((((((((((((((cs.setIfInBounds 67 (.int .u32 2048)).setIfInBounds 68 (.int .u16 47)).setIfInBounds 69 (.int .u32 3072)).setIfInBounds 70 (.int .u16 511)).setIfInBounds 4 (.int .u32 36864)).setIfInBounds 8 (.int .u32 256)).setIfInBounds 9 (.int .u32 514)).setIfInBounds 71 (.int .u16 40)).setIfInBounds 72 (.bool false)).setIfInBounds 73 (.int .u32 2560)).setIfInBounds 74 (.int .u32 103)).setIfInBounds 75 (.int .i64 9)).setIfInBounds 76 (.bool true)).setIfInBounds 77 (.int .i64 0)).setIfInBounds 78 (.bool true)).setIfInBounds 79 (.bool false))
theorem edits_0:edits (flatX 0 0).cs=stX0.cs:=by kernel_rfl
def stX3:Cu:={ flatX 3 3 with r:=fun i=>if i=4 then 36864 else 0,ip:=256,fl:=514,gb:=2048,gl:=47,ib:=3072,il:=511,tr:=⟨40,false,2560,103,9,true,0,true,false⟩,sg:=fun i=>if i=1 then { codS 3 3 with sel:=27 } else { datS 3 3 with sel:=35 } }
theorem edits_3:((((((edits (flatX 3 3).cs).setIfInBounds 19 (.int .u16 27)).setIfInBounds 10 (.int .u16 35)).setIfInBounds 28 (.int .u16 35)).setIfInBounds 37 (.int .u16 35)).setIfInBounds 46 (.int .u16 35)).setIfInBounds 55 (.int .u16 35)=stX3.cs:=by kernel_rfl
theorem stX0_ok:stX0.Ok:=by
 refine ⟨⟨fun i hi=>?_,by unfold U32;decide,by unfold U32;decide,fun i hi=>?_,by unfold U32;decide,by unfold U32;decide,by unfold U32;decide,by unfold U32;decide,by unfold U16;decide,by unfold U32;decide,by unfold U16;decide,⟨⟨by decide,by decide,by decide,by decide,by decide,by decide,by decide,by decide⟩,by unfold I64;decide⟩⟩,by decide⟩
 ·match i,hi with
  | 0,_ | 1,_ | 2,_ | 3,_ | 4,_ | 5,_ | 6,_ | 7,_=>exact ⟨by decide,by decide⟩
  | n+8,hi=>omega
 ·match i,hi with
  | 0,_ | 1,_ | 2,_ | 3,_ | 4,_ | 5,_=>exact ⟨⟨by decide,by decide,by decide,by decide,by decide,by decide,by decide,by decide⟩,by unfold I64;decide⟩
  | n+6,hi=>omega
theorem stX3_ok:stX3.Ok:=by
 refine ⟨⟨fun i hi=>?_,by unfold U32;decide,by unfold U32;decide,fun i hi=>?_,by unfold U32;decide,by unfold U32;decide,by unfold U32;decide,by unfold U32;decide,by unfold U16;decide,by unfold U32;decide,by unfold U16;decide,⟨⟨by decide,by decide,by decide,by decide,by decide,by decide,by decide,by decide⟩,by unfold I64;decide⟩⟩,by decide⟩
 ·match i,hi with
  | 0,_ | 1,_ | 2,_ | 3,_ | 4,_ | 5,_ | 6,_ | 7,_=>exact ⟨by decide,by decide⟩
  | n+8,hi=>omega
 ·match i,hi with
  | 0,_ | 1,_ | 2,_ | 3,_ | 4,_ | 5,_=>exact ⟨⟨by decide,by decide,by decide,by decide,by decide,by decide,by decide,by decide⟩,by unfold I64;decide⟩
  | n+6,hi=>omega
end Go.Proofs.YtacgmoikegcopaaGreatDoor.Rm
