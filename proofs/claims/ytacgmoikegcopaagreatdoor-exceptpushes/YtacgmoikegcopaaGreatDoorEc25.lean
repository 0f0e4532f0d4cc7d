/- The bus and its devices: PtBase, PtMap, PtLeaf, PtTail. -/
import Derived.Test.YtacgmoikegcopaaGreatDoorEc01
import Derived.Test.YtacgmoikegcopaaGreatDoorEc24
import Derived.MapKept
import Derived.Carry
namespace Go.Proofs.YtacgmoikegcopaaGreatDoor.Pt
open Go.ChangeShapes Go.WideShapes Go.ChangeAt Go.RowKit
set_option linter.unusedVariables false
set_option maxRecDepth 20000
structure Kp (S:Nat→Prop) (w w':World):Prop where
 os:w'.os=w.os
 tape:w'.tape=w.tape
 output:w'.output=w.output
 size:w.heap.size≤w'.heap.size
 block:∀ k,k < w.heap.size→¬ S k→w'.heap[k]?=w.heap[k]?
theorem Kp.refl (S:Nat→Prop) (w:World):Kp S w w:=⟨rfl,rfl,rfl,Nat.le_refl _,fun _ _ _=>rfl⟩
theorem Kp.trans {S:Nat→Prop} {a b c:World} (h:Kp S a b) (k:Kp S b c):Kp S a c:=
 ⟨k.os.trans h.os,k.tape.trans h.tape,k.output.trans h.output,Nat.le_trans h.size k.size,fun i hi hs=>(k.block i (Nat.lt_of_lt_of_le hi h.size) hs).trans (h.block i hi hs)⟩
theorem Kp.alloc (S:Nat→Prop) (w:World) (o:Obj):Kp S w (w.alloc o):=
 ⟨rfl,rfl,rfl,by simp,fun k hk _=>Below.heap_alloc _ _ _ hk⟩
theorem Kp.setCell {S:Nat→Prop} (w:World) {p:Addr} (hp:S p.block) (u:Value):Kp S w (w.setCell p u):=
 ⟨rfl,rfl,rfl,by simp [World.setCell],fun k hk hs=>Below.heap_setCell _ _ _ _ (fun e=>hs (e ▸ hp))⟩
theorem Kp.drew {S:Nat→Prop} {w w':World} (h:Kp S w w'):Kp S w w'.drew:=⟨h.os,h.tape,h.output,h.size,h.block⟩
theorem Kp.drewN {S:Nat→Prop} {w w':World} (h:Kp S w w') (n:Nat):Kp S w (w'.drewN n):=⟨h.os,h.tape,h.output,h.size,h.block⟩
theorem Kp.over {S T:Nat→Prop} {a b c:World} (h:Kp T a b) (k:Kp S b c) (hS:∀ j,j < a.heap.size→S j→T j):Kp T a c:=
 ⟨k.os.trans h.os,k.tape.trans h.tape,k.output.trans h.output,Nat.le_trans h.size k.size,fun i hi hs=>(k.block i (Nat.lt_of_lt_of_le hi h.size) (fun g=>hs (hS i hi g))).trans (h.block i hi hs)⟩
theorem heap_lt {w:World} {b:Nat} {o:Obj} (h:w.heap[b]?=some o):b < w.heap.size:=(Array.getElem?_eq_some_iff.1 h).1
theorem heap_kept {S:Nat→Prop} {w w':World} {b:Nat} {o:Obj} (h:w.heap[b]?=some o) (k:Kp S w w') (hS:¬ S b):w'.heap[b]?=some o:=(k.block b (heap_lt h) hS).trans h
theorem heap_set {w:World} {b k:Nat} {v:Value} {c:Array Value} {t:TypeId} {fr:Nat × Nat} (h:w.heap[b]?=some (.cells c t fr)):(w.setCell ⟨b,k,none⟩ v).heap[b]?=some (.cells (c.setIfInBounds k v) t fr):=by
 simp [World.setCell,Array.getElem?_modify,h]
def noB (_:Nat):Prop:=False
def isB (B k:Nat):Prop:=k=B
theorem kpB (B:Nat) (w:World) (k:Nat) (v:Value):Kp (isB B) w (w.setCell ⟨B,k,none⟩ v):=Kp.setCell (S:=isB B) w (p:=⟨B,k,none⟩) rfl v
theorem heap_new (w:World) (o:Obj):(w.alloc o).heap[w.heap.size]?=some o:=(MapKept.heap_alloc w o).1
def cnC (c:Cn):Array Value:=#[.int .u8 c.mode,.int .u8 c.how,.int .u16 c.len,.int .u64 c.began,.bool c.st,.int .u8 c.fst,.bool c.wants,.bool c.upper,.int .u16 c.held,.bool c.holds]
structure PAt (w:World) (B:Nat) (f:Nat→Cn):Prop where
 blk:∃ cs,w.heap[B]?=some (.cells cs 226 (0,0))∧cs.size=30∧∀ i k,i < 3→k < 10→cs[10*i+k]?=(cnC (f i))[k]?
theorem PAt.kept {S:Nat→Prop} {w w':World} {B:Nat} {f:Nat→Cn} (h:PAt w B f) (k:Kp S w w') (hS:¬ S B):PAt w' B f:=by
 obtain ⟨cs,a,b⟩:=h.blk
 exact ⟨cs,heap_kept a k hS,b⟩
structure CAt (w:World) (B o:Nat) (f:Nat→Cn) (i:Nat) (c:Cn):Prop where
 pit:PAt w B (upd f i c)
 hi:i < 3
 ho:o=10*i
theorem CAt.kept {S:Nat→Prop} {w w':World} {B o:Nat} {f:Nat→Cn} {i:Nat} {c:Cn} (h:CAt w B o f i c) (k:Kp S w w') (hS:¬ S B):CAt w' B o f i c:=⟨h.pit.kept k hS,h.hi,h.ho⟩
section
variable {w:World} {B o:Nat} {f:Nat→Cn} {i:Nat} {c:Cn}
theorem CAt.cell (h:CAt w B o f i c) {k:Nat} (hk:k < 10) {v:Value} (e:(cnC c)[k]?=some v):w.cell? ⟨B,o+k,none⟩=some v:=by
 obtain ⟨cs,a,b,d⟩:=h.pit.blk
 have:=d i k h.hi hk
 rw [upd_at] at this
 rw [h.ho]
 simp [World.cell?,a,this,e]
theorem CAt.c0 (h:CAt w B o f i c):w.cell? ⟨B,o,none⟩=some (.int .u8 c.mode):=h.cell (k:=0) (by decide) rfl
theorem CAt.c1 (h:CAt w B o f i c):w.cell? ⟨B,o+1,none⟩=some (.int .u8 c.how):=h.cell (k:=1) (by decide) rfl
theorem CAt.c2 (h:CAt w B o f i c):w.cell? ⟨B,o+2,none⟩=some (.int .u16 c.len):=h.cell (k:=2) (by decide) rfl
theorem CAt.c3 (h:CAt w B o f i c):w.cell? ⟨B,o+3,none⟩=some (.int .u64 c.began):=h.cell (k:=3) (by decide) rfl
theorem CAt.c4 (h:CAt w B o f i c):w.cell? ⟨B,o+4,none⟩=some (.bool c.st):=h.cell (k:=4) (by decide) rfl
theorem CAt.c5 (h:CAt w B o f i c):w.cell? ⟨B,o+5,none⟩=some (.int .u8 c.fst):=h.cell (k:=5) (by decide) rfl
theorem CAt.c6 (h:CAt w B o f i c):w.cell? ⟨B,o+6,none⟩=some (.bool c.wants):=h.cell (k:=6) (by decide) rfl
theorem CAt.c7 (h:CAt w B o f i c):w.cell? ⟨B,o+7,none⟩=some (.bool c.upper):=h.cell (k:=7) (by decide) rfl
theorem CAt.c8 (h:CAt w B o f i c):w.cell? ⟨B,o+8,none⟩=some (.int .u16 c.held):=h.cell (k:=8) (by decide) rfl
theorem CAt.c9 (h:CAt w B o f i c):w.cell? ⟨B,o+9,none⟩=some (.bool c.holds):=h.cell (k:=9) (by decide) rfl
theorem CAt.fz (h:CAt w B o f i c) (j:Nat):w.frozen? ⟨B,j,none⟩=false:=by
 obtain ⟨cs,a,b,d⟩:=h.pit.blk
 simp [World.frozen?,a]
theorem PAt.lt (h:PAt w B f):B < w.heap.size:=by
 obtain ⟨cs,a,b,d⟩:=h.blk
 exact heap_lt a
theorem CAt.drew (h:CAt w B o f i c):CAt w.drew B o f i c:=h.kept ((Kp.refl noB _).drew) id
theorem CAt.alloc (h:CAt w B o f i c) (b:Obj):CAt (w.alloc b) B o f i c:=h.kept (Kp.alloc noB _ _) id
theorem CAt.set (h:CAt w B o f i c) {k:Nat} (hk:k < 10) (v:Value) (c':Cn) (e:(cnC c).setIfInBounds k v=cnC c'):CAt (w.setCell ⟨B,o+k,none⟩ v) B o f i c':=by
 obtain ⟨cs,a,b,d⟩:=h.pit.blk
 have hi:=h.hi
 have ho:=h.ho
 refine ⟨⟨_,heap_set a,by simp [b],?_⟩,h.hi,h.ho⟩
 intro j l hj hl
 subst ho
 by_cases ej:j=i
 ·subst ej
  rw [upd_at,← e]
  have:=d j l hj hl
  rw [upd_at] at this
  by_cases el:l=k
  ·subst el
   rw [Array.getElem?_setIfInBounds_self,Array.getElem?_setIfInBounds_self]
   have s1:(cnC c).size=10:=rfl
   rw [if_pos (by omega),if_pos (by omega)]
  ·rw [Array.getElem?_setIfInBounds_ne (by omega),Array.getElem?_setIfInBounds_ne (by omega)]
   exact this
 ·rw [upd_ne _ _ ej,Array.getElem?_setIfInBounds_ne (by omega)]
  have:=d j l hj hl
  rw [upd_ne _ _ ej] at this
  exact this
theorem CAt.set0 (h:CAt w B o f i c) (v:Value) (c':Cn) (e:(cnC c).setIfInBounds 0 v=cnC c'):CAt (w.setCell ⟨B,o,none⟩ v) B o f i c':=h.set (k:=0) (by decide) v c' e
end
theorem keyT:Tryz.prog.underlying 5=some (.int .u8):=by kernel_rfl
theorem mapT:Tryz.prog.underlying 314=some (.map 5 312):=by kernel_rfl
theorem alloc_set (w:World) (o o':Obj):({ w.alloc o with heap:=(w.alloc o).heap.setIfInBounds w.heap.size o' }:World)=w.alloc o':=by
 have e:(w.alloc o).heap.setIfInBounds w.heap.size o'=(w.alloc o').heap:=by
  show (w.heap.push o).setIfInBounds w.heap.size o'=w.heap.push o'
  apply Array.ext
  ·simp
  ·intro i h1 h2
   have h3:i < w.heap.size+1:=by simpa using h2
   by_cases h:w.heap.size=i
   ·subst h;simp
   ·have h4:i < w.heap.size:=by omega
    rw [Array.getElem_setIfInBounds_ne (h:=h),Array.getElem_push_lt h4,Array.getElem_push_lt h4]
    simp;omega
 rw [e]
 rfl
theorem put_new (w:World) (es:Array MapEntry) (n:Nat) (i:Int) (v:Value) (hf:Instr.findNow (.int .u8) (.int .u8 i) es.toList 0=some none):
  (Instr.mapUpdate 314 (.map (some w.heap.size)) (.int .u8 i) v).run Tryz.prog (w.alloc (.map es n))=.ok () (w.alloc (.map (es.push ⟨.int .u8 i,v,n⟩) (n+1))):=by
 have hb:(w.alloc (.map es n)).heap[w.heap.size]?=some (.map es n):=(MapKept.heap_alloc w (.map es n)).1
 have hc:=MapKept.run_checkKey (P:=Tryz.prog) (w:=w.alloc (.map es n)) keyT (k:=.int .u8 i) (by simp [MapKept.IsKey]) false 9999
 have hd:=MapKept.run_findKey (P:=Tryz.prog) (w:=w.alloc (.map es n)) keyT hf
 have hs:=MapKept.run_setObj_map (P:=Tryz.prog) (.map (es.push ⟨.int .u8 i,v,n⟩) (n+1)) hb
 rw [alloc_set] at hs
 simp [Instr.mapUpdate,run_underlying mapT,MapKept.run_getObj_map hb,hc,hd,hs,Result.andThen]
theorem look_any (b:Nat) (w:World) (es:Array MapEntry) (n:Nat) (hb:w.heap[b]?=some (.map es n)) (i:Int) (r:Option (Nat × Value)) (hf:Instr.findNow (.int .u8) (.int .u8 i) es.toList 0=some r):
  (Instr.lookup 314 (.map (some b)) (.int .u8 i) true).run Tryz.prog w=.ok (match r with | some (_,v)=>.tuple #[v,.bool true] | none=>.tuple #[.agg #[.nilFunc,.nilFunc],.bool false]) w:=by
 have hc:=MapKept.run_checkKey (P:=Tryz.prog) (w:=w) keyT (k:=.int .u8 i) (by simp [MapKept.IsKey]) es.isEmpty 9999
 have hd:=MapKept.run_findKey (P:=Tryz.prog) (w:=w) keyT hf
 cases r with
 | none=>simp [Instr.lookup,run_underlying mapT,MapKept.run_getObj_map hb,hc,hd,Result.andThen]
 | some p=>simp [Instr.lookup,run_underlying mapT,MapKept.run_getObj_map hb,hc,hd,Result.andThen]
def fL:Value:=.func (.func 265) #[] #[]
def fV0:Value:=.func (.func 266) #[] #[]
def fL0:Value:=.func (.func 267) #[] #[]
def fL2 (b:Nat):Value:=.func (.func 268) #[] #[.pointer (some ⟨b,0,none⟩)]
def fL3:Value:=.func (.func 269) #[] #[]
def mdEs (b:Nat):Array MapEntry:=#[⟨.int .u8 0,.agg #[fV0,fL0],0⟩,⟨.int .u8 2,.agg #[fL,fL2 b],1⟩,⟨.int .u8 3,.agg #[fL,fL3],2⟩]
def mdL:Obj:=.cells #[fL] 309
theorem modes_any (w:World):
  Calls Tryz.prog 226 #[] w fun e w'=>e=.returned (.map (some (w.heap.size+1)))∧w'=(w.alloc mdL).alloc (.map (mdEs w.heap.size) 3):=by
 unfold mdL mdEs fL fV0 fL0 fL2 fL3
 have hmm:=@run_makeMap Tryz.prog
 have s1:(w.alloc (.cells #[.func (.func 265) #[] #[]] 309)).heap.size=w.heap.size+1:=by simp
 have p0:=put_new (w.alloc (.cells #[.func (.func 265) #[] #[]] 309)) #[] 0 0 (.agg #[.func (.func 266) #[] #[],.func (.func 267) #[] #[]]) (by rfl)
 have p1:=put_new (w.alloc (.cells #[.func (.func 265) #[] #[]] 309)) #[⟨.int .u8 0,.agg #[.func (.func 266) #[] #[],.func (.func 267) #[] #[]],0⟩] 1 2 (.agg #[.func (.func 265) #[] #[],.func (.func 268) #[] #[.pointer (some ⟨w.heap.size,0,none⟩)]]) (by rfl)
 have p2:=put_new (w.alloc (.cells #[.func (.func 265) #[] #[]] 309)) #[⟨.int .u8 0,.agg #[.func (.func 266) #[] #[],.func (.func 267) #[] #[]],0⟩,⟨.int .u8 2,.agg #[.func (.func 265) #[] #[],.func (.func 268) #[] #[.pointer (some ⟨w.heap.size,0,none⟩)]],1⟩] 2 3 (.agg #[.func (.func 265) #[] #[],.func (.func 269) #[] #[]]) (by rfl)
 rw [s1] at p0 p1 p2
 simp only [List.push_toArray,List.cons_append,List.nil_append,Nat.zero_add,Nat.reduceAdd] at p0 p1 p2
 go_enter Tryz.func226,Tryz.ntmps226
 go_wp2
 go_ret
 exact ⟨rfl,rfl⟩
theorem rem_bd {l n:Int} (l0:1≤l):0≤n%l∧n%l < l:=⟨Int.emod_nonneg _ (by omega),Int.emod_lt_of_pos _ (by omega)⟩
theorem left_any (w:World) (l n:Int) (l0:1≤l) (l1:l≤65536) (n0:0≤n):Calls Tryz.prog 265 #[.int .u64 l,.int .u64 n] w fun e w'=>e=.returned (.int .u64 (l - n%l))∧w'=w:=by
 have h:(l==0)=false:=by simp;omega
 have r:=rem_bd (n:=n) l0
 go_enter Tryz.func265,Tryz.ntmps265
 go_wp2
 go_ret
 exact ⟨ret_int (by omega),rfl⟩
theorem line0_any (w:World) (l n:Int):Calls Tryz.prog 267 #[.int .u64 l,.int .u64 n] w fun e w'=>e=.returned (.bool (decide (l≤n)))∧w'=w:=by
 go_enter Tryz.func267,Tryz.ntmps267
 go_wp2
 go_ret
 exact ⟨rfl,rfl⟩
theorem line2_any (w:World) (l n:Int) (b:Nat) (hb:w.cell? ⟨b,0,none⟩=some fL) (l0:1≤l) (l1:l≤65536) (n0:0≤n):Calls Tryz.prog 268 #[.int .u64 l,.int .u64 n,.pointer (some ⟨b,0,none⟩)] w fun e w'=>e=.returned (.bool (n%l != l - 1))∧w'=w:=by
 have H:Hid _:=left_any w l n l0 l1 n0
 have r:=rem_bd (n:=n) l0
 have e1:(l - n%l != 1)=(n%l != l - 1):=by
  by_cases e:n%l=l - 1
  ·rw [e];simp;omega
  ·have e':¬ l - n%l=1:=by omega
   rw [bne,bne,beq_false_of_ne e',beq_false_of_ne e]
 unfold fL at hb
 go_enter Tryz.func268,Tryz.ntmps268
 go_wp2_with fail
 refine Calls.mono H.out ?_;rintro e w1 ⟨rfl,hw⟩;replace hw:=hw.symm;subst hw
 go_wp2
 go_ret
 exact ⟨rfl,rfl⟩
theorem line3_any (w:World) (l n:Int) (l0:1≤l) (l1:l≤65536) (n0:0≤n):Calls Tryz.prog 269 #[.int .u64 l,.int .u64 n] w fun e w'=>e=.returned (.bool (decide (n%l < (l+1) / 2)))∧w'=w:=by
 have h:(l==0)=false:=by simp;omega
 have r:=rem_bd (n:=n) l0
 go_enter Tryz.func269,Tryz.ntmps269
 go_wp2
 go_ret
 exact ⟨ret_bool (by congr 1),rfl⟩
section
variable {w:World} {B o:Nat} {f:Nat→Cn} {i:Nat} {c:Cn}
theorem whole_ok (h:CAt w B o f i c) (l1:0≤c.len∧c.len < 65536):Calls Tryz.prog 227 #[.pointer (some ⟨B,o,none⟩)] w fun e w'=>e=.returned (.int .u64 c.whole)∧w'=w:=by
 have c2:=h.c2
 obtain ⟨l0,l1⟩:=l1
 unfold Cn.whole
 by_cases e:c.len=0
 ·rw [if_pos e]
  rw [e] at c2
  go_enter Tryz.func227,Tryz.ntmps227
  go_wp2
  go_ret
  exact ⟨rfl,rfl⟩
 ·rw [if_neg e]
  have e':(c.len==0)=false:=by simp [e]
  go_enter Tryz.func227,Tryz.ntmps227
  go_wp2
  go_ret
  exact ⟨ret_int (by omega),rfl⟩
end
def mdW (w:World):World:=(w.alloc mdL).alloc (.map (mdEs w.heap.size) 3)
theorem mdW_size (w:World):(mdW w).heap.size=w.heap.size+2:=by simp [mdW]
theorem mdW_kp (w:World):Kp noB w (mdW w):=(Kp.alloc _ _ _).trans (Kp.alloc _ _ _)
theorem mdW_map (w:World):(mdW w).heap[w.heap.size+1]?=some (.map (mdEs w.heap.size) 3):=by
 have:=heap_new (w.alloc mdL) (.map (mdEs w.heap.size) 3)
 rw [show (w.alloc mdL).heap.size=w.heap.size+1 by simp] at this
 exact this
def mdR (b:Nat) (m:Int):Value:=
 if m=0 then .tuple #[.agg #[fV0,fL0],.bool true]
 else if m=2 then .tuple #[.agg #[fL,fL2 b],.bool true]
 else if m=3 then .tuple #[.agg #[fL,fL3],.bool true]
 else .tuple #[.agg #[.nilFunc,.nilFunc],.bool false]
theorem look_md (b q:Nat) (w:World) (hb:w.heap[b]?=some (.map (mdEs q) 3)) (m:Int):(Instr.lookup 314 (.map (some b)) (.int .u8 m) true).run Tryz.prog w=.ok (mdR q m) w:=by
 unfold mdR
 by_cases e0:m=0
 ·subst e0
  rw [if_pos rfl]
  exact look_any b w (mdEs q) 3 hb 0 (some (0,.agg #[fV0,fL0])) rfl
 ·rw [if_neg e0]
  by_cases e2:m=2
  ·subst e2
   rw [if_pos rfl]
   exact look_any b w (mdEs q) 3 hb 2 (some (1,.agg #[fL,fL2 q])) rfl
  ·rw [if_neg e2]
   by_cases e3:m=3
   ·subst e3
    rw [if_pos rfl]
    exact look_any b w (mdEs q) 3 hb 3 (some (2,.agg #[fL,fL3])) rfl
   ·rw [if_neg e3]
    refine look_any b w (mdEs q) 3 hb m none ?_
    have a0:(m==0)=false:=by simp [e0]
    have a2:(m==2)=false:=by simp [e2]
    have a3:(m==3)=false:=by simp [e3]
    simp [mdEs,Instr.findNow,Instr.sameNow,a0,a2,a3]
theorem look_w (W:World) (m:Int):(Instr.lookup 314 (.map (some (W.heap.size+1))) (.int .u8 m) true).run Tryz.prog (mdW W)=.ok (mdR W.heap.size m) (mdW W):=look_md _ _ _ (mdW_map W) m
theorem look_wa (W:World) (m:Int) (b:Obj):(Instr.lookup 314 (.map (some (W.heap.size+1))) (.int .u8 m) true).run Tryz.prog ((mdW W).alloc b)=.ok (mdR W.heap.size m) ((mdW W).alloc b):=look_md _ _ _ (heap_kept (mdW_map W) (Kp.alloc noB _ _) id) m
section
variable {w:World} {B o:Nat} {f:Nat→Cn} {i:Nat} {c:Cn}
theorem CAt.md (h:CAt w B o f i c):CAt (mdW w) B o f i c:=h.kept (mdW_kp w) id
end
def m0:Obj:=.cells #[.nilFunc,.nilFunc] 312
theorem m0_at (w:World):(mdW (w.alloc m0).drew).heap[w.heap.size]?=some m0:=heap_kept (S:=noB) (heap_new w m0) ((Kp.refl noB (w.alloc m0)).drew.trans (mdW_kp _)) id
theorem m0_c (w:World) {k:Nat} (hk:k < 2):(mdW (w.alloc m0).drew).cell? ⟨w.heap.size,k,none⟩=some .nilFunc:=by
 have h:=m0_at w
 generalize mdW (w.alloc m0).drew=W at h ⊢
 unfold m0 at h
 rcases (by omega:k=0∨k=1) with rfl | rfl<;>simp [World.cell?,h]
theorem m0_z (w:World) (k:Nat):(mdW (w.alloc m0).drew).frozen? ⟨w.heap.size,k,none⟩=false:=by
 have h:=m0_at w
 generalize mdW (w.alloc m0).drew=W at h ⊢
 unfold m0 at h
 simp [World.frozen?,h]
theorem mdW_left (w:World):(mdW w).cell? ⟨w.heap.size,0,none⟩=some fL:=by
 have h:(mdW w).heap[w.heap.size]?=some mdL:=heap_kept (S:=noB) (heap_new w mdL) (Kp.alloc _ _ _) id
 generalize mdW w=W at h ⊢
 unfold mdL at h
 simp [World.cell?,h]
structure Tl (w W:World) (q b:Nat) (v l:Value):Prop where
 x0:W.cell? ⟨q,0,none⟩=some v
 x1:W.cell? ⟨q,1,none⟩=some l
 left:W.cell? ⟨b,0,none⟩=some fL
 kp:Kp noB w W
theorem tlA (w:World) (v l:Value):Tl w ((mdW w.drew).alloc (.cells #[v,l] 312)) (w.heap.size+2) w.heap.size v l:=by
 have h:((mdW w.drew).alloc (.cells #[v,l] 312)).heap[w.heap.size+2]?=some (.cells #[v,l] 312):=by
  have:=heap_new (mdW w.drew) (.cells #[v,l] 312)
  rw [mdW_size] at this
  exact this
 refine ⟨by simp [World.cell?,h],by simp [World.cell?,h],?_,((Kp.refl noB w).drew.trans (mdW_kp _)).trans (Kp.alloc _ _ _)⟩
 have k:=mdW_left w.drew
 have s:=mdW_size w.drew
 generalize mdW w.drew=W at k s ⊢
 rw [World.cell?_alloc_lt _ _ _ (by rw [s];show w.heap.size < w.heap.size+2;omega)]
 exact k
theorem tlB (w:World) (v l:Value):Tl w (((mdW (w.alloc m0).drew).setCell ⟨w.heap.size,0,none⟩ v).setCell ⟨w.heap.size,1,none⟩ l) w.heap.size (w.heap.size+1) v l:=by
 have h:=m0_at w
 have k:=mdW_left (w.alloc m0).drew
 have p:=mdW_kp (w.alloc m0).drew
 have sz:w.heap.size+2≤(mdW (w.alloc m0).drew).heap.size:=by rw [mdW_size];simp
 rw [show (w.alloc m0).drew.heap.size=w.heap.size+1 by simp] at k
 generalize mdW (w.alloc m0).drew=W at h k p sz ⊢
 unfold m0 at h p
 have e:=heap_set (k:=1) (v:=l) (heap_set (k:=0) (v:=v) h)
 have g:Kp (isB w.heap.size) W ((W.setCell ⟨w.heap.size,0,none⟩ v).setCell ⟨w.heap.size,1,none⟩ l):=(kpB _ _ _ _).trans (kpB _ _ _ _)
 refine ⟨?_,?_,?_,?_⟩
 ·unfold World.cell?;rw [e];rfl
 ·unfold World.cell?;rw [e];rfl
 ·refine (World.cell?_of_block (w:=W) (g.block (w.heap.size+1) ?_ (fun e=>by unfold isB at e;omega))).trans k
  have:=p.size
  have s2:w.heap.size+2≤W.heap.size:=sz
  omega
 ·exact (((Kp.alloc noB w _).drew).trans p).over g (fun j hj e=>by unfold isB at e;omega)
end Go.Proofs.YtacgmoikegcopaaGreatDoor.Pt
