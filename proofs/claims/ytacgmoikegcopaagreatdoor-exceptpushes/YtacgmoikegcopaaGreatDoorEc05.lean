/- The bus and its devices: SegMap, SegIns, SegRights, SegLeaf, SegReach, VmBase, VmCpu. -/
import Derived.Test.YtacgmoikegcopaaGreatDoorEc04
import Derived.MapKept
import Derived.Carry
import Derived.OrdersHeld
import Derived.Laws.StructEq
import Derived.Recover
import Derived.Deep.Cut
import Derived.Deep.RegionHeld3
import Derived.BigQuiet
import Derived.Laws.CopyRow
import Derived.Deep.MidRow
namespace Go.Proofs.YtacgmoikegcopaaGreatDoor.Sg
open Go.ChangeShapes Go.WideShapes Go.ChangeAt Go.RowKit
set_option linter.unusedVariables false
set_option maxRecDepth 20000
def kv (s:Bool) (k:Int):Value:=.agg #[.bool s,.int .i64 k]
def rv:Nat→Value
 | 0=>.agg #[.bool false,.bool false,.bool true,.bool false,.bool false]
 | 1=>.agg #[.bool false,.bool false,.bool true,.bool true,.bool false]
 | 2=>.agg #[.bool false,.bool false,.bool true,.bool false,.bool true]
 | 3=>.agg #[.bool false,.bool false,.bool true,.bool true,.bool true]
 | 4=>.agg #[.bool true,.bool false,.bool false,.bool false,.bool false]
 | 5=>.agg #[.bool true,.bool false,.bool true,.bool false,.bool false]
 | 6=>.agg #[.bool true,.bool true,.bool false,.bool false,.bool false]
 | 7=>.agg #[.bool true,.bool true,.bool true,.bool false,.bool false]
 | _=>.agg #[.bool false,.bool false,.bool false,.bool false,.bool false]
theorem mapT:Tryz.prog.underlying 320=some (.map 319 284):=by kernel_rfl
theorem zeroT (w:World):(zeroValue 284).run Tryz.prog w=.ok (rv 8) w:=by kernel_rfl
theorem chk (w:World) (e s:Bool) (k:Int):(Instr.checkKey e 10000 319 (kv s k)).run Tryz.prog w=.ok () w:=by kernel_rfl
theorem eqK (w:World) (s s':Bool) (k k':Int):(Op.equal 319 (kv s k) (kv s' k')).run Tryz.prog w=.ok (decide (s=s'∧k=k')) w:=by
 unfold Op.equal Op.maxDepth
 have u3:=Tryz.underlying3
 have a3:=Tryz.isAgg3
 have z3:=Tryz.sizeOf3
 have u4:=Tryz.underlying4
 have a4:=Tryz.isAgg4
 have z4:=Tryz.sizeOf4
 unfold kv
 rw [run_equalIn_struct w 9999 319 _ _ (by kernel_rfl) (by kernel_rfl)]
 simp only [Program.fieldsOf,Tryz.underlying319]
 go_simp
 by_cases h1:s=s'
 ·by_cases h2:k=k'
  ·simp [h1,h2]
  ·simp [h1,h2]
 ·simp [h1]
theorem alloc_set (w:World) (o o':Obj):({ w.alloc o with heap:=(w.alloc o).heap.setIfInBounds w.heap.size o' }:World)=w.alloc o':=by
 have e:(w.alloc o).heap.setIfInBounds w.heap.size o'=(w.alloc o').heap:=by
  show (w.heap.push o).setIfInBounds w.heap.size o'=w.heap.push o'
  apply Array.ext
  ·simp
  ·intro i h1 h2
   have h3:i < w.heap.size+1:=by simpa using h2
   by_cases h:w.heap.size=i
   ·subst h;simp
   ·have h4:i < w.heap.size:=by omega
    rw [Array.getElem_setIfInBounds_ne (h:=h),Array.getElem_push_lt h4,Array.getElem_push_lt h4]
    simp;omega
 rw [e]
 rfl
def ents:Nat→List (Int × Nat)→List MapEntry
 | _,[]=>[]
 | i,e::r=>⟨kv false e.1,rv e.2,i⟩::ents (i+1) r
theorem ents_app:∀ (L:List (Int × Nat)) (e:Int × Nat) (i:Nat),ents i (L++[e])=ents i L++[⟨kv false e.1,rv e.2,i+L.length⟩]
 | [],e,i=>rfl
 | x::r,e,i=>by
  simp only [List.cons_append,ents,ents_app r e (i+1),List.length_cons]
  rw [show i+1+r.length=i+(r.length+1) by omega]
def look (L:List (Int × Nat)) (i:Int):Option Nat:=match L with | []=>none | e::r=>if i=e.1 then some e.2 else look r i
def num:Option Nat→Nat
 | some n=>n
 | none=>8
def rvP:Option (Nat × Value)→Value
 | some (_,v)=>v
 | none=>rv 8
theorem ask (w:World) (s:Bool) (k:Int):∀ (L:List (Int × Nat)) (j c:Nat),∃ r,(Instr.findAsking 319 (kv s k) (ents j L) c).run Tryz.prog w=.ok r w∧rvP r=rv (num (if s then none else look L k))∧((∀ e ∈ L,e.1≠k)→r=none)
 | [],j,c=>⟨none,by simp [ents,Instr.findAsking],by cases s<;>simp [look,rvP,num],fun _=>rfl⟩
 | e::l,j,c=>by
  obtain ⟨r,h1,h2,h3⟩:=ask w s k l (j+1) (c+1)
  by_cases he:s=false∧k=e.1
  ·obtain ⟨rfl,rfl⟩:=he
   refine ⟨some (c,rv e.2),?_,by simp [look,rvP,num],fun h=>absurd rfl (h e (by simp))⟩
   simp [ents,Instr.findAsking,eqK,Result.andThen]
  ·refine ⟨r,?_,?_,fun h=>h3 fun x hx=>h x (by simp [hx])⟩
   ·simp [ents,Instr.findAsking,eqK,he,Result.andThen,h1]
   ·rw [h2]
    cases s
    ·have:¬ k=e.1:=fun x=>he ⟨rfl,x⟩
     simp [look,this]
    ·rfl
theorem fnd (w:World) (s:Bool) (k:Int) (L:List (Int × Nat)) (j:Nat):∃ r,(Instr.findKey 319 (kv s k) (ents j L)).run Tryz.prog w=.ok r w∧rvP r=rv (num (if s then none else look L k))∧((∀ e ∈ L,e.1≠k)→r=none):=by
 obtain ⟨r,h1,h2,h3⟩:=ask w s k L j 0
 refine ⟨r,?_,h2,h3⟩
 cases L with
 | nil=>
  have:r=none:=h3 (by simp)
  subst this
  simp [Instr.findKey,Tryz.underlying319,ents,Instr.findNow,Result.andThen,run_underlying]
 | cons e l=>
  have hn:∀ fs,Instr.findNow (.struct fs) (kv s k) (ents j (e::l)) 0=none:=fun fs=>by simp [ents,Instr.findNow,Instr.sameNow]
  simp [Instr.findKey,run_underlying Tryz.underlying319,hn,h1,Result.andThen]
def mp (w:World) (L:List (Int × Nat)):World:=w.alloc (.map (ents 0 L).toArray L.length)
def md (w:World) (L:List (Int × Nat)):World:=(mp w L).drew
theorem put_mp (w:World) (L:List (Int × Nat)) (k:Int) (n:Nat) (h:∀ e ∈ L,e.1≠k):
  (Instr.mapUpdate 320 (.map (some w.heap.size)) (kv false k) (rv n)).run Tryz.prog (mp w L)=.ok () (mp w (L++[(k,n)])):=by
 have hb:(mp w L).heap[w.heap.size]?=some (.map (ents 0 L).toArray L.length):=(MapKept.heap_alloc w _).1
 obtain ⟨r,h1,_,h3⟩:=fnd (mp w L) false k L 0
 have hr:=h3 h
 subst hr
 have hs:=MapKept.run_setObj_map (P:=Tryz.prog) (.map ((ents 0 L).toArray.push ⟨kv false k,rv n,L.length⟩) (L.length+1)) hb
 have e:mp w (L++[(k,n)])=w.alloc (.map ((ents 0 L).toArray.push ⟨kv false k,rv n,L.length⟩) (L.length+1)):=by
  unfold mp
  rw [ents_app]
  simp
 rw [e]
 have hs':(setObj w.heap.size (.map ((ents 0 L).toArray.push ⟨kv false k,rv n,L.length⟩) (L.length+1))).run Tryz.prog (mp w L)=.ok () (w.alloc (.map ((ents 0 L).toArray.push ⟨kv false k,rv n,L.length⟩) (L.length+1))):=by
  rw [hs]
  unfold mp
  rw [alloc_set]
 simp [Instr.mapUpdate,run_underlying mapT,MapKept.run_getObj_map hb,chk,h1,Result.andThen]
 simpa using hs'
theorem look_md (w:World) (L:List (Int × Nat)) (s:Bool) (k:Int):
  (Instr.lookup 320 (.map (some w.heap.size)) (kv s k) false).run Tryz.prog (md w L)=.ok (rv (num (if s then none else look L k))) (md w L):=by
 have hb:(md w L).heap[w.heap.size]?=some (.map (ents 0 L).toArray L.length):=(MapKept.heap_alloc w _).1
 obtain ⟨r,h1,h2,_⟩:=fnd (md w L) s k L 0
 have hz:=zeroT (md w L)
 cases r with
 | none=>simp [Instr.lookup,run_underlying mapT,MapKept.run_getObj_map hb,chk,h1,hz,Result.andThen,← h2,rvP]
 | some p=>simp [Instr.lookup,run_underlying mapT,MapKept.run_getObj_map hb,chk,h1,Result.andThen,← h2,rvP]
theorem look_mem:∀ (L:List (Int × Nat)) (i:Int) (n:Nat),(L.map Prod.fst).Nodup→(look L i=some n↔(i,n) ∈ L)
 | [],i,n,_=>by simp [look]
 | x::r,i,n,h=>by
  have hr:(r.map Prod.fst).Nodup:=(List.nodup_cons.1 (by simpa using h)).2
  have hx:x.1 ∉ r.map Prod.fst:=(List.nodup_cons.1 (by simpa using h)).1
  by_cases hi:i=x.1
  ·simp only [look,if_pos hi]
   constructor
   ·intro e
    injection e with e
    rw [hi,← e]
    simp
   ·intro e
    rcases List.mem_cons.1 e with e | e
    ·rw [← e]
    ·exact absurd (List.mem_map.2 ⟨(i,n),e,hi⟩) hx
  ·simp only [look,if_neg hi]
   rw [look_mem r i n hr]
   simp
   intro e
   exact absurd (by rw [← e]) hi
theorem look_same {L L':List (Int × Nat)} (h:∀ e,e ∈ L↔e ∈ L') (n1:(L.map Prod.fst).Nodup) (n2:(L'.map Prod.fst).Nodup) (i:Int):look L i=look L' i:=by
 cases h1:look L i with
 | some n=>exact ((look_mem L' i n n2).2 ((h _).1 ((look_mem L i n n1).1 h1))).symm
 | none=>
  cases h2:look L' i with
  | none=>rfl
  | some n=>rw [(look_mem L i n n1).2 ((h _).2 ((look_mem L' i n n2).1 h2))] at h1;cases h1
theorem then_act {K:Act→World→Prop} {Q:Exit→Act→World→Prop} {a b:Act} {w:World} (e:b=a) (h:Exit.then K Q .normal a w):Exit.then K Q .normal b w:=e ▸ h
def lst (F:Array Bool) (J:List Nat):Array Bool:=(List.range F.size).map (fun i=>F.getD i false&&!J.contains i) |>.toArray
theorem lst_size (F:Array Bool) (J:List Nat):(lst F J).size=F.size:=by simp [lst]
theorem lst_get (F:Array Bool) (J:List Nat) (i:Nat) (d:Bool) (hi:i < F.size):(lst F J).getD i d=(F.getD i false&&!J.contains i):=by
 unfold lst
 simp [Array.getD,hi]
theorem lst_set (F:Array Bool) (J:List Nat) (i:Nat) (hi:i < F.size) (hF:F.getD i false=true):(lst F J).setIfInBounds i true=lst F (J.filter (·≠i)):=by
 apply Array.ext
 ·simp [lst]
 ·intro j h1 h2
  have hj:j < F.size:=by simpa [lst] using h2
  have e1:((lst F J).setIfInBounds i true)[j]=if i=j then true else (lst F J)[j]'(by rw [lst_size];exact hj):=by
   rw [Array.getElem_setIfInBounds]
  rw [e1]
  have g:∀ K:List Nat,∀ h:j < (lst F K).size,(lst F K)[j]=(F.getD j false&&!K.contains j):=fun K h=>by simp [lst]
  rw [g,g]
  by_cases e:i=j
  ·subst e
   simp [hF]
  ·rw [if_neg e]
   have:(J.filter (·≠i)).contains j=J.contains j:=by
    have e':¬ j=i:=fun x=>e x.symm
    simp [List.contains_eq_mem,List.mem_filter,e']
   rw [this]
theorem lst_nil (F:Array Bool):lst F []=F:=by
 apply Array.ext
 ·simp [lst]
 ·intro j h1 h2
  simp [lst,Array.getElem?_eq_getElem h2]
section
variable {P:Program} {md':Region.Mode} {ops:Array Oper} {Q:Exit→Act→World→Prop} {S:World→Prop}
theorem mem_ready {listed:Array Bool} {i:Nat}:i ∈ Region.ready md' ops listed↔i < ops.size∧listed.getD i true=false∧((ops[i]?).map (·.after.all fun e=>!Region.binds md' e||listed.getD e.on false)).getD false=true:=by
 simp [Region.ready]
theorem ins_phase (a:Act) (w0:World) (hS:∀ L,S (md w0 L)) (ent:Nat→Int × Nat) (idx:List Nat) (F:Array Bool) (hsz:F.size=ops.size)
  (hkeys:∀ i ∈ idx,∀ j ∈ idx,(ent i).1=(ent j).1→i=j)
  (hF:∀ i ∈ idx,F.getD i false=true)
  (hdep:∀ i ∈ idx,i < ops.size∧∃ o,ops[i]?=some o∧∀ e ∈ o.after,Region.binds md' e=true→e.on < ops.size∧F.getD e.on false=true∧e.on ∉ idx)
  (hfin:∀ i,i < ops.size→F.getD i false=false→∃ o,ops[i]?=some o∧((∀ j ∈ idx,∃ e ∈ o.after,Region.binds md' e=true∧e.on=j)∨∃ e ∈ o.after,Region.binds md' e=true∧e.on < ops.size∧F.getD e.on false=false))
  (hstep:∀ i ∈ idx,∀ (L:List (Int × Nat)) (K:Act→World→Prop),(∀ e ∈ L,e.1≠(ent i).1)→K a (md w0 (L++[ent i]))→wpOp P ops Q i K a (md w0 L))
  (fuel:Nat) (hend:∀ L:List (Int × Nat),(∀ e,e ∈ L↔∃ i ∈ idx,e=ent i)→(L.map Prod.fst).Nodup→wpAnyH P md' ops Q S fuel F a (md w0 L)):
  ∀ (n:Nat) (J:List Nat) (L:List (Int × Nat)),J.length=n→J.Nodup→(∀ i ∈ J,i ∈ idx)→(∀ e,e ∈ L↔∃ i ∈ idx,i ∉ J∧e=ent i)→(L.map Prod.fst).Nodup→wpAnyH P md' ops Q S (fuel+n) (lst F J) a (md w0 L):=by
 intro n
 induction n with
 | zero=>
  intro J L hn hJ hJi hL hLn
  have:J=[]:=List.eq_nil_of_length_eq_zero hn
  subst this
  rw [lst_nil]
  exact hend L (fun e=>by rw [hL];simp) hLn
 | succ n ih=>
  intro J L hn hJ hJi hL hLn
  have hready:∀ i,i ∈ J→i ∈ Region.ready md' ops (lst F J):=fun i hi=>by
   obtain ⟨h1,o,ho,hd⟩:=hdep i (hJi i hi)
   refine mem_ready.2 ⟨h1,?_,?_⟩
   ·rw [lst_get _ _ _ _ (by omega)]
    simp [List.contains_eq_mem,hi]
   ·rw [ho]
    simp only [Option.map_some,Option.getD_some,Array.all_eq_true_iff_forall_mem]
    intro e he
    cases hb:Region.binds md' e with
    | false=>simp
    | true=>
     obtain ⟨g1,g2,g3⟩:=hd e he hb
     rw [lst_get _ _ _ _ (by omega),g2]
     have:e.on ∉ J:=fun x=>g3 (hJi _ x)
     simp [List.contains_eq_mem,this]
  have hJne:J≠[]:=fun e=>by rw [e] at hn;simp at hn
  refine wpAnyH_all rfl ?_ ?_
  ·obtain ⟨j,hj⟩:=List.exists_mem_of_ne_nil J hJne
   exact List.ne_nil_of_mem (hready j hj)
  ·intro i hi
   obtain ⟨h1,h2,h3⟩:=mem_ready.1 hi
   rw [lst_get _ _ _ _ (by omega)] at h2
   have hiJ:i ∈ J:=by
    by_cases hx:i ∈ J
    ·exact hx
    ·exfalso
     have hFi:F.getD i false=false:=by simpa [List.contains_eq_mem,hx] using h2
     obtain ⟨o,ho,hd⟩:=hfin i h1 hFi
     rw [ho] at h3
     simp only [Option.map_some,Option.getD_some,Array.all_eq_true_iff_forall_mem] at h3
     rcases hd with hd | ⟨e,he,hb,hs,hne⟩
     ·obtain ⟨j,hj⟩:=List.exists_mem_of_ne_nil J hJne
      obtain ⟨e,he,hb,hon⟩:=hd j (hJi j hj)
      have:=h3 e he
      rw [hb,hon,lst_get _ _ _ _ (by have:=(hdep j (hJi j hj)).1;omega)] at this
      simp [List.contains_eq_mem,hj] at this
     ·have:=h3 e he
      rw [hb,lst_get _ _ _ _ (by omega),hne] at this
      simp at this
   refine hstep i (hJi i hiJ) L _ ?_ ⟨hS _,?_⟩
   ·intro e he
    obtain ⟨j,hj,hjn,rfl⟩:=(hL e).1 he
    intro hk
    exact hjn (by rw [hkeys j hj i (hJi i hiJ) hk];exact hiJ)
   ·rw [lst_set F J i (by omega) (hF i (hJi i hiJ))]
    have hlen:(J.filter (·≠i)).length=n:=by
     have:=List.length_erase_of_mem hiJ
     rw [hJ.erase_eq_filter] at this
     have e2:J.filter (· != i)=J.filter (·≠i):=by congr 1;funext x;by_cases hx:x=i<;>simp [hx]
     rw [e2] at this
     omega
    refine ih _ _ hlen (hJ.filter _) (fun j hj=>hJi j (List.mem_filter.1 hj).1) (fun e=>?_) ?_
    ·rw [List.mem_append,hL]
     constructor
     ·rintro (⟨j,hj,hjn,rfl⟩ | he)
      ·exact ⟨j,hj,fun x=>hjn (List.mem_filter.1 x).1,rfl⟩
      ·exact ⟨i,hJi i hiJ,fun x=>by simpa using (List.mem_filter.1 x).2,by simpa using he⟩
     ·rintro ⟨j,hj,hjn,rfl⟩
      by_cases hji:j=i
      ·right;rw [hji];simp
      ·left
       exact ⟨j,hj,fun x=>hjn (List.mem_filter.2 ⟨x,by simpa using hji⟩),rfl⟩
    ·rw [List.map_append,List.nodup_append]
     refine ⟨hLn,by simp,?_⟩
     intro x hx y hy
     simp at hy
     subst hy
     obtain ⟨e,he,rfl⟩:=List.mem_map.1 hx
     obtain ⟨j,hj,hjn,rfl⟩:=(hL e).1 he
     intro hk
     exact hjn (by rw [hkeys j hj i (hJi i hiJ) hk];exact hiJ)
def depB (ops:Array Oper) (md':Region.Mode) (F:Array Bool) (idx:List Nat):Bool:=
 idx.all fun i=>decide (i < ops.size)&&F.getD i false&&match ops[i]? with
  | some o=>o.after.all fun e=>!Region.binds md' e||(decide (e.on < ops.size)&&F.getD e.on false&&!idx.contains e.on)
  | none=>false
def finB (ops:Array Oper) (md':Region.Mode) (F:Array Bool) (idx:List Nat):Bool:=
 (List.range ops.size).all fun i=>F.getD i false||match ops[i]? with
  | some o=>(idx.all fun j=>o.after.any fun e=>Region.binds md' e&&e.on==j)||o.after.any fun e=>Region.binds md' e&&decide (e.on < ops.size)&&!F.getD e.on false
  | none=>false
theorem ins_all (a:Act) (w0:World) (hS:∀ L,S (md w0 L)) (ent:Nat→Int × Nat) (idx:List Nat) (F listed:Array Bool) (hl:listed=lst F idx) (hsz:F.size=ops.size) (hnd:idx.Nodup)
  (hkeys:∀ i ∈ idx,∀ j ∈ idx,(ent i).1=(ent j).1→i=j) (hdep:depB ops md' F idx=true) (hfin:finB ops md' F idx=true)
  (hstep:∀ i ∈ idx,∀ (L:List (Int × Nat)) (K:Act→World→Prop),(∀ e ∈ L,e.1≠(ent i).1)→K a (md w0 (L++[ent i]))→wpOp P ops Q i K a (md w0 L))
  (fuel n:Nat) (hn:n=fuel+idx.length) (hend:∀ L:List (Int × Nat),(∀ e,e ∈ L↔e ∈ idx.map ent)→(L.map Prod.fst).Nodup→wpAnyH P md' ops Q S fuel F a (md w0 L)):wpAnyH P md' ops Q S n listed a (md w0 []):=by
 rw [hl,hn]
 unfold depB at hdep
 rw [List.all_eq_true] at hdep
 unfold finB at hfin
 rw [List.all_eq_true] at hfin
 refine ins_phase (md':=md') a w0 hS ent idx F hsz hkeys ?_ ?_ ?_ hstep fuel ?_ idx.length idx [] rfl hnd (fun _ h=>h) (fun e=>by simp;intro i hi hn;exact absurd hi hn) (by simp)
 ·intro i hi
  have:=hdep i hi
  simp at this
  simpa using this.1.2
 ·intro i hi
  have:=hdep i hi
  simp only [Bool.and_eq_true,decide_eq_true_eq] at this
  obtain ⟨⟨h1,h2⟩,h3⟩:=this
  refine ⟨h1,?_⟩
  cases ho:ops[i]? with
  | none=>rw [ho] at h3;cases h3
  | some o=>
   rw [ho] at h3
   refine ⟨o,rfl,fun e he hb=>?_⟩
   simp only [Array.all_eq_true_iff_forall_mem] at h3
   have:=h3 e he
   rw [hb] at this
   simp only [Bool.not_true,Bool.false_or,Bool.and_eq_true,decide_eq_true_eq] at this
   exact ⟨this.1.1,this.1.2,by simpa [List.contains_eq_mem] using this.2⟩
 ·intro i hi hFi
  have:=hfin i (List.mem_range.2 hi)
  rw [hFi,Bool.false_or] at this
  cases ho:ops[i]? with
  | none=>rw [ho] at this;cases this
  | some o=>
   rw [ho] at this
   refine ⟨o,rfl,?_⟩
   simp only [Bool.or_eq_true] at this
   rcases this with h | h
   ·left
    intro j hj
    rw [List.all_eq_true] at h
    have:=h j hj
    rw [Array.any_eq_true] at this
    obtain ⟨k,hk,hb⟩:=this
    simp at hb
    exact ⟨_,Array.getElem_mem hk,hb.1,hb.2⟩
   ·right
    rw [Array.any_eq_true] at h
    obtain ⟨k,hk,hb⟩:=h
    simp only [Bool.and_eq_true,decide_eq_true_eq,Bool.not_eq_true'] at hb
    exact ⟨_,Array.getElem_mem hk,hb.1.1,hb.1.2,hb.2⟩
 ·intro L hL hLn
  refine hend L (fun e=>?_) hLn
  rw [hL]
  simp [List.mem_map,eq_comm]
theorem step_ins {i:Nat} {a:Act} {w0:World} {o:Oper} {L:List (Int × Nat)} {K:Act→World→Prop} {m k v:Operand} {key:Int} {n:Nat} (ho:ops[i]?=some o) (hg:o.guard=none) (hd:o.dst=none) (hop:o.op=Op.insert 320 m k v)
  (hm:a.eval m=.map (some w0.heap.size)) (hk:a.eval k=kv false key) (hv:a.eval v=rv n) (hL:∀ e ∈ L,e.1≠key) (hK:K a (md w0 (L++[(key,n)]))):wpOp Tryz.prog ops Q i K a (md w0 L):=by
 have hrun:=put_mp w0.drew L key n hL
 have hrun':(Instr.mapUpdate 320 (.map (some w0.heap.size)) (kv false key) (rv n)).run Tryz.prog (md w0 L)=.ok () (md w0 (L++[(key,n)])):=hrun
 refine wpOp_step ho fun K' hK'=>?_
 have hw:Region.wanted o (yielded ops a.tmps)=true:=by simp [Region.wanted,hg]
 rw [if_pos hw]
 unfold Oper.wp
 simp [execOp,hop,hm,hk,hv,hrun',Result.andThen,Oper.upon]
 have hp:a.put o.dst undef=a:=by rw [hd];rfl
 rw [hp]
 exact hK' _ _ hK
theorem step_make {i:Nat} {a:Act} {w:World} {o:Oper} {K:Act→World→Prop} {M:Nat} (ho:ops[i]?=some o) (hg:o.guard=none) (hd:o.dst=some M) (hop:o.op=Op.makeMap 320 none)
  (hK:K (a.put (some M) (.map (some w.heap.size))) (md w [])):wpOp Tryz.prog ops Q i K a w.drew:=by
 have hmm:(Instr.makeMap 320 none).run Tryz.prog w.drew=.ok (.map (some w.heap.size)) (md w []):=run_makeMap (P:=Tryz.prog) _ w.drew
 refine wpOp_step ho fun K' hK'=>?_
 have hw:Region.wanted o (yielded ops a.tmps)=true:=by simp [Region.wanted,hg]
 rw [if_pos hw]
 unfold Oper.wp
 simp [execOp,hop,hmm,Result.andThen,Oper.upon]
 rw [hd]
 exact hK' _ _ hK
end
def dv (b l t:Int) (s:Bool) (d:Int) (p g:Bool):Value:=.agg #[.int .u32 b,.int .u32 l,.int .i64 t,.bool s,.int .i64 d,.bool p,.bool g]
def enR (i:Nat):Int × Nat:=([(0,0),(0,0),(0,0),(0,0),(0,0),(0,0),(2,1),(0,0),(0,0),(4,2),(0,0),(0,0),(6,3),(0,0),(0,0),(8,4),(0,0),(0,0),(10,5),(0,0),(0,0),(12,6),(0,0),(0,0),(14,7)]:List (Int × Nat)).getD i (0,0)
def ixR:List Nat:=[3,6,9,12,15,18,21,24]
def LR:List (Int × Nat):=[(0,0),(2,1),(4,2),(6,3),(8,4),(10,5),(12,6),(14,7)]
theorem look_R (s:Bool) (t:Int):num (if s then none else look LR (t - t%2))=kindN s t:=by
 cases s with
 | true=>simp [kindN,num]
 | false=>
  simp only [Bool.false_eq_true,if_false,kindN]
  by_cases h:0≤t∧t < 16
  ·rw [if_pos ⟨trivial,h⟩]
   obtain ⟨n,rfl⟩:=Int.eq_ofNat_of_zero_le h.1
   have:∀ n:Fin 16,num (look LR (((n:Nat):Int) - ((n:Nat):Int)%2))=(((n:Nat):Int) / 2).toNat:=by decide +kernel
   exact this ⟨n,by omega⟩
  ·rw [if_neg (fun x=>h x.2)]
   have ne:∀ k:Int,0≤k→k≤14→k%2=0→¬ t - t%2=k:=fun k h0 h1 h2=>by omega
   simp [LR,look,num,ne 0 (by decide) (by decide) (by decide),ne 2 (by decide) (by decide) (by decide),ne 4 (by decide) (by decide) (by decide),ne 6 (by decide) (by decide) (by decide),ne 8 (by decide) (by decide) (by decide),ne 10 (by decide) (by decide) (by decide),ne 12 (by decide) (by decide) (by decide),ne 14 (by decide) (by decide) (by decide)]
theorem rv_R (s:Bool) (t:Int):rv (kindN s t)=.agg #[.bool (isC s t),.bool (rF s t),.bool (rR s t),.bool (rW s t),.bool (rD s t)]:=by
 unfold rF rR rW rD isC isD two four kindN
 by_cases h:s=false∧0≤t∧t < 16
 ·obtain ⟨rfl,h0,h1⟩:=h
  rw [if_pos ⟨rfl,h0,h1⟩]
  have:t=0∨t=1∨t=2∨t=3∨t=4∨t=5∨t=6∨t=7∨t=8∨t=9∨t=10∨t=11∨t=12∨t=13∨t=14∨t=15:=by omega
  rcases this with rfl | rfl | rfl | rfl | rfl | rfl | rfl | rfl | rfl | rfl | rfl | rfl | rfl | rfl | rfl | rfl<;>simp [rv]
 ·rw [if_neg h]
  cases s with
  | true=>simp [rv]
  | false=>
   have h0:¬ (0≤t∧t < 16):=fun x=>h ⟨rfl,x⟩
   have e1:(decide (0≤t)&&decide (t < 8))=false:=by simp;omega
   have e2:(decide (8≤t)&&decide (t < 16))=false:=by simp;omega
   simp [rv,e1,e2]
def boxS (B:Nat) (s:Bool) (t:Int) (w:World):Prop:=w.cell? ⟨B,3,none⟩=some (.bool s)∧w.cell? ⟨B,2,none⟩=some (.int .i64 t)
theorem step_look {ops:Array Oper} {Q:Exit→Act→World→Prop} {i:Nat} {a:Act} {w:World} {o:Oper} {K:Act→World→Prop} {m k:Operand} {mv kx v:Value} {T:TypeId} (ho:ops[i]?=some o) (hg:o.guard=none) (hop:o.op=Op.lookup T m k false)
  (hm:a.eval m=mv) (hk:a.eval k=kx) (hrun:(Instr.lookup T mv kx false).run Tryz.prog w=.ok v w) (hK:K (a.put o.dst v) w):wpOp Tryz.prog ops Q i K a w:=by
 refine wpOp_step ho fun K' hK'=>?_
 have hw:Region.wanted o (yielded ops a.tmps)=true:=by simp [Region.wanted,hg]
 rw [if_pos hw]
 unfold Oper.wp
 simp [execOp,hop,hm,hk,hrun,Result.andThen,Oper.upon]
 exact hK' _ _ hK
theorem step_store {ops:Array Oper} {Q:Exit→Act→World→Prop} {i:Nat} {a:Act} {w w':World} {o:Oper} {K:Act→World→Prop} {m k:Operand} {mv kx:Value} {T:TypeId} (ho:ops[i]?=some o) (hg:o.guard=none) (hd:o.dst=none) (hop:o.op=Op.store T m k)
  (hm:a.eval m=mv) (hk:a.eval k=kx) (hrun:(Instr.storeAt T mv kx).run Tryz.prog w=.ok () w') (hK:K a w'):wpOp Tryz.prog ops Q i K a w:=by
 refine wpOp_step ho fun K' hK'=>?_
 have hw:Region.wanted o (yielded ops a.tmps)=true:=by simp [Region.wanted,hg]
 rw [if_pos hw]
 unfold Oper.wp
 simp [execOp,hop,hm,hk,hrun,Result.andThen,Oper.upon]
 have hp:a.put o.dst undef=a:=by rw [hd];rfl
 rw [hp]
 exact hK' _ _ hK
theorem st5 (w:World) (A M:Obj) (c1 c2 c3 c4 c5:Bool):(Instr.storeAt 284 (.pointer (some ⟨w.heap.size+1,0,none⟩)) (.agg #[.bool c1,.bool c2,.bool c3,.bool c4,.bool c5])).run Tryz.prog (((w.alloc A).alloc (.cells #[.bool false,.bool false,.bool false,.bool false,.bool false] 284)).alloc M).drew =
  .ok () (((w.alloc A).alloc (.cells #[.bool c1,.bool c2,.bool c3,.bool c4,.bool c5] 284)).alloc M).drew:=by
 go_simp
def ffR:Array Bool:=#[true,true,true,true,true,true,true,true,true,true,true,true,true,true,true,true,true,true,true,true,true,true,true,true,true,false,true,true,true,true,true,true,false,false]
set_option maxHeartbeats 2000000 in
theorem rights_any (b l t:Int) (s:Bool) (d:Int) (p g:Bool) (w:World) (t0:-9223372036854775808≤t) (t1:t < 9223372036854775808):
  Calls Tryz.prog 192 #[dv b l t s d p g] w fun e w'=>e=.returned (.agg #[.bool (isC s t),.bool (rF s t),.bool (rR s t),.bool (rW s t),.bool (rD s t)])∧Grown w w':=by
 have ht:=type_even t t0 t1
 unfold dv
 go_enter Tryz.func192,Tryz.ntmps192
 go_wp2
 generalize hW:(w.alloc (.cells #[.int .u32 b,.int .u32 l,.int .i64 t,.bool s,.int .i64 d,.bool p,.bool g] 26)).alloc (.cells #[.bool false,.bool false,.bool false,.bool false,.bool false] 284)=W
 have hz:W.heap.size=w.heap.size+2:=by rw [← hW];simp
 have hS0:boxS w.heap.size s t W.drew:=by rw [← hW];constructor<;>simp [go_sem]
 have hSm:∀ L,boxS w.heap.size s t (md W L):=fun L=>by
  unfold md mp
  rw [← hW]
  constructor<;>simp [go_sem]
 refine wp_region_held (S:=boxS w.heap.size s t) (by kernel_rfl) ?_
 refine wpAnyH_take (i:=1) (v:=.agg #[.bool false,.int .i64 0]) rfl (by kernel_rfl) (by kernel_rfl) (by kernel_rfl) (fun _ _ _ h=>h) (Or.inl ⟨by rfl,by intro w _;go_simp⟩) hS0 ?_
 refine wpAnyH_take (i:=2) (v:=.agg #[.bool false,.bool false,.bool true,.bool false,.bool false]) rfl (by kernel_rfl) (by kernel_rfl) (by kernel_rfl) (fun _ _ _ h=>h) (Or.inl ⟨by rfl,by intro w _;go_simp⟩) hS0 ?_
 refine wpAnyH_take (i:=4) (v:=.agg #[.bool false,.int .i64 2]) rfl (by kernel_rfl) (by kernel_rfl) (by kernel_rfl) (fun _ _ _ h=>h) (Or.inl ⟨by rfl,by intro w _;go_simp⟩) hS0 ?_
 refine wpAnyH_take (i:=5) (v:=.agg #[.bool false,.bool false,.bool true,.bool true,.bool false]) rfl (by kernel_rfl) (by kernel_rfl) (by kernel_rfl) (fun _ _ _ h=>h) (Or.inl ⟨by rfl,by intro w _;go_simp⟩) hS0 ?_
 refine wpAnyH_take (i:=7) (v:=.agg #[.bool false,.int .i64 4]) rfl (by kernel_rfl) (by kernel_rfl) (by kernel_rfl) (fun _ _ _ h=>h) (Or.inl ⟨by rfl,by intro w _;go_simp⟩) hS0 ?_
 refine wpAnyH_take (i:=8) (v:=.agg #[.bool false,.bool false,.bool true,.bool false,.bool true]) rfl (by kernel_rfl) (by kernel_rfl) (by kernel_rfl) (fun _ _ _ h=>h) (Or.inl ⟨by rfl,by intro w _;go_simp⟩) hS0 ?_
 refine wpAnyH_take (i:=10) (v:=.agg #[.bool false,.int .i64 6]) rfl (by kernel_rfl) (by kernel_rfl) (by kernel_rfl) (fun _ _ _ h=>h) (Or.inl ⟨by rfl,by intro w _;go_simp⟩) hS0 ?_
 refine wpAnyH_take (i:=11) (v:=.agg #[.bool false,.bool false,.bool true,.bool true,.bool true]) rfl (by kernel_rfl) (by kernel_rfl) (by kernel_rfl) (fun _ _ _ h=>h) (Or.inl ⟨by rfl,by intro w _;go_simp⟩) hS0 ?_
 refine wpAnyH_take (i:=13) (v:=.agg #[.bool false,.int .i64 8]) rfl (by kernel_rfl) (by kernel_rfl) (by kernel_rfl) (fun _ _ _ h=>h) (Or.inl ⟨by rfl,by intro w _;go_simp⟩) hS0 ?_
 refine wpAnyH_take (i:=14) (v:=.agg #[.bool true,.bool false,.bool false,.bool false,.bool false]) rfl (by kernel_rfl) (by kernel_rfl) (by kernel_rfl) (fun _ _ _ h=>h) (Or.inl ⟨by rfl,by intro w _;go_simp⟩) hS0 ?_
 refine wpAnyH_take (i:=16) (v:=.agg #[.bool false,.int .i64 10]) rfl (by kernel_rfl) (by kernel_rfl) (by kernel_rfl) (fun _ _ _ h=>h) (Or.inl ⟨by rfl,by intro w _;go_simp⟩) hS0 ?_
 refine wpAnyH_take (i:=17) (v:=.agg #[.bool true,.bool false,.bool true,.bool false,.bool false]) rfl (by kernel_rfl) (by kernel_rfl) (by kernel_rfl) (fun _ _ _ h=>h) (Or.inl ⟨by rfl,by intro w _;go_simp⟩) hS0 ?_
 refine wpAnyH_take (i:=19) (v:=.agg #[.bool false,.int .i64 12]) rfl (by kernel_rfl) (by kernel_rfl) (by kernel_rfl) (fun _ _ _ h=>h) (Or.inl ⟨by rfl,by intro w _;go_simp⟩) hS0 ?_
 refine wpAnyH_take (i:=20) (v:=.agg #[.bool true,.bool true,.bool false,.bool false,.bool false]) rfl (by kernel_rfl) (by kernel_rfl) (by kernel_rfl) (fun _ _ _ h=>h) (Or.inl ⟨by rfl,by intro w _;go_simp⟩) hS0 ?_
 refine wpAnyH_take (i:=22) (v:=.agg #[.bool false,.int .i64 14]) rfl (by kernel_rfl) (by kernel_rfl) (by kernel_rfl) (fun _ _ _ h=>h) (Or.inl ⟨by rfl,by intro w _;go_simp⟩) hS0 ?_
 refine wpAnyH_take (i:=23) (v:=.agg #[.bool true,.bool true,.bool true,.bool false,.bool false]) rfl (by kernel_rfl) (by kernel_rfl) (by kernel_rfl) (fun _ _ _ h=>h) (Or.inl ⟨by rfl,by intro w _;go_simp⟩) hS0 ?_
 refine wpAnyH_take (i:=26) (v:=.pointer (some ⟨w.heap.size,3,none⟩)) rfl (by kernel_rfl) (by kernel_rfl) (by kernel_rfl) (fun _ _ _ h=>h) (Or.inl ⟨by rfl,by intro w _;go_simp⟩) hS0 ?_
 refine wpAnyH_take (i:=27) (v:=.bool s) rfl (by kernel_rfl) (by kernel_rfl) (by kernel_rfl) (fun _ _ _ h=>h) (Or.inl ⟨by rfl,by intro w hS;have h1:=hS.1;go_simp⟩) hS0 ?_
 refine wpAnyH_take (i:=28) (v:=.pointer (some ⟨w.heap.size,2,none⟩)) rfl (by kernel_rfl) (by kernel_rfl) (by kernel_rfl) (fun _ _ _ h=>h) (Or.inl ⟨by rfl,by intro w _;go_simp⟩) hS0 ?_
 refine wpAnyH_take (i:=29) (v:=.int .i64 t) rfl (by kernel_rfl) (by kernel_rfl) (by kernel_rfl) (fun _ _ _ h=>h) (Or.inl ⟨by rfl,by intro w hS;have h1:=hS.2;go_simp⟩) hS0 ?_
 refine wpAnyH_take (i:=30) (v:=.int .i64 (t - t%2)) rfl (by kernel_rfl) (by kernel_rfl) (by kernel_rfl) (fun _ _ _ h=>h) (Or.inl ⟨by rfl,by intro w _;go_simp⟩) hS0 ?_
 refine wpAnyH_take (i:=31) (v:=.agg #[.bool s,.int .i64 (t - t%2)]) rfl (by kernel_rfl) (by kernel_rfl) (by kernel_rfl) (fun _ _ _ h=>h) (Or.inl ⟨by rfl,by intro w _;go_simp⟩) hS0 ?_
 refine wpAnyH_all (rs:=[0]) (by kernel_rfl) (by simp) ?_
 intro i hi
 rw [List.mem_singleton] at hi
 subst hi
 refine step_make (w:=W) rfl rfl rfl rfl ⟨hSm [],?_⟩
 refine ins_all (P:=Tryz.prog) (md':=.any) _ W hSm enR ixR ffR _ (by kernel_rfl) rfl (by decide) (by decide) (by kernel_rfl) (by kernel_rfl) ?_ 3 _ rfl ?_
 ·intro i hi L K hL hK
  simp [ixR] at hi
  rcases hi with rfl | rfl | rfl | rfl | rfl | rfl | rfl | rfl
  all_goals exact step_ins rfl rfl rfl rfl (by kernel_rfl) (by kernel_rfl) (by kernel_rfl) hL hK
 ·intro L hL hLn
  have hlk:num (if s then none else look L (t - t%2))=kindN s t:=by
   rw [look_same (L':=LR) hL hLn (by decide)]
   exact look_R s t
  have hv:=look_md W L s (t - t%2)
  rw [hlk,rv_R] at hv
  unfold kv at hv
  refine wpAnyH_take (i:=25) (v:=.map (some W.heap.size)) rfl (by kernel_rfl) (by kernel_rfl) (by kernel_rfl) (fun _ _ _ h=>h) (Or.inl ⟨by rfl,by intro w _;go_simp⟩) (hSm L) ?_
  refine wpAnyH_all (rs:=[32]) (by kernel_rfl) (by simp) ?_
  intro i hi
  rw [List.mem_singleton] at hi
  subst hi
  refine step_look rfl rfl rfl (by kernel_rfl) (by kernel_rfl) hv ⟨hSm L,?_⟩
  refine wpAnyH_all (rs:=[33]) (by kernel_rfl) (by simp) ?_
  intro i hi
  rw [List.mem_singleton] at hi
  subst hi
  unfold md mp
  have hgM:∀ {x:World},Grown w x→Grown w (x.alloc (Obj.map (ents 0 L).toArray L.length)):=fun h=>Grown.allocMap h _ _
  generalize (Obj.map (ents 0 L).toArray L.length)=M at hgM
  clear hSm hS0
  have hst:(Instr.storeAt 284 (.pointer (some ⟨w.heap.size+1,0,none⟩)) (.agg #[.bool (isC s t),.bool (rF s t),.bool (rR s t),.bool (rW s t),.bool (rD s t)])).run Tryz.prog (W.alloc M).drew=.ok () (((w.alloc (.cells #[.int .u32 b,.int .u32 l,.int .i64 t,.bool s,.int .i64 d,.bool p,.bool g] 26)).alloc (.cells #[.bool (isC s t),.bool (rF s t),.bool (rR s t),.bool (rW s t),.bool (rD s t)] 284)).alloc M).drew:=by
   rw [← hW]
   exact st5 w _ M (isC s t) (rF s t) (rR s t) (rW s t) (rD s t)
  refine step_store rfl rfl rfl rfl (by kernel_rfl) (by kernel_rfl) hst ⟨?_,?_⟩
  ·constructor<;>simp [go_sem]
  clear hst hv
  refine wpAnyH_done (by kernel_rfl) ?_ _
  refine then_act (a:={ tmps:=#[.agg #[.int .u32 b,.int .u32 l,.int .i64 t,.bool s,.int .i64 d,.bool p,.bool g],.pointer (some ⟨w.heap.size,0,none⟩),.pointer (some ⟨w.heap.size+1,0,none⟩),.map (some W.heap.size),.agg #[.bool false,.int .i64 0],.agg #[.bool false,.bool false,.bool true,.bool false,.bool false],.agg #[.bool false,.int .i64 2],.agg #[.bool false,.bool false,.bool true,.bool true,.bool false],.agg #[.bool false,.int .i64 4],.agg #[.bool false,.bool false,.bool true,.bool false,.bool true],.agg #[.bool false,.int .i64 6],.agg #[.bool false,.bool false,.bool true,.bool true,.bool true],.agg #[.bool false,.int .i64 8],.agg #[.bool true,.bool false,.bool false,.bool false,.bool false],.agg #[.bool false,.int .i64 10],.agg #[.bool true,.bool false,.bool true,.bool false,.bool false],.agg #[.bool false,.int .i64 12],.agg #[.bool true,.bool true,.bool false,.bool false,.bool false],.agg #[.bool false,.int .i64 14],.agg #[.bool true,.bool true,.bool true,.bool false,.bool false],.map (some W.heap.size),.pointer (some ⟨w.heap.size,3,none⟩),.bool s,.pointer (some ⟨w.heap.size,2,none⟩),.int .i64 t,.int .i64 (t - t%2),.agg #[.bool s,.int .i64 (t - t%2)],.agg #[.bool (isC s t),.bool (rF s t),.bool (rR s t),.bool (rW s t),.bool (rD s t)]],defers:=[] }) (by kernel_rfl) ?_
  have HM:Hid (∀ {x:World},Grown w x→Grown w (x.alloc M)):=hgM
  clear hW hz hgM hL hLn hlk
  go_wp2
  exact bodyPost_ret (v:=.agg #[.bool (isC s t),.bool (rF s t),.bool (rR s t),.bool (rW s t),.bool (rD s t)]) (by simp [results,Tryz.results192,go_sem]) rfl ⟨rfl,Grown.drew (HM.out (Grown.alloc (Grown.alloc (Grown.refl _) _ _) _ _))⟩
theorem Grown.holds {W w':World} (h:Grown W w') {p:Addr} {v:Value} (hv:W.cell? p=some v):w'.cell? p=some v:=by
 have hb:p.block < W.heap.size:=by
  rcases Nat.lt_or_ge p.block W.heap.size with h | h
  ·exact h
  ·exfalso
   simp [World.cell?,Array.getElem?_eq_none h] at hv
 rw [Grown.cell h hb,hv]
theorem canReach_any (n:Int) (w:World):Calls Tryz.prog 279 #[.int .i64 n] w fun e w'=>e=.returned (.bool (szB n))∧w'=w:=by
 go_enter Tryz.func279,Tryz.ntmps279
 go_wp2
 all_goals go_ret
 all_goals exact ⟨ret_bool (by simp [szB, *]),rfl⟩
theorem ringOf_any (x:Int) (w:World) (x0:0≤x) (x1:x < 65536):Calls Tryz.prog 194 #[.int .u16 x] w fun e w'=>e=.returned (.int .i64 (x%4))∧w'=w:=by
 have h:bits .and .u16 x 3=x%4:=by
  have h:=Nat.and_two_pow_sub_one_eq_mod x.toNat 2
  have e:(3:Int).toNat=2 ^ 2 - 1:=by decide
  rw [u16_and x 3 x0 x1 (by decide) (by decide),e,h]
  omega
 go_enter Tryz.func194,Tryz.ntmps194
 go_wp2
 go_ret
 exact ⟨rfl,rfl⟩
theorem ringsLet_any (f:Bool) (r d c:Int) (w:World):Calls Tryz.prog 193 #[.bool f,.int .i64 r,.int .i64 d,.int .i64 c] w fun e w'=>e=.returned (.bool (ringsB f r d c))∧w'=w:=by
 go_enter Tryz.func193,Tryz.ntmps193
 go_wp2
 all_goals go_ret
 all_goals exact ⟨ret_bool (by simp [ringsB, *]),rfl⟩
theorem topOf_any (b l t:Int) (s:Bool) (d:Int) (p g:Bool) (w:World):Calls Tryz.prog 280 #[.agg #[.int .u32 b,.int .u32 l,.int .i64 t,.bool s,.int .i64 d,.bool p,.bool g]] w fun e w'=>e=.returned (.int .u64 (topB g))∧Grown w w':=by
 go_enter Tryz.func280,Tryz.ntmps280
 go_wp2
 all_goals go_ret
 all_goals exact ⟨ret_int (by simp [topB, *]),Grown.alloc (Grown.refl _) _ _⟩
theorem ifPresent_any (b l t:Int) (s:Bool) (d:Int) (p g:Bool) (v:Int) (w:World):Calls Tryz.prog 195 #[.agg #[.int .u32 b,.int .u32 l,.int .i64 t,.bool s,.int .i64 d,.bool p,.bool g],.int .i64 v] w fun e w'=>e=.returned (.int .i64 (presB p v))∧Grown w w':=by
 go_enter Tryz.func195,Tryz.ntmps195
 go_wp2
 all_goals go_ret
 all_goals exact ⟨ret_int (by cases p<;>simp_all [presB]),Grown.alloc (Grown.refl _) _ _⟩
theorem szB_of {n:Int} (h:szB n=true):n=1∨n=2∨n=4∨n=8:=by simpa [szB,or_assoc] using h
set_option maxHeartbeats 2000000 in
theorem reach_no (b l t:Int) (s:Bool) (d:Int) (p g:Bool) (off size:Int) (wr:Bool) (w:World) (C F R Wt D:Bool) (o0:0≤off) (o1:off < 4294967296) (l0:0≤l) (l1:l < 4294967296) (hs:szB size=false)
  (H:Hid (∀ w:World,Calls Tryz.prog 192 #[.agg #[.int .u32 b,.int .u32 l,.int .i64 t,.bool s,.int .i64 d,.bool p,.bool g]] w fun e w'=>e=.returned (.agg #[.bool C,.bool F,.bool R,.bool Wt,.bool D])∧Grown w w')):
  Calls Tryz.prog 248 #[.agg #[.int .u32 b,.int .u32 l,.int .i64 t,.bool s,.int .i64 d,.bool p,.bool g],.int .u32 off,.int .i64 size,.bool wr] w fun e w'=>e=.returned (.bool (reachX wr R Wt p D g l off size))∧Grown w w':=by
 go_enter Tryz.func248,Tryz.ntmps248
 go_wp2_with fail
 refine (H.out _).mono ?_;rintro e w1 ⟨rfl,hg⟩
 have c0:w1.cell? ⟨w.heap.size,0,none⟩=some (.int .u32 b):=Grown.holds hg (by simp [go_sem])
 have c1:w1.cell? ⟨w.heap.size,1,none⟩=some (.int .u32 l):=Grown.holds hg (by simp [go_sem])
 have c2:w1.cell? ⟨w.heap.size,2,none⟩=some (.int .i64 t):=Grown.holds hg (by simp [go_sem])
 have c3:w1.cell? ⟨w.heap.size,3,none⟩=some (.bool s):=Grown.holds hg (by simp [go_sem])
 have c4:w1.cell? ⟨w.heap.size,4,none⟩=some (.int .i64 d):=Grown.holds hg (by simp [go_sem])
 have c5:w1.cell? ⟨w.heap.size,5,none⟩=some (.bool p):=Grown.holds hg (by simp [go_sem])
 have c6:w1.cell? ⟨w.heap.size,6,none⟩=some (.bool g):=Grown.holds hg (by simp [go_sem])
 have hlt:w.heap.size < w1.heap.size:=by have:=hg.2.2;simp at this;omega
 have hG:Grown w w1:=Grown.trans (Grown.alloc (Grown.refl _) _ _) hg
 cases wr<;>cases R<;>cases Wt<;>cases p
 all_goals
  go_wp2_with (first | (go_at_call 279;refine (canReach_any _ _).mono ?_;rintro e w' ⟨rfl,hw⟩;replace hw:=hw.symm;subst hw) | (go_at_call 280;refine (topOf_any _ _ _ _ _ _ _ _).mono ?_;rintro e w' ⟨rfl,hg2⟩))
  all_goals go_ret
  all_goals exact ⟨ret_bool (by simp [reachX,hs]),Grown.alloc hG _ _⟩
set_option maxHeartbeats 2000000 in
theorem reach_yes (b l t:Int) (s:Bool) (d:Int) (p g:Bool) (off size:Int) (wr:Bool) (w:World) (C F R Wt D:Bool) (o0:0≤off) (o1:off < 4294967296) (l0:0≤l) (l1:l < 4294967296) (hs:szB size=true) (z0:1≤size) (z1:size≤8)
  (H:Hid (∀ w:World,Calls Tryz.prog 192 #[.agg #[.int .u32 b,.int .u32 l,.int .i64 t,.bool s,.int .i64 d,.bool p,.bool g]] w fun e w'=>e=.returned (.agg #[.bool C,.bool F,.bool R,.bool Wt,.bool D])∧Grown w w')):
  Calls Tryz.prog 248 #[.agg #[.int .u32 b,.int .u32 l,.int .i64 t,.bool s,.int .i64 d,.bool p,.bool g],.int .u32 off,.int .i64 size,.bool wr] w fun e w'=>e=.returned (.bool (reachX wr R Wt p D g l off size))∧Grown w w':=by
 go_enter Tryz.func248,Tryz.ntmps248
 go_wp2_with fail
 refine (H.out _).mono ?_;rintro e w1 ⟨rfl,hg⟩
 have c0:w1.cell? ⟨w.heap.size,0,none⟩=some (.int .u32 b):=Grown.holds hg (by simp [go_sem])
 have c1:w1.cell? ⟨w.heap.size,1,none⟩=some (.int .u32 l):=Grown.holds hg (by simp [go_sem])
 have c2:w1.cell? ⟨w.heap.size,2,none⟩=some (.int .i64 t):=Grown.holds hg (by simp [go_sem])
 have c3:w1.cell? ⟨w.heap.size,3,none⟩=some (.bool s):=Grown.holds hg (by simp [go_sem])
 have c4:w1.cell? ⟨w.heap.size,4,none⟩=some (.int .i64 d):=Grown.holds hg (by simp [go_sem])
 have c5:w1.cell? ⟨w.heap.size,5,none⟩=some (.bool p):=Grown.holds hg (by simp [go_sem])
 have c6:w1.cell? ⟨w.heap.size,6,none⟩=some (.bool g):=Grown.holds hg (by simp [go_sem])
 have hlt:w.heap.size < w1.heap.size:=by have:=hg.2.2;simp at this;omega
 have hG:Grown w w1:=Grown.trans (Grown.alloc (Grown.refl _) _ _) hg
 cases wr<;>cases R<;>cases Wt<;>cases p<;>cases D
 all_goals
  go_wp2_with (first | (go_at_call 279;refine (canReach_any _ _).mono ?_;rintro e w' ⟨rfl,hw⟩;replace hw:=hw.symm;subst hw) | (go_at_call 280;refine (topOf_any _ _ _ _ _ _ _ _).mono ?_;rintro e w' ⟨rfl,hg2⟩))
  all_goals go_ret
  all_goals refine ⟨ret_bool ?_,?_⟩
  all_goals first
   | exact Grown.alloc hG _ _
   | exact Grown.trans (Grown.alloc hG _ _) hg2
   | (simp [reachX,hs];done)
   | (simp [reachX,hs];omega)
   | (simp_all [reachX];done)
   | (simp_all [reachX];omega)
theorem reach_any (b l t:Int) (s:Bool) (d:Int) (p g:Bool) (off size:Int) (wr:Bool) (w:World) (t0:-9223372036854775808≤t) (t1:t < 9223372036854775808) (o0:0≤off) (o1:off < 4294967296) (l0:0≤l) (l1:l < 4294967296):
  Calls Tryz.prog 248 #[.agg #[.int .u32 b,.int .u32 l,.int .i64 t,.bool s,.int .i64 d,.bool p,.bool g],.int .u32 off,.int .i64 size,.bool wr] w fun e w'=>e=.returned (.bool (reachB l t s p g off size wr))∧Grown w w':=by
 have H:Hid _:=fun w=>rights_any b l t s d p g w t0 t1
 cases hs:szB size with
 | false=>exact reach_no b l t s d p g off size wr w _ _ _ _ _ o0 o1 l0 l1 hs H
 | true=>exact reach_yes b l t s d p g off size wr w _ _ _ _ _ o0 o1 l0 l1 hs (by have:=szB_of hs;omega) (by have:=szB_of hs;omega) H
end Go.Proofs.YtacgmoikegcopaaGreatDoor.Sg
namespace Go.Proofs.YtacgmoikegcopaaGreatDoor.Rm
open Go.ChangeShapes Go.WideShapes Go.ChangeAt Go.RowKit Go.Maps
set_option linter.unusedVariables false
set_option maxRecDepth 20000
def modVm (K B n j:Nat):Prop:=inRam B n j∨inTlb K j
structure VmAt (w:World) (V K B pl tn:Nat) (M:Mem):Prop where
 c:w.heap[V]?=some (.cells #[.pointer (some ⟨B+3,0,none⟩),.pointer (some ⟨K+1,0,none⟩)] 108 (0,0))
 tl:∃ D,TlbD w K B pl tn D
 ram:RamAt w B M
 cl:M.closed=false
 apT:∀ j,inTlb K j→¬ inRam B M.n j
 apV:¬ modVm K B M.n V
def inVm (V K B n j:Nat):Prop:=j=V∨modVm K B n j
theorem VmAt.kp {S:Nat→Prop} {w w':World} {V K B pl tn:Nat} {M:Mem} (h:VmAt w V K B pl tn M) (k:Kp S w w') (hS:∀ j,inVm V K B M.n j→¬ S j):VmAt w' V K B pl tn M where
 c:=(k.block V (Array.getElem?_eq_some_iff.1 h.c).1 (hS V (.inl rfl))).trans h.c
 tl:=by obtain ⟨D,t⟩:=h.tl;exact ⟨D,t.kp k (fun j hj=>hS j (.inr (.inr hj)))⟩
 ram:=h.ram.kp k (fun j hj=>hS j (.inr (.inl hj)))
 cl:=h.cl
 apT:=h.apT
 apV:=h.apV
theorem VmAt.kp0 {w w':World} {V K B pl tn:Nat} {M:Mem} (h:VmAt w V K B pl tn M) (k:Kp noB w w'):VmAt w' V K B pl tn M:=h.kp k (fun _ _ f=>f)
theorem VmAt.lt {w:World} {V K B pl tn:Nat} {M:Mem} (h:VmAt w V K B pl tn M):V < w.heap.size:=(Array.getElem?_eq_some_iff.1 h.c).1
theorem VmAt.c0 {w:World} {V K B pl tn:Nat} {M:Mem} (h:VmAt w V K B pl tn M):w.cell? ⟨V,0,none⟩=some (.pointer (some ⟨B+3,0,none⟩)):=by rw [cell_at h.c];rfl
theorem VmAt.in_lt {w:World} {V K B pl tn:Nat} {M:Mem} (h:VmAt w V K B pl tn M) {j:Nat} (hj:modVm K B M.n j):j < w.heap.size:=by
 rcases hj with f | f
 ·have:=h.ram.lt;have:=f.2;omega
 ·obtain ⟨D,t⟩:=h.tl;have:=t.lt;rcases f with e | e<;>omega
structure SgAt (w:World) (C o:Nat) (r:SgR):Prop where
 a0:w.cell? ⟨C,o,none⟩=some (.int .u16 r.sel)
 a1:w.cell? ⟨C,o+1,none⟩=some (.bool r.nl)
 a2:w.cell? ⟨C,o+2,none⟩=some (.int .u32 r.b)
 a3:w.cell? ⟨C,o+3,none⟩=some (.int .u32 r.l)
 a4:w.cell? ⟨C,o+4,none⟩=some (.int .i64 r.t)
 a5:w.cell? ⟨C,o+5,none⟩=some (.bool r.s)
 a6:w.cell? ⟨C,o+6,none⟩=some (.int .i64 r.d)
 a7:w.cell? ⟨C,o+7,none⟩=some (.bool r.p)
 a8:w.cell? ⟨C,o+8,none⟩=some (.bool r.g)
structure CpAt (w:World) (C:Nat) (c:Cp):Prop where
 sg:∀ i,i < 6→SgAt w C (10+i*9) (c.seg i)
 z:w.cell? ⟨C,64,none⟩=some (.int .u32 c.cr0)
 t:w.cell? ⟨C,66,none⟩=some (.int .u32 c.cr3)
 ok:c.Ok
theorem cell_kp {S:Nat→Prop} {w w':World} {C o:Nat} {v:Value} (h:w.cell? ⟨C,o,none⟩=some v) (k:Kp S w w') (hS:¬ S C):w'.cell? ⟨C,o,none⟩=some v:=by
 have hb:C < w.heap.size:=by
  rcases Nat.lt_or_ge C w.heap.size with h' | h'
  ·exact h'
  ·exfalso;simp [World.cell?,Array.getElem?_eq_none h'] at h
 rw [World.cell?_of_block (w:=w) (k.block C hb hS)];exact h
theorem CpAt.lt {w:World} {C:Nat} {c:Cp} (h:CpAt w C c):C < w.heap.size:=by
 have:=h.z
 rcases Nat.lt_or_ge C w.heap.size with h' | h'
 ·exact h'
 ·exfalso;simp [World.cell?,Array.getElem?_eq_none h'] at this
theorem CpAt.kp {S:Nat→Prop} {w w':World} {C:Nat} {c:Cp} (h:CpAt w C c) (k:Kp S w w') (hS:¬ S C):CpAt w' C c where
 sg:=fun i hi=>by
  have s:=h.sg i hi
  exact ⟨cell_kp s.a0 k hS,cell_kp s.a1 k hS,cell_kp s.a2 k hS,cell_kp s.a3 k hS,cell_kp s.a4 k hS,cell_kp s.a5 k hS,cell_kp s.a6 k hS,cell_kp s.a7 k hS,cell_kp s.a8 k hS⟩
 z:=cell_kp h.z k hS
 t:=cell_kp h.t k hS
 ok:=h.ok
theorem CpAt.kp0 {w w':World} {C:Nat} {c:Cp} (h:CpAt w C c) (k:Kp noB w w'):CpAt w' C c:=h.kp k (fun f=>f)
def pan (f:Ft):List PanicEntry:=[{ v:=.iface 44 f.val,recovered:=false }]
theorem refused_any (w:World) (n:Int):Calls Tryz.prog 247 #[.int .i64 n] w fun e w'=>e=.returned (.agg #[.int .i64 n,.int .i64 0,.int .u32 0])∧Kp noB w w':=by
 go_enter Tryz.func247,Tryz.ntmps247
 go_wp2
 refine bodyPost_ret (v:=.agg #[.int .i64 n,.int .i64 0,.int .u32 0]) (by simp [results,Tryz.results247,go_sem]) rfl ⟨rfl,?_⟩
 exact Kp.alloc noB w _
theorem vectorOf_any (w:World) (k:Int):Calls Tryz.prog 249 #[.int .i64 k] w fun e w'=>e=.returned (.int .i64 (vecB k))∧w'=w:=by
 by_cases h:k=2
 ·subst h
  go_enter Tryz.func249,Tryz.ntmps249
  go_wp2
  go_ret
  exact ⟨rfl,rfl⟩
 ·have h':(k==2)=false:=by simpa using h
  go_enter Tryz.func249,Tryz.ntmps249
  go_wp2
  go_ret
  exact ⟨ret_int (by simp [vecB,h]),rfl⟩
theorem vIsSize_any (w:World) (z:Int):Calls Tryz.prog 246 #[.int .i64 z] w fun e w'=>e=.returned (.bool (okS z))∧w'=w:=by
 go_enter Tryz.func246,Tryz.ntmps246
 go_wp2
 all_goals go_ret
 all_goals exact ⟨ret_bool (by first | (subst_vars;rfl) | (unfold okS;rw [Bool.eq_iff_iff];simp_all)),rfl⟩
theorem RowB.s0 {W:World} {X:Nat} {a b c:Bool} (h:RowB W X a b c) (v:Bool):RowB (W.setCell ⟨X,0,none⟩ (.bool v)) X v b c:=heap_setCell_at h _
theorem RowB.s1 {W:World} {X:Nat} {a b c:Bool} (h:RowB W X a b c) (v:Bool):RowB (W.setCell ⟨X,1,none⟩ (.bool v)) X a v c:=heap_setCell_at h _
theorem RowB.s2 {W:World} {X:Nat} {a b c:Bool} (h:RowB W X a b c) (v:Bool):RowB (W.setCell ⟨X,2,none⟩ (.bool v)) X a b v:=heap_setCell_at h _
theorem own_way (w:World) (C:Nat) (c:Cp) (wr:Bool) (h:CpAt w C c):Calls Tryz.prog 270 #[.pointer (some ⟨C,0,none⟩),.bool wr] w fun e w'=>e=.returned (.agg #[.bool wr,.bool false,.bool c.wp])∧Kp noB w w':=by
 have hz:=(h.kp0 (Kp.alloc noB w (.cells #[.bool false,.bool false,.bool false] 330))).z
 have ha:=and_pw h.ok.z0 h.ok.z1 16 (by decide)
 have e16:((2 ^ 16:Nat):Int)=65536:=by decide
 rw [e16] at ha
 have hb:(flg (hasF c.cr0 65536) 65536 != 0)=c.wp:=by unfold Cp.wp;cases hasF c.cr0 65536<;>rfl
 rw [← ha] at hb
 clear ha
 go_enter Tryz.func270,Tryz.ntmps270
 go_wp2
 refine bodyPost_ret (v:=.agg #[.bool wr,.bool false,.bool c.wp]) (by simp [results,Tryz.results270,go_sem]) rfl ⟨rfl,?_⟩
 exact Kp.alloc noB w _
theorem program_way (w:World) (C:Nat) (c:Cp) (wr:Bool) (h:CpAt w C c):Calls Tryz.prog 251 #[.pointer (some ⟨C,0,none⟩),.bool wr] w fun e w'=>e=.returned (.agg #[.bool wr,.bool c.us,.bool c.wp])∧Kp noB w w':=by
 have s1:w.cell? ⟨C,19,none⟩=some (.int .u16 (c.seg 1).sel):=(h.sg 1 (by decide)).a0
 have q:=h.ok.sg 1 (by decide)
 have hlt:=h.lt
 have hb:(bits .and .u16 (c.seg 1).sel 3==3)=c.us:=by
  have h2:=Nat.and_two_pow_sub_one_eq_mod (c.seg 1).sel.toNat 2
  have e:(3:Int).toNat=2 ^ 2 - 1:=by decide
  rw [u16_and _ 3 q.s0 q.s1 (by decide) (by decide),e,h2]
  have:=q.s0
  unfold Cp.us
  rw [Bool.eq_iff_iff,beq_iff_eq,decide_eq_true_iff]
  omega
 have cO:=own_way (w.alloc (.cells #[.bool false,.bool false,.bool false] 330)) C c wr (h.kp0 (Kp.alloc _ _ _))
 go_enter Tryz.func251,Tryz.ntmps251
 go_wp2_with fail
 refine cO.mono ?_;rintro e w1 ⟨rfl,k1⟩
 have k1':=(Kp.alloc noB w (.cells #[.bool false,.bool false,.bool false] 330)).trans k1
 have r1:RowB w1 w.heap.size false false false:=RowB.kp (MapKept.heap_alloc w _).1 k1 (fun f=>f)
 have s2:=cell_kp s1 k1' (fun f=>f)
 have c0:=r1.c0;have c1:=r1.c1;have c2:=r1.c2
 have f0:w1.frozen? ⟨w.heap.size,0,none⟩=false:=frozen_at r1
 have f1:w1.frozen? ⟨w.heap.size,1,none⟩=false:=frozen_at r1
 have f2:w1.frozen? ⟨w.heap.size,2,none⟩=false:=frozen_at r1
 have hl1:=r1.lt
 have s3:=cell_kp s2 (Kp.alloc noB w1 (.cells #[.bool wr,.bool false,.bool c.wp] 330)) (fun f=>f)
 have r2:=(((r1.s0 wr).s1 c.us).s2 c.wp).kp (Kp.alloc noB _ (.cells #[.bool wr,.bool c.us,.bool c.wp] 330)) (fun f=>f)
 have kF:=(((k1'.own' (i:=0) (Nat.le_refl _) (.bool wr)).own' (i:=1) (Nat.le_refl _) (.bool c.us)).own' (i:=2) (Nat.le_refl _) (.bool c.wp)).trans (Kp.alloc noB _ (.cells #[.bool wr,.bool c.us,.bool c.wp] 330))
 go_wp2
 refine bodyPost_ret (v:=.agg #[.bool wr,.bool c.us,.bool c.wp]) (by simp [results,Tryz.results251,go_sem,r2.c0,r2.c1,r2.c2]) rfl ⟨rfl,kF⟩
theorem vRam_ok (w:World) (V B K:Nat) (h:w.cell? ⟨V,0,none⟩=some (.pointer (some ⟨B+3,0,none⟩))):Calls Tryz.prog 19 #[.pointer (some ⟨V,0,none⟩)] w fun e w'=>e=.returned (.pointer (some ⟨B+3,0,none⟩))∧w'=w:=by
 go_enter Tryz.func19,Tryz.ntmps19
 go_wp2
 go_ret
 exact ⟨rfl,rfl⟩
structure WfC (cs:Array Value):Prop where
 s:cs.size=83
 o:∀ v ∈ cs.toList,v.oneCell'=true
theorem WfC.set {cs:Array Value} (h:WfC cs) (k:Nat) {v:Value} (hv:v.oneCell'=true):WfC (cs.setIfInBounds k v) where
 s:=by simp [h.s]
 o:=fun x hx=>by
  rw [Array.toList_setIfInBounds] at hx
  rcases List.mem_or_eq_of_mem_set hx with f | f
  ·exact h.o x f
  ·rw [f];exact hv
def cpuZ:Array Value:=#[.int .u32 0,.int .u32 0,.int .u32 0,.int .u32 0,.int .u32 0,.int .u32 0,.int .u32 0,.int .u32 0,.int .u32 0,.int .u32 0,.int .u16 0,.bool false,.int .u32 0,.int .u32 0,.int .i64 0,.bool false,.int .i64 0,.bool false,.bool false,.int .u16 0,.bool false,.int .u32 0,.int .u32 0,.int .i64 0,.bool false,.int .i64 0,.bool false,.bool false,.int .u16 0,.bool false,.int .u32 0,.int .u32 0,.int .i64 0,.bool false,.int .i64 0,.bool false,.bool false,.int .u16 0,.bool false,.int .u32 0,.int .u32 0,.int .i64 0,.bool false,.int .i64 0,.bool false,.bool false,.int .u16 0,.bool false,.int .u32 0,.int .u32 0,.int .i64 0,.bool false,.int .i64 0,.bool false,.bool false,.int .u16 0,.bool false,.int .u32 0,.int .u32 0,.int .i64 0,.bool false,.int .i64 0,.bool false,.bool false,.int .u32 0,.int .u32 0,.int .u32 0,.int .u32 0,.int .u16 0,.int .u32 0,.int .u16 0,.int .u16 0,.bool false,.int .u32 0,.int .u32 0,.int .i64 0,.bool false,.int .i64 0,.bool false,.bool false,.bool false,.bool false,.bool false]
structure VlP (T:TypeId) (n:Nat) (Z:Array Value):Prop where
 t:T=33
 s:n=83
 z:Z=cpuZ
 agg:∀ w,(isAgg T).run Tryz.prog w=.ok true w
 size:∀ w,(sizeOf T).run Tryz.prog w=.ok n w
 zero:∀ w,(zeroValue T).run Tryz.prog w=.ok (.agg Z) w
 wf:WfC Z
 z64:Z[64]?=some (.int .u32 0)
 z66:Z[66]?=some (.int .u32 0)
theorem vlP:∃ T n Z,VlP T n Z:=
 ⟨_,_,_,rfl,rfl,rfl,fun w=>by kernel_rfl,fun w=>by kernel_rfl,fun w=>by kernel_rfl,⟨by kernel_rfl,by
  have:cpuZ.toList.all (fun v=>v.oneCell')=true:=by kernel_rfl
  exact fun v hv=>List.all_eq_true.1 this v hv⟩,by kernel_rfl,by kernel_rfl⟩
theorem VlP.ops {T:TypeId} {n:Nat} {Z:Array Value} (h:VlP T n Z):
  (∀ x,Op.load 33 x=Op.load T x)∧(∀ x y,Op.store 33 x y=Op.store T x y)∧Op.alloc 33=Op.alloc T∧∀ x,Op.box 33 x=Op.box T x:=by
 rw [h.t]
 exact ⟨fun _=>rfl,fun _ _=>rfl,rfl,fun _=>rfl⟩
def PAt (w:World) (q:Nat) (cs:Array Value):Prop:=w.heap[q]?=some (.cells cs 33 (0,0))∧WfC cs
theorem PAt.lt {w:World} {q:Nat} {cs:Array Value} (h:PAt w q cs):q < w.heap.size:=(Array.getElem?_eq_some_iff.1 h.1).1
theorem PAt.kp {S:Nat→Prop} {w w':World} {q:Nat} {cs:Array Value} (h:PAt w q cs) (k:Kp S w w') (hS:¬ S q):PAt w' q cs:=⟨(k.block q h.lt hS).trans h.1,h.2⟩
theorem PAt.cell {w:World} {q:Nat} {cs:Array Value} (h:PAt w q cs) {k:Nat} {v:Value} (hv:cs[k]?=some v):w.cell? ⟨q,k,none⟩=some v:=by rw [cell_at h.1];exact hv
theorem PAt.some {w:World} {q:Nat} {cs:Array Value} (h:PAt w q cs) {k:Nat} (hk:k < 83):∃ v,w.cell? ⟨q,k,none⟩=Option.some v:=by
 have:k < cs.size:=by rw [h.2.s];exact hk
 exact ⟨cs[k],h.cell (Array.getElem?_eq_getElem this)⟩
theorem PAt.fz {w:World} {q:Nat} {cs:Array Value} (h:PAt w q cs) (j:Nat):w.frozen? ⟨q,j,none⟩=false:=frozen_at h.1
theorem PAt.set {w:World} {q:Nat} {cs:Array Value} (h:PAt w q cs) (k:Nat) {v:Value} (hv:v.oneCell'=true):PAt (w.setCell ⟨q,k,none⟩ v) q (cs.setIfInBounds k v):=⟨heap_setCell_at h.1 _,h.2.set k hv⟩
section
variable {T:TypeId} {n:Nat} {Z:Array Value}
theorem VlP.get (h:VlP T n Z) {w:World} {q:Nat} {cs:Array Value} (hq:PAt w q cs):(loadCellsFrom ⟨q,0,none⟩ 0 n #[]).run Tryz.prog w=.ok cs w:=by
 have e:=run_loadCells_list (P:=Tryz.prog) w ⟨q,0,none⟩ cs.toList (fun j v hv=>by
  rw [Addr.add_mid,Nat.zero_add]
  exact hq.cell (by rw [← Array.getElem?_toList];exact hv))
 rw [h.s]
 have:cs.toList.length=83:=hq.2.s
 rw [this] at e
 exact e
theorem put_cpu {w:World} {q:Nat} {c cs:Array Value} {T:TypeId} (h:w.heap[q]?=some (.cells c T (0,0))) (hc:c.size=83) (wf:WfC cs):(storeCells ⟨q,0,none⟩ cs.toList).run Tryz.prog w=.ok () (w.setRow q cs):=by
 have e:=run_storeCells_at Tryz.prog q 0 T cs.toList 0 c w h (by simp [hc,wf.s]) wf.o
 rw [e]
 have e2:(List.take (0+0) c.toList++cs.toList++List.drop (0+0+cs.toList.length) c.toList).toArray=cs:=by
  have h1:List.drop (0+0+cs.toList.length) c.toList=[]:=List.drop_eq_nil_of_le (by simp [hc,wf.s])
  rw [h1]
  simp
 rw [e2]
theorem VlP.at (h:VlP T n Z) {cs:Array Value} (wf:WfC cs) (W:World):PAt (W.alloc (.cells cs T)) W.heap.size cs:=by
 rw [h.t];exact ⟨(MapKept.heap_alloc W _).1,wf⟩
theorem VlP.put {w:World} {q:Nat} {c cs:Array Value} (hq:PAt w q c) (wf:WfC cs):(storeCells ⟨q,0,none⟩ cs.toList).run Tryz.prog w=.ok () (w.setRow q cs):=put_cpu hq.1 hq.2.s wf
theorem PAt.put {w:World} {q:Nat} {c cs:Array Value} (hq:PAt w q c) (wf:WfC cs):PAt (w.setRow q cs) q cs:=⟨setRow_heap w q _ _ _ _ hq.1,wf⟩
end
structure SgC (cs:Array Value) (o:Nat) (r:SgR):Prop where
 a0:cs[o]?=some (.int .u16 r.sel)
 a1:cs[o+1]?=some (.bool r.nl)
 a2:cs[o+2]?=some (.int .u32 r.b)
 a3:cs[o+3]?=some (.int .u32 r.l)
 a4:cs[o+4]?=some (.int .i64 r.t)
 a5:cs[o+5]?=some (.bool r.s)
 a6:cs[o+6]?=some (.int .i64 r.d)
 a7:cs[o+7]?=some (.bool r.p)
 a8:cs[o+8]?=some (.bool r.g)
structure CpC (cs:Array Value) (c:Cp):Prop where
 sg:∀ i,i < 6→SgC cs (10+i*9) (c.seg i)
 z:cs[64]?=some (.int .u32 c.cr0)
 t:cs[66]?=some (.int .u32 c.cr3)
def set9 (cs:Array Value) (o:Nat) (r:SgR):Array Value:=
 ((((((((cs.setIfInBounds o (.int .u16 r.sel)).setIfInBounds (o+1) (.bool r.nl)).setIfInBounds (o+2) (.int .u32 r.b)).setIfInBounds (o+3) (.int .u32 r.l)).setIfInBounds (o+4) (.int .i64 r.t)).setIfInBounds (o+5) (.bool r.s)).setIfInBounds (o+6) (.int .i64 r.d)).setIfInBounds (o+7) (.bool r.p)).setIfInBounds (o+8) (.bool r.g)
theorem set9_wf {cs:Array Value} (h:WfC cs) (o:Nat) (r:SgR):WfC (set9 cs o r):=
 ((((((((h.set _ rfl).set _ rfl).set _ rfl).set _ rfl).set _ rfl).set _ rfl).set _ rfl).set _ rfl).set _ rfl
theorem set9_ne {cs:Array Value} {o k:Nat} (r:SgR) (h:k < o∨o+9≤k):(set9 cs o r)[k]?=cs[k]?:=by
 unfold set9
 rw [Array.getElem?_setIfInBounds_ne (by omega),Array.getElem?_setIfInBounds_ne (by omega),Array.getElem?_setIfInBounds_ne (by omega),Array.getElem?_setIfInBounds_ne (by omega),Array.getElem?_setIfInBounds_ne (by omega),Array.getElem?_setIfInBounds_ne (by omega),Array.getElem?_setIfInBounds_ne (by omega),Array.getElem?_setIfInBounds_ne (by omega),Array.getElem?_setIfInBounds_ne (by omega)]
theorem set9_at {cs:Array Value} {o:Nat} (r:SgR) (h:o+9≤cs.size):SgC (set9 cs o r) o r:=by
 unfold set9
 constructor<;>simp [Array.getElem?_setIfInBounds]<;>omega
theorem SgC.ne {cs:Array Value} {o p:Nat} {r q:SgR} (h:SgC cs o q) (hp:o+9≤p∨p+9≤o):SgC (set9 cs p r) o q:=by
 obtain ⟨a0,a1,a2,a3,a4,a5,a6,a7,a8⟩:=h
 constructor
 all_goals rw [set9_ne r (by omega)];assumption
def setW9 (w:World) (X o:Nat) (r:SgR):World:=
 ((((((((w.setCell ⟨X,o,none⟩ (.int .u16 r.sel)).setCell ⟨X,o+1,none⟩ (.bool r.nl)).setCell ⟨X,o+2,none⟩ (.int .u32 r.b)).setCell ⟨X,o+3,none⟩ (.int .u32 r.l)).setCell ⟨X,o+4,none⟩ (.int .i64 r.t)).setCell ⟨X,o+5,none⟩ (.bool r.s)).setCell ⟨X,o+6,none⟩ (.int .i64 r.d)).setCell ⟨X,o+7,none⟩ (.bool r.p)).setCell ⟨X,o+8,none⟩ (.bool r.g)
theorem PAt.set9 {w:World} {X:Nat} {cs:Array Value} (h:PAt w X cs) (o:Nat) (r:SgR):PAt (setW9 w X o r) X (set9 cs o r):=
 ((((((((h.set o rfl).set (o+1) rfl).set (o+2) rfl).set (o+3) rfl).set (o+4) rfl).set (o+5) rfl).set (o+6) rfl).set (o+7) rfl).set (o+8) rfl
theorem kp_setW9 (w:World) (X o:Nat) (r:SgR):Kp (fun j=>j=X) w (setW9 w X o r):=by
 have k:∀ (W:World) (o:Nat) (v:Value),Kp (fun j=>j=X) W (W.setCell ⟨X,o,none⟩ v):=fun W o v=>Kp.setCell (S:=fun j=>j=X) W (p:=⟨X,o,none⟩) rfl v
 exact ((((((((k _ _ _).trans (k _ _ _)).trans (k _ _ _)).trans (k _ _ _)).trans (k _ _ _)).trans (k _ _ _)).trans (k _ _ _)).trans (k _ _ _)).trans (k _ _ _)
end Go.Proofs.YtacgmoikegcopaaGreatDoor.Rm
