/- The bus and its devices: OrdG, OrdP, VmFindN, VmSeg. -/
import Derived.Test.YtacgmoikegcopaaGreatDoorEc01
import Derived.OrdersHeld
import Derived.Test.YtacgmoikegcopaaGreatDoorEc06
namespace Go.OrdG
open Go
set_option linter.unusedVariables false
set_option maxRecDepth 20000
def neat (ops:Array Oper):Bool:=
 (List.range ops.size).all fun i=>match ops[i]? with
  | none=>true
  | some o=>(match o.guard with
    | none=>true
    | some (g,_)=>match (ops[g]?).bind (·.dst) with
     | none=>false
     | some s=>(List.range ops.size).all fun j=>((ops[j]?).bind (·.dst)) != some s||o.after.any fun e=>Region.binds .any e&&e.on==j)&&(o.after.all fun e=>!Region.binds .any e||decide (e.on < i))&&o.op.operands.all fun x=>match x with
   | .tmp s=>(List.range ops.size).all fun j=>((ops[j]?).bind (·.dst)) != some s||o.after.any fun e=>Region.binds .any e&&e.on==j
   | _=>true
def Agr (ops:Array Oper) (listed:Array Bool) (a b:Act):Prop:=
 a.defers=b.defers∧a.tmps.size=b.tmps.size∧∀ d,(∀ j o,ops[j]?=some o→o.dst=some d→listed.getD j false=true)→a.tmps[d]?=b.tmps[d]?
def Shut (ops:Array Oper) (listed:Array Bool):Prop:=
 ∀ (j:Nat) (o:Oper),ops[j]?=some o→listed.getD j false=true→∀ e ∈ o.after,Region.binds .any e=true→listed.getD e.on false=true
def Qn:Exit→Act→World→Prop:=fun _ _ _=>False
theorem neat_spec {ops:Array Oper} (h:neat ops=true) {i:Nat} {o:Oper} (ho:ops[i]?=some o):
  (∀ g b,o.guard=some (g,b)→∃ s,(ops[g]?).bind (·.dst)=some s∧∀ j oj,ops[j]?=some oj→oj.dst=some s→∃ e ∈ o.after,Region.binds .any e=true∧e.on=j)∧(∀ e ∈ o.after,Region.binds .any e=true→e.on < i)∧∀ s,Operand.tmp s ∈ o.op.operands→∀ j oj,ops[j]?=some oj→oj.dst=some s→∃ e ∈ o.after,Region.binds .any e=true∧e.on=j:=by
 have hlt:i < ops.size:=(Array.getElem?_eq_some_iff.1 ho).1
 have h1:=List.all_eq_true.1 h i (List.mem_range.2 hlt)
 rw [ho] at h1
 simp only [Bool.and_eq_true] at h1
 obtain ⟨⟨h2,h3⟩,h4⟩:=h1
 refine ⟨fun g b hg=>?_,fun e he hb=>?_,fun s hs j oj hj hd=>?_⟩
 ·rw [hg] at h2
  simp only at h2
  cases hs:(ops[g]?).bind (·.dst) with
  | none=>rw [hs] at h2;cases h2
  | some s=>
   rw [hs] at h2
   simp only at h2
   refine ⟨s,rfl,fun j oj hj hd=>?_⟩
   have h6:=List.all_eq_true.1 h2 j (List.mem_range.2 (Array.getElem?_eq_some_iff.1 hj).1)
   simp only [hj,Option.bind_some,hd,bne_self_eq_false,Bool.false_or] at h6
   obtain ⟨k,hk,h7⟩:=Array.any_eq_true.1 h6
   simp only [Bool.and_eq_true,beq_iff_eq] at h7
   exact ⟨_,Array.getElem_mem hk,h7.1,h7.2⟩
 ·have:=Array.all_eq_true_iff_forall_mem.1 h3 e he
  simpa [hb] using this
 ·have h5:=Array.all_eq_true_iff_forall_mem.1 h4 (.tmp s) hs
  have h6:=List.all_eq_true.1 h5 j (List.mem_range.2 (Array.getElem?_eq_some_iff.1 hj).1)
  simp only [hj,Option.bind_some,hd,bne_self_eq_false,Bool.false_or] at h6
  obtain ⟨k,hk,h7⟩:=Array.any_eq_true.1 h6
  simp only [Bool.and_eq_true,beq_iff_eq] at h7
  exact ⟨_,Array.getElem_mem hk,h7.1,h7.2⟩
theorem put_tr {a b:Act} {dst:Option Tmp} {u v:Value} (hs:a.tmps.size=b.tmps.size) (h:b.put dst u=b.put dst v):a.put dst u=a.put dst v:=by
 cases dst with
 | none=>rfl
 | some d=>
  by_cases hd:d < b.tmps.size
  ·have h1:(b.tmps.setIfInBounds d u)[d]?=(b.tmps.setIfInBounds d v)[d]?:=congrArg (fun x:Act=>x.tmps[d]?) h
   rw [Array.getElem?_setIfInBounds_self_of_lt hd,Array.getElem?_setIfInBounds_self_of_lt hd] at h1
   rw [Option.some.inj h1]
  ·have:∀ z,a.tmps.setIfInBounds d z=a.tmps:=fun z=>Array.setIfInBounds_eq_of_size_le (by rw [hs];exact Nat.le_of_not_lt hd)
   show ({ a with tmps:=_ }:Act)={ a with tmps:=_ }
   rw [this,this]
theorem put_defers_ne {b:Act} {dst:Option Tmp} {d:Deferred} {v:Value} (h:({ b with defers:=d::b.defers }:Act).put dst undef=b.put dst v):False:=by
 have h1:=congrArg (fun x:Act=>x.defers.length) h
 cases dst<;>simp [Act.put] at h1
theorem wp_tr {P:Program} {o:Oper} {a b:Act} {w:World} {R:Value→World→Prop} {Q:Exit→Act→World→Prop}
  (he:execOp a.eval o=execOp b.eval o) (hs:a.tmps.size=b.tmps.size)
  (h:o.wp P b w (fun a' w'=>∃ v,a'=b.put o.dst v∧R v w') Qn):o.wp P a w (fun a' w'=>∃ v,a'=a.put o.dst v∧R v w') Q:=by
 unfold Oper.wp at *
 rw [he]
 have nl:¬ LetsOut Qn:=fun ⟨_,_,h⟩=>h
 generalize (execOp b.eval o).run P w=r at *
 cases r with
 | ok n w'=>
  cases n<;>simp only [Oper.upon] at h ⊢
  case value v=>obtain ⟨u,e,hr⟩:=h;exact ⟨u,put_tr hs e,hr⟩
  case skip=>obtain ⟨u,e,hr⟩:=h;exact ⟨u,put_tr hs e,hr⟩
  case defer d=>obtain ⟨u,e,hr⟩:=h;exact (put_defers_ne e).elim
  case enter f args=>
   refine Calls.mono h (fun e w'' hh=>?_)
   cases e with
   | returned v=>obtain ⟨u,e,hr⟩:=hh;exact ⟨u,put_tr hs e,hr⟩
   | panicked c=>exact hh.elim
   | outgrown=>exact (nl hh).elim
  case row r args=>
   refine Rows.mono h (fun v w'' hh=>?_)
   obtain ⟨u,e,hr⟩:=hh;exact ⟨u,put_tr hs e,hr⟩
 | halt x w'=>cases x<;>simp only [Oper.upon] at h ⊢<;>exact h.elim
theorem getD_tf {l:Array Bool} {i:Nat} (h:i < l.size) (h1:l.getD i true=false):l.getD i false=false:=by
 simp [Array.getD,h] at *;exact h1
section
variable {P:Program} {ops:Array Oper} {Q:Exit→Act→World→Prop} {τ:Type} (A:τ→Act) (I:τ→Array Bool→World→Prop)
theorem all_listed (hn:neat ops=true) {listed:Array Bool} (hz:listed.size=ops.size) (hr:Region.ready .any ops listed=[]):∀ i,i < ops.size→listed.getD i false=true:=by
 intro i
 induction i using Nat.strongRecOn with
 | _ i ih=>
  intro hi
  have ho:ops[i]?=some ops[i]:=Array.getElem?_eq_getElem hi
  by_cases hl:listed.getD i true=false
  ·have:i ∈ Region.ready .any ops listed:=mem_ready.2 ⟨hl,_,ho,fun e he hb=>by
    have:=(neat_spec hn ho).2.1 e he hb
    exact ih _ this (by omega)⟩
   rw [hr] at this
   cases this
  ·have hi':i < listed.size:=by omega
   simp [Array.getD,hi'] at hl ⊢
   exact hl
theorem wpAny_free (hn:neat ops=true) (hs:Region.noSelect ops=true)
  (hwa:∀ (t:τ) (i:Nat) (o:Oper),ops[i]?=some o→Region.wanted o (yielded ops (A t).tmps)=true)
  (step:∀ (i:Nat) (o:Oper),ops[i]?=some o→∀ (t:τ) (listed:Array Bool) (w:World),listed.size=ops.size→Shut ops listed→listed.getD i false=false→I t listed w→
   (∀ e ∈ o.after,Region.binds .any e=true→listed.getD e.on false=true)→
   o.wp P (A t) w (fun a' w'=>∃ v,a'=(A t).put o.dst v∧∃ t',(∀ d,o.dst=some d→(A t').tmps[d]?=some v)∧Agr ops listed (A t) (A t')∧I t' (listed.setIfInBounds i true) w') Qn)
  (done:∀ (t:τ) (listed:Array Bool) (w:World),(∀ i,i < ops.size→listed.getD i false=true)→I t listed w→Q .normal (A t) w):
  ∀ (fuel:Nat) (listed:Array Bool) (a:Act) (w:World),listed.size=ops.size→listed.toList.count false≤fuel→Shut ops listed→(∃ t,Agr ops listed a (A t)∧I t listed w)→wpAny P .any ops Q fuel listed a w:=by
 have fin:∀ (listed:Array Bool) (a:Act) (w:World),listed.size=ops.size→(∃ t,Agr ops listed a (A t)∧I t listed w)→Region.ready .any ops listed=[]→Q .normal a w:=by
  rintro listed a w hz ⟨t,⟨g1,g2,g3⟩,hI⟩ hr
  have hall:=all_listed hn hz hr
  have e:a=A t:=by
   have ht:a.tmps=(A t).tmps:=Array.ext_getElem? fun d=>g3 d fun j o hj _=>hall j (Array.getElem?_eq_some_iff.1 hj).1
   cases ha:a with
   | mk x y=>cases hb:A t with
    | mk x' y'=>rw [ha,hb] at ht g1;simp only at ht g1;rw [ht,g1]
  rw [e]
  exact done t listed w hall hI
 intro fuel
 induction fuel with
 | zero=>
  intro listed a w hz hc hS hI
  have hr:Region.ready .any ops listed=[]:=by
   cases hr:Region.ready .any ops listed with
   | nil=>rfl
   | cons i l=>
    have hi:i ∈ Region.ready .any ops listed:=by rw [hr];simp
    obtain ⟨h1,o,ho,_⟩:=mem_ready.1 hi
    have hlt:i < listed.size:=by rw [hz];exact (Array.getElem?_eq_some_iff.1 ho).1
    have hm:false ∈ listed.toList:=by
     simp [Array.getD,hlt] at h1
     rw [← h1]
     simp
    have:=List.count_pos_iff.2 hm
    omega
  exact ⟨hr,fin listed a w hz hI hr⟩
 | succ fuel ih=>
  intro listed a w hz hc hS hI
  refine ⟨fin listed a w hz hI,fun i hi=>?_⟩
  obtain ⟨t,⟨g1,g2,g3⟩,hI⟩:=hI
  obtain ⟨h1,o,ho,hb⟩:=mem_ready.1 hi
  have hlt:i < ops.size:=(Array.getElem?_eq_some_iff.1 ho).1
  have h1':=getD_tf (by omega) h1
  obtain ⟨n1,n2,n3⟩:=neat_spec hn ho
  have he:execOp a.eval o=execOp (A t).eval o:=execOp_congr o (fun cs b=>Region.noSelect_spec hs i o cs b ho) fun x hx=>by
   cases x with
   | tmp s=>
    have:=g3 s fun j oj hj hd=>by
     obtain ⟨e,he,hbe,rfl⟩:=n3 s hx j oj hj hd
     exact hb e he hbe
    show a.tmps.getD s undef=(A t).tmps.getD s undef
    rw [Array.getD_eq_getD_getElem?,Array.getD_eq_getD_getElem?,this]
   | _=>rfl
  have hw:=step i o ho t listed w hz hS h1' hI hb
  have hw':=wp_tr (Q:=Q) (a:=a) he g2 hw
  unfold wpOp
  rw [ho]
  have hwant:Region.wanted o (yielded ops a.tmps)=true:=by
   rw [← hwa t i o ho]
   unfold Region.wanted
   cases hg:o.guard with
   | none=>rfl
   | some gb=>
    obtain ⟨g,b⟩:=gb
    obtain ⟨s,hs1,hs2⟩:=n1 g b hg
    have:=g3 s fun j oj hj hd=>by
     obtain ⟨e,he,hbe,rfl⟩:=hs2 j oj hj hd
     exact hb e he hbe
    show (yielded ops a.tmps g==some b)=(yielded ops (A t).tmps g==some b)
    unfold yielded
    rw [hs1]
    simp only [Option.bind_some,this]
  simp only [hwant,if_true]
  left
  refine Oper.wp_mono ?_ hw'
  rintro a' w' ⟨v,rfl,t',hv,⟨q1,q2,q3⟩,hI'⟩
  refine ih _ _ _ (by simpa using hz) ?_ ?_ ⟨t',⟨?_,?_,?_⟩,hI'⟩
  ·have hl:listed.toList[i]?=some false:=by
    have:i < listed.size:=by omega
    simp [Array.getD,this] at h1
    simp [this,h1]
   have hm:=List.count_set (a:=true) (b:=false) (l:=listed.toList) (i:=i) (by simp;omega)
   rw [Array.toList_setIfInBounds]
   have h3:listed.toList[i]'(by simp;omega)=false:=by
    rw [List.getElem?_eq_some_iff] at hl;exact hl.2
   rw [hm,h3]
   have h4:=List.count_pos_iff.2 (List.mem_of_getElem? hl)
   simp only [beq_self_eq_true,if_true]
   have:(true==false)=false:=rfl
   rw [this]
   simp only [Bool.false_eq_true,if_false]
   omega
  ·intro j oj hj hl e he hbe
   by_cases hij:i=j
   ·subst hij
    rw [ho] at hj
    obtain rfl:=Option.some.inj hj
    exact getD_set_true (hb e he hbe)
   ·rw [getD_set_ne false hij] at hl
    exact getD_set_true (hS j oj hj hl e he hbe)
  ·rw [← q1,← g1];cases o.dst<;>rfl
  ·rw [← q2,← g2];cases o.dst<;>simp [Act.put]
  ·intro d hd
   by_cases hod:o.dst=some d
   ·rw [hod]
    have h5:=hv d hod
    rw [h5]
    have:d < a.tmps.size:=by rw [g2,q2];exact (Array.getElem?_eq_some_iff.1 h5).1
    exact Array.getElem?_setIfInBounds_self_of_lt this
   ·have hpre:∀ j oj,ops[j]?=some oj→oj.dst=some d→listed.getD j false=true:=fun j oj hj hdj=>by
     have h6:=hd j oj hj hdj
     have hij:i≠j:=by
      rintro rfl
      rw [ho] at hj
      obtain rfl:=Option.some.inj hj
      exact hod hdj
     rwa [getD_set_ne false hij] at h6
    have:(a.put o.dst v).tmps[d]?=a.tmps[d]?:=by
     cases hdst:o.dst with
     | none=>rfl
     | some z=>exact Array.getElem?_setIfInBounds_ne (fun e=>hod (by rw [hdst,e]))
    rw [this,g3 d hpre,q3 d hpre]
theorem wp_region_free {id:Nat} {a:Act} {w:World} (hm:P.follows .mixedOrders=true) (hn:neat ops=true) (hs:Region.noSelect ops=true) (t0:τ)
  (hwa:∀ (t:τ) (i:Nat) (o:Oper),ops[i]?=some o→Region.wanted o (yielded ops (A t).tmps)=true)
  (h0:Agr ops (Array.replicate ops.size false) a (A t0)) (hI:I t0 (Array.replicate ops.size false) { w with drawn:=w.drawn+1 })
  (done:∀ (t:τ) (listed:Array Bool) (w:World),(∀ i,i < ops.size→listed.getD i false=true)→I t listed w→Q .normal (A t) w)
  (step:∀ (i:Nat) (o:Oper),ops[i]?=some o→∀ (t:τ) (listed:Array Bool) (w:World),listed.size=ops.size→Shut ops listed→listed.getD i false=false→I t listed w→
   (∀ e ∈ o.after,Region.binds .any e=true→listed.getD e.on false=true)→
   o.wp P (A t) w (fun a' w'=>∃ v,a'=(A t).put o.dst v∧∃ t',(∀ d,o.dst=some d→(A t').tmps[d]?=some v)∧Agr ops listed (A t) (A t')∧I t' (listed.setIfInBounds i true) w') Qn):
  (Code.region id ops true).wp P Q a w:=
 wp_region_any hm (wpAny_free A I hn hs hwa step done _ _ _ _ (by simp) (by simp) (fun j o hj hl=>by
  have:(Array.replicate ops.size false).getD j false=false:=by simp [Array.getD]
  rw [this] at hl;cases hl) ⟨t0,h0,hI⟩)
end
def puts:List Oper→List Value→Act→Act
 | o::os,v::vs,a=>puts os vs (a.put o.dst v)
 | _,_,a=>a
theorem puts_size:∀ (os:List Oper) (vs:List Value) (a:Act),(puts os vs a).tmps.size=a.tmps.size∧(puts os vs a).defers=a.defers
 | [],_,a=>⟨rfl,rfl⟩
 | _::_,[],a=>⟨rfl,rfl⟩
 | o::os,v::vs,a=>by
  have:=puts_size os vs (a.put o.dst v)
  refine ⟨this.1.trans ?_,this.2.trans ?_⟩<;>cases o.dst<;>simp [Act.put]
theorem put_get_ne {a:Act} {x:Option Tmp} {v:Value} {d:Nat} (h:x≠some d):(a.put x v).tmps[d]?=a.tmps[d]?:=by
 cases x with
 | none=>rfl
 | some z=>exact Array.getElem?_setIfInBounds_ne (fun e=>h (by rw [e]))
theorem puts_get_ne {d:Nat}:∀ (os:List Oper) (vs:List Value) (a:Act),(∀ o ∈ os,o.dst≠some d)→(puts os vs a).tmps[d]?=a.tmps[d]?
 | [],_,a,_=>rfl
 | _::_,[],a,_=>rfl
 | o::os,v::vs,a,h=>(puts_get_ne os vs _ (fun o ho=>h o (List.mem_cons_of_mem _ ho))).trans (put_get_ne (h o (by simp)))
theorem puts_agree {d:Nat}:∀ (os:List Oper) (us vs:List Value) (a b:Act),us.length=vs.length→a.tmps.size=b.tmps.size→a.tmps[d]?=b.tmps[d]?→
  (∀ (j:Nat) (o:Oper),os[j]?=some o→o.dst=some d→us[j]?=vs[j]?)→(puts os us a).tmps[d]?=(puts os vs b).tmps[d]?
 | [],_,_,a,b,_,_,h,_=>h
 | o::os,[],[],a,b,_,_,h,_=>h
 | o::os,u::us,v::vs,a,b,hl,hs,h,hv=>by
  refine puts_agree os us vs _ _ (by simpa using hl) (by cases o.dst<;>simp [Act.put,hs]) ?_ (fun j o' hj hd=>by simpa using hv (j+1) o' (by simpa using hj) hd)
  by_cases hd:o.dst=some d
  ·have e:=hv 0 o rfl hd
   simp only [List.getElem?_cons_zero,Option.some.injEq] at e
   rw [hd,e]
   by_cases hb:d < b.tmps.size
   ·show (a.tmps.setIfInBounds d v)[d]?=(b.tmps.setIfInBounds d v)[d]?
    rw [Array.getElem?_setIfInBounds_self_of_lt hb,Array.getElem?_setIfInBounds_self_of_lt (by rw [hs];exact hb)]
   ·show (a.tmps.setIfInBounds d v)[d]?=(b.tmps.setIfInBounds d v)[d]?
    rw [Array.setIfInBounds_eq_of_size_le (Nat.le_of_not_lt hb),Array.setIfInBounds_eq_of_size_le (by rw [hs];exact Nat.le_of_not_lt hb)]
    exact h
  ·rw [put_get_ne hd,put_get_ne hd];exact h
def once:List Oper→Nat→Bool
 | [],_=>true
 | o::os,n=>(match o.dst with | none=>true | some d=>decide (d < n)&&os.all fun p=>p.dst != some d)&&once os n
theorem puts_get {d:Nat} {v:Value} {n:Nat}:∀ (os:List Oper) (vs:List Value) (a:Act) (i:Nat) (o:Oper),once os n=true→a.tmps.size=n→os[i]?=some o→o.dst=some d→vs[i]?=some v→(puts os vs a).tmps[d]?=some v
 | [],_,a,i,o,_,_,ho,_,_=>by simp at ho
 | _::_,[],a,i,o,_,_,_,_,hv=>by simp at hv
 | p::os,u::vs,a,0,o,h1,hs,ho,hd,hv=>by
  simp only [List.getElem?_cons_zero,Option.some.injEq] at ho hv
  subst ho;subst hv
  simp only [once,hd,Bool.and_eq_true,decide_eq_true_eq] at h1
  show (puts os vs (a.put p.dst u)).tmps[d]?=_
  rw [puts_get_ne os vs _ (fun o ho=>by have:=List.all_eq_true.1 h1.1.2 o ho;simpa using this),hd]
  exact Array.getElem?_setIfInBounds_self_of_lt (by rw [hs];exact h1.1.1)
 | p::os,u::vs,a,i+1,o,h1,hs,ho,hd,hv=>by
  simp only [once,Bool.and_eq_true] at h1
  exact puts_get os vs _ i o h1.2 (by cases p.dst<;>simp [Act.put,hs]) (by simpa using ho) hd (by simpa using hv)
def Each (S:Nat→Oper→Prop):List Oper→Nat→Prop
 | [],_=>True
 | o::os,k=>S k o∧Each S os (k+1)
theorem Each.get {S:Nat→Oper→Prop}:∀ (os:List Oper) (k:Nat),Each S os k→∀ i o,os[i]?=some o→S (k+i) o
 | [],_,_,i,o,h=>by simp at h
 | p::os,k,h,0,o,ho=>by simp only [List.getElem?_cons_zero,Option.some.injEq] at ho;exact ho ▸ h.1
 | p::os,k,h,i+1,o,ho=>by
  have:=Each.get os (k+1) h.2 i o (by simpa using ho)
  rwa [show k+1+i=k+(i+1) by omega] at this
def Step1 {τ:Type} (P:Program) (ops:Array Oper) (vals:τ→List Value) (B:τ→Act) (I:τ→Array Bool→World→Prop) (i:Nat) (o:Oper):Prop:=
 ∀ (t:τ) (listed:Array Bool) (w:World),listed.size=ops.size→Shut ops listed→listed.getD i false=false→I t listed w→
  (∀ e ∈ o.after,Region.binds .any e=true→listed.getD e.on false=true)→
  ∀ K:Act→World→Prop,(∀ v w',(∃ t',(vals t')[i]?=some v∧(∀ j,listed.getD j false=true→(vals t)[j]?=(vals t')[j]?)∧I t' (listed.setIfInBounds i true) w')→K ((B t).put o.dst v) w')→
   (∀ w',I t (listed.setIfInBounds i true) w'→K (B t) w')→o.wp P (B t) w K Qn
theorem region_vals {τ:Type} {P:Program} {ops:Array Oper} {Q:Exit→Act→World→Prop} {id:Nat} {a:Act} {w:World} (vals:τ→List Value) (I:τ→Array Bool→World→Prop) (t0:τ) {B:τ→Act}
  (hm:P.follows .mixedOrders=true) (hn:neat ops=true) (hs:Region.noSelect ops=true) (h1:once ops.toList a.tmps.size=true) (hv:∀ t,(vals t).length=ops.size)
  (hB:∀ t,puts ops.toList (vals t) a=B t) (hwa:∀ t,(ops.all fun o=>Region.wanted o (yielded ops (B t).tmps))=true) (hI:I t0 (Array.replicate ops.size false) { w with drawn:=w.drawn+1 })
  (step:Each (Step1 P ops vals B I) ops.toList 0)
  (done:∀ (t:τ) (listed:Array Bool) (w:World),(∀ i,i < ops.size→listed.getD i false=true)→I t listed w→Q .normal (B t) w):
  (Code.region id ops true).wp P Q a w:=by
 have sz:∀ t,(B t).tmps.size=a.tmps.size∧(B t).defers=a.defers:=fun t=>by rw [← hB t];exact puts_size _ _ _
 refine wp_region_free B I hm hn hs t0 (fun t i o ho=>Array.all_eq_true_iff_forall_mem.1 (hwa t) o (Array.mem_of_getElem? ho)) ⟨(sz t0).2.symm,(sz t0).1.symm,fun d hd=>?_⟩ hI done ?_
 ·rw [← hB t0,puts_get_ne]
  intro o ho hod
  obtain ⟨j,hj⟩:=List.getElem?_of_mem ho
  have:=hd j o (by simpa using hj) hod
  simp [Array.getD] at this
 ·intro i o ho t listed w hz hS hl hI' hb
  have st:=Each.get _ _ step i o (by simpa using ho)
  rw [Nat.zero_add] at st
  have main:∀ v w',(∃ t',(vals t')[i]?=some v∧(∀ j,listed.getD j false=true→(vals t)[j]?=(vals t')[j]?)∧I t' (listed.setIfInBounds i true) w')→∃ v',(B t).put o.dst v=(B t).put o.dst v'∧∃ t',(∀ d,o.dst=some d→(B t').tmps[d]?=some v')∧Agr ops listed (B t) (B t')∧I t' (listed.setIfInBounds i true) w':=?_
  ·refine st t listed w hz hS hl hI' hb _ main (fun w' h=>?_)
   have hi:i < (vals t).length:=by rw [hv];exact (Array.getElem?_eq_some_iff.1 ho).1
   have e1:(vals t)[i]?=some (vals t)[i]:=List.getElem?_eq_getElem hi
   obtain ⟨v',e,h'⟩:=main _ w' ⟨t,e1,fun _ _=>rfl,h⟩
   refine ⟨v',?_,h'⟩
   rw [← e]
   cases hd:o.dst with
   | none=>rfl
   | some d=>
    have g:=puts_get (v:=(vals t)[i]) ops.toList (vals t) a i o h1 rfl (by simpa using ho) hd e1
    rw [hB t] at g
    have:(B t).tmps.setIfInBounds d (vals t)[i]=(B t).tmps:=Array.ext_getElem? fun j=>by
     by_cases hj:d=j
     ·subst hj
      rw [Array.getElem?_setIfInBounds_self_of_lt (Array.getElem?_eq_some_iff.1 g).1,g]
     ·exact Array.getElem?_setIfInBounds_ne hj
    unfold Act.put
    simp only [this]
  rintro v w' ⟨t',e1,e2,hI2⟩
  refine ⟨v,rfl,t',fun d hd=>?_,⟨(sz t).2.trans (sz t').2.symm,(sz t).1.trans (sz t').1.symm,fun d hd=>?_⟩,hI2⟩
  ·rw [← hB t']
   exact puts_get ops.toList _ a i o h1 rfl (by simpa using ho) hd e1
  ·rw [← hB t,← hB t']
   refine puts_agree _ _ _ _ _ ((hv t).trans (hv t').symm) rfl rfl (fun j o' hj hd'=>e2 j (hd j o' (by simpa using hj) hd'))
theorem on_of {o:Oper} {listed:Array Bool} {i:Nat} (hb:∀ e ∈ o.after,Region.binds .any e=true→listed.getD e.on false=true) (h:(o.after.any fun e=>Region.binds .any e&&e.on==i)=true):listed.getD i false=true:=by
 obtain ⟨k,hk,h7⟩:=Array.any_eq_true.1 h
 simp only [Bool.and_eq_true,beq_iff_eq] at h7
 have:=hb _ (Array.getElem_mem hk) h7.1
 rwa [h7.2] at this
end Go.OrdG
namespace Go.OrdP
open Go Go.OrdG
set_option linter.unusedVariables false
set_option maxRecDepth 20000
def Qr (R:List PanicEntry→World→Prop):Exit→Act→World→Prop:=fun e _ w=>match e with
 | .panic c=>R c w
 | _=>False
theorem wp_tr {P:Program} {o:Oper} {a b:Act} {w:World} {R:Value→World→Prop} {Q:Exit→Act→World→Prop} {Rp:List PanicEntry→World→Prop} (hR:∀ c w',Rp c w'→Q (.panic c) a w')
  (he:execOp a.eval o=execOp b.eval o) (hs:a.tmps.size=b.tmps.size)
  (h:o.wp P b w (fun a' w'=>∃ v,a'=b.put o.dst v∧R v w') (Qr Rp)):o.wp P a w (fun a' w'=>∃ v,a'=a.put o.dst v∧R v w') Q:=by
 unfold Oper.wp at *
 rw [he]
 have nl:¬ LetsOut (Qr Rp):=fun ⟨_,_,h⟩=>h
 generalize (execOp b.eval o).run P w=r at *
 cases r with
 | ok n w'=>
  cases n<;>simp only [Oper.upon] at h ⊢
  case value v=>obtain ⟨u,e,hr⟩:=h;exact ⟨u,put_tr hs e,hr⟩
  case skip=>obtain ⟨u,e,hr⟩:=h;exact ⟨u,put_tr hs e,hr⟩
  case defer d=>obtain ⟨u,e,hr⟩:=h;exact (put_defers_ne e).elim
  case enter f args=>
   refine Calls.mono h (fun e w'' hh=>?_)
   cases e with
   | returned v=>obtain ⟨u,e,hr⟩:=hh;exact ⟨u,put_tr hs e,hr⟩
   | panicked c=>exact hR c _ hh
   | outgrown=>exact (nl hh).elim
  case row r args=>
   refine Rows.mono h (fun v w'' hh=>?_)
   obtain ⟨u,e,hr⟩:=hh;exact ⟨u,put_tr hs e,hr⟩
 | halt x w'=>cases x<;>simp only [Oper.upon] at h ⊢<;>first | exact h.elim | exact hR _ _ h
section
variable {P:Program} {ops:Array Oper} {Q:Exit→Act→World→Prop} {Rp:List PanicEntry→World→Prop} {τ:Type} (A:τ→Act) (I:τ→Array Bool→World→Prop)
theorem wpAny_free (hR:∀ t c a' w',a'.defers=(A t).defers→Rp c w'→Q (.panic c) a' w') (hn:neat ops=true) (hs:Region.noSelect ops=true)
  (hwa:∀ (t:τ) (i:Nat) (o:Oper),ops[i]?=some o→Region.wanted o (yielded ops (A t).tmps)=true)
  (step:∀ (i:Nat) (o:Oper),ops[i]?=some o→∀ (t:τ) (listed:Array Bool) (w:World),listed.size=ops.size→OrdG.Shut ops listed→listed.getD i false=false→I t listed w→
   (∀ e ∈ o.after,Region.binds .any e=true→listed.getD e.on false=true)→
   o.wp P (A t) w (fun a' w'=>∃ v,a'=(A t).put o.dst v∧∃ t',(∀ d,o.dst=some d→(A t').tmps[d]?=some v)∧Agr ops listed (A t) (A t')∧I t' (listed.setIfInBounds i true) w') (Qr Rp))
  (done:∀ (t:τ) (listed:Array Bool) (w:World),(∀ i,i < ops.size→listed.getD i false=true)→I t listed w→Q .normal (A t) w):
  ∀ (fuel:Nat) (listed:Array Bool) (a:Act) (w:World),listed.size=ops.size→listed.toList.count false≤fuel→OrdG.Shut ops listed→(∃ t,Agr ops listed a (A t)∧I t listed w)→wpAny P .any ops Q fuel listed a w:=by
 have fin:∀ (listed:Array Bool) (a:Act) (w:World),listed.size=ops.size→(∃ t,Agr ops listed a (A t)∧I t listed w)→Region.ready .any ops listed=[]→Q .normal a w:=by
  rintro listed a w hz ⟨t,⟨g1,g2,g3⟩,hI⟩ hr
  have hall:=all_listed hn hz hr
  have e:a=A t:=by
   have ht:a.tmps=(A t).tmps:=Array.ext_getElem? fun d=>g3 d fun j o hj _=>hall j (Array.getElem?_eq_some_iff.1 hj).1
   cases ha:a with
   | mk x y=>cases hb:A t with
    | mk x' y'=>rw [ha,hb] at ht g1;simp only at ht g1;rw [ht,g1]
  rw [e]
  exact done t listed w hall hI
 intro fuel
 induction fuel with
 | zero=>
  intro listed a w hz hc hS hI
  have hr:Region.ready .any ops listed=[]:=by
   cases hr:Region.ready .any ops listed with
   | nil=>rfl
   | cons i l=>
    have hi:i ∈ Region.ready .any ops listed:=by rw [hr];simp
    obtain ⟨h1,o,ho,_⟩:=mem_ready.1 hi
    have hlt:i < listed.size:=by rw [hz];exact (Array.getElem?_eq_some_iff.1 ho).1
    have hm:false ∈ listed.toList:=by
     simp [Array.getD,hlt] at h1
     rw [← h1]
     simp
    have:=List.count_pos_iff.2 hm
    omega
  exact ⟨hr,fin listed a w hz hI hr⟩
 | succ fuel ih=>
  intro listed a w hz hc hS hI
  refine ⟨fin listed a w hz hI,fun i hi=>?_⟩
  obtain ⟨t,⟨g1,g2,g3⟩,hI⟩:=hI
  obtain ⟨h1,o,ho,hb⟩:=mem_ready.1 hi
  have hlt:i < ops.size:=(Array.getElem?_eq_some_iff.1 ho).1
  have h1':=getD_tf (by omega) h1
  obtain ⟨n1,n2,n3⟩:=neat_spec hn ho
  have he:execOp a.eval o=execOp (A t).eval o:=execOp_congr o (fun cs b=>Region.noSelect_spec hs i o cs b ho) fun x hx=>by
   cases x with
   | tmp s=>
    have:=g3 s fun j oj hj hd=>by
     obtain ⟨e,he,hbe,rfl⟩:=n3 s hx j oj hj hd
     exact hb e he hbe
    show a.tmps.getD s undef=(A t).tmps.getD s undef
    rw [Array.getD_eq_getD_getElem?,Array.getD_eq_getD_getElem?,this]
   | _=>rfl
  have hw:=step i o ho t listed w hz hS h1' hI hb
  have hw':=wp_tr (Q:=Q) (a:=a) (fun c w'=>hR t c a w' g1) he g2 hw
  unfold wpOp
  rw [ho]
  have hwant:Region.wanted o (yielded ops a.tmps)=true:=by
   rw [← hwa t i o ho]
   unfold Region.wanted
   cases hg:o.guard with
   | none=>rfl
   | some gb=>
    obtain ⟨g,b⟩:=gb
    obtain ⟨s,hs1,hs2⟩:=n1 g b hg
    have:=g3 s fun j oj hj hd=>by
     obtain ⟨e,he,hbe,rfl⟩:=hs2 j oj hj hd
     exact hb e he hbe
    show (yielded ops a.tmps g==some b)=(yielded ops (A t).tmps g==some b)
    unfold yielded
    rw [hs1]
    simp only [Option.bind_some,this]
  simp only [hwant,if_true]
  left
  refine Oper.wp_mono ?_ hw'
  rintro a' w' ⟨v,rfl,t',hv,⟨q1,q2,q3⟩,hI'⟩
  refine ih _ _ _ (by simpa using hz) ?_ ?_ ⟨t',⟨?_,?_,?_⟩,hI'⟩
  ·have hl:listed.toList[i]?=some false:=by
    have:i < listed.size:=by omega
    simp [Array.getD,this] at h1
    simp [this,h1]
   have hm:=List.count_set (a:=true) (b:=false) (l:=listed.toList) (i:=i) (by simp;omega)
   rw [Array.toList_setIfInBounds]
   have h3:listed.toList[i]'(by simp;omega)=false:=by
    rw [List.getElem?_eq_some_iff] at hl;exact hl.2
   rw [hm,h3]
   have h4:=List.count_pos_iff.2 (List.mem_of_getElem? hl)
   simp only [beq_self_eq_true,if_true]
   have:(true==false)=false:=rfl
   rw [this]
   simp only [Bool.false_eq_true,if_false]
   omega
  ·intro j oj hj hl e he hbe
   by_cases hij:i=j
   ·subst hij
    rw [ho] at hj
    obtain rfl:=Option.some.inj hj
    exact getD_set_true (hb e he hbe)
   ·rw [getD_set_ne false hij] at hl
    exact getD_set_true (hS j oj hj hl e he hbe)
  ·rw [← q1,← g1];cases o.dst<;>rfl
  ·rw [← q2,← g2];cases o.dst<;>simp [Act.put]
  ·intro d hd
   by_cases hod:o.dst=some d
   ·rw [hod]
    have h5:=hv d hod
    rw [h5]
    have:d < a.tmps.size:=by rw [g2,q2];exact (Array.getElem?_eq_some_iff.1 h5).1
    exact Array.getElem?_setIfInBounds_self_of_lt this
   ·have hpre:∀ j oj,ops[j]?=some oj→oj.dst=some d→listed.getD j false=true:=fun j oj hj hdj=>by
     have h6:=hd j oj hj hdj
     have hij:i≠j:=by
      rintro rfl
      rw [ho] at hj
      obtain rfl:=Option.some.inj hj
      exact hod hdj
     rwa [getD_set_ne false hij] at h6
    have:(a.put o.dst v).tmps[d]?=a.tmps[d]?:=by
     cases hdst:o.dst with
     | none=>rfl
     | some z=>exact Array.getElem?_setIfInBounds_ne (fun e=>hod (by rw [hdst,e]))
    rw [this,g3 d hpre,q3 d hpre]
theorem wp_region_free {id:Nat} {a:Act} {w:World} (hm:P.follows .mixedOrders=true) (hR:∀ t c a' w',a'.defers=(A t).defers→Rp c w'→Q (.panic c) a' w') (hn:neat ops=true) (hs:Region.noSelect ops=true) (t0:τ)
  (hwa:∀ (t:τ) (i:Nat) (o:Oper),ops[i]?=some o→Region.wanted o (yielded ops (A t).tmps)=true)
  (h0:Agr ops (Array.replicate ops.size false) a (A t0)) (hI:I t0 (Array.replicate ops.size false) { w with drawn:=w.drawn+1 })
  (done:∀ (t:τ) (listed:Array Bool) (w:World),(∀ i,i < ops.size→listed.getD i false=true)→I t listed w→Q .normal (A t) w)
  (step:∀ (i:Nat) (o:Oper),ops[i]?=some o→∀ (t:τ) (listed:Array Bool) (w:World),listed.size=ops.size→OrdG.Shut ops listed→listed.getD i false=false→I t listed w→
   (∀ e ∈ o.after,Region.binds .any e=true→listed.getD e.on false=true)→
   o.wp P (A t) w (fun a' w'=>∃ v,a'=(A t).put o.dst v∧∃ t',(∀ d,o.dst=some d→(A t').tmps[d]?=some v)∧Agr ops listed (A t) (A t')∧I t' (listed.setIfInBounds i true) w') (Qr Rp)):
  (Code.region id ops true).wp P Q a w:=
 wp_region_any hm (wpAny_free A I hR hn hs hwa step done _ _ _ _ (by simp) (by simp) (fun j o hj hl=>by
  have:(Array.replicate ops.size false).getD j false=false:=by simp [Array.getD]
  rw [this] at hl;cases hl) ⟨t0,h0,hI⟩)
end
def Step1 {τ:Type} (Rp:List PanicEntry→World→Prop) (P:Program) (ops:Array Oper) (vals:τ→List Value) (B:τ→Act) (I:τ→Array Bool→World→Prop) (i:Nat) (o:Oper):Prop:=
 ∀ (t:τ) (listed:Array Bool) (w:World),listed.size=ops.size→OrdG.Shut ops listed→listed.getD i false=false→I t listed w→
  (∀ e ∈ o.after,Region.binds .any e=true→listed.getD e.on false=true)→
  ∀ K:Act→World→Prop,(∀ v w',(∃ t',(vals t')[i]?=some v∧(∀ j,listed.getD j false=true→(vals t)[j]?=(vals t')[j]?)∧I t' (listed.setIfInBounds i true) w')→K ((B t).put o.dst v) w')→
   (∀ w',I t (listed.setIfInBounds i true) w'→K (B t) w')→o.wp P (B t) w K (Qr Rp)
theorem region_vals {τ:Type} {P:Program} {ops:Array Oper} {Q:Exit→Act→World→Prop} {id:Nat} {a:Act} {w:World} (Rp:List PanicEntry→World→Prop) (vals:τ→List Value) (I:τ→Array Bool→World→Prop) (t0:τ) {B:τ→Act}
  (hR:∀ c a' w',a'.defers=a.defers→Rp c w'→Q (.panic c) a' w') (hm:P.follows .mixedOrders=true) (hn:neat ops=true) (hs:Region.noSelect ops=true) (h1:once ops.toList a.tmps.size=true) (hv:∀ t,(vals t).length=ops.size)
  (hB:∀ t,puts ops.toList (vals t) a=B t) (hwa:∀ t,(ops.all fun o=>Region.wanted o (yielded ops (B t).tmps))=true) (hI:I t0 (Array.replicate ops.size false) { w with drawn:=w.drawn+1 })
  (step:Each (Step1 Rp P ops vals B I) ops.toList 0)
  (done:∀ (t:τ) (listed:Array Bool) (w:World),(∀ i,i < ops.size→listed.getD i false=true)→I t listed w→Q .normal (B t) w):
  (Code.region id ops true).wp P Q a w:=by
 have sz:∀ t,(B t).tmps.size=a.tmps.size∧(B t).defers=a.defers:=fun t=>by rw [← hB t];exact puts_size _ _ _
 refine wp_region_free (Rp:=Rp) B I hm (fun t c a' w' hd=>hR c a' w' (hd.trans (sz t).2)) hn hs t0 (fun t i o ho=>Array.all_eq_true_iff_forall_mem.1 (hwa t) o (Array.mem_of_getElem? ho)) ⟨(sz t0).2.symm,(sz t0).1.symm,fun d hd=>?_⟩ hI done ?_
 ·rw [← hB t0,puts_get_ne]
  intro o ho hod
  obtain ⟨j,hj⟩:=List.getElem?_of_mem ho
  have:=hd j o (by simpa using hj) hod
  simp [Array.getD] at this
 ·intro i o ho t listed w hz hS hl hI' hb
  have st:=Each.get _ _ step i o (by simpa using ho)
  rw [Nat.zero_add] at st
  have main:∀ v w',(∃ t',(vals t')[i]?=some v∧(∀ j,listed.getD j false=true→(vals t)[j]?=(vals t')[j]?)∧I t' (listed.setIfInBounds i true) w')→∃ v',(B t).put o.dst v=(B t).put o.dst v'∧∃ t',(∀ d,o.dst=some d→(B t').tmps[d]?=some v')∧Agr ops listed (B t) (B t')∧I t' (listed.setIfInBounds i true) w':=?_
  ·refine st t listed w hz hS hl hI' hb _ main (fun w' h=>?_)
   have hi:i < (vals t).length:=by rw [hv];exact (Array.getElem?_eq_some_iff.1 ho).1
   have e1:(vals t)[i]?=some (vals t)[i]:=List.getElem?_eq_getElem hi
   obtain ⟨v',e,h'⟩:=main _ w' ⟨t,e1,fun _ _=>rfl,h⟩
   refine ⟨v',?_,h'⟩
   rw [← e]
   cases hd:o.dst with
   | none=>rfl
   | some d=>
    have g:=puts_get (v:=(vals t)[i]) ops.toList (vals t) a i o h1 rfl (by simpa using ho) hd e1
    rw [hB t] at g
    have:(B t).tmps.setIfInBounds d (vals t)[i]=(B t).tmps:=Array.ext_getElem? fun j=>by
     by_cases hj:d=j
     ·subst hj
      rw [Array.getElem?_setIfInBounds_self_of_lt (Array.getElem?_eq_some_iff.1 g).1,g]
     ·exact Array.getElem?_setIfInBounds_ne hj
    unfold Act.put
    simp only [this]
  rintro v w' ⟨t',e1,e2,hI2⟩
  refine ⟨v,rfl,t',fun d hd=>?_,⟨(sz t).2.trans (sz t').2.symm,(sz t).1.trans (sz t').1.symm,fun d hd=>?_⟩,hI2⟩
  ·rw [← hB t']
   exact puts_get ops.toList _ a i o h1 rfl (by simpa using ho) hd e1
  ·rw [← hB t,← hB t']
   refine puts_agree _ _ _ _ _ ((hv t).trans (hv t').symm) rfl rfl (fun j o' hj hd'=>e2 j (hd j o' (by simpa using hj) hd'))
theorem keep {listed:Array Bool} {i p:Nat} (hl:listed.getD p false=false) (h:i≠p):(listed.setIfInBounds i true).getD p false=false:=by rw [getD_set_ne false h];exact hl
end Go.OrdP
namespace Go.Proofs.YtacgmoikegcopaaGreatDoor.Rm
open Go.ChangeShapes Go.WideShapes Go.ChangeAt Go.RowKit Go.Maps
set_option linter.unusedVariables false
set_option maxRecDepth 20000
def QE (q:Qy):Ending:=match q.f with | some f=>.panicked (pan f) | none=>.returned q.s.val
theorem vfind_flat (w:World) (V C:Nat) (c:Cp) (h:CpAt w C c) (l:Int) (n:Nat) (wr us wp:Bool) (M:Mem) (hp:c.pg=false):
  Calls Tryz.prog 250 #[.pointer (some ⟨V,0,none⟩),.pointer (some ⟨C,0,none⟩),.int .u32 l,.int .i64 n,.agg #[.bool wr,.bool us,.bool wp]] w (fun e w'=>e=.returned (.agg #[.int .u32 l,.int .u32 0,.int .i64 n,.int .i64 n])∧Kp noB w w'):=by
 have k0:=(Kp.alloc noB w (.cells #[.bool wr,.bool us,.bool wp] 330)).trans (Kp.alloc noB _ (.cells #[.int .u32 0,.int .u32 0,.int .i64 0,.int .i64 0] 295))
 have hz:=(h.kp0 k0).z
 have ha:=and_pw h.ok.z0 h.ok.z1 31 (by decide)
 have e31:((2 ^ 31:Nat):Int)=2147483648:=by decide
 rw [e31] at ha
 have hb:(bits .and .u32 c.cr0 2147483648==0)=true:=by rw [ha];unfold Cp.pg at hp;rw [hp];rfl
 clear ha
 go_enter Tryz.func250,Tryz.ntmps250
 go_wp2
 refine bodyPost_ret (v:=.agg #[.int .u32 l,.int .u32 0,.int .i64 n,.int .i64 n]) (by simp [results,Tryz.results250,go_sem]) rfl ⟨rfl,?_⟩
 exact (Kp.alloc noB w _).trans (Kp.alloc noB _ _)
def RowS (W:World) (X:Nat) (a b:Int) (h n:Nat):Prop:=W.heap[X]?=some (.cells #[.int .u32 a,.int .u32 b,.int .i64 h,.int .i64 n] 295 (0,0))
theorem RowS.lt {W:World} {X:Nat} {a b:Int} {h n:Nat} (r:RowS W X a b h n):X < W.heap.size:=(Array.getElem?_eq_some_iff.1 r).1
theorem RowS.kp {S:Nat→Prop} {W W':World} {X:Nat} {a b:Int} {h n:Nat} (r:RowS W X a b h n) (k:Kp S W W') (hS:¬ S X):RowS W' X a b h n:=(k.block X r.lt hS).trans r
theorem RowS.c0 {W:World} {X:Nat} {a b:Int} {h n:Nat} (r:RowS W X a b h n):W.cell? ⟨X,0,none⟩=some (.int .u32 a):=by rw [cell_at r];rfl
theorem RowS.c1 {W:World} {X:Nat} {a b:Int} {h n:Nat} (r:RowS W X a b h n):W.cell? ⟨X,1,none⟩=some (.int .u32 b):=by rw [cell_at r];rfl
theorem RowS.c2 {W:World} {X:Nat} {a b:Int} {h n:Nat} (r:RowS W X a b h n):W.cell? ⟨X,2,none⟩=some (.int .i64 h):=by rw [cell_at r];rfl
theorem RowS.c3 {W:World} {X:Nat} {a b:Int} {h n:Nat} (r:RowS W X a b h n):W.cell? ⟨X,3,none⟩=some (.int .i64 n):=by rw [cell_at r];rfl
theorem RowS.fz {W:World} {X:Nat} {a b:Int} {h n:Nat} (r:RowS W X a b h n) (j:Nat):W.frozen? ⟨X,j,none⟩=false:=frozen_at r
theorem RowS.s0 {W:World} {X:Nat} {a b:Int} {h n:Nat} (r:RowS W X a b h n) (v:Int):RowS (W.setCell ⟨X,0,none⟩ (.int .u32 v)) X v b h n:=heap_setCell_at r _
theorem RowS.s1 {W:World} {X:Nat} {a b:Int} {h n:Nat} (r:RowS W X a b h n) (v:Int):RowS (W.setCell ⟨X,1,none⟩ (.int .u32 v)) X a v h n:=heap_setCell_at r _
theorem RowS.four {W:World} {X:Nat} {a b:Int} {h n:Nat} (r:RowS W X a b h n) (a' b':Int) (h' n':Nat):RowS ((((W.setCell ⟨X,0,none⟩ (.int .u32 a')).setCell ⟨X,1,none⟩ (.int .u32 b')).setCell ⟨X,2,none⟩ (.int .i64 h')).setCell ⟨X,3,none⟩ (.int .i64 n')) X a' b' h' n':=
 heap_setCell_at (heap_setCell_at ((r.s0 a').s1 b') _) _
theorem kp_four (W:World) (X:Nat) (v0 v1 v2 v3:Value):Kp (fun j=>j=X) W ((((W.setCell ⟨X,0,none⟩ v0).setCell ⟨X,1,none⟩ v1).setCell ⟨X,2,none⟩ v2).setCell ⟨X,3,none⟩ v3):=
 (((Kp.setCell (S:=fun j=>j=X) W (p:=⟨X,0,none⟩) rfl v0).trans (Kp.setCell (S:=fun j=>j=X) _ (p:=⟨X,1,none⟩) rfl v1)).trans (Kp.setCell (S:=fun j=>j=X) _ (p:=⟨X,2,none⟩) rfl v2)).trans (Kp.setCell (S:=fun j=>j=X) _ (p:=⟨X,3,none⟩) rfl v3)
theorem VmAt.stay {w w':World} {V K B pl tn:Nat} {M:Mem} (h:VmAt w V K B pl tn M) (k:Kp noB w w') (n:Nat):VmP w V K B pl tn M n w':=⟨⟨tn,by omega,h.kp0 k⟩,k.mono (fun _ _ f=>f.elim)⟩
theorem vfind_any (w:World) (V K B pl tn C:Nat) (M:Mem) (h:VmAt w V K B pl tn M) (c:Cp) (hc:CpAt w C c) (hC:¬ modVm K B M.n C) (l:Int) (n:Nat) (wr us wp:Bool) (l0:0≤l) (l1:l < 4294967296) (n0:1≤n) (n1:n≤4) (htn:tn < 18446744073709551613):
  Calls Tryz.prog 250 #[.pointer (some ⟨V,0,none⟩),.pointer (some ⟨C,0,none⟩),.int .u32 l,.int .i64 n,.agg #[.bool wr,.bool us,.bool wp]] w (fun e w'=>e=QE (findQ M c.pg c.cr3 l n wr us wp)∧VmP w V K B pl tn (findQ M c.pg c.cr3 l n wr us wp).m 2 w'):=by
 unfold findQ
 have hp:=hc.ok.np
 rw [hp,if_pos rfl]
 refine (vfind_flat w V C c hc l n wr us wp M hp).mono ?_
 rintro e w' ⟨rfl,k⟩
 exact ⟨rfl,h.stay k 2⟩
theorem inSeg_size (w:World) (V K B pl tn C:Nat) (M:Mem) (h:VmAt w V K B pl tn M) (k off z:Int) (wr:Bool) (hk:okS z=false∨k < 0∨6≤k):
  Calls Tryz.prog 203 #[.pointer (some ⟨V,0,none⟩),.pointer (some ⟨C,0,none⟩),.int .i64 k,.int .u32 off,.int .i64 z,.bool wr] w (fun e w'=>e=.panicked (pan (ftV 13))∧Kp noB w w'):=by
 unfold pan ftV Ft.val
 have kA:=Kp.alloc noB w (.cells #[.int .u32 0,.int .u32 0,.int .i64 0,.int .i64 0] 295)
 have h0:=(h.kp0 kA).c0
 have cN:=need_ok _ V B C h0
 cases hz:okS z
 ·have cS:=vIsSize_any (w.alloc (.cells #[.int .u32 0,.int .u32 0,.int .i64 0,.int .i64 0] 295)) z
  rw [hz] at cS
  clear hz hk
  go_enter Tryz.func203,Tryz.ntmps203
  go_wp2_with (first | (go_at_call 245;refine cN.mono ?_;rintro e w' ⟨rfl,hw⟩;replace hw:=hw.symm;subst hw) | (go_at_call 246;refine cS.mono ?_;rintro e w' ⟨rfl,hw⟩;replace hw:=hw.symm;subst hw) | (go_at_call 247;refine (refused_any _ _).mono ?_;rintro e w2 ⟨rfl,k2⟩))
  exact ⟨rfl,rfl,kA.trans k2⟩
 ·rw [hz] at hk
  have cS:=vIsSize_any (w.alloc (.cells #[.int .u32 0,.int .u32 0,.int .i64 0,.int .i64 0] 295)) z
  rw [hz] at cS
  clear hz
  by_cases h0:k < 0
  ·clear hk
   have hd:decide (k < 0)=true:=decide_eq_true h0
   go_enter Tryz.func203,Tryz.ntmps203
   go_wp2_with (first | (go_at_call 245;refine cN.mono ?_;rintro e w' ⟨rfl,hw⟩;replace hw:=hw.symm;subst hw) | (go_at_call 246;refine cS.mono ?_;rintro e w' ⟨rfl,hw⟩;replace hw:=hw.symm;subst hw) | (go_at_call 247;refine (refused_any _ _).mono ?_;rintro e w2 ⟨rfl,k2⟩))
   exact ⟨rfl,rfl,kA.trans k2⟩
  ·have h6:6≤k:=by rcases hk with f | f | f<;>first | cases f | omega
   clear hk
   have hd:decide (k < 0)=false:=decide_eq_false h0
   have hd6:decide (6≤k)=true:=decide_eq_true h6
   go_enter Tryz.func203,Tryz.ntmps203
   go_wp2_with (first | (go_at_call 245;refine cN.mono ?_;rintro e w' ⟨rfl,hw⟩;replace hw:=hw.symm;subst hw) | (go_at_call 246;refine cS.mono ?_;rintro e w' ⟨rfl,hw⟩;replace hw:=hw.symm;subst hw) | (go_at_call 247;refine (refused_any _ _).mono ?_;rintro e w2 ⟨rfl,k2⟩))
   exact ⟨rfl,rfl,kA.trans k2⟩
theorem Kp.undrew {S:Nat→Prop} {w w':World} (k:Kp S w.drew w'):Kp S w w':=⟨k.os,k.tape,k.output,k.size,k.block⟩
theorem kp_grown {w w':World} (g:Sg.Grown w w'):Kp noB w w':=⟨g.1.1,g.2.2.2,g.1.2.1,g.2.2.1,fun k hk _=>Grown.block g.to hk⟩
theorem inSeg_null (w:World) (V K B pl tn C:Nat) (M:Mem) (h:VmAt w V K B pl tn M) (c:Cp) (hc:CpAt w C c) (i:Nat) (hi:i < 6) (off:Int) (n:Nat) (wr:Bool) (o0:0≤off) (o1:off < 4294967296) (hn:n=1∨n=2∨n=4) (hl:(c.seg i).nl=true):
  Calls Tryz.prog 203 #[.pointer (some ⟨V,0,none⟩),.pointer (some ⟨C,0,none⟩),.int .i64 i,.int .u32 off,.int .i64 n,.bool wr] w (fun e w'=>e=.panicked (pan (ftV (vecB i)))∧Kp noB w w'):=by
 unfold pan ftV Ft.val
 have kA:=Kp.alloc noB w (.cells #[.int .u32 0,.int .u32 0,.int .i64 0,.int .i64 0] 295)
 have h0:=(h.kp0 kA).c0
 have cN:=need_ok _ V B C h0
 have cS:=vIsSize_any (w.alloc (.cells #[.int .u32 0,.int .u32 0,.int .i64 0,.int .i64 0] 295)) n
 have hz:okS n=true:=by unfold okS;exact decide_eq_true (by omega)
 rw [hz] at cS
 have s:=(hc.kp0 kA).sg i hi
 have so:=hc.ok.sg i hi
 have t0:=so.t0;have t1:=so.t1;have l0:=so.l0;have l1:=so.l1;have b0:=so.b0;have b1:=so.b1
 have a0:=s.a0;have a1:=s.a1;have a2:=s.a2;have a3:=s.a3;have a4:=s.a4;have a5:=s.a5;have a6:=s.a6;have a7:=s.a7;have a8:=s.a8
 have hd:decide (i < 0)=false:=rfl
 have hd6:decide (6≤i)=false:=decide_eq_false (by omega)
 have hi':(0:Int)≤i∧(i:Int) < 6:=by omega
 rw [hl] at a1
 go_enter Tryz.func203,Tryz.ntmps203
 go_wp2_with (first | (go_at_call 245;refine cN.mono ?_;rintro e w' ⟨rfl,hw⟩;replace hw:=hw.symm;subst hw) | (go_at_call 246;refine cS.mono ?_;rintro e w' ⟨rfl,hw⟩;replace hw:=hw.symm;subst hw) | (go_at_call 249;refine (vectorOf_any _ _).mono ?_;rintro e w' ⟨rfl,hw⟩;replace hw:=hw.symm;subst hw) | (go_at_call 247;refine (refused_any _ _).mono ?_;rintro e w2 ⟨rfl,k2⟩))
 exact ⟨rfl,rfl,(kA.trans (Kp.alloc noB _ _)).trans k2⟩
theorem inSeg_lets (w:World) (V K B pl tn C:Nat) (M:Mem) (h:VmAt w V K B pl tn M) (c:Cp) (hc:CpAt w C c) (i:Nat) (hi:i < 6) (off:Int) (n:Nat) (wr:Bool) (o0:0≤off) (o1:off < 4294967296) (hn:n=1∨n=2∨n=4) (hl:(c.seg i).nl=false) (hr:Sg.reachB (c.seg i).l (c.seg i).t (c.seg i).s (c.seg i).p (c.seg i).g off n wr=false):
  Calls Tryz.prog 203 #[.pointer (some ⟨V,0,none⟩),.pointer (some ⟨C,0,none⟩),.int .i64 i,.int .u32 off,.int .i64 n,.bool wr] w (fun e w'=>e=.panicked (pan (ftV (vecB i)))∧Kp noB w w'):=by
 unfold pan ftV Ft.val
 have kA:=Kp.alloc noB w (.cells #[.int .u32 0,.int .u32 0,.int .i64 0,.int .i64 0] 295)
 have h0:=(h.kp0 kA).c0
 have cN:=need_ok _ V B C h0
 have cS:=vIsSize_any (w.alloc (.cells #[.int .u32 0,.int .u32 0,.int .i64 0,.int .i64 0] 295)) n
 have hz:okS n=true:=by unfold okS;exact decide_eq_true (by omega)
 rw [hz] at cS
 have s:=(hc.kp0 kA).sg i hi
 have so:=hc.ok.sg i hi
 have t0:=so.t0;have t1:=so.t1;have l0:=so.l0;have l1:=so.l1;have b0:=so.b0;have b1:=so.b1
 have a0:=s.a0;have a1:=s.a1;have a2:=s.a2;have a3:=s.a3;have a4:=s.a4;have a5:=s.a5;have a6:=s.a6;have a7:=s.a7;have a8:=s.a8
 have hd:decide (i < 0)=false:=rfl
 have hd6:decide (6≤i)=false:=decide_eq_false (by omega)
 have hi':(0:Int)≤i∧(i:Int) < 6:=by omega
 rw [hl] at a1
 have cR:=Sg.reach_any (c.seg i).b (c.seg i).l (c.seg i).t (c.seg i).s (c.seg i).d (c.seg i).p (c.seg i).g off n wr ((w.alloc (.cells #[.int .u32 0,.int .u32 0,.int .i64 0,.int .i64 0] 295)).alloc (.cells #[.int .u16 (c.seg i).sel,.bool false,.int .u32 (c.seg i).b,.int .u32 (c.seg i).l,.int .i64 (c.seg i).t,.bool (c.seg i).s,.int .i64 (c.seg i).d,.bool (c.seg i).p,.bool (c.seg i).g] 28)) t0 t1 o0 o1 l0 l1
 rw [hr] at cR
 clear hr
 go_enter Tryz.func203,Tryz.ntmps203
 go_wp2_with (first | (go_at_call 245;refine cN.mono ?_;rintro e w' ⟨rfl,hw⟩;replace hw:=hw.symm;subst hw) | (go_at_call 246;refine cS.mono ?_;rintro e w' ⟨rfl,hw⟩;replace hw:=hw.symm;subst hw) | (go_at_call 248;refine cR.mono ?_;rintro e w3 ⟨rfl,k3⟩) | (go_at_call 249;refine (vectorOf_any _ _).mono ?_;rintro e w' ⟨rfl,hw⟩;replace hw:=hw.symm;subst hw) | (go_at_call 247;refine (refused_any _ _).mono ?_;rintro e w2 ⟨rfl,k2⟩))
 exact ⟨rfl,rfl,((kA.trans (Kp.alloc noB _ _)).trans (kp_grown k3)).trans k2⟩
theorem findQ_n (M:Mem) (pg:Bool) (c l:Int) (n:Nat) (wr us wp:Bool):(findQ M pg c l n wr us wp).m.n=M.n:=by
 unfold findQ
 split
 ·rfl
 split
 ·rfl
 split
 ·exact (fMem_same M c l wr us wp).1
 split
 ·exact (fMem_same M c l wr us wp).1
 ·exact (fMem_same _ _ _ _ _ _).1.trans (fMem_same M c l wr us wp).1
theorem inSeg_pf (w:World) (V K B pl tn C:Nat) (M:Mem) (h:VmAt w V K B pl tn M) (c:Cp) (hc:CpAt w C c) (i:Nat) (hi:i < 6) (off:Int) (n:Nat) (wr:Bool) (o0:0≤off) (o1:off < 4294967296) (hn:n=1∨n=2∨n=4) (hC:¬ modVm K B M.n C) (htn:tn < 18446744073709551613) (hl:(c.seg i).nl=false) (hr:Sg.reachB (c.seg i).l (c.seg i).t (c.seg i).s (c.seg i).p (c.seg i).g off n wr=true) (f:Ft) (hq:(findQ M c.pg c.cr3 (linB (c.seg i).b off) n wr c.us c.wp).f=some f):
  Calls Tryz.prog 203 #[.pointer (some ⟨V,0,none⟩),.pointer (some ⟨C,0,none⟩),.int .i64 i,.int .u32 off,.int .i64 n,.bool wr] w (fun e w'=>e=.panicked (pan f)∧VmP w V K B pl tn (findQ M c.pg c.cr3 (linB (c.seg i).b off) n wr c.us c.wp).m 2 w'):=by
 have kA:=Kp.alloc noB w (.cells #[.int .u32 0,.int .u32 0,.int .i64 0,.int .i64 0] 295)
 have h0:=(h.kp0 kA).c0
 have cN:=need_ok _ V B C h0
 have cS:=vIsSize_any (w.alloc (.cells #[.int .u32 0,.int .u32 0,.int .i64 0,.int .i64 0] 295)) n
 have hz:okS n=true:=by unfold okS;exact decide_eq_true (by omega)
 rw [hz] at cS
 have s:=(hc.kp0 kA).sg i hi
 have so:=hc.ok.sg i hi
 have t0:=so.t0;have t1:=so.t1;have l0:=so.l0;have l1:=so.l1;have b0:=so.b0;have b1:=so.b1
 have a0:=s.a0;have a1:=s.a1;have a2:=s.a2;have a3:=s.a3;have a4:=s.a4;have a5:=s.a5;have a6:=s.a6;have a7:=s.a7;have a8:=s.a8
 have hd:decide (i < 0)=false:=rfl
 have hd6:decide (6≤i)=false:=decide_eq_false (by omega)
 have hi':(0:Int)≤i∧(i:Int) < 6:=by omega
 rw [hl] at a1
 have cR:=Sg.reach_any (c.seg i).b (c.seg i).l (c.seg i).t (c.seg i).s (c.seg i).d (c.seg i).p (c.seg i).g off n wr ((w.alloc (.cells #[.int .u32 0,.int .u32 0,.int .i64 0,.int .i64 0] 295)).alloc (.cells #[.int .u16 (c.seg i).sel,.bool false,.int .u32 (c.seg i).b,.int .u32 (c.seg i).l,.int .i64 (c.seg i).t,.bool (c.seg i).s,.int .i64 (c.seg i).d,.bool (c.seg i).p,.bool (c.seg i).g] 28)) t0 t1 o0 o1 l0 l1
 rw [hr] at cR
 clear hr
 obtain ⟨X,hX⟩:∃ X,w.heap.size=X:=⟨_,rfl⟩
 have HLT0:V < X∧∀ j,modVm K B M.n j→j < X:=⟨by rw [← hX];exact h.lt,fun j hj=>by rw [← hX];exact h.in_lt hj⟩
 have kB:=Kp.alloc noB (w.alloc (.cells #[.int .u32 0,.int .u32 0,.int .i64 0,.int .i64 0] 295)) (.cells #[.int .u16 (c.seg i).sel,.bool false,.int .u32 (c.seg i).b,.int .u32 (c.seg i).l,.int .i64 (c.seg i).t,.bool (c.seg i).s,.int .i64 (c.seg i).d,.bool (c.seg i).p,.bool (c.seg i).g] 28)
 have rX:RowS ((w.alloc (.cells #[.int .u32 0,.int .u32 0,.int .i64 0,.int .i64 0] 295)).alloc (.cells #[.int .u16 (c.seg i).sel,.bool false,.int .u32 (c.seg i).b,.int .u32 (c.seg i).l,.int .i64 (c.seg i).t,.bool (c.seg i).s,.int .i64 (c.seg i).d,.bool (c.seg i).p,.bool (c.seg i).g] 28)) X 0 0 0 0:=by
  rw [← hX]
  exact RowS.kp (h:=0) (n:=0) (MapKept.heap_alloc w _).1 kB (fun f=>f)
 have rY:((w.alloc (.cells #[.int .u32 0,.int .u32 0,.int .i64 0,.int .i64 0] 295)).alloc (.cells #[.int .u16 (c.seg i).sel,.bool false,.int .u32 (c.seg i).b,.int .u32 (c.seg i).l,.int .i64 (c.seg i).t,.bool (c.seg i).s,.int .i64 (c.seg i).d,.bool (c.seg i).p,.bool (c.seg i).g] 28)).heap[X+1]?=some (.cells #[.int .u16 (c.seg i).sel,.bool false,.int .u32 (c.seg i).b,.int .u32 (c.seg i).l,.int .i64 (c.seg i).t,.bool (c.seg i).s,.int .i64 (c.seg i).d,.bool (c.seg i).p,.bool (c.seg i).g] 28 (0,0)):=by
  have:=(MapKept.heap_alloc (w.alloc (.cells #[.int .u32 0,.int .u32 0,.int .i64 0,.int .i64 0] 295)) (.cells #[.int .u16 (c.seg i).sel,.bool false,.int .u32 (c.seg i).b,.int .u32 (c.seg i).l,.int .i64 (c.seg i).t,.bool (c.seg i).s,.int .i64 (c.seg i).d,.bool (c.seg i).p,.bool (c.seg i).g] 28)).1
  simp only [World.size_alloc,hX] at this
  exact this
 go_enter Tryz.func203,Tryz.ntmps203
 go_wp2_with (first | (go_at_call 245;refine cN.mono ?_;rintro e w' ⟨rfl,hw⟩;replace hw:=hw.symm;subst hw) | (go_at_call 246;refine cS.mono ?_;rintro e w' ⟨rfl,hw⟩;replace hw:=hw.symm;subst hw) | (go_at_call 248;refine cR.mono ?_;rintro e w3 ⟨rfl,k3⟩))
 replace k3:=kp_grown k3
 replace rX:=rX.kp k3 (fun f=>f)
 have y2:w3.cell? ⟨X+1,2,none⟩=some (.int .u32 (c.seg i).b):=by
  rw [World.cell?_of_block (k3.block (X+1) (by simp [hX]) (fun f=>f)),cell_at rY];rfl
 have k4:=(kA.trans kB).trans k3
 replace h:=h.kp0 k4
 replace hc:=hc.kp0 k4
 have HXw:Hid (w.heap.size=X):=hX
 have HLT:Hid (V < X∧∀ j,modVm K B M.n j→j < X):=HLT0
 clear cR rY kB kA k3 a0 a1 a2 a3 a4 a5 a6 a7 a8 s so cN cS h0 HLT0 hX
 have hl0:0≤linB (c.seg i).b off∧linB (c.seg i).b off < 4294967296:=by unfold linB;omega
 have HP:Hid (∀ W,Kp noB w3.drew W→Calls Tryz.prog 251 #[.pointer (some ⟨C,0,none⟩),.bool wr] W fun e w'=>e=.returned (.agg #[.bool wr,.bool c.us,.bool c.wp])∧Kp noB w3.drew w'):=fun W k=>(program_way W C c wr ((hc.kp0 (Kp.refl noB w3).drew).kp0 k)).mono (fun e w' ⟨h1,h2⟩=>⟨h1,k.trans h2⟩)
 have HF:Hid (∀ W,Kp noB w3.drew W→Calls Tryz.prog 250 #[.pointer (some ⟨V,0,none⟩),.pointer (some ⟨C,0,none⟩),.int .u32 (((c.seg i).b+off)%4294967296),.int .i64 n,.agg #[.bool wr,.bool c.us,.bool c.wp]] W (fun e w'=>e=QE (findQ M c.pg c.cr3 (linB (c.seg i).b off) n wr c.us c.wp)∧VmP W V K B pl tn (findQ M c.pg c.cr3 (linB (c.seg i).b off) n wr c.us c.wp).m 2 w')):=fun W k=>vfind_any W V K B pl tn C M ((h.kp0 (Kp.refl noB w3).drew).kp0 k) c ((hc.kp0 (Kp.refl noB w3).drew).kp0 k) hC _ n wr c.us c.wp hl0.1 hl0.2 (by omega) (by omega) htn
 have e1:QE (findQ M c.pg c.cr3 (linB (c.seg i).b off) n wr c.us c.wp)=.panicked (pan f):=by unfold QE;rw [hq]
 rw [e1] at HF
 obtain ⟨q,hqe⟩:∃ q,(findQ M c.pg c.cr3 (linB (c.seg i).b off) n wr c.us c.wp)=q:=⟨_,rfl⟩
 rw [hqe] at HF
 have HQ:Hid _:=hqe
 clear hqe e1 hq
 refine OrdP.region_vals (τ:=Unit) (fun ch w'=>ch=pan f∧VmP w3.drew V K B pl tn q.m 2 w') (fun _=>[.pointer (some ⟨V,0,none⟩),.pointer (some ⟨C,0,none⟩),.pointer (some ⟨X+1,2,none⟩),.pointer (some ⟨X+1,2,none⟩),.int .u32 (c.seg i).b,.int .u32 off,.int .u32 (((c.seg i).b+off)%4294967296),.int .i64 n,.pointer (some ⟨C,0,none⟩),.bool wr,.agg #[.bool wr,.bool c.us,.bool c.wp],undef,undef]) (fun _ listed W'=>Kp noB w3.drew W'∧listed.getD 11 false=false) () ?_ (by kernel_rfl) (by kernel_rfl) (by kernel_rfl) (by kernel_rfl) (fun _=>rfl) (fun t=>by simp only [OrdG.puts,Act.put,List.setIfInBounds_toArray,List.set_cons_zero,List.set_cons_succ];rfl) (fun _=>by kernel_rfl) ⟨Kp.refl _ _,rfl⟩ ?_ ?_
 ·rintro ch a' w' hd ⟨rfl,⟨tn',ht,v⟩,k⟩
  refine ⟨hd,rfl,?_⟩
  rw [HQ.out]
  exact ⟨⟨tn',ht,v⟩,(k4.mono (fun _ _ f=>f.elim)).trans ⟨k.os,k.tape,k.output,k.size,k.block⟩⟩
 ·refine ⟨?_,?_,?_,?_,?_,?_,?_,?_,?_,?_,?_,?_,?_,trivial⟩
  all_goals (intro t listed W' hz hSh hl hI hb K hK hK0;obtain ⟨kI,h7⟩:=hI;have y3:=cell_kp (w:=w3.drew) y2 kI (fun f=>f))
  case refine_11=>
   go_simp
   refine Calls.mono (HP.out _ kI) ?_
   rintro e w4 ⟨rfl,r⟩
   exact hK0 _ ⟨r,OrdP.keep h7 (by decide)⟩
  case refine_12=>
   go_simp
   refine Calls.mono (HF.out _ kI) ?_
   rintro e w4 ⟨rfl,⟨tn',ht,v⟩,k⟩
   exact ⟨rfl,⟨tn',ht,v⟩,(kI.mono (fun _ _ f=>f.elim)).trans k⟩
  case refine_13=>exact absurd (OrdG.on_of (i:=11) hb (by kernel_rfl)) (by rw [h7];decide)
  all_goals (go_simp;exact hK0 _ ⟨kI,OrdP.keep h7 (by decide)⟩)
 ·rintro t listed w' hal ⟨_,h7⟩
  have:=hal 11 (by decide)
  rw [h7] at this
  cases this
theorem inSeg_find (w:World) (V K B pl tn C:Nat) (M:Mem) (h:VmAt w V K B pl tn M) (c:Cp) (hc:CpAt w C c) (i:Nat) (hi:i < 6) (off:Int) (n:Nat) (wr:Bool) (o0:0≤off) (o1:off < 4294967296) (hn:n=1∨n=2∨n=4) (hC:¬ modVm K B M.n C) (htn:tn < 18446744073709551613) (hl:(c.seg i).nl=false) (hr:Sg.reachB (c.seg i).l (c.seg i).t (c.seg i).s (c.seg i).p (c.seg i).g off n wr=true) (hq:(findQ M c.pg c.cr3 (linB (c.seg i).b off) n wr c.us c.wp).f=none):
  Calls Tryz.prog 203 #[.pointer (some ⟨V,0,none⟩),.pointer (some ⟨C,0,none⟩),.int .i64 i,.int .u32 off,.int .i64 n,.bool wr] w (fun e w'=>e=.returned (findQ M c.pg c.cr3 (linB (c.seg i).b off) n wr c.us c.wp).s.val∧VmP w V K B pl tn (findQ M c.pg c.cr3 (linB (c.seg i).b off) n wr c.us c.wp).m 2 w'):=by
 have kA:=Kp.alloc noB w (.cells #[.int .u32 0,.int .u32 0,.int .i64 0,.int .i64 0] 295)
 have h0:=(h.kp0 kA).c0
 have cN:=need_ok _ V B C h0
 have cS:=vIsSize_any (w.alloc (.cells #[.int .u32 0,.int .u32 0,.int .i64 0,.int .i64 0] 295)) n
 have hz:okS n=true:=by unfold okS;exact decide_eq_true (by omega)
 rw [hz] at cS
 have s:=(hc.kp0 kA).sg i hi
 have so:=hc.ok.sg i hi
 have t0:=so.t0;have t1:=so.t1;have l0:=so.l0;have l1:=so.l1;have b0:=so.b0;have b1:=so.b1
 have a0:=s.a0;have a1:=s.a1;have a2:=s.a2;have a3:=s.a3;have a4:=s.a4;have a5:=s.a5;have a6:=s.a6;have a7:=s.a7;have a8:=s.a8
 have hd:decide (i < 0)=false:=rfl
 have hd6:decide (6≤i)=false:=decide_eq_false (by omega)
 have hi':(0:Int)≤i∧(i:Int) < 6:=by omega
 rw [hl] at a1
 have cR:=Sg.reach_any (c.seg i).b (c.seg i).l (c.seg i).t (c.seg i).s (c.seg i).d (c.seg i).p (c.seg i).g off n wr ((w.alloc (.cells #[.int .u32 0,.int .u32 0,.int .i64 0,.int .i64 0] 295)).alloc (.cells #[.int .u16 (c.seg i).sel,.bool false,.int .u32 (c.seg i).b,.int .u32 (c.seg i).l,.int .i64 (c.seg i).t,.bool (c.seg i).s,.int .i64 (c.seg i).d,.bool (c.seg i).p,.bool (c.seg i).g] 28)) t0 t1 o0 o1 l0 l1
 rw [hr] at cR
 clear hr
 obtain ⟨X,hX⟩:∃ X,w.heap.size=X:=⟨_,rfl⟩
 have HLT0:V < X∧∀ j,modVm K B M.n j→j < X:=⟨by rw [← hX];exact h.lt,fun j hj=>by rw [← hX];exact h.in_lt hj⟩
 have kB:=Kp.alloc noB (w.alloc (.cells #[.int .u32 0,.int .u32 0,.int .i64 0,.int .i64 0] 295)) (.cells #[.int .u16 (c.seg i).sel,.bool false,.int .u32 (c.seg i).b,.int .u32 (c.seg i).l,.int .i64 (c.seg i).t,.bool (c.seg i).s,.int .i64 (c.seg i).d,.bool (c.seg i).p,.bool (c.seg i).g] 28)
 have rX:RowS ((w.alloc (.cells #[.int .u32 0,.int .u32 0,.int .i64 0,.int .i64 0] 295)).alloc (.cells #[.int .u16 (c.seg i).sel,.bool false,.int .u32 (c.seg i).b,.int .u32 (c.seg i).l,.int .i64 (c.seg i).t,.bool (c.seg i).s,.int .i64 (c.seg i).d,.bool (c.seg i).p,.bool (c.seg i).g] 28)) X 0 0 0 0:=by
  rw [← hX]
  exact RowS.kp (h:=0) (n:=0) (MapKept.heap_alloc w _).1 kB (fun f=>f)
 have rY:((w.alloc (.cells #[.int .u32 0,.int .u32 0,.int .i64 0,.int .i64 0] 295)).alloc (.cells #[.int .u16 (c.seg i).sel,.bool false,.int .u32 (c.seg i).b,.int .u32 (c.seg i).l,.int .i64 (c.seg i).t,.bool (c.seg i).s,.int .i64 (c.seg i).d,.bool (c.seg i).p,.bool (c.seg i).g] 28)).heap[X+1]?=some (.cells #[.int .u16 (c.seg i).sel,.bool false,.int .u32 (c.seg i).b,.int .u32 (c.seg i).l,.int .i64 (c.seg i).t,.bool (c.seg i).s,.int .i64 (c.seg i).d,.bool (c.seg i).p,.bool (c.seg i).g] 28 (0,0)):=by
  have:=(MapKept.heap_alloc (w.alloc (.cells #[.int .u32 0,.int .u32 0,.int .i64 0,.int .i64 0] 295)) (.cells #[.int .u16 (c.seg i).sel,.bool false,.int .u32 (c.seg i).b,.int .u32 (c.seg i).l,.int .i64 (c.seg i).t,.bool (c.seg i).s,.int .i64 (c.seg i).d,.bool (c.seg i).p,.bool (c.seg i).g] 28)).1
  simp only [World.size_alloc,hX] at this
  exact this
 go_enter Tryz.func203,Tryz.ntmps203
 go_wp2_with (first | (go_at_call 245;refine cN.mono ?_;rintro e w' ⟨rfl,hw⟩;replace hw:=hw.symm;subst hw) | (go_at_call 246;refine cS.mono ?_;rintro e w' ⟨rfl,hw⟩;replace hw:=hw.symm;subst hw) | (go_at_call 248;refine cR.mono ?_;rintro e w3 ⟨rfl,k3⟩))
 replace k3:=kp_grown k3
 replace rX:=rX.kp k3 (fun f=>f)
 have y2:w3.cell? ⟨X+1,2,none⟩=some (.int .u32 (c.seg i).b):=by
  rw [World.cell?_of_block (k3.block (X+1) (by simp [hX]) (fun f=>f)),cell_at rY];rfl
 have k4:=(kA.trans kB).trans k3
 replace h:=h.kp0 k4
 replace hc:=hc.kp0 k4
 have HXw:Hid (w.heap.size=X):=hX
 have HLT:Hid (V < X∧∀ j,modVm K B M.n j→j < X):=HLT0
 clear cR rY kB kA k3 a0 a1 a2 a3 a4 a5 a6 a7 a8 s so cN cS h0 HLT0 hX
 have hl0:0≤linB (c.seg i).b off∧linB (c.seg i).b off < 4294967296:=by unfold linB;omega
 have HP:Hid (∀ W,Kp noB w3.drew W→Calls Tryz.prog 251 #[.pointer (some ⟨C,0,none⟩),.bool wr] W fun e w'=>e=.returned (.agg #[.bool wr,.bool c.us,.bool c.wp])∧Kp noB w3.drew w'):=fun W k=>(program_way W C c wr ((hc.kp0 (Kp.refl noB w3).drew).kp0 k)).mono (fun e w' ⟨h1,h2⟩=>⟨h1,k.trans h2⟩)
 have HF:Hid (∀ W,Kp noB w3.drew W→Calls Tryz.prog 250 #[.pointer (some ⟨V,0,none⟩),.pointer (some ⟨C,0,none⟩),.int .u32 (((c.seg i).b+off)%4294967296),.int .i64 n,.agg #[.bool wr,.bool c.us,.bool c.wp]] W (fun e w'=>e=QE (findQ M c.pg c.cr3 (linB (c.seg i).b off) n wr c.us c.wp)∧VmP W V K B pl tn (findQ M c.pg c.cr3 (linB (c.seg i).b off) n wr c.us c.wp).m 2 w')):=fun W k=>vfind_any W V K B pl tn C M ((h.kp0 (Kp.refl noB w3).drew).kp0 k) c ((hc.kp0 (Kp.refl noB w3).drew).kp0 k) hC _ n wr c.us c.wp hl0.1 hl0.2 (by omega) (by omega) htn
 have e1:QE (findQ M c.pg c.cr3 (linB (c.seg i).b off) n wr c.us c.wp)=.returned (findQ M c.pg c.cr3 (linB (c.seg i).b off) n wr c.us c.wp).s.val:=by unfold QE;rw [hq]
 rw [e1] at HF
 have qn:=findQ_n M c.pg c.cr3 (linB (c.seg i).b off) n wr c.us c.wp
 obtain ⟨q,hqe⟩:∃ q,(findQ M c.pg c.cr3 (linB (c.seg i).b off) n wr c.us c.wp)=q:=⟨_,rfl⟩
 rw [hqe] at HF qn
 have HQ:Hid _:=hqe
 clear hqe e1 hq
 obtain ⟨qf,qm,sa,sb,sh,sn⟩:=q
 unfold Sp.val at HF
 simp only at HF qn
 have nX:¬ modVm K B qm.n X:=fun f=>by rw [qn] at f;have:=HLT.out.2 _ f;omega
 have nY:¬ modVm K B qm.n (X+1):=fun f=>by rw [qn] at f;have:=HLT.out.2 _ f;omega
 have HS0:Hid (w3.drew.cell? ⟨X+1,2,none⟩=some (.int .u32 (c.seg i).b)):=y2
 have HK0:Hid (Kp noB w3.drew w3.drew):=Kp.refl _ _
 have HSK:Hid (∀ W,Kp noB w3.drew W→W.cell? ⟨X+1,2,none⟩=some (.int .u32 (c.seg i).b)):=fun W k=>cell_kp (w:=w3.drew) y2 k (fun f=>f)
 have HSV:Hid (∀ W W',Kp noB w3.drew W→VmP W V K B pl tn qm 2 W'→W'.cell? ⟨X+1,2,none⟩=some (.int .u32 (c.seg i).b)):=fun W W' k v=>cell_kp (HSK.out _ k) v.2 nY
 have HSF:Hid (∀ (W:World) (a b c' d:Value),W.cell? ⟨X+1,2,none⟩=some (.int .u32 (c.seg i).b)→((((W.setCell ⟨X,0,none⟩ a).setCell ⟨X,1,none⟩ b).setCell ⟨X,2,none⟩ c').setCell ⟨X,3,none⟩ d).cell? ⟨X+1,2,none⟩=some (.int .u32 (c.seg i).b)):=fun W a b c' d h=>cell_kp h (kp_four W X a b c' d) (by omega)
 have HRX:Hid (∀ W W',Kp noB w3.drew W→VmP W V K B pl tn qm 2 W'→RowS W' X 0 0 0 0):=fun W W' k v=>by
  have r:RowS w3.drew X 0 0 0 0:=rX
  exact (r.kp k (fun f=>f)).kp v.2 nX
 go_region_held3 (fun W=>W.cell? ⟨X+1,2,none⟩=some (.int .u32 (c.seg i).b))
  (first | with_reducible exact HS0.out | with_reducible exact HSK.out _ k5 | with_reducible exact HSV.out _ _ k5 v6 | with_reducible exact HSF.out _ _ _ _ _ (HSV.out _ _ k5 v6))
  (first | (go_at_call 251;refine Calls.mono (HP.out _ HK0.out) ?_;rintro e w5 ⟨rfl,k5⟩) | (go_at_call 250;refine Calls.mono (HF.out _ k5) ?_;rintro e w6 ⟨rfl,v6⟩;have rz:=HRX.out _ _ k5 v6;obtain ⟨z0,z1,z2,z3,u0,u1,u2,u3⟩:_∧_∧_∧_∧_∧_∧_∧_:=⟨rz.c0,rz.c1,rz.c2,rz.c3,rz.fz 0,rz.fz 1,rz.fz 2,rz.fz 3⟩))
 have rF:=rz.four sa sb sh sn
 have kF:=kp_four w6 X (.int .u32 sa) (.int .u32 sb) (.int .i64 sh) (.int .i64 sn)
 obtain ⟨⟨tn6,ht6,at6⟩,k6⟩:=v6
 have vF:=at6.kp kF (fun j hj e=>by
  subst e
  rcases hj with e | e
  ·have:=HLT.out.1;omega
  ·exact nX e)
 have k7:Kp (modVm K B qm.n) w _:=((k4.mono (fun _ _ f=>f.elim)).trans ((k5.undrew.mono (fun _ _ f=>f.elim)).trans k6)).over kF (fun j hj e=>absurd hj (by have:=HXw.out;omega))
 clear HSV HSF HSK HRX HF HP rz at6 k6 k5 z0 z1 z2 z3 u0 u1 u2 u3 kF HS0
 go_wp2
 refine bodyPost_ret (v:=.agg #[.int .u32 sa,.int .u32 sb,.int .i64 sh,.int .i64 sn]) (by simp [results,Tryz.results203,go_sem,rF.c0,rF.c1,rF.c2,rF.c3]) rfl ⟨by rw [HQ.out];rfl,?_⟩
 rw [HQ.out]
 exact ⟨⟨tn6,ht6,vF⟩,k7⟩
theorem inSeg_any (w:World) (V K B pl tn C:Nat) (M:Mem) (h:VmAt w V K B pl tn M) (c:Cp) (hc:CpAt w C c) (hC:¬ modVm K B M.n C) (k off z:Int) (wr:Bool) (o0:0≤off) (o1:off < 4294967296) (htn:tn < 18446744073709551613):
  Calls Tryz.prog 203 #[.pointer (some ⟨V,0,none⟩),.pointer (some ⟨C,0,none⟩),.int .i64 k,.int .u32 off,.int .i64 z,.bool wr] w (fun e w'=>e=QE (segQ M c k off z wr)∧VmP w V K B pl tn (segQ M c k off z wr).m 2 w'):=by
 unfold segQ
 by_cases hk:okS z=false∨k < 0∨6≤k
 ·rw [if_pos hk]
  refine (inSeg_size w V K B pl tn C M h k off z wr hk).mono ?_
  rintro e w' ⟨rfl,q⟩
  exact ⟨rfl,h.stay q 2⟩
 ·rw [if_neg hk]
  have hz:okS z=true:=by cases hz:okS z<;>simp_all
  have hz':z=1∨z=2∨z=4:=of_decide_eq_true hz
  have hk0:¬ k < 0:=fun f=>hk (.inr (.inl f))
  have hk6:¬ 6≤k:=fun f=>hk (.inr (.inr f))
  obtain ⟨n,rfl⟩:∃ n:Nat,z=n:=⟨z.toNat,by omega⟩
  obtain ⟨i,rfl⟩:∃ i:Nat,k=i:=⟨k.toNat,by omega⟩
  have hn:n=1∨n=2∨n=4:=by omega
  have hi:i < 6:=by omega
  simp only [Int.toNat_natCast]
  cases hl:(c.seg i).nl with
  | true=>
   rw [if_pos (.inl rfl)]
   refine (inSeg_null w V K B pl tn C M h c hc i hi off n wr o0 o1 hn hl).mono ?_
   rintro e w' ⟨rfl,q⟩
   exact ⟨rfl,h.stay q 2⟩
  | false=>
   cases hr:Sg.reachB (c.seg i).l (c.seg i).t (c.seg i).s (c.seg i).p (c.seg i).g off n wr with
   | false=>
    rw [if_pos (.inr rfl)]
    refine (inSeg_lets w V K B pl tn C M h c hc i hi off n wr o0 o1 hn hl hr).mono ?_
    rintro e w' ⟨rfl,q⟩
    exact ⟨rfl,h.stay q 2⟩
   | true=>
    rw [if_neg (by simp)]
    cases hq:(findQ M c.pg c.cr3 (linB (c.seg i).b off) n wr c.us c.wp).f with
    | none=>
     refine (inSeg_find w V K B pl tn C M h c hc i hi off n wr o0 o1 hn hC htn hl hr hq).mono ?_
     rintro e w' ⟨rfl,q⟩
     exact ⟨by unfold QE;rw [hq],q⟩
    | some f=>
     refine (inSeg_pf w V K B pl tn C M h c hc i hi off n wr o0 o1 hn hC htn hl hr f hq).mono ?_
     rintro e w' ⟨rfl,q⟩
     exact ⟨by unfold QE;rw [hq],q⟩
end Go.Proofs.YtacgmoikegcopaaGreatDoor.Rm
