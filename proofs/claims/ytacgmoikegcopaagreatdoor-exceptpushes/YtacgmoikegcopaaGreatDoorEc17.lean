/- The bus and its devices: XcFault2, XcRet1, XcHide, XcInter. -/
import Derived.Test.YtacgmoikegcopaaGreatDoorEc16
import Derived.Deep.LoopGhost
import Derived.LoopN
namespace Go.Proofs.YtacgmoikegcopaaGreatDoor.Rm
open Go.ChangeShapes Go.WideShapes Go.ChangeAt Go.RowKit Go.Maps
set_option linter.unusedVariables false
set_option maxRecDepth 20000
def atF (x:Cu) (f:Ft):Cu:=if f.vec=14 then { x with z2:=f.cr2 } else x
def dead (x:Cu):Cu:={ x with de:=true }
def fltO:Nat→Mem→Cu→Ft→Ou Cu
 | 0,M,x,_=>.ok M x
 | k+1,M,x,f=>if f.vec < 0 then .ok M x else
  match (enterO M (atF x f) f.vec f.code false).r with
  | .inr n=>.ok (enterO M (atF x f) f.vec f.code false).m n
  | .inl g=>if f.vec=8 then .ok (enterO M (atF x f) f.vec f.code false).m (dead (atF x f)) else fltO k (enterO M (atF x f) f.vec f.code false).m (atF x f) (joinF f g)
def meaF (f:Ft):Nat:=if f.vec < 0 then 0 else if f.vec=8 then 1 else if clsI f.vec=2 then 2 else if clsI f.vec=1 then 3 else 4
theorem meaF_4 (f:Ft):meaF f≤4:=by
 unfold meaF
 by_cases a:f.vec < 0
 ·rw [if_pos a];omega
 rw [if_neg a]
 by_cases b:f.vec=8
 ·rw [if_pos b];omega
 rw [if_neg b]
 by_cases d:clsI f.vec=2
 ·rw [if_pos d];omega
 rw [if_neg d]
 by_cases e:clsI f.vec=1
 ·rw [if_pos e];omega
 ·rw [if_neg e];omega
theorem cls_3 {g:Ft} (h:Ft3 g):clsI g.vec=1∨clsI g.vec=2:=by
 unfold Ft3 at h
 unfold clsI clsN
 rcases h with e | e | e | e | e<;>rw [e]<;>decide
theorem mea_join {f g:Ft} (hg:Ft3 g) (h0:0≤f.vec) (h8:f.vec≠8):meaF (joinF f g) < meaF f:=by
 have c:=cls_3 hg
 have c3:=clsI_3 f.vec
 have gv:10≤g.vec∧g.vec≤14:=by unfold Ft3 at hg;omega
 have e1:meaF ⟨8,0,0⟩=1:=rfl
 have e2:clsI g.vec=1→meaF g=3:=fun e=>by unfold meaF;rw [if_neg (by omega),if_neg (by omega),if_neg (by omega),if_pos e]
 have e3:clsI g.vec=2→meaF g=2:=fun e=>by unfold meaF;rw [if_neg (by omega),if_neg (by omega),if_pos e]
 have e4:meaF f=if clsI f.vec=2 then 2 else if clsI f.vec=1 then 3 else 4:=by unfold meaF;rw [if_neg (by omega),if_neg h8]
 rw [e4]
 unfold joinF
 rcases c3 with e | e | e<;>rcases c with d | d<;>simp [e,d,e1,e2,e3]
theorem join_cr {f g:Ft} (hg:U32 g.cr2):U32 (joinF f g).cr2:=by
 unfold joinF
 split
 ·exact ⟨by decide,by decide⟩
 ·exact hg
theorem XAt.setZ2 {w:World} {c:Ev} {tn:Nat} {x:Cu} {M:Mem} (h:XAt w c tn x M) {v:Int} (hv:U32 v):XAt (w.setCell ⟨c.E,65,none⟩ (.int .u32 v)) c tn { x with z2:=v } M:=by
 have k:Kp (fun j=>j=c.E) w (w.setCell ⟨c.E,65,none⟩ (.int .u32 v)):=Kp.setCell (S:=fun j=>j=c.E) w (p:=⟨c.E,65,none⟩) rfl _
 have e:=h.e.set (k:=65) (by decide) (v:=.int .u32 v) rfl
 have q:x.cs.setIfInBounds 65 (.int .u32 v)=({ x with z2:=v }:Cu).cs:=by kernel_rfl
 rw [q] at e
 exact ⟨e,h.v.kp k (by rw [h.s];exact fun j hj e=>h.n (e ▸ hj)),h.s,h.n,{ h.ok with z2:=hv }⟩
theorem XAt.setDe {w:World} {c:Ev} {tn:Nat} {x:Cu} {M:Mem} (h:XAt w c tn x M):XAt (w.setCell ⟨c.E,82,none⟩ (.bool true)) c tn (dead x) M:=by
 have k:Kp (fun j=>j=c.E) w (w.setCell ⟨c.E,82,none⟩ (.bool true)):=Kp.setCell (S:=fun j=>j=c.E) w (p:=⟨c.E,82,none⟩) rfl _
 have e:=h.e.set (k:=82) (by decide) (v:=.bool true) rfl
 have q:x.cs.setIfInBounds 82 (.bool true)=(dead x).cs:=by kernel_rfl
 rw [q] at e
 exact ⟨e,h.v.kp k (by rw [h.s];exact fun j hj e=>h.n (e ▸ hj)),h.s,h.n,{ h.ok with }⟩
def Cx {α:Type} (o:Ou α):Prop:=∀ f,o.r=.inl f→Ft3 f∧U32 f.cr2
theorem Cx.bind {α β:Type} {o:Ou α} (h:Cx o) {g:Mem→α→Ou β} (hg:∀ M a,Cx (g M a)):Cx (o.bind g):=by
 unfold Ou.bind
 cases hr:o.r with
 | inl f=>exact fun f' e=>by cases e;exact h f hr
 | inr a=>exact hg o.m a
theorem Cx.ret {α:Type} (M:Mem) (a:α):Cx (Ou.ok M a):=fun f e=>by cases e
theorem Cx.bad {α:Type} (M:Mem) {v c:Int} (hv:Ft3 ⟨v,c,0⟩):Cx (Ou.no (α:=α) M v c):=fun f e=>by cases e;exact ⟨hv,by unfold U32;simp⟩
theorem findQ_cr {M:Mem} {pg:Bool} {c l:Int} {n:Nat} {wr us wp:Bool} {f:Ft} (hl:U32 l) (h:(findQ M pg c l n wr us wp).f=some f):U32 f.cr2:=by
 unfold findQ at h
 split at h
 ·cases h
 split at h
 ·cases h;exact hl
 split at h
 ·cases h
 split at h
 ·cases h;unfold nxt U32;dsimp only;omega
 ·cases h
theorem sysQ_cr {M:Mem} {c:Cp} {l z:Int} {wr:Bool} {f:Ft} (hl:U32 l) (h:(sysQ M c l z wr).f=some f):U32 f.cr2:=by
 unfold sysQ at h
 split at h
 ·cases h;unfold ftV U32;simp
 ·exact findQ_cr hl h
theorem segQ_cr {M:Mem} {c:Cp} {k l z:Int} {wr:Bool} {f:Ft} (h:(segQ M c k l z wr).f=some f):U32 f.cr2:=by
 unfold segQ at h
 split at h
 ·cases h;unfold ftV U32;simp
 split at h
 ·cases h;unfold ftV U32;simp
 ·exact findQ_cr (linB_bd _ _) h
theorem cx_sys (M:Mem) (c:Cp) {l:Int} (z:Int) (hl:U32 l):Cx (sysO M c l z):=by
 unfold sysO
 cases hf:(sysQ M c l z false).f with
 | some f=>rw [ou_no hf];exact fun f' e=>by cases e;exact ⟨sysQ_ft hf,sysQ_cr hl hf⟩
 | none=>rw [ou_ok hf];exact fun f' e=>by cases e
theorem cx_find (M:Mem) (x:Cu) (s:Int):Cx (findO M x s):=by
 unfold findO
 split
 ·exact .bad M (ft3_13 _)
 ·exact (cx_sys _ _ _ (a32_bd _ _)).bind (fun M a=>(cx_sys _ _ _ (a32_bd _ _)).bind (fun M b=>.ret _ _))
theorem cx_tfind (M:Mem) (x:Cu) (s v c:Int) (hv:Ft3 ⟨v,c,0⟩):Cx (tfindO M x s v c):=by
 unfold tfindO
 split
 ·exact .bad M hv
 ·exact cx_find M x s
theorem cx_gate (M:Mem) (x:Cu) (v:Int) (so:Bool) (c:Int):Cx (gateO M x v so c):=by
 unfold gateO
 split
 ·exact .bad M (ft3_13 _)
 ·refine (cx_sys _ _ _ (a32_bd _ _)).bind (fun M a=>(cx_sys _ _ _ (a32_bd _ _)).bind (fun M b=>?_))
  split
  ·exact .bad M (ft3_13 _)
  split
  ·exact .bad M (by unfold Ft3;simp)
  ·exact .ret _ _
theorem ft3_code {d:Dsc} {r k c:Int} (h:0≤Sg.codeB d.t d.d d.s d.p d.g r k):Ft3 ⟨Sg.codeB d.t d.d d.s d.p d.g r k,c,0⟩:=by
 rcases codeB_v d.t d.d d.s d.p d.g r k with e | e | e
 ·omega
 ·unfold Ft3;simp only;omega
 ·unfold Ft3;simp only;omega
theorem cx_hand (M:Mem) (x:Cu) (g:Gt) (o:Int):Cx (handO M x g o):=by
 unfold handO
 refine (cx_tfind M x _ _ _ (ft3_13 _)).bind (fun M d=>?_)
 split
 ·rename_i hv
  exact .bad M (ft3_code hv)
 split
 ·exact .bad M (ft3_13 _)
 ·exact .ret _ _
theorem cx_stack (M:Mem) (x:Cu) (s r v c:Int) (hv:Ft3 ⟨v,c,0⟩):Cx (stackO M x s r v c):=by
 unfold stackO
 refine (cx_tfind M x _ _ _ hv).bind (fun M d=>?_)
 split
 ·exact .bad M hv
 split
 ·exact .bad M (by unfold Ft3;simp)
 ·exact .ret _ _
theorem cx_take (M:Mem) (x n:Cu) (r o:Int):Cx (takeO M x n r o):=by
 unfold takeO
 split
 ·exact .bad M (by unfold Ft3;simp)
 ·exact (cx_sys _ _ _ (a32_bd _ _)).bind (fun M a=>(cx_sys _ _ _ (a32_bd _ _)).bind (fun M b=>(cx_stack _ _ _ _ _ _ (by unfold Ft3;simp)).bind (fun M s=>.ret _ _)))
theorem cx_push (M:Mem) (n:Cu) (v:Int):Cx (pushO M n v):=by
 unfold pushO
 refine Cx.bind ?_ (fun M _=>.ret _ _)
 unfold stoO
 cases hf:(segQ M n.cp 2 (a32 (n.r 4) (-4)) 4 true).f with
 | some f=>exact fun f' e=>by cases e;exact ⟨segQ_ft hf,segQ_cr hf⟩
 | none=>exact fun f' e=>by cases e
theorem cx_pushes:∀ (l:List Int) (M:Mem) (n:Cu),Cx (pushesO M n l)
 | [],M,n=>.ret M n
 | v::l,M,n=>(cx_push M n v).bind (fun M n=>cx_pushes l M n)
theorem cx_enter (M:Mem) (x:Cu) (v c:Int) (so:Bool):Cx (enterO M x v c so):=by
 unfold enterO
 split
 ·exact .bad M (ft3_13 _)
 ·refine (cx_gate M x v so _).bind (fun M g=>(cx_hand M x g _).bind (fun M d=>Cx.bind ?_ (fun M n=>(cx_pushes _ _ _).bind (fun M n=>.ret _ _))))
  split
  ·exact cx_take _ _ _ _ _
  ·exact .ret _ _
def FlR (w0:World) (c:Ev) (tn X:Nat) (R:Ou Cu) (k:Nat) (s:Value) (W:World):Prop:=
 ∃ (f:Ft) (x:Cu) (M:Mem) (t:Nat),RowT W X f∧XAt W c t x M∧fltO k M x f=R∧meaF f≤k∧t+40*k≤tn+160∧U32 f.cr2∧Kp (fun j=>c.md j∨j=c.E) w0 W∧Cls W
set_option maxHeartbeats 4000000 in
theorem Fault_any (w:World) (c:Ev) (tn:Nat) (x:Cu) (M:Mem) (h:XAt w c tn x M) (hC:Cls w) (hC2:¬ c.all 0∧c.E≠0) (f:Ft) (hf:U32 f.cr2) (htn:tn < 18446744073709550000):
  Calls Tryz.prog 13 #[.pointer (some ⟨c.E,0,none⟩),f.val] w fun e w'=>e=.returned (.tuple #[])∧(∃ t,t≤tn+160∧∃ x' M',fltO 4 M x f=.ok M' x'∧XAt w' c t x' M')∧Kp (fun j=>c.md j∨j=c.E) w w':=by
 unfold Ft.val
 obtain ⟨X,hX⟩:∃ X,w.heap.size=X:=⟨_,rfl⟩
 obtain ⟨W0,hW0⟩:∃ W,W=w.alloc (.cells #[.int .i64 f.vec,.int .i64 f.code,.int .u32 f.cr2] 44):=⟨_,rfl⟩
 have k0:Kp noB w W0:=by rw [hW0];exact Kp.alloc _ _ _
 have rX:RowT W0 X f:=by rw [hW0,← hX];exact (MapKept.heap_alloc w _).1
 have h0:=h.kp0 k0
 have HL:Hid _:=cLacks_no W0 c.E c.V c.bp x.cs h0.e
 have HX:Hid (w.heap.size=X∧(∀ j,c.all j→j < X)∧c.E < X∧¬ c.all 0∧c.E≠0∧0 < X):=⟨hX,fun j hj=>by have:=h.in_all hj;omega,by have:=h.lt;omega,hC2.1,hC2.2,by have:=hC.1;omega⟩
 obtain ⟨R,hR⟩:∃ R,R=fltO 4 M x f:=⟨_,rfl⟩
 have HI:Hid (FlR w c tn X R 4 (.bool false) W0):=⟨f,x,M,tn,rX,h0,hR.symm,meaF_4 f,by omega,hf,k0.mono (fun _ _ f=>f.elim),hC.kp0 k0⟩
 rw [← hR]
 clear h h0 rX k0 hC hf hR hC2
 go_enter Tryz.func13,Tryz.ntmps13
 go_wp2_with fail
 rw [← hW0]
 clear hW0
 refine Calls.mono HL.out ?_;rintro e w' ⟨rfl,hw⟩;replace hw:=hw.symm;subst hw
 clear HL hX
 go_wp2_with fail
 go_loopg [] 4 (fun k W=>FlR w c tn X R k (.bool false) W)
 case atStart=>exact HI.out
 case round=>
  clear HI
  obtain ⟨f,x,M,t,rX,hx,hfl,hme,ht,hcr,kk,hcl⟩:=hrel
  have r0:=rX.c0;have r1:=rX.c1;have r2:=rX.c2
  have c65:=hx.c (k:=65) rfl
  have f65:=hx.e.fz 65
  by_cases h0:f.vec < 0
  ·have hd:decide (0≤f.vec)=false:=decide_eq_false (by omega)
   have HE:Hid (R=.ok M x):=by
    rw [← hfl]
    cases k:gk with
    | zero=>exact rfl
    | succ k=>unfold fltO;rw [if_pos h0];exact rfl
   have HF:Hid ((∃ t,t≤tn+160∧∃ x' M',R=.ok M' x'∧XAt wr c t x' M')∧Kp (fun j=>c.md j∨j=c.E) w wr):=⟨⟨t,by omega,x,M,HE.out,hx⟩,kk⟩
   clear hx kk rX hcl hfl h0
   go_wp2
   go_end0
   exact ⟨rfl,HF.out⟩
  ·have hd:decide (0≤f.vec)=true:=decide_eq_true (by omega)
   obtain ⟨k,rfl⟩:∃ k,gk=k+1:=⟨gk - 1,by
    have:1≤meaF f:=by
     unfold meaF
     rw [if_neg h0]
     by_cases b:f.vec=8
     ·rw [if_pos b];omega
     rw [if_neg b]
     by_cases d:clsI f.vec=2
     ·rw [if_pos d];omega
     rw [if_neg d]
     by_cases e:clsI f.vec=1
     ·rw [if_pos e];omega
     ·rw [if_neg e];omega
    omega⟩
   by_cases h14:f.vec=14
   ·have b14:(f.vec==14)=true:=by simpa using h14
    have x1':=hx.setZ2 hcr
    have kZ:Kp (fun j=>j=c.E) wr (wr.setCell ⟨c.E,65,none⟩ (.int .u32 f.cr2)):=Kp.setCell (S:=fun j=>j=c.E) wr (p:=⟨c.E,65,none⟩) rfl _
    have ea:atF x f={ x with z2:=f.cr2 }:=by unfold atF;rw [if_pos h14]
    rw [← ea] at x1'
    obtain ⟨W1,hW1⟩:∃ W,W=wr.setCell ⟨c.E,65,none⟩ (.int .u32 f.cr2):=⟨_,rfl⟩
    rw [← hW1] at x1' kZ
    have x1:XAt W1 c t (atF x f) M:=x1'
    have rX1:RowT W1 X f:=rX.kp kZ (by have:=HX.out.2.2.1;omega)
    have cl1:Cls W1:=hcl.kp kZ (fun e=>HX.out.2.2.2.2.1 e.symm)
    have kw1:Kp (fun j=>c.md j∨j=c.E) w W1:=kk.trans (kZ.mono (fun _ _ e=>.inr e))
    clear x1' kZ ea h14 hx
    have HEn:=Enter_any W1 c t (atF x f) M x1 f.vec f.code false (by omega)
    obtain ⟨o,ho⟩:∃ o,o=enterO M (atF x f) f.vec f.code false:=⟨_,rfl⟩
    have hcx:=cx_enter M (atF x f) f.vec f.code false
    have hun:fltO (k+1) M x f=match o.r with | .inr n=>.ok o.m n | .inl g=>if f.vec=8 then .ok o.m (dead (atF x f)) else fltO k o.m (atF x f) (joinF f g):=by
     rw [ho]
     show (if f.vec < 0 then _ else _)=_
     rw [if_neg h0]
    rw [← ho] at HEn hcx
    rw [hun] at hfl
    have HRX:Hid (RowT W1 X f∧Cls W1∧Kp (fun j=>c.md j∨j=c.E) w W1):=⟨rX1,cl1,kw1⟩
    clear ho hun rX1 cl1 kw1 x1 hcl kk rX
    cases hr:o.r with
    | inr n=>
     have HC:Hid (Calls Tryz.prog 11 #[.pointer (some ⟨c.E,0,none⟩),.int .i64 f.vec,.int .i64 f.code,.bool false] W1 fun e w'=>e=.returned (.agg #[.int .i64 (-1),.int .i64 (-1),.int .u32 0])∧(∃ t',t'≤t+40∧XAt w' c t' n o.m)∧Kp (fun j=>c.md j∨j=c.E) W1 w'):=HEn.mono (fun e w' ⟨a,b,d⟩=>⟨by rw [a];unfold ftO;rw [hr];rfl,(by rw [show xO (atF x f) o=n from by unfold xO;rw [hr]] at b;exact b),d⟩)
     have HE:Hid (R=.ok o.m n):=by rw [← hfl,hr];exact rfl
     clear HEn hcx hfl hr
     go_wp2_with fail
     rw [← hW1]
     refine Calls.mono HC.out ?_;rintro e w2 ⟨rfl,⟨t2,ht2,x2⟩,k2⟩
     have kA:=Kp.alloc noB w2 (.cells #[.int .i64 (-1),.int .i64 (-1),.int .u32 0] 44)
     have HF:Hid ((∃ t,t≤tn+160∧∃ x' M',R=.ok M' x'∧XAt (w2.alloc (.cells #[.int .i64 (-1),.int .i64 (-1),.int .u32 0] 44)) c t x' M')∧Kp (fun j=>c.md j∨j=c.E) w (w2.alloc (.cells #[.int .i64 (-1),.int .i64 (-1),.int .u32 0] 44))):=⟨⟨t2,by omega,n,o.m,HE.out,x2.kp0 kA⟩,(HRX.out.2.2.trans k2).trans (kA.mono (fun _ _ f=>f.elim))⟩
     clear x2 k2 kA
     go_wp2
     refine bodyPost_ret (v:=.tuple #[]) (by simp [results,Tryz.results13,go_sem]) rfl ?_
     exact ⟨rfl,HF.out⟩
    | inl g=>
     obtain ⟨hg3,hgc⟩:=hcx g hr
     have hgv:10≤g.vec∧g.vec≤14:=by unfold Ft3 at hg3;omega
     have hgd:decide (g.vec < 0)=false:=decide_eq_false (by omega)
     have HC:Hid (Calls Tryz.prog 11 #[.pointer (some ⟨c.E,0,none⟩),.int .i64 f.vec,.int .i64 f.code,.bool false] W1 fun e w'=>e=.returned (.agg #[.int .i64 g.vec,.int .i64 g.code,.int .u32 g.cr2])∧(∃ t',t'≤t+40∧XAt w' c t' (atF x f) o.m)∧Kp (fun j=>c.md j∨j=c.E) W1 w'):=HEn.mono (fun e w' ⟨a,b,d⟩=>⟨by rw [a];unfold ftO;rw [hr];rfl,(by rw [show xO (atF x f) o=atF x f from by unfold xO;rw [hr]] at b;exact b),d⟩)
     rw [hr] at hfl
     have HG:Hid (Ft3 g∧U32 g.cr2):=⟨hg3,hgc⟩
     clear HEn hcx hr hg3 hgc hgv
     go_wp2_with fail
     rw [← hW1]
     refine Calls.mono HC.out ?_;rintro e w2 ⟨rfl,⟨t2,ht2,x2⟩,k2⟩
     obtain ⟨Y,hY⟩:∃ Y,Y=w2.heap.size:=⟨_,rfl⟩
     obtain ⟨W3,hW3⟩:∃ W,W=w2.alloc (.cells #[.int .i64 g.vec,.int .i64 g.code,.int .u32 g.cr2] 44):=⟨_,rfl⟩
     have kA:Kp noB w2 W3:=by rw [hW3];exact Kp.alloc _ _ _
     have rY:RowT W3 Y g:=by rw [hW3,hY];exact (MapKept.heap_alloc w2 _).1
     have x3:=x2.kp0 kA
     have nX:¬ (c.md X∨X=c.E):=fun e=>by
      rcases e with e | e
      ·have:=HX.out.2.1 X (.inr e);omega
      ·have:=HX.out.2.2.1;omega
     have rX3:=(HRX.out.1.kp k2 nX).kp kA id
     have cl3:=(HRX.out.2.1.kp k2 (fun e=>e.elim (fun e=>HX.out.2.2.2.1 (.inr e)) (fun e=>HX.out.2.2.2.2.1 e.symm))).kp0 kA
     have kw3:=(HRX.out.2.2.trans k2).trans (kA.mono (fun _ _ f=>f.elim))
     have y0:=rY.c0;have y1:=rY.c1;have y2:=rY.c2
     have r0:=rX3.c0;have r1:=rX3.c1;have r2:=rX3.c2
     by_cases h8:f.vec=8
     ·have b8:(f.vec==8)=true:=by simpa using h8
      have hE:R=.ok o.m (dead (atF x f)):=by rw [← hfl];simp only [if_pos h8]
      have HE:Hid _:=hE
      have c82:=x3.c (k:=82) rfl
      have f82:=x3.e.fz 82
      have x4:=x3.setDe
      have kE:Kp (fun j=>j=c.E) W3 (W3.setCell ⟨c.E,82,none⟩ (.bool true)):=Kp.setCell (S:=fun j=>j=c.E) W3 (p:=⟨c.E,82,none⟩) rfl _
      have HF:Hid ((∃ t,t≤tn+160∧∃ x' M',R=.ok M' x'∧XAt (W3.setCell ⟨c.E,82,none⟩ (.bool true)) c t x' M')∧Kp (fun j=>c.md j∨j=c.E) w (W3.setCell ⟨c.E,82,none⟩ (.bool true))):=⟨⟨t2,by omega,_,o.m,HE.out,x4⟩,kw3.trans (kE.mono (fun _ _ e=>.inr e))⟩
      rw [hW3] at c82 f82 HF r0 r1 r2 y0 y1 y2
      rw [hY] at y0 y1 y2
      clear x2 x3 x4 k2 kA kE kw3 cl3 rX3 rY hfl h8 h0 hE hW3 hY
      go_wp2
      refine bodyPost_ret (v:=.tuple #[]) (by simp [results,Tryz.results13,go_sem]) rfl ?_
      exact ⟨rfl,HF.out⟩
     ·have b8:(f.vec==8)=false:=by simpa using h8
      have HJ:=joined_any W3 cl3 f g
      have hfl2:fltO k o.m (atF x f) (joinF f g)=R:=by rw [← hfl];simp only [if_neg h8]
      have HST:Hid (XAt W3 c t2 (atF x f) o.m∧RowT W3 X f∧Cls W3∧Kp (fun j=>c.md j∨j=c.E) w W3∧t2≤t+40):=⟨x3,rX3,cl3,kw3,ht2⟩
      have HM:Hid (fltO k o.m (atF x f) (joinF f g)=R∧meaF (joinF f g)≤k∧t+40*(k+1)≤tn+160∧U32 (joinF f g).cr2):=⟨hfl2,by have:=mea_join HG.out.1 (by omega) h8;omega,ht,join_cr HG.out.2⟩
      obtain ⟨jf,hjf⟩:∃ j,j=joinF f g:=⟨_,rfl⟩
      rw [← hjf] at HJ HM
      have HJ2:Hid (Calls Tryz.prog 33 #[.agg #[.int .i64 f.vec,.int .i64 f.code,.int .u32 f.cr2],.agg #[.int .i64 g.vec,.int .i64 g.code,.int .u32 g.cr2]] W3 fun e w'=>e=.returned (.agg #[.int .i64 jf.vec,.int .i64 jf.code,.int .u32 jf.cr2])∧Kp noB W3 w'):=HJ
      rw [hW3] at r0 r1 r2 y0 y1 y2
      rw [hY] at y0 y1 y2
      clear x2 x3 k2 kA kw3 cl3 rX3 rY hfl hfl2 HJ hjf h8 h0 hme ht
      go_wp2_with fail
      rw [← hW3]
      clear hW3 hY r0 r1 r2 y0 y1 y2
      refine Calls.mono HJ2.out ?_;rintro e w4 ⟨rfl,k4⟩
      have r4:=RowT.kp HST.out.2.1 k4 id
      have r0:=r4.c0;have r1:=r4.c1;have r2:=r4.c2
      have z0:=r4.fz 0;have z1:=r4.fz 1;have z2:=r4.fz 2
      have r5:=r4.set jf
      have kF:=kp_setFt w4 X jf
      have HL:Hid (FlR w c tn X R k (.bool false) (setFt w4 X jf)):=by
       refine ⟨jf,atF x f,o.m,t2,r5,(HST.out.1.kp0 k4).kp kF (by have:=HX.out.2.2.1;omega) (fun j hj=>by have:=HX.out.2.1 j hj;omega),HM.out.1,HM.out.2.1,by have:=HM.out.2.2.1;have:=HST.out.2.2.2.2;omega,HM.out.2.2.2,(HST.out.2.2.2.1.trans (k4.mono (fun _ _ f=>f.elim))).over kF (fun j hj e=>absurd hj (by have:=HX.out.1;omega)),(HST.out.2.2.1.kp0 k4).kp kF (by have:=HX.out.2.2.2.2.2;omega)⟩
      unfold setFt at HL
      clear r4 r5 kF k4 HST HJ2 HM HC HRX
      go_wp2_with fail
      go_roundg k
      case measure=>omega
      case rel=>exact HL.out
   ·have b14:(f.vec==14)=false:=by simpa using h14
    have ea:atF x f=x:=by unfold atF;rw [if_neg h14]
    obtain ⟨W1,hW1⟩:∃ W,W=wr:=⟨_,rfl⟩
    have x1:XAt W1 c t (atF x f) M:=by rw [hW1,ea];exact hx
    have rX1:RowT W1 X f:=by rw [hW1];exact rX
    have cl1:Cls W1:=by rw [hW1];exact hcl
    have kw1:Kp (fun j=>c.md j∨j=c.E) w W1:=by rw [hW1];exact kk
    clear ea h14 hx
    have HEn:=Enter_any W1 c t (atF x f) M x1 f.vec f.code false (by omega)
    obtain ⟨o,ho⟩:∃ o,o=enterO M (atF x f) f.vec f.code false:=⟨_,rfl⟩
    have hcx:=cx_enter M (atF x f) f.vec f.code false
    have hun:fltO (k+1) M x f=match o.r with | .inr n=>.ok o.m n | .inl g=>if f.vec=8 then .ok o.m (dead (atF x f)) else fltO k o.m (atF x f) (joinF f g):=by
     rw [ho]
     show (if f.vec < 0 then _ else _)=_
     rw [if_neg h0]
    rw [← ho] at HEn hcx
    rw [hun] at hfl
    have HRX:Hid (RowT W1 X f∧Cls W1∧Kp (fun j=>c.md j∨j=c.E) w W1):=⟨rX1,cl1,kw1⟩
    clear ho hun rX1 cl1 kw1 x1 hcl kk rX
    cases hr:o.r with
    | inr n=>
     have HC:Hid (Calls Tryz.prog 11 #[.pointer (some ⟨c.E,0,none⟩),.int .i64 f.vec,.int .i64 f.code,.bool false] W1 fun e w'=>e=.returned (.agg #[.int .i64 (-1),.int .i64 (-1),.int .u32 0])∧(∃ t',t'≤t+40∧XAt w' c t' n o.m)∧Kp (fun j=>c.md j∨j=c.E) W1 w'):=HEn.mono (fun e w' ⟨a,b,d⟩=>⟨by rw [a];unfold ftO;rw [hr];rfl,(by rw [show xO (atF x f) o=n from by unfold xO;rw [hr]] at b;exact b),d⟩)
     have HE:Hid (R=.ok o.m n):=by rw [← hfl,hr];exact rfl
     clear HEn hcx hfl hr
     go_wp2_with fail
     rw [← hW1]
     refine Calls.mono HC.out ?_;rintro e w2 ⟨rfl,⟨t2,ht2,x2⟩,k2⟩
     have kA:=Kp.alloc noB w2 (.cells #[.int .i64 (-1),.int .i64 (-1),.int .u32 0] 44)
     have HF:Hid ((∃ t,t≤tn+160∧∃ x' M',R=.ok M' x'∧XAt (w2.alloc (.cells #[.int .i64 (-1),.int .i64 (-1),.int .u32 0] 44)) c t x' M')∧Kp (fun j=>c.md j∨j=c.E) w (w2.alloc (.cells #[.int .i64 (-1),.int .i64 (-1),.int .u32 0] 44))):=⟨⟨t2,by omega,n,o.m,HE.out,x2.kp0 kA⟩,(HRX.out.2.2.trans k2).trans (kA.mono (fun _ _ f=>f.elim))⟩
     clear x2 k2 kA
     go_wp2
     refine bodyPost_ret (v:=.tuple #[]) (by simp [results,Tryz.results13,go_sem]) rfl ?_
     exact ⟨rfl,HF.out⟩
    | inl g=>
     obtain ⟨hg3,hgc⟩:=hcx g hr
     have hgv:10≤g.vec∧g.vec≤14:=by unfold Ft3 at hg3;omega
     have hgd:decide (g.vec < 0)=false:=decide_eq_false (by omega)
     have HC:Hid (Calls Tryz.prog 11 #[.pointer (some ⟨c.E,0,none⟩),.int .i64 f.vec,.int .i64 f.code,.bool false] W1 fun e w'=>e=.returned (.agg #[.int .i64 g.vec,.int .i64 g.code,.int .u32 g.cr2])∧(∃ t',t'≤t+40∧XAt w' c t' (atF x f) o.m)∧Kp (fun j=>c.md j∨j=c.E) W1 w'):=HEn.mono (fun e w' ⟨a,b,d⟩=>⟨by rw [a];unfold ftO;rw [hr];rfl,(by rw [show xO (atF x f) o=atF x f from by unfold xO;rw [hr]] at b;exact b),d⟩)
     rw [hr] at hfl
     have HG:Hid (Ft3 g∧U32 g.cr2):=⟨hg3,hgc⟩
     clear HEn hcx hr hg3 hgc hgv
     go_wp2_with fail
     rw [← hW1]
     refine Calls.mono HC.out ?_;rintro e w2 ⟨rfl,⟨t2,ht2,x2⟩,k2⟩
     obtain ⟨Y,hY⟩:∃ Y,Y=w2.heap.size:=⟨_,rfl⟩
     obtain ⟨W3,hW3⟩:∃ W,W=w2.alloc (.cells #[.int .i64 g.vec,.int .i64 g.code,.int .u32 g.cr2] 44):=⟨_,rfl⟩
     have kA:Kp noB w2 W3:=by rw [hW3];exact Kp.alloc _ _ _
     have rY:RowT W3 Y g:=by rw [hW3,hY];exact (MapKept.heap_alloc w2 _).1
     have x3:=x2.kp0 kA
     have nX:¬ (c.md X∨X=c.E):=fun e=>by
      rcases e with e | e
      ·have:=HX.out.2.1 X (.inr e);omega
      ·have:=HX.out.2.2.1;omega
     have rX3:=(HRX.out.1.kp k2 nX).kp kA id
     have cl3:=(HRX.out.2.1.kp k2 (fun e=>e.elim (fun e=>HX.out.2.2.2.1 (.inr e)) (fun e=>HX.out.2.2.2.2.1 e.symm))).kp0 kA
     have kw3:=(HRX.out.2.2.trans k2).trans (kA.mono (fun _ _ f=>f.elim))
     have y0:=rY.c0;have y1:=rY.c1;have y2:=rY.c2
     have r0:=rX3.c0;have r1:=rX3.c1;have r2:=rX3.c2
     by_cases h8:f.vec=8
     ·have b8:(f.vec==8)=true:=by simpa using h8
      have hE:R=.ok o.m (dead (atF x f)):=by rw [← hfl];simp only [if_pos h8]
      have HE:Hid _:=hE
      have c82:=x3.c (k:=82) rfl
      have f82:=x3.e.fz 82
      have x4:=x3.setDe
      have kE:Kp (fun j=>j=c.E) W3 (W3.setCell ⟨c.E,82,none⟩ (.bool true)):=Kp.setCell (S:=fun j=>j=c.E) W3 (p:=⟨c.E,82,none⟩) rfl _
      have HF:Hid ((∃ t,t≤tn+160∧∃ x' M',R=.ok M' x'∧XAt (W3.setCell ⟨c.E,82,none⟩ (.bool true)) c t x' M')∧Kp (fun j=>c.md j∨j=c.E) w (W3.setCell ⟨c.E,82,none⟩ (.bool true))):=⟨⟨t2,by omega,_,o.m,HE.out,x4⟩,kw3.trans (kE.mono (fun _ _ e=>.inr e))⟩
      rw [hW3] at c82 f82 HF r0 r1 r2 y0 y1 y2
      rw [hY] at y0 y1 y2
      clear x2 x3 x4 k2 kA kE kw3 cl3 rX3 rY hfl h8 h0 hE hW3 hY
      go_wp2
      refine bodyPost_ret (v:=.tuple #[]) (by simp [results,Tryz.results13,go_sem]) rfl ?_
      exact ⟨rfl,HF.out⟩
     ·have b8:(f.vec==8)=false:=by simpa using h8
      have HJ:=joined_any W3 cl3 f g
      have hfl2:fltO k o.m (atF x f) (joinF f g)=R:=by rw [← hfl];simp only [if_neg h8]
      have HST:Hid (XAt W3 c t2 (atF x f) o.m∧RowT W3 X f∧Cls W3∧Kp (fun j=>c.md j∨j=c.E) w W3∧t2≤t+40):=⟨x3,rX3,cl3,kw3,ht2⟩
      have HM:Hid (fltO k o.m (atF x f) (joinF f g)=R∧meaF (joinF f g)≤k∧t+40*(k+1)≤tn+160∧U32 (joinF f g).cr2):=⟨hfl2,by have:=mea_join HG.out.1 (by omega) h8;omega,ht,join_cr HG.out.2⟩
      obtain ⟨jf,hjf⟩:∃ j,j=joinF f g:=⟨_,rfl⟩
      rw [← hjf] at HJ HM
      have HJ2:Hid (Calls Tryz.prog 33 #[.agg #[.int .i64 f.vec,.int .i64 f.code,.int .u32 f.cr2],.agg #[.int .i64 g.vec,.int .i64 g.code,.int .u32 g.cr2]] W3 fun e w'=>e=.returned (.agg #[.int .i64 jf.vec,.int .i64 jf.code,.int .u32 jf.cr2])∧Kp noB W3 w'):=HJ
      rw [hW3] at r0 r1 r2 y0 y1 y2
      rw [hY] at y0 y1 y2
      clear x2 x3 k2 kA kw3 cl3 rX3 rY hfl hfl2 HJ hjf h8 h0 hme ht
      go_wp2_with fail
      rw [← hW3]
      clear hW3 hY r0 r1 r2 y0 y1 y2
      refine Calls.mono HJ2.out ?_;rintro e w4 ⟨rfl,k4⟩
      have r4:=RowT.kp HST.out.2.1 k4 id
      have r0:=r4.c0;have r1:=r4.c1;have r2:=r4.c2
      have z0:=r4.fz 0;have z1:=r4.fz 1;have z2:=r4.fz 2
      have r5:=r4.set jf
      have kF:=kp_setFt w4 X jf
      have HL:Hid (FlR w c tn X R k (.bool false) (setFt w4 X jf)):=by
       refine ⟨jf,atF x f,o.m,t2,r5,(HST.out.1.kp0 k4).kp kF (by have:=HX.out.2.2.1;omega) (fun j hj=>by have:=HX.out.2.1 j hj;omega),HM.out.1,HM.out.2.1,by have:=HM.out.2.2.1;have:=HST.out.2.2.2.2;omega,HM.out.2.2.2,(HST.out.2.2.2.1.trans (k4.mono (fun _ _ f=>f.elim))).over kF (fun j hj e=>absurd hj (by have:=HX.out.1;omega)),(HST.out.2.2.1.kp0 k4).kp kF (by have:=HX.out.2.2.2.2.2;omega)⟩
      unfold setFt at HL
      clear r4 r5 kF k4 HST HJ2 HM HC HRX
      go_wp2_with fail
      go_roundg k
      case measure=>omega
      case rel=>exact HL.out
def interO (M:Mem) (x:Cu) (s:Int):Ou Dsc:=
 if s%4 < x.rg then .no M 13 (cdO s) else (tfindO M x s 13 (cdO s)).bind fun M d=>
  if 0≤Sg.codeB d.t d.d d.s d.p d.g (s%4) (s%4) then .no M (Sg.codeB d.t d.d d.s d.p d.g (s%4) (s%4)) (cdO s) else .ok M d
def spF (x:Cu) (z sp:Int):Int:=if z=2 then bits .or .u32 sp (bits .andNot .u32 (x.r 4) 65535) else sp
def giveO (M:Mem) (x n:Cu) (o z:Int):Ou Cu:=
 (lodO M x.cp (a32n x 3 z) z).bind fun M sp=>(lodO M x.cp (a32n x 4 z) z).bind fun M s=>
  (stackO M x (s%65536) o 13 (cdO (s%65536))).bind fun M g=>.ok M ((n.setS 2 g).setR 4 (spF x z sp))
def grdB (t:Int) (s:Bool):Bool:=(!s&&decide (0≤t)&&decide (t≤15))&&!(bits .and .i64 t 12==12)
def nulS:SgR:=⟨0,true,0,0,0,false,0,false,false⟩
def hidB (r:SgR) (o:Int):Bool:=(!r.nl&&grdB r.t r.s)&&decide (r.d < o)
def hid1 (r:SgR) (o:Int):SgR:=if hidB r o then nulS else r
def hideC (n:Cu) (o:Int):Cu:=(((n.setS 0 (hid1 (n.sg 0) o)).setS 3 (hid1 (n.sg 3) o)).setS 4 (hid1 (n.sg 4) o)).setS 5 (hid1 (n.sg 5) o)
def namF (x:Cu):Int:=
 let a:=if x.rg≤bits .and .u32 x.fl 12288 / 4096 then bits .or .u32 19925 512 else 19925
 if x.rg=0 then bits .or .u32 a 12288 else a
def putF (x:Cu) (v:Int):Int:=bits .or .u32 (bits .or .u32 (bits .andNot .u32 x.fl (namF x)) (bits .and .u32 v (namF x))) 2
theorem nulS_wf:nulS.Wf:=⟨⟨by decide,by decide,by decide,by decide,by decide,by decide,by decide,by decide⟩,by unfold I64 nulS;decide⟩
theorem guarded_any (w:World) (b l t:Int) (s:Bool) (d:Int) (p g:Bool):Calls Tryz.prog 155 #[.agg #[.int .u32 b,.int .u32 l,.int .i64 t,.bool s,.int .i64 d,.bool p,.bool g]] w fun e w'=>e=.returned (.bool (grdB t s))∧Kp noB w w':=by
 have kA:=Kp.alloc noB w (.cells #[.int .u32 b,.int .u32 l,.int .i64 t,.bool s,.int .i64 d,.bool p,.bool g] 26)
 unfold grdB
 cases s
 ·cases h0:decide (0≤t)
  ·go_enter Tryz.func155,Tryz.ntmps155
   go_wp2
   go_ret
   exact ⟨ret_bool (by simp),kA⟩
  ·cases h1:decide (t≤15)
   ·go_enter Tryz.func155,Tryz.ntmps155
    go_wp2
    go_ret
    exact ⟨ret_bool (by simp),kA⟩
   ·cases h2:(bits .and .i64 t 12==12)
    ·go_enter Tryz.func155,Tryz.ntmps155
     go_wp2
     go_ret
     exact ⟨ret_bool (by simp),kA⟩
    ·go_enter Tryz.func155,Tryz.ntmps155
     go_wp2
     go_ret
     exact ⟨ret_bool (by simp),kA⟩
 ·go_enter Tryz.func155,Tryz.ntmps155
  go_wp2
  go_ret
  exact ⟨ret_bool (by simp),kA⟩
theorem Tn.hide {w:World} {c:Ev} {tn T:Nat} {x n:Cu} {M:Mem} (h:Tn w c tn T x n M) {W:World} {i:Nat} {s:SgR} (ht:TAt W T c.E (n.setS i s)) (k:Kp (fun j=>j=T) w W) (hs:s.Wf):Tn W c tn T x (n.setS i s) M:=
 ⟨h.a.kp k (fun e=>h.nE e.symm) (fun j hj e=>h.nV (e ▸ hj)),ht,h.nE,h.nV,h.ok.setS i hs⟩
theorem putFlags_any (w:World) (c:Ev) (tn T:Nat) (x n:Cu) (M:Mem) (h:Tn w c tn T x n M) (v:Int) (hv:U32 v):
  Calls Tryz.prog 91 #[.pointer (some ⟨T,0,none⟩),.int .u32 v] w fun e w'=>e=.returned (.tuple #[])∧Tn w' c tn T x { n with fl:=putF x v } M∧Kp (c.mdT T) w w':=by
 have HKN:Hid (∀ k,Kp noB w (w.drewN k)):=fun k=>⟨rfl,rfl,rfl,Nat.le_refl _,fun _ _ _=>rfl⟩
 have HWas:Hid (∀ k,Calls Tryz.prog 85 #[.pointer (some ⟨T,0,none⟩)] (w.drewN k) fun e w'=>e=.returned (.pointer (some ⟨c.E,0,none⟩))∧w'=w.drewN k):=fun k=>cWas_any _ T c.E (h.kp0 (HKN.out k)).t.e (h.kp0 (HKN.out k)).a.lt
 obtain ⟨rg,hrg⟩:∃ q,q=x.rg:=⟨_,rfl⟩
 have HRr:Hid (∀ k,Calls Tryz.prog 73 #[.pointer (some ⟨T,0,none⟩)] (w.drewN k) fun e w'=>e=.returned (.int .i64 rg)∧w'=w.drewN k):=fun k=>by
  have q':=h.kp0 (HKN.out k)
  rw [hrg]
  exact cRg_any _ T c.E _ ⟨(q'.a.ok.sg 1 (by decide)).ok.s0,(q'.a.ok.sg 1 (by decide)).ok.s1⟩ q'.t.e (q'.a.c rfl) q'.a.lt
 have g9:=h.a.c (k:=9) rfl
 have t10:=h.t.c (k:=10) rfl
 have f10:=h.t.fz 10
 have hfl:=h.a.ok.fl
 have hio:=and_bd hfl.1 hfl.2 (b:=12288) (by decide) (by decide)
 obtain ⟨io,hioe⟩:∃ q,q=bits .and .u32 x.fl 12288 / 4096:=⟨_,rfl⟩
 have wio:IntKind.i64.wrap (bits .and .u32 x.fl 12288 / 4096)=io:=by have:=IntKind.wrap_i64 (bits .and .u32 x.fl 12288 / 4096);omega
 have hnam:namF x=(let a:=if rg≤io then bits .or .u32 19925 512 else 19925;if rg=0 then bits .or .u32 a 12288 else a):=by unfold namF;rw [hrg,hioe]
 have HB:Hid (Tn w c tn T x n M∧U32 v):=⟨h,hv⟩
 have HF:Hid (∀ k nm,namF x=nm→U32 nm→Tn ((w.drewN k).setCell ⟨T,10,none⟩ (.int .u32 (bits .or .u32 (bits .or .u32 (bits .andNot .u32 x.fl nm) (bits .and .u32 v nm)) 2))) c tn T x { n with fl:=putF x v } M∧Kp (c.mdT T) w ((w.drewN k).setCell ⟨T,10,none⟩ (.int .u32 (bits .or .u32 (bits .or .u32 (bits .andNot .u32 x.fl nm) (bits .and .u32 v nm)) 2)))):=fun k nm e hnm=>by
  have a1:=andNot_bd hfl.1 hfl.2 hnm.1 hnm.2
  have a2:=and_bd hv.1 hv.2 hnm.1 hnm.2
  have a3:=or_bd a1.1 a1.2 a2.1 a2.2
  have a4:=or_bd a3.1 a3.2 (b:=2) (by decide) (by decide)
  have ep:putF x v=bits .or .u32 (bits .or .u32 (bits .andNot .u32 x.fl nm) (bits .and .u32 v nm)) 2:=by unfold putF;rw [e]
  rw [ep]
  have b:=h.kp0 (HKN.out k)
  have kE:Kp (fun j=>j=T) (w.drewN k) ((w.drewN k).setCell ⟨T,10,none⟩ (.int .u32 (bits .or .u32 (bits .or .u32 (bits .andNot .u32 x.fl nm) (bits .and .u32 v nm)) 2))):=Kp.setCell (S:=fun j=>j=T) _ (p:=⟨T,10,none⟩) rfl _
  exact ⟨⟨b.a.kp kE (fun e=>b.nE e.symm) (fun j hj e=>b.nV (e ▸ hj)),b.t.setFl _,b.nE,b.nV,{ b.ok with fl:=a4 }⟩,((HKN.out k).mono (fun _ _ f=>f.elim)).trans (kE.mono (fun _ _ e=>.inr e))⟩
 clear h hfl hio hioe hrg hv
 by_cases h1:rg≤io
 ·by_cases h2:rg=0
  ·have d1:decide (rg≤io)=true:=decide_eq_true h1
   have d2:(rg==0)=true:=by simpa using h2
   have en:namF x=32725:=by rw [hnam];simp only [if_pos h1,if_pos h2];try (first | rfl | decide)
   have HE:Hid (∀ k,_):=fun k=>HF.out k 32725 en ⟨by decide,by decide⟩
   clear h1 h2 en hnam
   go_enter Tryz.func91,Tryz.ntmps91
   go_upto_region 0 with fail
   go_quiet (first | (go_at_call 85;exact Calls.quiet_of_same (HWas.out _)) | (go_at_call 73;exact Calls.quiet_of_same (HRr.out _)))
   go_wp2
   go_end0
   exact ⟨rfl,HE.out _⟩
  ·have d1:decide (rg≤io)=true:=decide_eq_true h1
   have d2:(rg==0)=false:=by simpa using h2
   have en:namF x=20437:=by rw [hnam];simp only [if_pos h1,if_neg h2];try (first | rfl | decide)
   have HE:Hid (∀ k,_):=fun k=>HF.out k 20437 en ⟨by decide,by decide⟩
   clear h1 h2 en hnam
   go_enter Tryz.func91,Tryz.ntmps91
   go_upto_region 0 with fail
   go_quiet (first | (go_at_call 85;exact Calls.quiet_of_same (HWas.out _)) | (go_at_call 73;exact Calls.quiet_of_same (HRr.out _)))
   go_wp2
   go_end0
   exact ⟨rfl,HE.out _⟩
 ·by_cases h2:rg=0
  ·have d1:decide (rg≤io)=false:=decide_eq_false h1
   have d2:(rg==0)=true:=by simpa using h2
   have en:namF x=32213:=by rw [hnam];simp only [if_neg h1,if_pos h2];try (first | rfl | decide)
   have HE:Hid (∀ k,_):=fun k=>HF.out k 32213 en ⟨by decide,by decide⟩
   clear h1 h2 en hnam
   go_enter Tryz.func91,Tryz.ntmps91
   go_upto_region 0 with fail
   go_quiet (first | (go_at_call 85;exact Calls.quiet_of_same (HWas.out _)) | (go_at_call 73;exact Calls.quiet_of_same (HRr.out _)))
   go_wp2
   go_end0
   exact ⟨rfl,HE.out _⟩
  ·have d1:decide (rg≤io)=false:=decide_eq_false h1
   have d2:(rg==0)=false:=by simpa using h2
   have en:namF x=19925:=by rw [hnam];simp only [if_neg h1,if_neg h2];try (first | rfl | decide)
   have HE:Hid (∀ k,_):=fun k=>HF.out k 19925 en ⟨by decide,by decide⟩
   clear h1 h2 en hnam
   go_enter Tryz.func91,Tryz.ntmps91
   go_upto_region 0 with fail
   go_quiet (first | (go_at_call 85;exact Calls.quiet_of_same (HWas.out _)) | (go_at_call 73;exact Calls.quiet_of_same (HRr.out _)))
   go_wp2
   go_end0
   exact ⟨rfl,HE.out _⟩
theorem Tn.sameEs {w:World} {c:Ev} {tn T:Nat} {x n:Cu} {M:Mem} (h:Tn w c tn T x n M):Tn w c tn T x (n.setS 0 (n.sg 0)) M:=
 ⟨h.a,by
  have e:(n.setS 0 (n.sg 0)).list=n.list:=by kernel_rfl
  unfold TAt
  rw [e]
  exact h.t,h.nE,h.nV,h.ok.setS 0 (h.ok.sg 0 (by decide))⟩
theorem Tn.sameDs {w:World} {c:Ev} {tn T:Nat} {x n:Cu} {M:Mem} (h:Tn w c tn T x n M):Tn w c tn T x (n.setS 3 (n.sg 3)) M:=
 ⟨h.a,by
  have e:(n.setS 3 (n.sg 3)).list=n.list:=by kernel_rfl
  unfold TAt
  rw [e]
  exact h.t,h.nE,h.nV,h.ok.setS 3 (h.ok.sg 3 (by decide))⟩
theorem Tn.sameFs {w:World} {c:Ev} {tn T:Nat} {x n:Cu} {M:Mem} (h:Tn w c tn T x n M):Tn w c tn T x (n.setS 4 (n.sg 4)) M:=
 ⟨h.a,by
  have e:(n.setS 4 (n.sg 4)).list=n.list:=by kernel_rfl
  unfold TAt
  rw [e]
  exact h.t,h.nE,h.nV,h.ok.setS 4 (h.ok.sg 4 (by decide))⟩
theorem Tn.sameGs {w:World} {c:Ev} {tn T:Nat} {x n:Cu} {M:Mem} (h:Tn w c tn T x n M):Tn w c tn T x (n.setS 5 (n.sg 5)) M:=
 ⟨h.a,by
  have e:(n.setS 5 (n.sg 5)).list=n.list:=by kernel_rfl
  unfold TAt
  rw [e]
  exact h.t,h.nE,h.nV,h.ok.setS 5 (h.ok.sg 5 (by decide))⟩
def hidK (n:Cu) (o:Int):Nat→Cu
 | 0=>n
 | 1=>n.setS 0 (hid1 (n.sg 0) o)
 | 2=>(n.setS 0 (hid1 (n.sg 0) o)).setS 3 (hid1 (n.sg 3) o)
 | 3=>((n.setS 0 (hid1 (n.sg 0) o)).setS 3 (hid1 (n.sg 3) o)).setS 4 (hid1 (n.sg 4) o)
 | _=>hideC n o
def HdR (w:World) (c:Ev) (tn T:Nat) (x n:Cu) (M:Mem) (o:Int) (k:Nat) (s:Value) (W:World):Prop:=
 ∃ i:Nat,s=.int .i64 i∧i≤4∧4 - i≤k∧Tn W c tn T x (hidK n o i) M∧Kp (c.mdT T) w W
theorem hid_no {r:SgR} {o:Int} (h:hidB r o=false):hid1 r o=r:=by unfold hid1;rw [h];rfl
theorem hid_yes {r:SgR} {o:Int} (h:hidB r o=true):hid1 r o=nulS:=by unfold hid1;rw [if_pos h]
theorem hix0 (w:World):Sem.run Tryz.prog (Instr.index 259 (.agg #[.int .i64 0,.int .i64 3,.int .i64 4,.int .i64 5]) (.int .i64 0)) w=.ok (.int .i64 0) w:=by kernel_rfl
theorem hix1 (w:World):Sem.run Tryz.prog (Instr.index 259 (.agg #[.int .i64 0,.int .i64 3,.int .i64 4,.int .i64 5]) (.int .i64 1)) w=.ok (.int .i64 3) w:=by kernel_rfl
theorem hix2 (w:World):Sem.run Tryz.prog (Instr.index 259 (.agg #[.int .i64 0,.int .i64 3,.int .i64 4,.int .i64 5]) (.int .i64 2)) w=.ok (.int .i64 4) w:=by kernel_rfl
theorem hix3 (w:World):Sem.run Tryz.prog (Instr.index 259 (.agg #[.int .i64 0,.int .i64 3,.int .i64 4,.int .i64 5]) (.int .i64 3)) w=.ok (.int .i64 5) w:=by kernel_rfl
set_option maxHeartbeats 8000000 in
theorem hide_any (w:World) (c:Ev) (tn T:Nat) (x n:Cu) (M:Mem) (h:Tn w c tn T x n M) (o:Int):
  Calls Tryz.prog 90 #[.pointer (some ⟨T,0,none⟩),.int .i64 o] w fun e w'=>e=.returned (.tuple #[])∧Tn w' c tn T x (hideC n o) M∧Kp (c.mdT T) w w':=by
 have HI:Hid (HdR w c tn T x n M o 4 (.int .i64 0) w):=⟨0,rfl,by omega,by omega,h,Kp.refl _ _⟩
 clear h
 go_enter Tryz.func90,Tryz.ntmps90
 go_wp2_with fail
 go_loopg [8] 4 (HdR w c tn T x n M o)
 case atStart=>exact HI.out
 case round=>
  clear HI
  obtain ⟨i,rfl,hi4,hik,hT,kk⟩:=hrel
  match i,hi4 with
  | 0,_=>
   obtain ⟨k,rfl⟩:∃ k,gk=k+1:=⟨gk - 1,by omega⟩
   obtain ⟨m,hm⟩:∃ m,m=hidK n o 0:=⟨_,rfl⟩
   have hix:=hix0
   have hs:(hidK n o 0).sg 0=n.sg 0:=rfl
   have hnx:∀ s,(hidK n o 0).setS 0 s=(hidK n o 0).setS 0 s:=fun _=>rfl
   have hK:hidK n o 1=m.setS 0 (hid1 (m.sg 0) o):=by rw [hm,hs];rfl
   rw [← hm] at hT
   clear hnx hs hm
   have c0:=hT.t.c (k:=11) rfl;have c1:=hT.t.c (k:=12) rfl;have c2:=hT.t.c (k:=13) rfl;have c3:=hT.t.c (k:=14) rfl;have c4:=hT.t.c (k:=15) rfl;have c5:=hT.t.c (k:=16) rfl;have c6:=hT.t.c (k:=17) rfl;have c7:=hT.t.c (k:=18) rfl;have c8:=hT.t.c (k:=19) rfl
   have f0:=hT.t.fz 11;have f1:=hT.t.fz 12;have f2:=hT.t.fz 13;have f3:=hT.t.fz 14;have f4:=hT.t.fz 15;have f5:=hT.t.fz 16;have f6:=hT.t.fz 17;have f7:=hT.t.fz 18;have f8:=hT.t.fz 19
   have HNo:Hid (hidB (m.sg 0) o=false→∀ W,Kp noB wr W→HdR w c tn T x n M o k (.int .i64 1) W):=fun e W kW=>⟨1,rfl,by omega,by omega,by rw [hK,hid_no e];exact (hT.kp0 kW).sameEs,kk.trans (kW.mono (fun _ _ f=>f.elim))⟩
   have HYes:Hid (hidB (m.sg 0) o=true→∀ W,Kp noB wr W→HdR w c tn T x n M o k (.int .i64 1) (putEs W T nulS)):=fun e W kW=>by
    have b:=hT.kp0 kW
    have kE:=kp_putEs W T nulS
    exact ⟨1,rfl,by omega,by omega,by rw [hK,hid_yes e];exact b.hide (b.t.setEs nulS) kE nulS_wf,(kk.trans (kW.mono (fun _ _ f=>f.elim))).trans (kE.mono (fun _ _ e=>.inr e))⟩
   unfold nulS putEs at HYes
   simp only at HYes
   have HT:Hid (Tn wr c tn T x m M):=hT
   obtain ⟨r,hr⟩:∃ r,r=m.sg 0:=⟨_,rfl⟩
   have HRE:Hid (r=m.sg 0):=hr
   rw [← hr] at HNo HYes c0 c1 c2 c3 c4 c5 c6 c7 c8
   clear hT hK kk hr
   cases hn:r.nl with
   | true=>
    have HR:Hid (HdR w c tn T x n M o k (.int .i64 1) wr):=HNo.out (by unfold hidB;rw [hn];rfl) wr (Kp.refl _ _)
    rw [hn] at c1
    clear HNo HYes
    go_wp2_with fail
    go_roundg k
    case measure=>omega
    case rel=>exact HR.out
   | false=>
    have HGd:Hid (∀ W,_):=fun W=>guarded_any W r.b r.l r.t r.s r.d r.p r.g
    rw [hn] at c1
    cases hg:grdB r.t r.s with
    | false=>
     have HR:Hid (∀ W,Kp noB wr W→HdR w c tn T x n M o k (.int .i64 1) W):=HNo.out (by unfold hidB;rw [hn,hg];rfl)
     rw [hg] at HGd
     clear HNo HYes
     go_wp2_with fail
     refine Calls.mono (HGd.out _) ?_;rintro e w2 ⟨rfl,k2⟩
     have HR2:Hid _:=HR.out w2 k2
     clear HR k2
     go_wp2_with fail
     go_roundg k
     case measure=>omega
     case rel=>exact HR2.out
    | true=>
     rw [hg] at HGd
     cases hd:decide (r.d < o) with
     | false=>
      have HR:Hid (∀ W,Kp noB wr W→HdR w c tn T x n M o k (.int .i64 1) W):=HNo.out (by unfold hidB;rw [hn,hg,hd];rfl)
      clear HNo HYes
      go_wp2_with fail
      refine Calls.mono (HGd.out _) ?_;rintro e w2 ⟨rfl,k2⟩
      have HR2:Hid _:=HR.out w2 k2
      have c6:=(cell_kp c6 k2 id)
      clear HR k2
      go_wp2_with fail
      go_roundg k
      case measure=>omega
      case rel=>exact HR2.out
     | true=>
      have HR:Hid _:=HYes.out (by unfold hidB;rw [hn,hg,hd];rfl)
      clear HNo HYes
      go_wp2_with fail
      refine Calls.mono (HGd.out _) ?_;rintro e w2 ⟨rfl,k2⟩
      have HR2:Hid _:=HR.out w2 k2
      have b2:=HT.out.kp0 k2
      clear c0 c1 c2 c3 c4 c5 c6 c7 c8 f0 f1 f2 f3 f4 f5 f6 f7 f8
      have c0:=b2.t.c (k:=11) rfl;have c1:=b2.t.c (k:=12) rfl;have c2:=b2.t.c (k:=13) rfl;have c3:=b2.t.c (k:=14) rfl;have c4:=b2.t.c (k:=15) rfl;have c5:=b2.t.c (k:=16) rfl;have c6:=b2.t.c (k:=17) rfl;have c7:=b2.t.c (k:=18) rfl;have c8:=b2.t.c (k:=19) rfl
      have f0:=b2.t.fz 11;have f1:=b2.t.fz 12;have f2:=b2.t.fz 13;have f3:=b2.t.fz 14;have f4:=b2.t.fz 15;have f5:=b2.t.fz 16;have f6:=b2.t.fz 17;have f7:=b2.t.fz 18;have f8:=b2.t.fz 19
      have er:=HRE.out
      rw [← er] at c0 c1 c2 c3 c4 c5 c6 c7 c8
      clear er
      go_wp2_with fail
      go_roundg k
      case measure=>omega
      case rel=>exact HR2.out
  | 1,_=>
   obtain ⟨k,rfl⟩:∃ k,gk=k+1:=⟨gk - 1,by omega⟩
   obtain ⟨m,hm⟩:∃ m,m=hidK n o 1:=⟨_,rfl⟩
   have hix:=hix1
   have hs:(hidK n o 1).sg 3=n.sg 3:=rfl
   have hnx:∀ s,(hidK n o 1).setS 3 s=(hidK n o 1).setS 3 s:=fun _=>rfl
   have hK:hidK n o 2=m.setS 3 (hid1 (m.sg 3) o):=by rw [hm,hs];rfl
   rw [← hm] at hT
   clear hnx hs hm
   have c0:=hT.t.c (k:=38) rfl;have c1:=hT.t.c (k:=39) rfl;have c2:=hT.t.c (k:=40) rfl;have c3:=hT.t.c (k:=41) rfl;have c4:=hT.t.c (k:=42) rfl;have c5:=hT.t.c (k:=43) rfl;have c6:=hT.t.c (k:=44) rfl;have c7:=hT.t.c (k:=45) rfl;have c8:=hT.t.c (k:=46) rfl
   have f0:=hT.t.fz 38;have f1:=hT.t.fz 39;have f2:=hT.t.fz 40;have f3:=hT.t.fz 41;have f4:=hT.t.fz 42;have f5:=hT.t.fz 43;have f6:=hT.t.fz 44;have f7:=hT.t.fz 45;have f8:=hT.t.fz 46
   have HNo:Hid (hidB (m.sg 3) o=false→∀ W,Kp noB wr W→HdR w c tn T x n M o k (.int .i64 2) W):=fun e W kW=>⟨2,rfl,by omega,by omega,by rw [hK,hid_no e];exact (hT.kp0 kW).sameDs,kk.trans (kW.mono (fun _ _ f=>f.elim))⟩
   have HYes:Hid (hidB (m.sg 3) o=true→∀ W,Kp noB wr W→HdR w c tn T x n M o k (.int .i64 2) (putDs W T nulS)):=fun e W kW=>by
    have b:=hT.kp0 kW
    have kE:=kp_putDs W T nulS
    exact ⟨2,rfl,by omega,by omega,by rw [hK,hid_yes e];exact b.hide (b.t.setDs nulS) kE nulS_wf,(kk.trans (kW.mono (fun _ _ f=>f.elim))).trans (kE.mono (fun _ _ e=>.inr e))⟩
   unfold nulS putDs at HYes
   simp only at HYes
   have HT:Hid (Tn wr c tn T x m M):=hT
   obtain ⟨r,hr⟩:∃ r,r=m.sg 3:=⟨_,rfl⟩
   have HRE:Hid (r=m.sg 3):=hr
   rw [← hr] at HNo HYes c0 c1 c2 c3 c4 c5 c6 c7 c8
   clear hT hK kk hr
   cases hn:r.nl with
   | true=>
    have HR:Hid (HdR w c tn T x n M o k (.int .i64 2) wr):=HNo.out (by unfold hidB;rw [hn];rfl) wr (Kp.refl _ _)
    rw [hn] at c1
    clear HNo HYes
    go_wp2_with fail
    go_roundg k
    case measure=>omega
    case rel=>exact HR.out
   | false=>
    have HGd:Hid (∀ W,_):=fun W=>guarded_any W r.b r.l r.t r.s r.d r.p r.g
    rw [hn] at c1
    cases hg:grdB r.t r.s with
    | false=>
     have HR:Hid (∀ W,Kp noB wr W→HdR w c tn T x n M o k (.int .i64 2) W):=HNo.out (by unfold hidB;rw [hn,hg];rfl)
     rw [hg] at HGd
     clear HNo HYes
     go_wp2_with fail
     refine Calls.mono (HGd.out _) ?_;rintro e w2 ⟨rfl,k2⟩
     have HR2:Hid _:=HR.out w2 k2
     clear HR k2
     go_wp2_with fail
     go_roundg k
     case measure=>omega
     case rel=>exact HR2.out
    | true=>
     rw [hg] at HGd
     cases hd:decide (r.d < o) with
     | false=>
      have HR:Hid (∀ W,Kp noB wr W→HdR w c tn T x n M o k (.int .i64 2) W):=HNo.out (by unfold hidB;rw [hn,hg,hd];rfl)
      clear HNo HYes
      go_wp2_with fail
      refine Calls.mono (HGd.out _) ?_;rintro e w2 ⟨rfl,k2⟩
      have HR2:Hid _:=HR.out w2 k2
      have c6:=(cell_kp c6 k2 id)
      clear HR k2
      go_wp2_with fail
      go_roundg k
      case measure=>omega
      case rel=>exact HR2.out
     | true=>
      have HR:Hid _:=HYes.out (by unfold hidB;rw [hn,hg,hd];rfl)
      clear HNo HYes
      go_wp2_with fail
      refine Calls.mono (HGd.out _) ?_;rintro e w2 ⟨rfl,k2⟩
      have HR2:Hid _:=HR.out w2 k2
      have b2:=HT.out.kp0 k2
      clear c0 c1 c2 c3 c4 c5 c6 c7 c8 f0 f1 f2 f3 f4 f5 f6 f7 f8
      have c0:=b2.t.c (k:=38) rfl;have c1:=b2.t.c (k:=39) rfl;have c2:=b2.t.c (k:=40) rfl;have c3:=b2.t.c (k:=41) rfl;have c4:=b2.t.c (k:=42) rfl;have c5:=b2.t.c (k:=43) rfl;have c6:=b2.t.c (k:=44) rfl;have c7:=b2.t.c (k:=45) rfl;have c8:=b2.t.c (k:=46) rfl
      have f0:=b2.t.fz 38;have f1:=b2.t.fz 39;have f2:=b2.t.fz 40;have f3:=b2.t.fz 41;have f4:=b2.t.fz 42;have f5:=b2.t.fz 43;have f6:=b2.t.fz 44;have f7:=b2.t.fz 45;have f8:=b2.t.fz 46
      have er:=HRE.out
      rw [← er] at c0 c1 c2 c3 c4 c5 c6 c7 c8
      clear er
      go_wp2_with fail
      go_roundg k
      case measure=>omega
      case rel=>exact HR2.out
  | 2,_=>
   obtain ⟨k,rfl⟩:∃ k,gk=k+1:=⟨gk - 1,by omega⟩
   obtain ⟨m,hm⟩:∃ m,m=hidK n o 2:=⟨_,rfl⟩
   have hix:=hix2
   have hs:(hidK n o 2).sg 4=n.sg 4:=rfl
   have hnx:∀ s,(hidK n o 2).setS 4 s=(hidK n o 2).setS 4 s:=fun _=>rfl
   have hK:hidK n o 3=m.setS 4 (hid1 (m.sg 4) o):=by rw [hm,hs];rfl
   rw [← hm] at hT
   clear hnx hs hm
   have c0:=hT.t.c (k:=47) rfl;have c1:=hT.t.c (k:=48) rfl;have c2:=hT.t.c (k:=49) rfl;have c3:=hT.t.c (k:=50) rfl;have c4:=hT.t.c (k:=51) rfl;have c5:=hT.t.c (k:=52) rfl;have c6:=hT.t.c (k:=53) rfl;have c7:=hT.t.c (k:=54) rfl;have c8:=hT.t.c (k:=55) rfl
   have f0:=hT.t.fz 47;have f1:=hT.t.fz 48;have f2:=hT.t.fz 49;have f3:=hT.t.fz 50;have f4:=hT.t.fz 51;have f5:=hT.t.fz 52;have f6:=hT.t.fz 53;have f7:=hT.t.fz 54;have f8:=hT.t.fz 55
   have HNo:Hid (hidB (m.sg 4) o=false→∀ W,Kp noB wr W→HdR w c tn T x n M o k (.int .i64 3) W):=fun e W kW=>⟨3,rfl,by omega,by omega,by rw [hK,hid_no e];exact (hT.kp0 kW).sameFs,kk.trans (kW.mono (fun _ _ f=>f.elim))⟩
   have HYes:Hid (hidB (m.sg 4) o=true→∀ W,Kp noB wr W→HdR w c tn T x n M o k (.int .i64 3) (putFs W T nulS)):=fun e W kW=>by
    have b:=hT.kp0 kW
    have kE:=kp_putFs W T nulS
    exact ⟨3,rfl,by omega,by omega,by rw [hK,hid_yes e];exact b.hide (b.t.setFs nulS) kE nulS_wf,(kk.trans (kW.mono (fun _ _ f=>f.elim))).trans (kE.mono (fun _ _ e=>.inr e))⟩
   unfold nulS putFs at HYes
   simp only at HYes
   have HT:Hid (Tn wr c tn T x m M):=hT
   obtain ⟨r,hr⟩:∃ r,r=m.sg 4:=⟨_,rfl⟩
   have HRE:Hid (r=m.sg 4):=hr
   rw [← hr] at HNo HYes c0 c1 c2 c3 c4 c5 c6 c7 c8
   clear hT hK kk hr
   cases hn:r.nl with
   | true=>
    have HR:Hid (HdR w c tn T x n M o k (.int .i64 3) wr):=HNo.out (by unfold hidB;rw [hn];rfl) wr (Kp.refl _ _)
    rw [hn] at c1
    clear HNo HYes
    go_wp2_with fail
    go_roundg k
    case measure=>omega
    case rel=>exact HR.out
   | false=>
    have HGd:Hid (∀ W,_):=fun W=>guarded_any W r.b r.l r.t r.s r.d r.p r.g
    rw [hn] at c1
    cases hg:grdB r.t r.s with
    | false=>
     have HR:Hid (∀ W,Kp noB wr W→HdR w c tn T x n M o k (.int .i64 3) W):=HNo.out (by unfold hidB;rw [hn,hg];rfl)
     rw [hg] at HGd
     clear HNo HYes
     go_wp2_with fail
     refine Calls.mono (HGd.out _) ?_;rintro e w2 ⟨rfl,k2⟩
     have HR2:Hid _:=HR.out w2 k2
     clear HR k2
     go_wp2_with fail
     go_roundg k
     case measure=>omega
     case rel=>exact HR2.out
    | true=>
     rw [hg] at HGd
     cases hd:decide (r.d < o) with
     | false=>
      have HR:Hid (∀ W,Kp noB wr W→HdR w c tn T x n M o k (.int .i64 3) W):=HNo.out (by unfold hidB;rw [hn,hg,hd];rfl)
      clear HNo HYes
      go_wp2_with fail
      refine Calls.mono (HGd.out _) ?_;rintro e w2 ⟨rfl,k2⟩
      have HR2:Hid _:=HR.out w2 k2
      have c6:=(cell_kp c6 k2 id)
      clear HR k2
      go_wp2_with fail
      go_roundg k
      case measure=>omega
      case rel=>exact HR2.out
     | true=>
      have HR:Hid _:=HYes.out (by unfold hidB;rw [hn,hg,hd];rfl)
      clear HNo HYes
      go_wp2_with fail
      refine Calls.mono (HGd.out _) ?_;rintro e w2 ⟨rfl,k2⟩
      have HR2:Hid _:=HR.out w2 k2
      have b2:=HT.out.kp0 k2
      clear c0 c1 c2 c3 c4 c5 c6 c7 c8 f0 f1 f2 f3 f4 f5 f6 f7 f8
      have c0:=b2.t.c (k:=47) rfl;have c1:=b2.t.c (k:=48) rfl;have c2:=b2.t.c (k:=49) rfl;have c3:=b2.t.c (k:=50) rfl;have c4:=b2.t.c (k:=51) rfl;have c5:=b2.t.c (k:=52) rfl;have c6:=b2.t.c (k:=53) rfl;have c7:=b2.t.c (k:=54) rfl;have c8:=b2.t.c (k:=55) rfl
      have f0:=b2.t.fz 47;have f1:=b2.t.fz 48;have f2:=b2.t.fz 49;have f3:=b2.t.fz 50;have f4:=b2.t.fz 51;have f5:=b2.t.fz 52;have f6:=b2.t.fz 53;have f7:=b2.t.fz 54;have f8:=b2.t.fz 55
      have er:=HRE.out
      rw [← er] at c0 c1 c2 c3 c4 c5 c6 c7 c8
      clear er
      go_wp2_with fail
      go_roundg k
      case measure=>omega
      case rel=>exact HR2.out
  | 3,_=>
   obtain ⟨k,rfl⟩:∃ k,gk=k+1:=⟨gk - 1,by omega⟩
   obtain ⟨m,hm⟩:∃ m,m=hidK n o 3:=⟨_,rfl⟩
   have hix:=hix3
   have hs:(hidK n o 3).sg 5=n.sg 5:=rfl
   have hnx:∀ s,(hidK n o 3).setS 5 s=(hidK n o 3).setS 5 s:=fun _=>rfl
   have hK:hidK n o 4=m.setS 5 (hid1 (m.sg 5) o):=by rw [hm,hs];rfl
   rw [← hm] at hT
   clear hnx hs hm
   have c0:=hT.t.c (k:=56) rfl;have c1:=hT.t.c (k:=57) rfl;have c2:=hT.t.c (k:=58) rfl;have c3:=hT.t.c (k:=59) rfl;have c4:=hT.t.c (k:=60) rfl;have c5:=hT.t.c (k:=61) rfl;have c6:=hT.t.c (k:=62) rfl;have c7:=hT.t.c (k:=63) rfl;have c8:=hT.t.c (k:=64) rfl
   have f0:=hT.t.fz 56;have f1:=hT.t.fz 57;have f2:=hT.t.fz 58;have f3:=hT.t.fz 59;have f4:=hT.t.fz 60;have f5:=hT.t.fz 61;have f6:=hT.t.fz 62;have f7:=hT.t.fz 63;have f8:=hT.t.fz 64
   have HNo:Hid (hidB (m.sg 5) o=false→∀ W,Kp noB wr W→HdR w c tn T x n M o k (.int .i64 4) W):=fun e W kW=>⟨4,rfl,by omega,by omega,by rw [hK,hid_no e];exact (hT.kp0 kW).sameGs,kk.trans (kW.mono (fun _ _ f=>f.elim))⟩
   have HYes:Hid (hidB (m.sg 5) o=true→∀ W,Kp noB wr W→HdR w c tn T x n M o k (.int .i64 4) (putGs W T nulS)):=fun e W kW=>by
    have b:=hT.kp0 kW
    have kE:=kp_putGs W T nulS
    exact ⟨4,rfl,by omega,by omega,by rw [hK,hid_yes e];exact b.hide (b.t.setGs nulS) kE nulS_wf,(kk.trans (kW.mono (fun _ _ f=>f.elim))).trans (kE.mono (fun _ _ e=>.inr e))⟩
   unfold nulS putGs at HYes
   simp only at HYes
   have HT:Hid (Tn wr c tn T x m M):=hT
   obtain ⟨r,hr⟩:∃ r,r=m.sg 5:=⟨_,rfl⟩
   have HRE:Hid (r=m.sg 5):=hr
   rw [← hr] at HNo HYes c0 c1 c2 c3 c4 c5 c6 c7 c8
   clear hT hK kk hr
   cases hn:r.nl with
   | true=>
    have HR:Hid (HdR w c tn T x n M o k (.int .i64 4) wr):=HNo.out (by unfold hidB;rw [hn];rfl) wr (Kp.refl _ _)
    rw [hn] at c1
    clear HNo HYes
    go_wp2_with fail
    go_roundg k
    case measure=>omega
    case rel=>exact HR.out
   | false=>
    have HGd:Hid (∀ W,_):=fun W=>guarded_any W r.b r.l r.t r.s r.d r.p r.g
    rw [hn] at c1
    cases hg:grdB r.t r.s with
    | false=>
     have HR:Hid (∀ W,Kp noB wr W→HdR w c tn T x n M o k (.int .i64 4) W):=HNo.out (by unfold hidB;rw [hn,hg];rfl)
     rw [hg] at HGd
     clear HNo HYes
     go_wp2_with fail
     refine Calls.mono (HGd.out _) ?_;rintro e w2 ⟨rfl,k2⟩
     have HR2:Hid _:=HR.out w2 k2
     clear HR k2
     go_wp2_with fail
     go_roundg k
     case measure=>omega
     case rel=>exact HR2.out
    | true=>
     rw [hg] at HGd
     cases hd:decide (r.d < o) with
     | false=>
      have HR:Hid (∀ W,Kp noB wr W→HdR w c tn T x n M o k (.int .i64 4) W):=HNo.out (by unfold hidB;rw [hn,hg,hd];rfl)
      clear HNo HYes
      go_wp2_with fail
      refine Calls.mono (HGd.out _) ?_;rintro e w2 ⟨rfl,k2⟩
      have HR2:Hid _:=HR.out w2 k2
      have c6:=(cell_kp c6 k2 id)
      clear HR k2
      go_wp2_with fail
      go_roundg k
      case measure=>omega
      case rel=>exact HR2.out
     | true=>
      have HR:Hid _:=HYes.out (by unfold hidB;rw [hn,hg,hd];rfl)
      clear HNo HYes
      go_wp2_with fail
      refine Calls.mono (HGd.out _) ?_;rintro e w2 ⟨rfl,k2⟩
      have HR2:Hid _:=HR.out w2 k2
      have b2:=HT.out.kp0 k2
      clear c0 c1 c2 c3 c4 c5 c6 c7 c8 f0 f1 f2 f3 f4 f5 f6 f7 f8
      have c0:=b2.t.c (k:=56) rfl;have c1:=b2.t.c (k:=57) rfl;have c2:=b2.t.c (k:=58) rfl;have c3:=b2.t.c (k:=59) rfl;have c4:=b2.t.c (k:=60) rfl;have c5:=b2.t.c (k:=61) rfl;have c6:=b2.t.c (k:=62) rfl;have c7:=b2.t.c (k:=63) rfl;have c8:=b2.t.c (k:=64) rfl
      have f0:=b2.t.fz 56;have f1:=b2.t.fz 57;have f2:=b2.t.fz 58;have f3:=b2.t.fz 59;have f4:=b2.t.fz 60;have f5:=b2.t.fz 61;have f6:=b2.t.fz 62;have f7:=b2.t.fz 63;have f8:=b2.t.fz 64
      have er:=HRE.out
      rw [← er] at c0 c1 c2 c3 c4 c5 c6 c7 c8
      clear er
      go_wp2_with fail
      go_roundg k
      case measure=>omega
      case rel=>exact HR2.out
  | 4,_=>
   have HF:Hid (Tn wr c tn T x (hideC n o) M∧Kp (c.mdT T) w wr):=⟨hT,kk⟩
   clear hT kk
   go_wp2
   go_end0
   exact ⟨rfl,HF.out⟩
set_option maxHeartbeats 4000000 in
theorem inter_any (w:World) (c:Ev) (tn T:Nat) (x n:Cu) (M:Mem) (h:Tn w c tn T x n M) (s:Int) (hsel:U16 s) (htn:tn < 18446744073709551500):
  Calls Tryz.prog 87 #[.pointer (some ⟨T,0,none⟩),.int .u16 s] w fun e w'=>e=OE Dsc.val (interO M x s)∧Px w c tn T x n (interO M x s).m 4 w':=by
 obtain ⟨X,hX⟩:∃ X,X=w.heap.size:=⟨_,rfl⟩
 obtain ⟨W0,hW0⟩:∃ W,W=w.alloc (.cells #[.int .u32 0,.int .u32 0,.int .i64 0,.bool false,.int .i64 0,.bool false,.bool false] 26):=⟨_,rfl⟩
 have k0:Kp noB w W0:=by rw [hW0];exact Kp.alloc noB w _
 have dA:DsAt W0 X zD:=by rw [hW0,hX];exact (MapKept.heap_alloc w _).1
 have hs0:W0.heap.size=X+1:=by rw [hW0,World.size_alloc,hX]
 have h0:=h.kp0 k0
 have HCd:Hid (∀ W,Calls Tryz.prog 145 #[.int .u16 s] W fun e w'=>e=.returned (.int .i64 (cdO s))∧w'=W):=fun W=>cCode_any s W hsel
 obtain ⟨s4,hs4⟩:∃ q,q=s%4:=⟨_,rfl⟩
 have HRo:Hid (∀ W,Calls Tryz.prog 88 #[.int .u16 s] W fun e w'=>e=.returned (.int .i64 s4)∧w'=W):=fun W=>by rw [hs4];exact cRing_any s W hsel
 obtain ⟨rg,hrg⟩:∃ rg,rg=x.rg:=⟨_,rfl⟩
 have HRr:Hid (Calls Tryz.prog 73 #[.pointer (some ⟨T,0,none⟩)] W0 fun e w'=>e=.returned (.int .i64 rg)∧w'=W0):=by
  rw [hrg]
  exact cRg_any _ T c.E _ ⟨(h0.a.ok.sg 1 (by decide)).ok.s0,(h0.a.ok.sg 1 (by decide)).ok.s1⟩ h0.t.e (h0.a.c rfl) h0.a.lt
 obtain ⟨cd,hcd⟩:∃ q,q=cdO s:=⟨_,rfl⟩
 have HT:=tfind_any W0 c tn T x n M h0 s 13 cd hsel (by omega)
 have hfn:=fine_tfind h.a.v.ram.rdB x s 13 cd (ft3_13 _)
 obtain ⟨q,hq⟩:∃ q,q=tfindO M x s 13 cd:=⟨_,rfl⟩
 have hS:interO M x s=if s4 < rg then .no M 13 cd else q.bind fun M d=>if 0≤Sg.codeB d.t d.d d.s d.p d.g s4 s4 then .no M (Sg.codeB d.t d.d d.s d.p d.g s4 s4) cd else .ok M d:=by rw [hq,hrg,hs4,hcd];rfl
 rw [← hcd] at HCd
 rw [← hq] at HT hfn
 have HX:Hid (DsAt W0 X zD∧(∀ j,c.all j→j < X)∧c.E < X∧T < X∧w.heap.size=X):=⟨dA,fun j hj=>by have:=h.a.in_all hj;omega,by have:=h.a.lt;omega,by have:=h.t.lt;omega,hX.symm⟩
 have HK0:Hid (Kp noB w W0):=k0
 have HN0:Hid (Tn W0 c tn T x n M):=h0
 by_cases hlo:s4 < rg
 ·have hd1:decide (s4 < rg)=true:=decide_eq_true hlo
  have hS2:interO M x s=.no M 13 cd:=hS.trans (if_pos hlo)
  have HS:Hid _:=hS2
  clear HT hfn h h0 k0 dA hS hS2 hq hlo hs4 hrg hcd
  go_enter Tryz.func87,Tryz.ntmps87
  go_wp2_with fail
  rw [← hW0,← hX]
  clear hW0 hX
  refine Calls.mono (HCd.out _) ?_;rintro e w' ⟨rfl,hw⟩;replace hw:=hw.symm;subst hw
  go_wp2_with fail
  refine Calls.mono (HRo.out _) ?_;rintro e w' ⟨rfl,hw⟩;replace hw:=hw.symm;subst hw
  go_wp2_with fail
  refine Calls.mono HRr.out ?_;rintro e w' ⟨rfl,hw⟩;replace hw:=hw.symm;subst hw
  go_wp2_with fail
  refine Calls.mono (cFault_any _ _ _) ?_;rintro e w5 ⟨rfl,k5⟩
  go_wp2
  exact ⟨rfl,by rw [HS.out];rfl,by rw [HS.out];exact Px.pre HK0.out ⟨⟨tn,Nat.le_add_right _ _,HN0.out.kp0 k5⟩,k5.mono (fun _ _ f=>f.elim)⟩⟩
 have hd1:decide (s4 < rg)=false:=decide_eq_false hlo
 replace hS:=hS.trans (if_neg hlo)
 cases hr:q.r with
 | inl f=>
  have HC:Hid (Calls Tryz.prog 146 #[.pointer (some ⟨T,0,none⟩),.int .u16 s,.int .i64 13,.int .i64 cd] W0 fun e w'=>e=.panicked (pan f)∧Px W0 c tn T x n q.m 4 w'):=HT.mono (fun e w' ⟨a,p⟩=>⟨by rw [a];unfold OE;rw [hr],p⟩)
  have hS2:interO M x s=⟨q.m,.inl f⟩:=by rw [hS];unfold Ou.bind;rw [hr]
  have HS:Hid _:=hS2
  clear HT hfn h h0 k0 dA hS hS2 hq hlo hs4 hrg hcd
  go_enter Tryz.func87,Tryz.ntmps87
  go_wp2_with fail
  rw [← hW0,← hX]
  clear hW0 hX
  refine Calls.mono (HCd.out _) ?_;rintro e w' ⟨rfl,hw⟩;replace hw:=hw.symm;subst hw
  go_wp2_with fail
  refine Calls.mono (HRo.out _) ?_;rintro e w' ⟨rfl,hw⟩;replace hw:=hw.symm;subst hw
  go_wp2_with fail
  refine Calls.mono HRr.out ?_;rintro e w' ⟨rfl,hw⟩;replace hw:=hw.symm;subst hw
  go_wp2_with fail
  refine Calls.mono HC.out ?_;rintro e w2 ⟨rfl,p2⟩
  exact ⟨rfl,by rw [HS.out];rfl,by rw [HS.out];exact p2.pre HK0.out⟩
 | inr d=>
  have HC:Hid (Calls Tryz.prog 146 #[.pointer (some ⟨T,0,none⟩),.int .u16 s,.int .i64 13,.int .i64 cd] W0 fun e w'=>e=.returned (.agg #[.int .u32 d.b,.int .u32 d.l,.int .i64 d.t,.bool d.s,.int .i64 d.d,.bool d.p,.bool d.g])∧Px W0 c tn T x n q.m 4 w'):=HT.mono (fun e w' ⟨a,p⟩=>⟨by rw [a];unfold OE;rw [hr];rfl,p⟩)
  have hd:=hfn.ok d hr
  have t0:=hd.t.1;have t1:=hd.t.2
  obtain ⟨cv,hcv⟩:∃ cv,cv=Sg.codeB d.t d.d d.s d.p d.g s4 s4:=⟨_,rfl⟩
  have HCo:Hid (∀ W,Calls Tryz.prog 147 #[.int .u16 s,.agg #[.int .u32 d.b,.int .u32 d.l,.int .i64 d.t,.bool d.s,.int .i64 d.d,.bool d.p,.bool d.g],.int .i64 s4] W fun e w'=>e=.returned (.int .i64 cv)∧Kp noB W w'):=fun W=>(Sg.code_any d.b d.l d.t d.s d.d d.p d.g s s4 W (by omega) (by omega) hsel.1 hsel.2).mono (fun e w' ⟨a,b⟩=>⟨by rw [a,← hs4,hcv],kp_grown b⟩)
  have hS2:interO M x s=if 0≤cv then .no q.m cv cd else .ok q.m d:=by rw [hS,hcv];unfold Ou.bind;rw [hr]
  have HS:Hid _:=hS2
  clear HT hfn h h0 k0 dA hS hS2 hq hlo hs4 hrg hcd hd t0 t1 hcv hsel
  go_enter Tryz.func87,Tryz.ntmps87
  go_wp2_with fail
  rw [← hW0,← hX]
  clear hW0 hX
  refine Calls.mono (HCd.out _) ?_;rintro e w' ⟨rfl,hw⟩;replace hw:=hw.symm;subst hw
  go_wp2_with fail
  refine Calls.mono (HRo.out _) ?_;rintro e w' ⟨rfl,hw⟩;replace hw:=hw.symm;subst hw
  go_wp2_with fail
  refine Calls.mono HRr.out ?_;rintro e w' ⟨rfl,hw⟩;replace hw:=hw.symm;subst hw
  go_wp2_with fail
  refine Calls.mono HC.out ?_;rintro e w2 ⟨rfl,p2⟩
  obtain ⟨F,hF⟩:∃ F,F=w2.heap.size:=⟨_,rfl⟩
  obtain ⟨W3,hW3⟩:∃ W,W=w2.alloc (.cells #[.int .u32 d.b,.int .u32 d.l,.int .i64 d.t,.bool d.s,.int .i64 d.d,.bool d.p,.bool d.g] 26):=⟨_,rfl⟩
  have k23:Kp noB w2 W3:=by rw [hW3];exact Kp.alloc _ _ _
  have nmd:∀ j,X≤j→¬ c.md j:=fun j hj f=>by have:=HX.out.2.1 j (.inr f);omega
  have HP:Hid (Px W0 c tn T x n q.m 4 W3∧DsAt W3 X zD∧DsAt W3 F d):=⟨p2.kp0 k23,(HX.out.1.kp p2.2 (nmd _ (by omega))).kp k23 id,by rw [hW3,hF];exact (MapKept.heap_alloc w2 _).1⟩
  obtain ⟨g0,g1,g2,g3,g4,g5,g6⟩:=HP.out.2.2.c
  clear p2 k23 nmd HC HCd
  go_wp2_with fail
  rw [← hW3,← hF]
  clear hW3 hF
  go_wp2_with fail
  refine Calls.mono (HCo.out _) ?_;rintro e w9 ⟨rfl,k9⟩
  have P9:=HP.out.1.kp0 k9
  have D9:=HP.out.2.1.kp k9 id
  have E9:=HP.out.2.2.kp k9 id
  have HP9:Hid (Px w c tn T x n q.m 4 w9):=P9.pre HK0.out
  clear g0 g1 g2 g3 g4 g5 g6
  obtain ⟨g0,g1,g2,g3,g4,g5,g6⟩:=DsAt.c E9
  obtain ⟨u0,u1,u2,u3,u4,u5,u6⟩:=DsAt.c D9
  unfold zD at u0 u1 u2 u3 u4 u5 u6
  have f0:=DsAt.fz D9 0;have f1:=DsAt.fz D9 1;have f2:=DsAt.fz D9 2;have f3:=DsAt.fz D9 3;have f4:=DsAt.fz D9 4;have f5:=DsAt.fz D9 5;have f6:=DsAt.fz D9 6
  have dE:=DsAt.set D9 d
  obtain ⟨v0,v1,v2,v3,v4,v5,v6⟩:=dE.c
  have HPE:Hid (Px w c tn T x n q.m 4 (putD w9 X d)):=Px.own HP9.out (by have:=HX.out.2.2.2.2;omega) (fun j hj=>by have:=HX.out.2.1 j hj;have:=HX.out.2.2.2.2;omega) (by have:=HX.out.2.2.1;have:=HX.out.2.2.2.2;omega) (by have:=HX.out.2.2.2.1;have:=HX.out.2.2.2.2;omega) (kp_putD w9 X d)
  unfold putD at v0 v1 v2 v3 v4 v5 v6 HPE
  clear P9 D9 E9 dE k9 HCo HX
  by_cases hc:0≤cv
  ·have HS3:Hid (interO M x s=.no q.m cv cd):=HS.out.trans (if_pos hc)
   have hd1:decide (0≤cv)=true:=decide_eq_true hc
   clear hc
   go_wp2_with (go_at_call 143;refine Calls.mono (cFault_any _ _ _) ?_;rintro e w5 ⟨rfl,k5⟩)
   exact ⟨rfl,by rw [HS3.out];rfl,by rw [HS3.out];exact Px.kp0 HP9.out k5⟩
  ·have HS3:Hid (interO M x s=.ok q.m d):=HS.out.trans (if_neg hc)
   have hd2:decide (0≤cv)=false:=decide_eq_false hc
   clear hc
   go_wp2
   refine bodyPost_ret (v:=d.val) (by unfold Dsc.val;simp [results,Tryz.results87,go_sem,v0,v1,v2,v3,v4,v5,v6]) rfl ⟨by rw [HS3.out];rfl,by rw [HS3.out];exact HPE.out⟩
theorem fine_inter {M:Mem} (h:RdB M) (x:Cu) (s:Int):Fine Dsc.Ok (interO M x s):=by
 unfold interO
 split
 ·exact Fine.bad h (.inl (ft3_13 _))
 ·refine Fine.bind (fine_tfind h x s 13 _ (ft3_13 _)) (fun N d hN hd=>?_)
  split
  ·rcases codeB_v d.t d.d d.s d.p d.g (s%4) (s%4) with e | e | e
   ·omega
   ·exact Fine.bad hN (.inl (by rw [e];unfold Ft3;simp))
   ·exact Fine.bad hN (.inl (by rw [e];unfold Ft3;simp))
  ·exact Fine.ret hN hd
end Go.Proofs.YtacgmoikegcopaaGreatDoor.Rm
