/- The bus and its devices: XcFind, XcFind2, XcAsk, SegFit. -/
import Derived.Test.YtacgmoikegcopaaGreatDoorEc10
import Derived.Test.YtacgmoikegcopaaGreatDoorEc05
namespace Go.Proofs.YtacgmoikegcopaaGreatDoor.Rm
open Go.ChangeShapes Go.WideShapes Go.ChangeAt Go.RowKit Go.Maps
set_option linter.unusedVariables false
set_option maxRecDepth 20000
theorem a32_bd (x y:Int):U32 (a32 x y):=by unfold a32 U32;omega
theorem a32_wrap (x y:Int):IntKind.u32.wrap (x+y)=a32 x y:=by unfold a32;exact IntKind.wrap_u32 _
theorem ou_no {q:Qy} {f:Ft} (h:q.f=some f):q.ou=⟨q.m,.inl f⟩:=by unfold Qy.ou;rw [h]
theorem ou_ok {q:Qy} (h:q.f=none):q.ou=⟨q.m,.inr q.val⟩:=by unfold Qy.ou;rw [h]
theorem ft_no {q:Qy} {f:Ft} (h:q.f=some f):q.ft=f:=by unfold Qy.ft;rw [h]
theorem ft_ok {q:Qy} (h:q.f=none):q.ft=noFt:=by unfold Qy.ft;rw [h]
theorem xfind_far (w:World) (c:Ev) (tn:Nat) (x:Cu) (M:Mem) (h:XAt w c tn x M) (s:Int) (hs:U16 s) (hf:farS s x.gl=true):
  Calls Tryz.prog 235 #[.pointer (some ⟨c.E,0,none⟩),.int .u16 s] w fun e w'=>e=.panicked (pan ⟨13,cdO s,0⟩)∧Kp noB w w':=by
 unfold pan Ft.val
 have k0:=Kp.alloc noB w (.cells #[.int .u32 0,.int .u32 0,.int .i64 0,.bool false,.int .i64 0,.bool false,.bool false] 26)
 have hC:Hid (∀ W,Calls Tryz.prog 274 #[.int .u16 s] W fun e w'=>e=.returned (.int .i64 (cdO s))∧w'=W):=fun W=>xCode_any s W hs
 have q4:=s_and4 hs
 have q7:=s_or7 hs
 have cg:(w.alloc (.cells #[.int .u32 0,.int .u32 0,.int .i64 0,.bool false,.int .i64 0,.bool false,.bool false] 26)).cell? ⟨c.E,68,none⟩=some (.int .u16 x.gl):=(h.kp0 k0).c rfl
 unfold farS at hf
 by_cases h4:s / 4%2=1
 ·rw [decide_eq_true h4] at q4
  go_enter Tryz.func235,Tryz.ntmps235
  go_wp2_with (first | (go_at_call 274;refine Calls.mono (hC.out _) ?_;rintro e w2 ⟨rfl,hw⟩;replace hw:=hw.symm;subst hw) | (go_at_call 271;refine Calls.mono (xFault_any _ _ _) ?_;rintro e w2 ⟨rfl,k2⟩))
  exact ⟨rfl,rfl,k0.trans k2⟩
 ·rw [decide_eq_false h4] at q4
  have h7:decide (x.gl < s - s%8+7)=true:=by simpa [h4] using hf
  go_enter Tryz.func235,Tryz.ntmps235
  go_wp2_with (first | (go_at_call 274;refine Calls.mono (hC.out _) ?_;rintro e w2 ⟨rfl,hw⟩;replace hw:=hw.symm;subst hw) | (go_at_call 271;refine Calls.mono (xFault_any _ _ _) ?_;rintro e w2 ⟨rfl,k2⟩))
  exact ⟨rfl,rfl,k0.trans k2⟩
theorem getD_set_self {listed:Array Bool} {i:Nat} (h:i < listed.size):(listed.setIfInBounds i true).getD i false=true:=by
 simp [Array.getD,h]
def zD:Dsc:=⟨0,0,0,false,0,false,false⟩
def DsAt (w:World) (b:Nat) (d:Dsc):Prop:=w.heap[b]?=some (.cells #[.int .u32 d.b,.int .u32 d.l,.int .i64 d.t,.bool d.s,.int .i64 d.d,.bool d.p,.bool d.g] 26 (0,0))
def putD (w:World) (b:Nat) (d:Dsc):World:=((((((w.setCell ⟨b,0,none⟩ (.int .u32 d.b)).setCell ⟨b,1,none⟩ (.int .u32 d.l)).setCell ⟨b,2,none⟩ (.int .i64 d.t)).setCell ⟨b,3,none⟩ (.bool d.s)).setCell ⟨b,4,none⟩ (.int .i64 d.d)).setCell ⟨b,5,none⟩ (.bool d.p)).setCell ⟨b,6,none⟩ (.bool d.g)
theorem DsAt.lt {w:World} {b:Nat} {d:Dsc} (h:DsAt w b d):b < w.heap.size:=(Array.getElem?_eq_some_iff.1 h).1
theorem DsAt.kp {S:Nat→Prop} {w w':World} {b:Nat} {d:Dsc} (h:DsAt w b d) (k:Kp S w w') (hS:¬ S b):DsAt w' b d:=(k.block b h.lt hS).trans h
theorem DsAt.set {w:World} {b:Nat} {d:Dsc} (h:DsAt w b d) (e:Dsc):DsAt (putD w b e) b e:=by
 have q:(((((((#[.int .u32 d.b,.int .u32 d.l,.int .i64 d.t,.bool d.s,.int .i64 d.d,.bool d.p,.bool d.g]:Array Value).setIfInBounds 0 (.int .u32 e.b)).setIfInBounds 1 (.int .u32 e.l)).setIfInBounds 2 (.int .i64 e.t)).setIfInBounds 3 (.bool e.s)).setIfInBounds 4 (.int .i64 e.d)).setIfInBounds 5 (.bool e.p)).setIfInBounds 6 (.bool e.g)=#[.int .u32 e.b,.int .u32 e.l,.int .i64 e.t,.bool e.s,.int .i64 e.d,.bool e.p,.bool e.g]:=by kernel_rfl
 unfold DsAt putD
 rw [← q]
 exact heap_setCell_at (heap_setCell_at (heap_setCell_at (heap_setCell_at (heap_setCell_at (heap_setCell_at (heap_setCell_at h _) _) _) _) _) _) _
theorem DsAt.c {w:World} {q:Nat} {d:Dsc} (h:DsAt w q d):w.cell? ⟨q,0,none⟩=some (.int .u32 d.b)∧w.cell? ⟨q,1,none⟩=some (.int .u32 d.l)∧w.cell? ⟨q,2,none⟩=some (.int .i64 d.t)∧w.cell? ⟨q,3,none⟩=some (.bool d.s)∧w.cell? ⟨q,4,none⟩=some (.int .i64 d.d)∧w.cell? ⟨q,5,none⟩=some (.bool d.p)∧w.cell? ⟨q,6,none⟩=some (.bool d.g):=by
 unfold DsAt at h
 simp only [cell_at h]
 exact ⟨rfl,rfl,rfl,rfl,rfl,rfl,rfl⟩
theorem DsAt.fz {w:World} {q:Nat} {d:Dsc} (h:DsAt w q d) (j:Nat):w.frozen? ⟨q,j,none⟩=false:=frozen_at h
theorem kp_putD (w:World) (q:Nat) (d:Dsc):Kp (fun j=>j=q) w (putD w q d):=by
 have k:∀ (W:World) (o:Nat) (v:Value),Kp (fun j=>j=q) W (W.setCell ⟨q,o,none⟩ v):=fun W o v=>Kp.setCell (S:=fun j=>j=q) W (p:=⟨q,o,none⟩) rfl v
 exact ((((((k _ _ _).trans (k _ _ _)).trans (k _ _ _)).trans (k _ _ _)).trans (k _ _ _)).trans (k _ _ _)).trans (k _ _ _)
structure IA (w0:World) (c:Ev) (tn k:Nat) (x:Cu) (M M':Mem) (g f:Ft) (a b d:Bool) (X:Nat) (W:World):Prop where
 stt:Pe w0 c tn x (if a then M' else M) (if a then k+2 else k) W
 row:b=true→w0.heap.size≤X∧RowT W X (if d then f else g)
theorem Pe.kp0 {w w1 w2:World} {c:Ev} {tn k:Nat} {x:Cu} {M:Mem} (h:Pe w c tn x M k w1) (k2:Kp noB w1 w2):Pe w c tn x M k w2:=by
 obtain ⟨⟨t,a,b⟩,kk⟩:=h
 exact ⟨⟨t,a,b.kp0 k2⟩,kk.trans (k2.mono (fun _ _ f=>f.elim))⟩
theorem Pe.own {w w1:World} {c:Ev} {tn k:Nat} {x:Cu} {M:Mem} (h:Pe w c tn x M k w1) {X:Nat} (hX:w.heap.size≤X) (hw:∀ j,c.all j→j < w.heap.size) (hE:c.E < w.heap.size) {w2:World} (kX:Kp (fun j=>j=X) w1 w2):Pe w c tn x M k w2:=by
 obtain ⟨⟨t,a,b⟩,kk⟩:=h
 refine ⟨⟨t,a,b.kp kX (by omega) (fun j hj=>by have:=hw j hj;omega)⟩,kk.over kX (fun j hj e=>absurd hj (by omega))⟩
section
variable {w0 W W':World} {c:Ev} {tn k:Nat} {x:Cu} {M M':Mem} {g f:Ft} {a b d:Bool} {X:Nat}
theorem IA.call (h:IA w0 c tn k x M M' g f false b d X W) (hw:∀ j,c.all j→j < w0.heap.size) {t:Nat} (ht:t≤tn+k) (p:Pe W c t x M' 2 W'):IA w0 c tn k x M M' g f true b d X W':=by
 obtain ⟨_,kk⟩:=h.stt
 obtain ⟨⟨t',ht',q'⟩,k'⟩:=p
 refine ⟨⟨⟨t',by show t'≤tn+(k+2);omega,q'⟩,kk.trans k'⟩,fun e=>?_⟩
 obtain ⟨q,r⟩:=h.row e
 exact ⟨q,r.kp k' (fun g=>by have:=hw _ (.inr g);omega)⟩
theorem IA.alloc (h:IA w0 c tn k x M M' ⟨0,0,0⟩ f a b false X W):IA w0 c tn k x M M' ⟨0,0,0⟩ f a true false W.heap.size (W.alloc (.cells #[.int .i64 0,.int .i64 0,.int .u32 0] 44)) where
 stt:=h.stt.kp0 (Kp.alloc noB W _)
 row:=fun e=>⟨h.stt.2.size,(MapKept.heap_alloc W _).1⟩
theorem IA.store (h:IA w0 c tn k x M M' g f a true d X W) (hw:∀ j,c.all j→j < w0.heap.size) (hE:c.E < w0.heap.size):IA w0 c tn k x M M' g f a true true X (setFt W X f) where
 stt:=h.stt.own (h.row rfl).1 hw hE (kp_setFt W X f)
 row:=fun _=>⟨(h.row rfl).1,(h.row rfl).2.set f⟩
theorem IA.mp (h:IA w0 c tn k x M M' g f a b d X W):W.cell? ⟨c.E,83,none⟩=some (.pointer (some ⟨c.V,0,none⟩)):=by
 obtain ⟨⟨t,_,q⟩,_⟩:=h.stt
 exact q.mp
end
theorem xfind_near (w:World) (c:Ev) (tn:Nat) (x:Cu) (M:Mem) (h:XAt w c tn x M) (s:Int) (hs:U16 s) (hf:farS s x.gl=false) (htn:tn < 18446744073709551600):
  Calls Tryz.prog 235 #[.pointer (some ⟨c.E,0,none⟩),.int .u16 s] w fun e w'=>e=OE Dsc.val (findO M x s)∧Pe w c tn x (findO M x s).m 4 w':=by
 have k0:=Kp.alloc noB w (.cells #[.int .u32 0,.int .u32 0,.int .i64 0,.bool false,.int .i64 0,.bool false,.bool false] 26)
 have q4:=s_and4 hs
 have q7:=s_or7 hs
 have q8:=s_not7 hs
 obtain ⟨W0,hW0⟩:∃ W,W=w.alloc (.cells #[.int .u32 0,.int .u32 0,.int .i64 0,.bool false,.int .i64 0,.bool false,.bool false] 26):=⟨_,rfl⟩
 rw [← hW0] at k0
 have h0:=h.kp0 k0
 have cg:=h0.c (k:=68) rfl
 have cb:=h0.c (k:=67) rfl
 obtain ⟨D,hDe⟩:∃ D,D=w.heap.size:=⟨_,rfl⟩
 have dA:DsAt W0 D zD:=by rw [hW0,hDe];exact (MapKept.heap_alloc w _).1
 have hf':=hf
 unfold farS at hf
 have h4:¬ s / 4%2=1:=by intro h4;simp [h4] at hf
 have h7:decide (x.gl < s - s%8+7)=false:=by simpa [h4] using hf
 rw [decide_eq_false h4] at q4
 have hs0:=hs.1;have hs1:=hs.2
 have ew:IntKind.u32.wrap (s - s%8)=s - s%8:=by have:=IntKind.wrap_u32 (s - s%8);omega
 have ea:=a32_wrap x.gb (s - s%8)
 rw [hW0] at cg cb
 go_enter Tryz.func235,Tryz.ntmps235
 go_upto_region 4 with fail
 rw [← hW0,← hDe]
 obtain ⟨at1,hat⟩:∃ a,a=a32 x.gb (s - s%8):=⟨_,rfl⟩
 have ha1:U32 at1:=by rw [hat];exact a32_bd _ _
 have HF:Hid (findO M x s=(sysO M x.cp at1 4).bind fun M lo=>(sysO M x.cp (a32 at1 4) 4).bind fun M hi=>.ok M (parseD lo hi)):=by unfold findO;rw [hf',← hat];rfl
 rw [← hat]
 have HP:Hid (Pe W0 c tn x M 0 W0.drew):=⟨⟨tn,Nat.le_refl _,h0.kp0 (Kp.refl noB W0).drew⟩,((Kp.refl noB W0).drew).mono (fun _ _ f=>f.elim)⟩
 have HW:Hid ((∀ j,c.all j→j < W0.heap.size)∧c.E < W0.heap.size):=⟨fun j hj=>h0.in_all hj,h0.lt⟩
 have HK0:Hid _:=k0
 have HDs:Hid (DsAt W0 D zD∧¬ c.md D∧w.heap.size≤D∧(∀ j,c.all j→j≠D)∧c.E≠D):=⟨dA,fun f=>(by have:=h.in_md f;omega),by omega,fun j hj=>(by have:=h.in_all hj;omega),by have:=h.lt;omega⟩
 have HC:Hid (∀ W t,t≤tn+0→XAt W c t x M→Calls Tryz.prog 189 #[.pointer (some ⟨c.V,0,none⟩),.pointer (some ⟨c.E,0,none⟩),.int .u32 at1,.int .i64 4] W fun e w'=>e=.returned (.tuple #[.int .u32 (sysQ M x.cp at1 4 false).val,(sysQ M x.cp at1 4 false).ft.val])∧Pe W c t x (sysQ M x.cp at1 4 false).m 2 w'):=fun W t ht q=>xsys W c t x M q at1 4 ha1 (by omega)
 have HC2:Hid (∀ W t M,t≤tn+2→XAt W c t x M→Calls Tryz.prog 189 #[.pointer (some ⟨c.V,0,none⟩),.pointer (some ⟨c.E,0,none⟩),.int .u32 (a32 at1 4),.int .i64 4] W fun e w'=>e=.returned (.tuple #[.int .u32 (sysQ M x.cp (a32 at1 4) 4 false).val,(sysQ M x.cp (a32 at1 4) 4 false).ft.val])∧Pe W c t x (sysQ M x.cp (a32 at1 4) 4 false).m 2 w'):=fun W t M ht q=>xsys W c t x M q (a32 at1 4) 4 (a32_bd _ _) (by omega)
 obtain ⟨q1,hq1⟩:∃ q,q=sysQ M x.cp at1 4 false:=⟨_,rfl⟩
 rw [← hq1] at HC
 have HQ1:Hid _:=hq1
 have HW0:Hid _:=hW0
 clear hW0 h0 hq1 hat k0 q4 q7 q8 cg cb ew ea h7 h4 hf hf' ha1 h hs dA hDe
 refine OrdFree.region_vals (τ:=Nat) (fun t=>[.pointer (some ⟨c.E,0,none⟩),.pointer (some ⟨c.E,0,none⟩),.pointer (some ⟨c.E,83,none⟩),.pointer (some ⟨c.V,0,none⟩),.pointer (some ⟨c.E,0,none⟩),.pointer (some ⟨c.E,0,none⟩),.pointer (some ⟨c.E,0,none⟩),.int .u32 at1,.tuple #[.int .u32 q1.val,q1.ft.val],.tuple #[.int .u32 q1.val,q1.ft.val],.int .u32 q1.val,q1.ft.val,.pointer (some ⟨t,0,none⟩),.int .u32 q1.val,undef]) (fun t listed W=>IA W0 c tn 0 x M q1.m ⟨0,0,0⟩ q1.ft (listed.getD 8 false) (listed.getD 12 false) (listed.getD 14 false) t W) 0 (by kernel_rfl) (by kernel_rfl) (by kernel_rfl) (by kernel_rfl) (fun _=>rfl) (fun t=>by simp only [OrdFree.puts,Act.put,List.setIfInBounds_toArray,List.set_cons_zero,List.set_cons_succ];rfl) ⟨HP.out,fun f=>(by cases f)⟩ ?_ ?_
 ·refine ⟨?_,?_,?_,?_,?_,?_,?_,?_,?_,?_,?_,?_,?_,?_,?_,trivial⟩
  all_goals (intro t listed W hz hSh hl hI hb K hK hK0;have hcm:=IA.mp hI)
  case refine_9=>
   rw [hl] at hI
   obtain ⟨⟨t0,ht0,hx⟩,_⟩:=hI.stt
   have hc:=HC.out W t0 ht0 hx
   clear hx
   go_simp
   refine Calls.mono hc ?_;rintro e w' ⟨rfl,p⟩
   exact hK0 w' (by show IA _ _ _ _ _ _ _ _ _ _ _ _ _ _;rw [getD_set_self (by rw [hz];exact (by decide:8 < 15)),getD_set_ne false (by decide),getD_set_ne false (by decide)];exact hI.call HW.out.1 ht0 p)
  case refine_13=>
   have nst:=OrdFree.shut_no (j:=14) hSh hl (by kernel_rfl)
   rw [nst] at hI
   exact OrdFree.wp_of_run (v:=.pointer (some ⟨W.heap.size,0,none⟩)) (w':=W.alloc (.cells #[.int .i64 0,.int .i64 0,.int .u32 0] 44)) (by kernel_rfl) (hK _ _ ⟨W.heap.size,rfl,OrdFree.vals_two (i:=12) (k:=12) (u:=.pointer (some ⟨W.heap.size,0,none⟩)) (v:=.pointer (some ⟨W.heap.size,0,none⟩)) rfl hl hl,by show IA _ _ _ _ _ _ _ _ _ _ _ _ _ _;rw [getD_set_self (by rw [hz];exact (by decide:12 < 15)),getD_set_ne false (by decide),getD_set_ne false (by decide),nst];exact hI.alloc⟩)
  case refine_15=>
   have ha:=hb { on:=12,ground:=.data } (by simp) rfl
   have he:=hb { on:=11,ground:=.data } (by simp) rfl
   have h8:listed.getD 8 false=true:=by
    cases h:listed.getD 8 false with
    | true=>rfl
    | false=>
     have n9:=OrdFree.shut_no (j:=9) hSh h (by kernel_rfl)
     have n11:=OrdFree.shut_no (j:=11) hSh n9 (by kernel_rfl)
     rw [he] at n11;cases n11
   rw [h8,ha,hl] at hI
   have r:=(hI.row rfl).2
   have c0:=r.c0;have c1:=r.c1;have c2:=r.c2
   have f0:=r.fz 0;have f1:=r.fz 1;have f2:=r.fz 2
   have HS:Hid _:=hI.store HW.out.1 HW.out.2
   clear r hI
   unfold setFt at HS
   unfold Ft.val
   go_simp
   exact hK0 _ (by show IA _ _ _ _ _ _ _ _ _ _ _ _ _ _;rw [getD_set_self (by rw [hz];exact (by decide:14 < 15)),getD_set_ne false (by decide),getD_set_ne false (by decide),h8,ha];exact HS.out)
  all_goals (go_simp;exact hK0 W (by show IA _ _ _ _ _ _ _ _ _ _ _ _ _ _;rw [getD_set_ne false (by decide),getD_set_ne false (by decide),getD_set_ne false (by decide)];exact hI))
 rename_i Kx hKx
 rintro X listed W1 hal hI
 have hI':IA W0 c tn 0 x M q1.m ⟨0,0,0⟩ q1.ft (listed.getD 8 false) (listed.getD 12 false) (listed.getD 14 false) X W1:=hI
 rw [hal 8 (by exact (by decide:8 < 15)),hal 12 (by exact (by decide:12 < 15)),hal 14 (by exact (by decide:14 < 15))] at hI'
 obtain ⟨hXl,rX⟩:=hI'.row rfl
 have P1:Hid (Pe W0 c tn x q1.m 2 W1):=hI'.stt
 have RX:Hid (RowT W1 X q1.ft):=rX
 clear hI hI' hal HC HP
 refine hKx _ _ ?_
 have e0:=rX.c0;have e1:=rX.c1;have e2:=rX.c2
 clear rX
 cases hf1:q1.f with
 | some f=>
  have hft:=ft_no hf1
  have HR:Hid (∀ W,Calls Tryz.prog 275 #[f.val] W fun e w'=>e=.panicked (pan f)∧Kp noB W w'):=fun W=>xRaise_no W f (by rw [HQ1.out] at hf1;exact (sysQ_ft hf1).ne)
  rw [hft] at e0 e1 e2
  unfold Ft.val at HR
  go_wp2_with (go_at_call 275;refine Calls.mono (HR.out _) ?_;rintro e w2 ⟨rfl,k2⟩)
  have hfo:findO M x s=⟨q1.m,.inl f⟩:=by rw [HF.out];unfold sysO;rw [← HQ1.out,ou_no hf1];rfl
  rw [hfo]
  have p:=P1.out.kp0 k2
  exact ⟨rfl,rfl,⟨by obtain ⟨t,a,b⟩:=p.1;exact ⟨t,by omega,b⟩,(HK0.out.mono (fun _ _ f=>f.elim)).trans p.2⟩⟩
 | none=>
  have hft:=ft_ok hf1
  have HR:Hid (∀ W,Calls Tryz.prog 275 #[noFt.val] W fun e w'=>e=.returned (.tuple #[])∧Kp noB W w'):=fun W=>xRaise_ok W
  rw [hft] at e0 e1 e2 RX
  unfold Ft.val noFt at HR
  unfold noFt at e0 e1 e2
  have ea2:=a32_wrap at1 4
  go_upto_region 6 with (go_at_call 275;refine Calls.mono (HR.out _) ?_;rintro e w2 ⟨rfl,k2⟩)
  have p2:=P1.out.kp0 (k2.trans (Kp.refl noB w2).drew)
  have HC3:Hid (∀ W t,t≤tn+2→XAt W c t x q1.m→_):=fun W t ht q=>HC2.out W t q1.m ht q
  have HI0:Hid (∀ f:Qy,IA W0 c tn 2 x q1.m f.m noFt f.ft false true false X w2.drew):=fun f=>⟨p2,fun _=>⟨hXl,RX.out.kp (k2.trans (Kp.refl noB w2).drew) (fun f=>f)⟩⟩
  obtain ⟨q2,hq2⟩:∃ q,q=sysQ q1.m x.cp (a32 at1 4) 4 false:=⟨_,rfl⟩
  rw [← hq2] at HC3
  have HQ2:Hid _:=hq2
  have HF1:Hid _:=hf1
  clear p2 hq2 hf1 e0 e1 e2 RX HC2 hft HR
  refine OrdFree.region_vals (τ:=Unit) (fun t=>[.pointer (some ⟨c.E,0,none⟩),.pointer (some ⟨c.E,0,none⟩),.pointer (some ⟨c.E,83,none⟩),.pointer (some ⟨c.V,0,none⟩),.pointer (some ⟨c.E,0,none⟩),.pointer (some ⟨c.E,0,none⟩),.pointer (some ⟨c.E,0,none⟩),.int .u32 at1,.int .u32 (a32 at1 4),.tuple #[.int .u32 q2.val,q2.ft.val],.tuple #[.int .u32 q2.val,q2.ft.val],.int .u32 q2.val,q2.ft.val,.int .u32 q2.val,undef]) (fun t listed W=>IA W0 c tn 2 x q1.m q2.m noFt q2.ft (listed.getD 9 false) true (listed.getD 14 false) X W) () (by kernel_rfl) (by kernel_rfl) (by kernel_rfl) (by kernel_rfl) (fun _=>rfl) (fun t=>by simp only [OrdFree.puts,Act.put,List.setIfInBounds_toArray,List.set_cons_zero,List.set_cons_succ];rfl) (HI0.out q2) ?_ ?_
  ·refine ⟨?_,?_,?_,?_,?_,?_,?_,?_,?_,?_,?_,?_,?_,?_,?_,trivial⟩
   all_goals (intro t listed W hz hSh hl hI hb K hK hK0;have hcm:=IA.mp hI)
   case refine_10=>
    rw [hl] at hI
    obtain ⟨⟨t0,ht0,hx⟩,_⟩:=hI.stt
    have hc:=HC3.out W t0 ht0 hx
    clear hx
    go_simp
    refine Calls.mono hc ?_;rintro e w' ⟨rfl,p⟩
    exact hK0 w' (by show IA _ _ _ _ _ _ _ _ _ _ _ _ _ _;rw [getD_set_self (by rw [hz];exact (by decide:9 < 15)),getD_set_ne false (by decide)];exact hI.call HW.out.1 ht0 p)
   case refine_15=>
    have he:=hb { on:=12,ground:=.data } (by simp) rfl
    have h8:listed.getD 9 false=true:=by
     cases h:listed.getD 9 false with
     | true=>rfl
     | false=>
      have n9:=OrdFree.shut_no (j:=10) hSh h (by kernel_rfl)
      have n11:=OrdFree.shut_no (j:=12) hSh n9 (by kernel_rfl)
      rw [he] at n11;cases n11
    rw [h8,hl] at hI
    have r:=(hI.row rfl).2
    have c0:=r.c0;have c1:=r.c1;have c2:=r.c2
    have f0:=r.fz 0;have f1:=r.fz 1;have f2:=r.fz 2
    have HS:Hid _:=hI.store HW.out.1 HW.out.2
    clear r hI
    unfold setFt at HS
    unfold Ft.val
    go_simp
    exact hK0 _ (by show IA _ _ _ _ _ _ _ _ _ _ _ _ _ _;rw [getD_set_self (by rw [hz];exact (by decide:14 < 15)),getD_set_ne false (by decide),h8];exact HS.out)
   all_goals (go_simp;exact hK0 W (by show IA _ _ _ _ _ _ _ _ _ _ _ _ _ _;rw [getD_set_ne false (by decide),getD_set_ne false (by decide)];exact hI))
  rename_i Ky hKy
  rintro _ listed W3 hal hI
  have hI':IA W0 c tn 2 x q1.m q2.m noFt q2.ft (listed.getD 9 false) true (listed.getD 14 false) X W3:=hI
  rw [hal 9 (by exact (by decide:9 < 15)),hal 14 (by exact (by decide:14 < 15))] at hI'
  have rX:=(hI'.row rfl).2
  have P2:Hid (Pe W0 c tn x q2.m 4 W3):=hI'.stt
  clear hI hI' hal HC3 HI0
  refine hKy _ _ ?_
  have e0:=rX.c0;have e1:=rX.c1;have e2:=rX.c2
  clear rX
  cases hf2:q2.f with
  | some f=>
   have hft:=ft_no hf2
   have HR:Hid (∀ W,Calls Tryz.prog 275 #[f.val] W fun e w'=>e=.panicked (pan f)∧Kp noB W w'):=fun W=>xRaise_no W f (by rw [HQ2.out] at hf2;exact (sysQ_ft hf2).ne)
   rw [hft] at e0 e1 e2
   unfold Ft.val at HR
   go_wp2_with (go_at_call 275;refine Calls.mono (HR.out _) ?_;rintro e w4 ⟨rfl,k4⟩)
   have hfo:findO M x s=⟨q2.m,.inl f⟩:=by rw [HF.out];unfold sysO;rw [← HQ1.out,ou_ok HF1.out];simp only [Ou.bind];rw [← HQ2.out,ou_no hf2]
   rw [hfo]
   have p:=P2.out.kp0 k4
   exact ⟨rfl,rfl,⟨p.1,(HK0.out.mono (fun _ _ f=>f.elim)).trans p.2⟩⟩
  | none=>
   have hft:=ft_ok hf2
   have HR:Hid (∀ W,Calls Tryz.prog 275 #[noFt.val] W fun e w'=>e=.returned (.tuple #[])∧Kp noB W w'):=fun W=>xRaise_ok W
   rw [hft] at e0 e1 e2
   unfold Ft.val noFt at HR
   unfold noFt at e0 e1 e2
   have hb1:U32 q1.val:=by
    obtain ⟨⟨t,_,a⟩,_⟩:=P1.out
    exact qval_bd a.v.ram.rdB
   have hb2:U32 q2.val:=by
    obtain ⟨⟨t,_,a⟩,_⟩:=P2.out
    exact qval_bd a.v.ram.rdB
   have HPr:Hid (∀ W,_):=fun W=>Sg.parse_any q1.val q2.val W hb1.1 hb1.2 hb2.1 hb2.2
   have HPd:Hid _:=parseD_ok hb1 hb2
   clear hb1 hb2
   go_wp2_with (first | (go_at_call 275;refine Calls.mono (HR.out _) ?_;rintro e w4 ⟨rfl,k4⟩) | fail)
   refine Calls.mono (HPr.out _) ?_;rintro e w5 ⟨rfl,g5⟩
   have k5:=k4.trans (kp_grown g5)
   have p5:=P2.out.kp0 k5
   have d5:=HDs.out.1.kp p5.2 HDs.out.2.1
   obtain ⟨u0,u1,u2,u3,u4,u5,u6⟩:=d5.c
   unfold zD at u0 u1 u2 u3 u4 u5 u6
   have f0:=d5.fz 0;have f1:=d5.fz 1;have f2:=d5.fz 2;have f3:=d5.fz 3;have f4:=d5.fz 4;have f5:=d5.fz 5;have f6:=d5.fz 6
   have d6:=d5.set (parseD q1.val q2.val)
   obtain ⟨v0,v1,v2,v3,v4,v5,v6⟩:=d6.c
   have HP6:Hid (Pe w c tn x q2.m 4 (putD w5 D (parseD q1.val q2.val))):=by
    have kD:=kp_putD w5 D (parseD q1.val q2.val)
    obtain ⟨⟨t,a,b⟩,kk⟩:=p5
    have kw:Kp c.md w w5:=(HK0.out.mono (fun _ _ f=>f.elim)).trans kk
    refine ⟨⟨t,a,b.kp kD HDs.out.2.2.2.2 (fun j hj e=>HDs.out.2.2.2.1 j hj e)⟩,kw.over kD (fun j hj e=>absurd hj (by have:=HDs.out.2.2.1;omega))⟩
   have hfo:findO M x s=⟨q2.m,.inr (parseD q1.val q2.val)⟩:=by rw [HF.out];unfold sysO;rw [← HQ1.out,ou_ok HF1.out];simp only [Ou.bind];rw [← HQ2.out,ou_ok hf2];rfl
   have HFO:Hid _:=hfo
   clear d5 d6 p5 P2 P1 k5 g5 k4 hfo hKx hKy HPd HPr HR HF HW HDs HK0 HW0 HQ1 HQ2 HF1
   obtain ⟨dd,hdd⟩:∃ dd,dd=parseD q1.val q2.val:=⟨_,rfl⟩
   have hm0:Sg.baseB q1.val q2.val=dd.b:=by rw [hdd];rfl
   have hm1:Sg.limB q1.val q2.val=dd.l:=by rw [hdd];rfl
   have hm2:Sg.typB q2.val=dd.t:=by rw [hdd];rfl
   have hm3:(!Sg.bitP q2.val 4096)=dd.s:=by rw [hdd];rfl
   have hm4:Sg.dplB q2.val=dd.d:=by rw [hdd];rfl
   have hm5:Sg.bitP q2.val 32768=dd.p:=by rw [hdd];rfl
   have hm6:Sg.bitP q2.val 4194304=dd.g:=by rw [hdd];rfl
   rw [hm0,hm1,hm2,hm3,hm4,hm5,hm6]
   rw [← hdd] at v0 v1 v2 v3 v4 v5 v6 HP6 HFO
   unfold putD at v0 v1 v2 v3 v4 v5 v6 HP6
   clear hdd hm0 hm1 hm2 hm3 hm4 hm5 hm6
   go_wp2
   refine bodyPost_ret (v:=dd.val) (by unfold Dsc.val;simp [results,Tryz.results235,go_sem,v0,v1,v2,v3,v4,v5,v6]) rfl ⟨by rw [HFO.out];rfl,by rw [HFO.out];exact HP6.out⟩
theorem xfaultOfC_ok (w:World) (k:Nat) (cap:Array Value) (S:Nat→Prop) (P:World→Prop) (hS:∀ j,S j→j < w.heap.size) (hP:∀ W W',P W→Kp (fun j=>w.heap.size≤j) W W'→P W')
  (hk:∀ W,(callFunc k cap).run Tryz.prog W=.ok (.enter k cap) W)
  (H:Hid (∀ W,Kp noB w W→Calls Tryz.prog k cap W fun e w'=>e=.returned (.tuple #[])∧Kp S W w'∧P w')):
  Calls Tryz.prog 233 #[.func (.func k) #[] cap] w fun e w'=>e=.returned noFt.val∧Kp S w w'∧P w':=by
 have hmf:∀ (fn:Fn) (first cap:Array Value) (w:World),(Instr.makeFunc fn first cap).run Tryz.prog w=.ok (.func fn first cap) w:=fun _ _ _ _=>rfl
 obtain ⟨W0,hW0⟩:∃ W,W=w.alloc (.cells #[.int .i64 0,.int .i64 0,.int .u32 0] 44):=⟨_,rfl⟩
 obtain ⟨X,hX⟩:∃ X,w.heap.size=X:=⟨_,rfl⟩
 have k0:Kp noB w W0:=by rw [hW0];exact Kp.alloc _ _ _
 have rX:RowT W0 X ⟨0,0,0⟩:=by rw [hW0,← hX];exact (MapKept.heap_alloc w _).1
 go_enter_defers Tryz.func233,Tryz.ntmps233
 go_wp2_with fail
 rw [← hW0]
 refine (none_any _).mono ?_;rintro e w2 ⟨rfl,k2⟩
 have r2:=rX.kp k2 (fun f=>f)
 have c0:=r2.c0;have c1:=r2.c1;have c2:=r2.c2
 have f0:=r2.fz 0;have f1:=r2.fz 1;have f2:=r2.fz 2
 clear hW0
 go_wp2_with fail
 have k3:Kp noB w (setFt w2 X noFt):=by
  have:=k0.trans k2
  exact (((this.own' (i:=0) (by omega) _).own' (i:=1) (by omega) _).own' (i:=2) (by omega) _)
 have r3:=r2.set noFt
 change Calls Tryz.prog k cap (setFt w2 X noFt) _
 refine Calls.mono (H.out _ k3) ?_;rintro e w4 ⟨rfl,k4,p4⟩
 have nX:¬ S X:=fun f=>by have:=hS _ f;omega
 have r4:=r3.kp k4 nX
 clear c0 c1 c2 f0 f1 f2
 have c0:=r4.c0;have c1:=r4.c1;have c2:=r4.c2
 have f0:=r4.fz 0;have f1:=r4.fz 1;have f2:=r4.fz 2
 have r5:=r4.set noFt
 have p5:=hP _ _ p4 ((kp_setFt w4 X noFt).mono (fun j _ e=>by omega))
 have k5:Kp S w (setFt w4 X noFt):=((k3.mono (fun _ _ f=>f.elim)).trans k4).over (kp_setFt w4 X noFt) (fun j hj e=>absurd hj (by omega))
 clear r2 r3 k2 k0 rX k3 k4 p4
 have e0:noFt.vec=-1:=rfl
 have e1:noFt.code=-1:=rfl
 have e2:noFt.cr2=0:=rfl
 go_wp2
 refine leaves_cons (f:=272) (args:=#[.pointer (some ⟨X,0,none⟩)]) (by simp) (by simp [go_sem]) ?_
 refine (xcatch_idle X _).mono ?_
 rintro e u' w'' ⟨rfl,rfl,rfl⟩
 have d0:=r5.c0;have d1:=r5.c1;have d2:=r5.c2
 unfold setFt at d0 d1 d2 k5 p5
 simp only [e0,e1,e2] at d0 d1 d2 k5 p5
 simp [Leaves,settle,results,Tryz.results233,go_sem,d0,d1,d2]
 exact ⟨rfl,k5,p5⟩
theorem xfaultOfC_no (w:World) (k:Nat) (cap:Array Value) (f:Ft) (S:Nat→Prop) (P:World→Prop) (hS:∀ j,S j→j < w.heap.size) (hP:∀ W W',P W→Kp (fun j=>w.heap.size≤j) W W'→P W')
  (hk:∀ W,(callFunc k cap).run Tryz.prog W=.ok (.enter k cap) W)
  (H:Hid (∀ W,Kp noB w W→Calls Tryz.prog k cap W fun e w'=>e=.panicked (pan f)∧Kp S W w'∧P w')):
  Calls Tryz.prog 233 #[.func (.func k) #[] cap] w fun e w'=>e=.returned f.val∧Kp S w w'∧P w':=by
 have hmf:∀ (fn:Fn) (first cap:Array Value) (w:World),(Instr.makeFunc fn first cap).run Tryz.prog w=.ok (.func fn first cap) w:=fun _ _ _ _=>rfl
 obtain ⟨W0,hW0⟩:∃ W,W=w.alloc (.cells #[.int .i64 0,.int .i64 0,.int .u32 0] 44):=⟨_,rfl⟩
 obtain ⟨X,hX⟩:∃ X,w.heap.size=X:=⟨_,rfl⟩
 have k0:Kp noB w W0:=by rw [hW0];exact Kp.alloc _ _ _
 have rX:RowT W0 X ⟨0,0,0⟩:=by rw [hW0,← hX];exact (MapKept.heap_alloc w _).1
 go_enter_defers Tryz.func233,Tryz.ntmps233
 go_wp2_with fail
 rw [← hW0]
 refine (none_any _).mono ?_;rintro e w2 ⟨rfl,k2⟩
 have r2:=rX.kp k2 (fun f=>f)
 have c0:=r2.c0;have c1:=r2.c1;have c2:=r2.c2
 have f0:=r2.fz 0;have f1:=r2.fz 1;have f2:=r2.fz 2
 clear hW0
 go_wp2_with fail
 have k3:Kp noB w (setFt w2 X noFt):=by
  have:=k0.trans k2
  exact (((this.own' (i:=0) (by omega) _).own' (i:=1) (by omega) _).own' (i:=2) (by omega) _)
 have r3:=r2.set noFt
 change Calls Tryz.prog k cap (setFt w2 X noFt) _
 refine Calls.mono (H.out _ k3) ?_;rintro e w4 ⟨rfl,k4,p4⟩
 have nX:¬ S X:=fun f=>by have:=hS _ f;omega
 have r4:=r3.kp k4 nX
 refine leaves_cons (f:=272) (args:=#[.pointer (some ⟨X,0,none⟩)]) (by simp) (by simp [go_sem]) ?_
 refine (xcatch_pan X noFt f [] _ r4).mono ?_
 rintro e u' w'' ⟨rfl,rfl,w5,kw,rfl⟩
 have r5:=(r4.kp kw (fun f=>f)).set f
 have p5:=hP _ _ (hP _ _ p4 (kw.mono (fun _ _ f=>f.elim))) ((kp_setFt w5 X f).mono (fun j _ e=>by omega))
 have k5:Kp S w (setFt w5 X f):=(((k3.mono (fun _ _ f=>f.elim)).trans k4).trans (kw.mono (fun _ _ f=>f.elim))).over (kp_setFt w5 X f) (fun j hj e=>absurd hj (by omega))
 have d0:=r5.c0;have d1:=r5.c1;have d2:=r5.c2
 simp [Leaves,settle,results,Tryz.results233,go_sem,d0,d1,d2]
 exact ⟨rfl,k5,p5⟩
theorem xfind_all (w:World) (c:Ev) (tn:Nat) (x:Cu) (M:Mem) (h:XAt w c tn x M) (s:Int) (hs:U16 s) (htn:tn < 18446744073709551600):
  Calls Tryz.prog 235 #[.pointer (some ⟨c.E,0,none⟩),.int .u16 s] w fun e w'=>e=OE Dsc.val (findO M x s)∧Pe w c tn x (findO M x s).m 4 w':=by
 by_cases hf:farS s x.gl=true
 ·refine (xfind_far w c tn x M h s hs hf).mono ?_
  rintro e w' ⟨rfl,k⟩
  have:findO M x s=⟨M,.inl ⟨13,cdO s,0⟩⟩:=by unfold findO;rw [if_pos hf];rfl
  rw [this]
  exact ⟨rfl,⟨tn,by omega,h.kp0 k⟩,k.mono (fun _ _ f=>f.elim)⟩
 ·exact xfind_near w c tn x M h s hs (by simpa using hf) htn
structure FcAt (W:World) (b2 b3 X E:Nat) (s:Int):Prop where
 e:W.cell? ⟨b2,0,none⟩=some (ptr E)
 s:W.cell? ⟨b3,0,none⟩=some (.int .u16 s)
 d:DsAt W X zD
theorem FcAt.kp0 {W W':World} {b2 b3 X E:Nat} {s:Int} (h:FcAt W b2 b3 X E s) (k:Kp noB W W'):FcAt W' b2 b3 X E s:=⟨cell_kp h.e k id,cell_kp h.s k id,h.d.kp k id⟩
theorem find1_no (W:World) (c:Ev) (tn:Nat) (x:Cu) (M:Mem) (h:XAt W c tn x M) (s:Int) (hs:U16 s) (htn:tn < 18446744073709551600) (b2 b3 X:Nat) (hF:FcAt W b2 b3 X c.E s) (hX:¬ c.all X∧X≠c.E) (f:Ft) (hd:(findO M x s).r=.inl f):
  Calls Tryz.prog 234 #[.pointer (some ⟨b2,0,none⟩),.pointer (some ⟨b3,0,none⟩),.pointer (some ⟨X,0,none⟩)] W fun e w'=>e=.panicked (pan f)∧Kp (fun j=>c.md j∨j=X) W w'∧(∃ tn',tn'≤tn+4∧XAt w' c tn' x (findO M x s).m)∧DsAt w' X zD:=by
 have HC:Hid (Calls Tryz.prog 235 #[.pointer (some ⟨c.E,0,none⟩),.int .u16 s] W fun e w'=>e=.panicked (pan f)∧Pe W c tn x (findO M x s).m 4 w'):=(xfind_all W c tn x M h s hs htn).mono (fun e w' ⟨a,p⟩=>⟨by rw [a];unfold OE;rw [hd],p⟩)
 obtain ⟨ze,zs,zd⟩:=hF
 have HZ:Hid (DsAt W X zD):=zd
 unfold ptr at ze
 clear hd h zd
 go_enter Tryz.func234,Tryz.ntmps234
 go_wp2_with (go_at_call 235;refine Calls.mono HC.out ?_;rintro e w2 ⟨rfl,p2⟩)
 exact ⟨rfl,rfl,p2.2.mono (fun _ _ f=>.inl f),p2.1,DsAt.kp HZ.out p2.2 (fun f=>hX.1 (.inr f))⟩
theorem find1_ok (W:World) (c:Ev) (tn:Nat) (x:Cu) (M:Mem) (h:XAt W c tn x M) (s:Int) (hs:U16 s) (htn:tn < 18446744073709551600) (b2 b3 X:Nat) (hF:FcAt W b2 b3 X c.E s) (hX:¬ c.all X∧X≠c.E) (d:Dsc) (hd:(findO M x s).r=.inr d):
  Calls Tryz.prog 234 #[.pointer (some ⟨b2,0,none⟩),.pointer (some ⟨b3,0,none⟩),.pointer (some ⟨X,0,none⟩)] W fun e w'=>e=.returned (.tuple #[])∧Kp (fun j=>c.md j∨j=X) W w'∧(∃ tn',tn'≤tn+4∧XAt w' c tn' x (findO M x s).m)∧DsAt w' X d:=by
 have HC:Hid (Calls Tryz.prog 235 #[.pointer (some ⟨c.E,0,none⟩),.int .u16 s] W fun e w'=>e=.returned d.val∧Pe W c tn x (findO M x s).m 4 w'):=(xfind_all W c tn x M h s hs htn).mono (fun e w' ⟨a,p⟩=>⟨by rw [a];unfold OE;rw [hd],p⟩)
 obtain ⟨ze,zs,zd⟩:=hF
 have HZ:Hid (DsAt W X zD):=zd
 unfold ptr at ze
 clear hd h zd
 go_enter Tryz.func234,Tryz.ntmps234
 unfold Dsc.val at HC
 go_wp2_with fail
 refine Calls.mono HC.out ?_
 rintro e w2 ⟨rfl,p2⟩
 have d2:=DsAt.kp HZ.out p2.2 (fun f=>hX.1 (.inr f))
 obtain ⟨u0,u1,u2,u3,u4,u5,u6⟩:=d2.c
 have f0:=d2.fz 0;have f1:=d2.fz 1;have f2:=d2.fz 2;have f3:=d2.fz 3;have f4:=d2.fz 4;have f5:=d2.fz 5;have f6:=d2.fz 6
 have d3:=d2.set d
 have k3:=kp_putD w2 X d
 have HP:Hid (Kp (fun j=>c.md j∨j=X) W (putD w2 X d)∧(∃ tn',tn'≤tn+4∧XAt (putD w2 X d) c tn' x (findO M x s).m)∧DsAt (putD w2 X d) X d):=by
  refine ⟨(p2.2.mono (fun _ _ f=>.inl f)).trans (k3.mono (fun _ _ f=>.inr f)),?_,d3⟩
  obtain ⟨⟨t,a,b⟩,_⟩:=p2
  exact ⟨t,a,b.kp k3 (fun e=>hX.2 e.symm) (fun j hj e=>hX.1 (e ▸ hj))⟩
 unfold putD at HP
 unfold zD at u0 u1 u2 u3 u4 u5 u6
 clear d2 d3 k3 p2 HC HZ
 go_wp2
 go_end0
 exact ⟨rfl,HP.out⟩
def fdV (o:Ou Dsc):Value:=match o.r with | .inl f=>.tuple #[zD.val,f.val] | .inr d=>.tuple #[d.val,noFt.val]
theorem xFind_any (w:World) (c:Ev) (tn:Nat) (x:Cu) (M:Mem) (h:XAt w c tn x M) (s:Int) (hs:U16 s) (htn:tn < 18446744073709551600):
  Calls Tryz.prog 191 #[.pointer (some ⟨c.E,0,none⟩),.int .u16 s] w fun e w'=>e=.returned (fdV (findO M x s))∧Pe w c tn x (findO M x s).m 4 w':=by
 have hmf:∀ (fn:Fn) (first cap:Array Value) (w:World),(Instr.makeFunc fn first cap).run Tryz.prog w=.ok (.func fn first cap) w:=fun _ _ _ _=>rfl
 obtain ⟨X,hX⟩:∃ X,w.heap.size=X:=⟨_,rfl⟩
 obtain ⟨W0,hW0⟩:∃ W,W=(((w.alloc (.cells #[ptr c.E] 37)).alloc (.cells #[.int .u16 s] 24)).alloc (.cells #[.int .u32 0,.int .u32 0,.int .i64 0,.bool false,.int .i64 0,.bool false,.bool false] 26)).alloc (.cells #[.int .i64 0,.int .i64 0,.int .u32 0] 44):=⟨_,rfl⟩
 have kA:=Kp.alloc noB w (.cells #[ptr c.E] 37)
 have kB:=Kp.alloc noB (w.alloc (.cells #[ptr c.E] 37)) (.cells #[.int .u16 s] 24)
 have kC:=Kp.alloc noB ((w.alloc (.cells #[ptr c.E] 37)).alloc (.cells #[.int .u16 s] 24)) (.cells #[.int .u32 0,.int .u32 0,.int .i64 0,.bool false,.int .i64 0,.bool false,.bool false] 26)
 have kD:=Kp.alloc noB (((w.alloc (.cells #[ptr c.E] 37)).alloc (.cells #[.int .u16 s] 24)).alloc (.cells #[.int .u32 0,.int .u32 0,.int .i64 0,.bool false,.int .i64 0,.bool false,.bool false] 26)) (.cells #[.int .i64 0,.int .i64 0,.int .u32 0] 44)
 have k0:Kp noB w W0:=by rw [hW0];exact ((kA.trans kB).trans kC).trans kD
 have c2:W0.cell? ⟨X,0,none⟩=some (ptr c.E):=by rw [hW0,← hX];simp [go_sem]
 have c3:W0.cell? ⟨X+1,0,none⟩=some (.int .u16 s):=by rw [hW0,← hX];simp [go_sem]
 have d4:DsAt W0 (X+1+1) zD:=by
  have:=(MapKept.heap_alloc ((w.alloc (.cells #[ptr c.E] 37)).alloc (.cells #[.int .u16 s] 24)) (.cells #[.int .u32 0,.int .u32 0,.int .i64 0,.bool false,.int .i64 0,.bool false,.bool false] 26)).1
  simp only [World.size_alloc,hX] at this
  rw [hW0]
  exact DsAt.kp (d:=zD) this kD id
 have r5:RowT W0 (X+1+1+1) ⟨0,0,0⟩:=by
  have:=(MapKept.heap_alloc (((w.alloc (.cells #[ptr c.E] 37)).alloc (.cells #[.int .u16 s] 24)).alloc (.cells #[.int .u32 0,.int .u32 0,.int .i64 0,.bool false,.int .i64 0,.bool false,.bool false] 26)) (.cells #[.int .i64 0,.int .i64 0,.int .u32 0] 44)).1
  simp only [World.size_alloc,hX] at this
  rw [hW0]
  exact this
 have hs0:W0.heap.size=X+1+1+1+1:=by rw [hW0];simp [hX]
 have h0:=h.kp0 k0
 have HL:Hid _:=xLacks_no W0 c.E c.V c.bp x.cs h0.e
 have HB:Hid ((∀ j,c.all j→j < X)∧c.E < X):=⟨fun j hj=>by have:=h.in_all hj;omega,by have:=h.lt;omega⟩
 obtain ⟨W1,hW1⟩:∃ W,W=W0.alloc (.cells #[.int .u32 0,.int .u32 0,.int .i64 0,.bool false,.int .i64 0,.bool false,.bool false] 26):=⟨_,rfl⟩
 have k1:Kp noB W0 W1:=by rw [hW1];exact Kp.alloc _ _ _
 have d6:DsAt W1 (X+1+1+1+1) zD:=by rw [hW1,← hs0];exact (MapKept.heap_alloc W0 _).1
 have hs1:W1.heap.size=X+1+1+1+1+1:=by rw [hW1,World.size_alloc,hs0]
 have HD:Hid (DsAt W1 (X+1+1) zD):=d4.kp k1 id
 have HR:Hid (RowT W1 (X+1+1+1) ⟨0,0,0⟩):=r5.kp k1 id
 have HFc:Hid (FcAt W1 X (X+1) (X+1+1+1+1) c.E s):=⟨cell_kp c2 k1 id,cell_kp c3 k1 id,d6⟩
 have HX1:Hid _:=h0.kp0 k1
 have hk:∀ W,(callFunc 234 #[.pointer (some ⟨X,0,none⟩),.pointer (some ⟨X+1,0,none⟩),.pointer (some ⟨X+1+1+1+1,0,none⟩)]).run Tryz.prog W=.ok (.enter 234 #[.pointer (some ⟨X,0,none⟩),.pointer (some ⟨X+1,0,none⟩),.pointer (some ⟨X+1+1+1+1,0,none⟩)]) W:=fun W=>rfl
 have HK:Hid (Kp noB w W1):=k0.trans k1
 have HSz:Hid (w.heap.size=X∧W1.heap.size=X+1+1+1+1+1):=⟨hX,hs1⟩
 have nX:¬ c.all (X+1+1+1+1)∧X+1+1+1+1≠c.E:=⟨fun f=>by have:=HB.out.1 _ f;omega,by have:=HB.out.2;omega⟩
 have hSl:∀ j,(c.md j∨j=X+1+1+1+1)→j < W1.heap.size:=by
  intro j hj
  rcases hj with e | e
  ·have:=HB.out.1 j (.inr e);omega
  ·omega
 have HO:Hid (∃ (f:Ft) (d:Dsc),fdV (findO M x s)=.tuple #[d.val,f.val]∧Calls Tryz.prog 233 #[.func (.func 234) #[] #[.pointer (some ⟨X,0,none⟩),.pointer (some ⟨X+1,0,none⟩),.pointer (some ⟨X+1+1+1+1,0,none⟩)]] W1 fun e w'=>e=.returned f.val∧Kp (fun j=>c.md j∨j=X+1+1+1+1) W1 w'∧(∃ tn',tn'≤tn+4∧XAt w' c tn' x (findO M x s).m)∧DsAt w' (X+1+1+1+1) d):=by
  have hP:∀ (d:Dsc) (W W':World),((∃ tn',tn'≤tn+4∧XAt W c tn' x (findO M x s).m)∧DsAt W (X+1+1+1+1) d)→Kp (fun j=>W1.heap.size≤j) W W'→((∃ tn',tn'≤tn+4∧XAt W' c tn' x (findO M x s).m)∧DsAt W' (X+1+1+1+1) d):=by
   rintro d W W' ⟨⟨t,a,b⟩,q⟩ k
   exact ⟨⟨t,a,b.kp k (by have:=HB.out.2;omega) (fun j hj=>by have:=HB.out.1 j hj;omega)⟩,q.kp k (by omega)⟩
  cases hr:(findO M x s).r with
  | inl f=>
   refine ⟨f,zD,by unfold fdV;rw [hr],xfaultOfC_no W1 _ _ f (fun j=>c.md j∨j=X+1+1+1+1) (fun w'=>(∃ tn',tn'≤tn+4∧XAt w' c tn' x (findO M x s).m)∧DsAt w' (X+1+1+1+1) zD) hSl (hP zD) hk (fun W k=>find1_no W c tn x M (HX1.out.kp0 k) s hs htn _ _ _ (HFc.out.kp0 k) nX f hr)⟩
  | inr d=>
   refine ⟨noFt,d,by unfold fdV;rw [hr],xfaultOfC_ok W1 _ _ (fun j=>c.md j∨j=X+1+1+1+1) (fun w'=>(∃ tn',tn'≤tn+4∧XAt w' c tn' x (findO M x s).m)∧DsAt w' (X+1+1+1+1) d) hSl (hP d) hk (fun W k=>find1_ok W c tn x M (HX1.out.kp0 k) s hs htn _ _ _ (HFc.out.kp0 k) nX d hr)⟩
 clear h h0 k1 k0 kA kB kC kD c2 c3 d4 r5 d6 hk
 obtain ⟨f,d,hv,hc⟩:=HO.out
 have HV:Hid _:=hv
 have HC:Hid _:=hc
 clear hv hc HO
 have he2:(ptr c.E)=.pointer (some ⟨c.E,0,none⟩):=rfl
 rw [he2] at hW0
 go_enter Tryz.func191,Tryz.ntmps191
 go_wp2_with fail
 rw [← hW0]
 refine Calls.mono HL.out ?_;rintro e w' ⟨rfl,hw⟩;replace hw:=hw.symm;subst hw
 have HX:Hid _:=hX
 clear hW0 hX
 go_wp2_with fail
 rw [← hW1]
 refine Calls.mono HC.out ?_;rintro e w2 ⟨rfl,k2,p2,d2⟩
 have nmd:∀ j,X≤j→¬ c.md j:=fun j hj f=>by have:=HB.out.1 j (.inr f);omega
 have e4:=HD.out.kp k2 (fun e=>e.elim (nmd _ (by omega)) (fun e=>by omega))
 have r5:=HR.out.kp k2 (fun e=>e.elim (nmd _ (by omega)) (fun e=>by omega))
 obtain ⟨A,hA⟩:∃ A,A=w2.heap.size:=⟨_,rfl⟩
 have hAX:X+1+1+1+1 < A:=by rw [hA];exact d2.lt
 obtain ⟨W3,hW3⟩:∃ W,W=w2.alloc (.cells #[.int .i64 f.vec,.int .i64 f.code,.int .u32 f.cr2] 44):=⟨_,rfl⟩
 have k3:Kp noB w2 W3:=by rw [hW3];exact Kp.alloc _ _ _
 have rA:RowT W3 A f:=by rw [hW3,hA];exact (MapKept.heap_alloc w2 _).1
 have HP:Hid (Kp (fun j=>c.md j∨X≤j) w W3∧∃ tn',tn'≤tn+4∧XAt W3 c tn' x (findO M x s).m):=by
  refine ⟨((HK.out.mono (fun _ _ f=>f.elim)).trans (k2.mono (fun j _ e=>e.elim .inl (fun e=>.inr (by omega))))).trans (k3.mono (fun _ _ f=>f.elim)),?_⟩
  obtain ⟨t,a,b⟩:=p2
  exact ⟨t,a,b.kp0 k3⟩
 replace e4:=e4.kp k3 id
 replace r5:=r5.kp k3 id
 replace d2:=d2.kp k3 id
 clear HC HL HD HR HFc HX1 HK p2 k2 k3 hs0 hs1 hSl nX
 unfold Ft.val
 go_wp2_with fail
 rw [← hW3,← hA]
 clear hW3 hA hW1
 obtain ⟨g0,g1,g2,g3,g4,g5,g6⟩:=d2.c
 obtain ⟨u0,u1,u2,u3,u4,u5,u6⟩:=e4.c
 unfold zD at u0 u1 u2 u3 u4 u5 u6
 have a0:=rA.c0;have a1:=rA.c1;have a2:=rA.c2
 have c0:=r5.c0;have c1:=r5.c1;have c2:=r5.c2
 have z0:=e4.fz 0;have z1:=e4.fz 1;have z2:=e4.fz 2;have z3:=e4.fz 3;have z4:=e4.fz 4;have z5:=e4.fz 5;have z6:=e4.fz 6
 have y0:=r5.fz 0;have y1:=r5.fz 1;have y2:=r5.fz 2
 have e4':DsAt W3 (X+1+1) zD:=e4
 have r5':RowT W3 (X+1+1+1) ⟨0,0,0⟩:=r5
 have eE:=e4'.set d
 have kE:=kp_putD W3 (X+1+1) d
 have rE:=(r5'.kp kE (by omega)).set f
 have kF:=kp_setFt (putD W3 (X+1+1) d) (X+1+1+1) f
 have eF:=eE.kp kF (by omega)
 have HPF:Hid (Kp (fun j=>c.md j∨X≤j) w (setFt (putD W3 (X+1+1) d) (X+1+1+1) f)∧∃ tn',tn'≤tn+4∧XAt (setFt (putD W3 (X+1+1) d) (X+1+1+1) f) c tn' x (findO M x s).m):=by
  obtain ⟨kk0,t,a,b0⟩:=HP.out
  have kk:=kk0
  have b:=b0
  refine ⟨(kk.trans (kE.mono (fun j _ e=>.inr (by omega)))).trans (kF.mono (fun j _ e=>.inr (by omega))),t,a,(b.kp kE (by have:=HB.out.2;omega) (fun j hj=>by have:=HB.out.1 j hj;omega)).kp kF (by have:=HB.out.2;omega) (fun j hj=>by have:=HB.out.1 j hj;omega)⟩
 have b0:=rE.c0;have b1:=rE.c1;have b2:=rE.c2
 obtain ⟨h0,h1,h2,h3,h4,h5,h6⟩:=eF.c
 unfold setFt putD at HPF b0 b1 b2 h0 h1 h2 h3 h4 h5 h6
 clear eE kE rE kF eF r5 e4 d2 rA HP e4' r5'
 go_region
 go_wp2
 refine bodyPost_ret (v:=.tuple #[d.val,f.val]) ?_ rfl ⟨by rw [HV.out],?_⟩
 ·unfold Dsc.val Ft.val
  simp [results,Tryz.results191,go_sem,b0,b1,b2,h0,h1,h2,h3,h4,h5,h6]
 ·refine Pe.kp0 ?_ (Kp.refl noB _).drew
  obtain ⟨kk,q⟩:=HPF.out
  exact ⟨q,⟨kk.os,kk.tape,kk.output,kk.size,fun i hi hn=>kk.block i hi (fun e=>e.elim hn (fun e=>by have:=HSz.out.1;omega))⟩⟩
theorem own_any (w:World) (c:Ev) (tn T:Nat) (x n:Cu) (M:Mem) (h:Tn w c tn T x n M) (l z:Int) (hl:U32 l) (htn:tn < 18446744073709551600):
  Calls Tryz.prog 144 #[.pointer (some ⟨T,0,none⟩),.int .u32 l,.int .i64 z] w fun e w'=>e=OE vI32 (sysO M x.cp l z)∧Px w c tn T x n (sysO M x.cp l z).m 2 w':=by
 obtain ⟨W0,hW0⟩:∃ W,W=w:=⟨_,rfl⟩
 rw [← hW0] at h
 have h0:=h
 obtain ⟨q,hq⟩:∃ q,q=sysQ M x.cp l z false:=⟨_,rfl⟩
 have HP:Hid (Pe W0 c tn x M 0 W0.drew):=⟨⟨tn,Nat.le_refl _,h0.a.kp0 (Kp.refl noB W0).drew⟩,((Kp.refl noB W0).drew).mono (fun _ _ f=>f.elim)⟩
 have HW:Hid ((∀ j,c.all j→j < W0.heap.size)∧c.E < W0.heap.size):=⟨fun j hj=>h0.a.in_all hj,h0.a.lt⟩
 have nT:¬ c.md T:=fun f=>h0.nV (.inr f)
 have HT:Hid (∀ W,Kp c.md W0 W→W.cell? ⟨T,0,none⟩=some (.pointer (some ⟨c.E,0,none⟩))):=fun W k=>(h0.t.kp k nT).e
 have HE:Hid (∀ W {M' k},Pe W0 c tn x M' k W→W.cell? ⟨c.E,4,none⟩=some (.int .u32 (x.r 4))):=fun W _ _ p=>by obtain ⟨⟨t,_,a⟩,_⟩:=p;exact a.c rfl
 have HWas:Hid (∀ W,Kp c.md W0 W→Calls Tryz.prog 85 #[.pointer (some ⟨T,0,none⟩)] W fun e w'=>e=.returned (.pointer (some ⟨c.E,0,none⟩))∧w'=W):=fun W k=>cWas_any W T c.E ((h0.t.kp k nT).e) (Nat.lt_of_lt_of_le h0.a.lt k.size)
 have HC:Hid (∀ W t,t≤tn+0→XAt W c t x M→Calls Tryz.prog 189 #[.pointer (some ⟨c.V,0,none⟩),.pointer (some ⟨c.E,0,none⟩),.int .u32 l,.int .i64 z] W fun e w'=>e=.returned (.tuple #[.int .u32 (sysQ M x.cp l z false).val,(sysQ M x.cp l z false).ft.val])∧Pe W c t x (sysQ M x.cp l z false).m 2 w'):=fun W t ht q=>xsys W c t x M q l z hl (by omega)
 rw [← hq] at HC
 have HQ:Hid _:=hq
 have HG:Hid (sysO M x.cp l z=q.ou):=by rw [hq];rfl
 have HF:Hid (∀ W,Pe W0 c tn x q.m 2 W→Px W0 c tn T x n (sysO M x.cp l z).m 2 W):=fun W p=>by
  rw [HG.out]
  obtain ⟨⟨t,a,b⟩,kk⟩:=p
  exact ⟨⟨t,a,⟨b,h0.t.kp kk nT,h0.nE,h0.nV,h0.ok⟩⟩,kk⟩
 rw [← hW0]
 clear hq h h0 nT hW0
 go_enter Tryz.func144,Tryz.ntmps144
 go_upto_region 1 with fail
 refine OrdFree.region_vals (τ:=Nat) (fun t=>[.pointer (some ⟨T,0,none⟩),.pointer (some ⟨T,0,none⟩),.pointer (some ⟨T,0,none⟩),.pointer (some ⟨c.E,0,none⟩),.pointer (some ⟨c.E,0,none⟩),.pointer (some ⟨c.E,83,none⟩),.pointer (some ⟨c.V,0,none⟩),.pointer (some ⟨T,0,none⟩),.pointer (some ⟨c.E,0,none⟩),.int .u32 l,.int .i64 z,.tuple #[.int .u32 q.val,q.ft.val],.tuple #[.int .u32 q.val,q.ft.val],.int .u32 q.val,q.ft.val,.pointer (some ⟨t,0,none⟩),.int .u32 q.val,undef]) (fun t listed W=>IA W0 c tn 0 x M q.m ⟨0,0,0⟩ q.ft (listed.getD 11 false) (listed.getD 15 false) (listed.getD 17 false) t W) 0 (by kernel_rfl) (by kernel_rfl) (by kernel_rfl) (by kernel_rfl) (fun _=>rfl) (fun t=>by simp only [OrdFree.puts,Act.put,List.setIfInBounds_toArray,List.set_cons_zero,List.set_cons_succ];rfl) ⟨HP.out,fun f=>(by cases f)⟩ ?_ ?_
 ·refine ⟨?_,?_,?_,?_,?_,?_,?_,?_,?_,?_,?_,?_,?_,?_,?_,?_,?_,?_,trivial⟩
  all_goals (intro t listed W hz hSh hl hI hb K hK hK0;have hcm:=IA.mp hI;have hct:=HT.out W (IA.stt hI).2;have hce:=HE.out W (IA.stt hI))
  case refine_9=>
   have hw:=HWas.out W (IA.stt hI).2
   go_simp
   refine Calls.mono hw ?_;rintro e w' ⟨rfl,hq⟩;replace hq:=hq.symm;subst hq
   exact hK0 W (by show IA _ _ _ _ _ _ _ _ _ _ _ _ _ _;rw [getD_set_ne false (by decide),getD_set_ne false (by decide),getD_set_ne false (by decide)];exact hI)
  case refine_12=>
   rw [hl] at hI
   obtain ⟨⟨t0,ht0,hx⟩,_⟩:=hI.stt
   have hc:=HC.out W t0 ht0 hx
   clear hx
   go_simp
   refine Calls.mono hc ?_;rintro e w' ⟨rfl,p⟩
   exact hK0 w' (by show IA _ _ _ _ _ _ _ _ _ _ _ _ _ _;rw [getD_set_self (by rw [hz];exact (by decide:11 < 18)),getD_set_ne false (by decide),getD_set_ne false (by decide)];exact hI.call HW.out.1 ht0 p)
  case refine_16=>
   have nst:=OrdFree.shut_no (j:=17) hSh hl (by kernel_rfl)
   rw [nst] at hI
   exact OrdFree.wp_of_run (v:=.pointer (some ⟨W.heap.size,0,none⟩)) (w':=W.alloc (.cells #[.int .i64 0,.int .i64 0,.int .u32 0] 44)) (by kernel_rfl) (hK _ _ ⟨W.heap.size,rfl,OrdFree.vals_two (i:=15) (k:=15) (u:=.pointer (some ⟨W.heap.size,0,none⟩)) (v:=.pointer (some ⟨W.heap.size,0,none⟩)) rfl hl hl,by show IA _ _ _ _ _ _ _ _ _ _ _ _ _ _;rw [getD_set_self (by rw [hz];exact (by decide:15 < 18)),getD_set_ne false (by decide),getD_set_ne false (by decide),nst];exact hI.alloc⟩)
  case refine_18=>
   have ha:=hb { on:=15,ground:=.data } (by simp) rfl
   have he:=hb { on:=14,ground:=.data } (by simp) rfl
   have h8:listed.getD 11 false=true:=by
    cases h:listed.getD 11 false with
    | true=>rfl
    | false=>
     have n9:=OrdFree.shut_no (j:=12) hSh h (by kernel_rfl)
     have n11:=OrdFree.shut_no (j:=14) hSh n9 (by kernel_rfl)
     rw [he] at n11;cases n11
   rw [h8,ha,hl] at hI
   have r:=(hI.row rfl).2
   have c0:=r.c0;have c1:=r.c1;have c2:=r.c2
   have f0:=r.fz 0;have f1:=r.fz 1;have f2:=r.fz 2
   have HS:Hid _:=hI.store HW.out.1 HW.out.2
   clear r hI
   unfold setFt at HS
   unfold Ft.val
   go_simp
   exact hK0 _ (by show IA _ _ _ _ _ _ _ _ _ _ _ _ _ _;rw [getD_set_self (by rw [hz];exact (by decide:17 < 18)),getD_set_ne false (by decide),getD_set_ne false (by decide),h8,ha];exact HS.out)
  all_goals (go_simp;exact hK0 W (by show IA _ _ _ _ _ _ _ _ _ _ _ _ _ _;rw [getD_set_ne false (by decide),getD_set_ne false (by decide),getD_set_ne false (by decide)];exact hI))
 rename_i Kx hKx
 rintro X listed W1 hal hI
 have hI':IA W0 c tn 0 x M q.m ⟨0,0,0⟩ q.ft (listed.getD 11 false) (listed.getD 15 false) (listed.getD 17 false) X W1:=hI
 rw [hal 11 (by exact (by decide:11 < 18)),hal 15 (by exact (by decide:15 < 18)),hal 17 (by exact (by decide:17 < 18))] at hI'
 obtain ⟨hXl,rX⟩:=hI'.row rfl
 have P1:Hid (Pe W0 c tn x q.m 2 W1):=hI'.stt
 clear hI hI' hal HC HP
 refine hKx _ _ ?_
 have e0:=rX.c0;have e1:=rX.c1;have e2:=rX.c2
 clear rX
 cases hf1:q.f with
 | some f=>
  have hft:=ft_no hf1
  have HR:Hid (∀ W,Calls Tryz.prog 154 #[f.val] W fun e w'=>e=.panicked (pan f)∧Kp noB W w'):=fun W=>cRaise_no W f (by rw [HQ.out] at hf1;exact (sysQ_ft hf1).ne)
  rw [hft] at e0 e1 e2
  unfold Ft.val at HR
  go_wp2_with (go_at_call 154;refine Calls.mono (HR.out _) ?_;rintro e w2 ⟨rfl,k2⟩)
  have hfo:q.ou=⟨q.m,.inl f⟩:=ou_no hf1
  exact ⟨rfl,by rw [HG.out,hfo];rfl,HF.out _ (P1.out.kp0 k2)⟩
 | none=>
  have hft:=ft_ok hf1
  have HR:Hid (∀ W,Calls Tryz.prog 154 #[noFt.val] W fun e w'=>e=.returned (.tuple #[])∧Kp noB W w'):=fun W=>cRaise_ok W
  rw [hft] at e0 e1 e2
  unfold Ft.val noFt at HR
  unfold noFt at e0 e1 e2
  go_wp2_with (go_at_call 154;refine Calls.mono (HR.out _) ?_;rintro e w2 ⟨rfl,k2⟩)
  have hfo:q.ou=⟨q.m,.inr q.val⟩:=ou_ok hf1
  go_ret
  exact ⟨by rw [HG.out,hfo];rfl,HF.out _ (P1.out.kp0 k2)⟩
def a32n (x:Cu) (k z:Int):Int:=a32 (x.r 4) (k*z)
theorem pushed_any (w:World) (c:Ev) (tn T:Nat) (x n:Cu) (M:Mem) (h:Tn w c tn T x n M) (k z:Int) (hk:0≤k∧k < 8) (hz:z=2∨z=4) (htn:tn < 18446744073709551600):
  Calls Tryz.prog 86 #[.pointer (some ⟨T,0,none⟩),.int .i64 k,.int .i64 z] w fun e w'=>e=OE vI32 (lodO M x.cp (a32n x k z) z)∧Px w c tn T x n (lodO M x.cp (a32n x k z) z).m 2 w':=by
 obtain ⟨W0,hW0⟩:∃ W,W=w:=⟨_,rfl⟩
 rw [← hW0] at h
 have h0:=h
 have w1:IntKind.i64.wrap (k*z)=k*z:=by have:=IntKind.wrap_i64 (k*z);rcases hz with e | e<;>subst e<;>omega
 have w2:IntKind.u32.wrap (k*z)=k*z:=by have:=IntKind.wrap_u32 (k*z);rcases hz with e | e<;>subst e<;>omega
 have w3:IntKind.u32.wrap (x.r 4+k*z)=a32n x k z:=a32_wrap _ _
 obtain ⟨q,hq⟩:∃ q,q=segQ M x.cp 2 (a32n x k z) z false:=⟨_,rfl⟩
 have HP:Hid (Pe W0 c tn x M 0 W0.drew):=⟨⟨tn,Nat.le_refl _,h0.a.kp0 (Kp.refl noB W0).drew⟩,((Kp.refl noB W0).drew).mono (fun _ _ f=>f.elim)⟩
 have HW:Hid ((∀ j,c.all j→j < W0.heap.size)∧c.E < W0.heap.size):=⟨fun j hj=>h0.a.in_all hj,h0.a.lt⟩
 have nT:¬ c.md T:=fun f=>h0.nV (.inr f)
 have HT:Hid (∀ W,Kp c.md W0 W→W.cell? ⟨T,0,none⟩=some (.pointer (some ⟨c.E,0,none⟩))):=fun W k=>(h0.t.kp k nT).e
 have HE:Hid (∀ W {M' k},Pe W0 c tn x M' k W→W.cell? ⟨c.E,4,none⟩=some (.int .u32 (x.r 4))):=fun W _ _ p=>by obtain ⟨⟨t,_,a⟩,_⟩:=p;exact a.c rfl
 have HWas:Hid (∀ W,Kp c.md W0 W→Calls Tryz.prog 85 #[.pointer (some ⟨T,0,none⟩)] W fun e w'=>e=.returned (.pointer (some ⟨c.E,0,none⟩))∧w'=W):=fun W k=>cWas_any W T c.E ((h0.t.kp k nT).e) (Nat.lt_of_lt_of_le h0.a.lt k.size)
 have HC:Hid (∀ W t,t≤tn+0→XAt W c t x M→Calls Tryz.prog 153 #[.pointer (some ⟨c.V,0,none⟩),.pointer (some ⟨c.E,0,none⟩),.int .i64 2,.int .u32 (a32n x k z),.int .i64 z] W fun e w'=>e=.returned (.tuple #[.int .u32 (segQ M x.cp 2 (a32n x k z) z false).val,(segQ M x.cp 2 (a32n x k z) z false).ft.val])∧Pe W c t x (segQ M x.cp 2 (a32n x k z) z false).m 2 w'):=fun W t ht q=>xload W c t x M q (a32n x k z) z (a32_bd _ _) (by omega)
 rw [← hq] at HC
 have HQ:Hid _:=hq
 have HG:Hid (lodO M x.cp (a32n x k z) z=q.ou):=by rw [hq];rfl
 have HF:Hid (∀ W,Pe W0 c tn x q.m 2 W→Px W0 c tn T x n (lodO M x.cp (a32n x k z) z).m 2 W):=fun W p=>by
  rw [HG.out]
  obtain ⟨⟨t,a,b⟩,kk⟩:=p
  exact ⟨⟨t,a,⟨b,h0.t.kp kk nT,h0.nE,h0.nV,h0.ok⟩⟩,kk⟩
 rw [← hW0]
 clear hq h h0 nT hW0
 go_enter Tryz.func86,Tryz.ntmps86
 go_upto_region 1 with fail
 refine OrdFree.region_vals (τ:=Nat) (fun t=>[.pointer (some ⟨T,0,none⟩),.pointer (some ⟨T,0,none⟩),.pointer (some ⟨T,0,none⟩),.pointer (some ⟨c.E,0,none⟩),.pointer (some ⟨c.E,0,none⟩),.pointer (some ⟨c.E,83,none⟩),.pointer (some ⟨c.V,0,none⟩),.pointer (some ⟨T,0,none⟩),.pointer (some ⟨c.E,0,none⟩),.pointer (some ⟨T,0,none⟩),.pointer (some ⟨c.E,0,none⟩),.pointer (some ⟨c.E,0,none⟩),.pointer (some ⟨c.E,0,none⟩),.pointer (some ⟨c.E,4,none⟩),.int .u32 (x.r 4),.int .i64 k,.int .i64 z,.int .i64 (k*z),.int .u32 (k*z),.int .u32 (a32n x k z),.int .i64 z,.tuple #[.int .u32 q.val,q.ft.val],.tuple #[.int .u32 q.val,q.ft.val],.int .u32 q.val,q.ft.val,.pointer (some ⟨t,0,none⟩),.int .u32 q.val,undef]) (fun t listed W=>IA W0 c tn 0 x M q.m ⟨0,0,0⟩ q.ft (listed.getD 21 false) (listed.getD 25 false) (listed.getD 27 false) t W) 0 (by kernel_rfl) (by kernel_rfl) (by kernel_rfl) (by kernel_rfl) (fun _=>rfl) (fun t=>by simp only [OrdFree.puts,Act.put,List.setIfInBounds_toArray,List.set_cons_zero,List.set_cons_succ];rfl) ⟨HP.out,fun f=>(by cases f)⟩ ?_ ?_
 ·refine ⟨?_,?_,?_,?_,?_,?_,?_,?_,?_,?_,?_,?_,?_,?_,?_,?_,?_,?_,?_,?_,?_,?_,?_,?_,?_,?_,?_,?_,trivial⟩
  all_goals (intro t listed W hz hSh hl hI hb K hK hK0;have hcm:=IA.mp hI;have hct:=HT.out W (IA.stt hI).2;have hce:=HE.out W (IA.stt hI))
  case refine_9=>
   have hw:=HWas.out W (IA.stt hI).2
   go_simp
   refine Calls.mono hw ?_;rintro e w' ⟨rfl,hq⟩;replace hq:=hq.symm;subst hq
   exact hK0 W (by show IA _ _ _ _ _ _ _ _ _ _ _ _ _ _;rw [getD_set_ne false (by decide),getD_set_ne false (by decide),getD_set_ne false (by decide)];exact hI)
  case refine_11=>
   have hw:=HWas.out W (IA.stt hI).2
   go_simp
   refine Calls.mono hw ?_;rintro e w' ⟨rfl,hq⟩;replace hq:=hq.symm;subst hq
   exact hK0 W (by show IA _ _ _ _ _ _ _ _ _ _ _ _ _ _;rw [getD_set_ne false (by decide),getD_set_ne false (by decide),getD_set_ne false (by decide)];exact hI)
  case refine_22=>
   rw [hl] at hI
   obtain ⟨⟨t0,ht0,hx⟩,_⟩:=hI.stt
   have hc:=HC.out W t0 ht0 hx
   clear hx
   go_simp
   refine Calls.mono hc ?_;rintro e w' ⟨rfl,p⟩
   exact hK0 w' (by show IA _ _ _ _ _ _ _ _ _ _ _ _ _ _;rw [getD_set_self (by rw [hz];exact (by decide:21 < 28)),getD_set_ne false (by decide),getD_set_ne false (by decide)];exact hI.call HW.out.1 ht0 p)
  case refine_26=>
   have nst:=OrdFree.shut_no (j:=27) hSh hl (by kernel_rfl)
   rw [nst] at hI
   exact OrdFree.wp_of_run (v:=.pointer (some ⟨W.heap.size,0,none⟩)) (w':=W.alloc (.cells #[.int .i64 0,.int .i64 0,.int .u32 0] 44)) (by kernel_rfl) (hK _ _ ⟨W.heap.size,rfl,OrdFree.vals_two (i:=25) (k:=25) (u:=.pointer (some ⟨W.heap.size,0,none⟩)) (v:=.pointer (some ⟨W.heap.size,0,none⟩)) rfl hl hl,by show IA _ _ _ _ _ _ _ _ _ _ _ _ _ _;rw [getD_set_self (by rw [hz];exact (by decide:25 < 28)),getD_set_ne false (by decide),getD_set_ne false (by decide),nst];exact hI.alloc⟩)
  case refine_28=>
   have ha:=hb { on:=25,ground:=.data } (by simp) rfl
   have he:=hb { on:=24,ground:=.data } (by simp) rfl
   have h8:listed.getD 21 false=true:=by
    cases h:listed.getD 21 false with
    | true=>rfl
    | false=>
     have n9:=OrdFree.shut_no (j:=22) hSh h (by kernel_rfl)
     have n11:=OrdFree.shut_no (j:=24) hSh n9 (by kernel_rfl)
     rw [he] at n11;cases n11
   rw [h8,ha,hl] at hI
   have r:=(hI.row rfl).2
   have c0:=r.c0;have c1:=r.c1;have c2:=r.c2
   have f0:=r.fz 0;have f1:=r.fz 1;have f2:=r.fz 2
   have HS:Hid _:=hI.store HW.out.1 HW.out.2
   clear r hI
   unfold setFt at HS
   unfold Ft.val
   go_simp
   exact hK0 _ (by show IA _ _ _ _ _ _ _ _ _ _ _ _ _ _;rw [getD_set_self (by rw [hz];exact (by decide:27 < 28)),getD_set_ne false (by decide),getD_set_ne false (by decide),h8,ha];exact HS.out)
  all_goals (go_simp;exact hK0 W (by show IA _ _ _ _ _ _ _ _ _ _ _ _ _ _;rw [getD_set_ne false (by decide),getD_set_ne false (by decide),getD_set_ne false (by decide)];exact hI))
 rename_i Kx hKx
 rintro X listed W1 hal hI
 have hI':IA W0 c tn 0 x M q.m ⟨0,0,0⟩ q.ft (listed.getD 21 false) (listed.getD 25 false) (listed.getD 27 false) X W1:=hI
 rw [hal 21 (by exact (by decide:21 < 28)),hal 25 (by exact (by decide:25 < 28)),hal 27 (by exact (by decide:27 < 28))] at hI'
 obtain ⟨hXl,rX⟩:=hI'.row rfl
 have P1:Hid (Pe W0 c tn x q.m 2 W1):=hI'.stt
 clear hI hI' hal HC HP
 refine hKx _ _ ?_
 have e0:=rX.c0;have e1:=rX.c1;have e2:=rX.c2
 clear rX
 cases hf1:q.f with
 | some f=>
  have hft:=ft_no hf1
  have HR:Hid (∀ W,Calls Tryz.prog 154 #[f.val] W fun e w'=>e=.panicked (pan f)∧Kp noB W w'):=fun W=>cRaise_no W f (by rw [HQ.out] at hf1;exact (segQ_ft hf1).ne)
  rw [hft] at e0 e1 e2
  unfold Ft.val at HR
  go_wp2_with (go_at_call 154;refine Calls.mono (HR.out _) ?_;rintro e w2 ⟨rfl,k2⟩)
  have hfo:q.ou=⟨q.m,.inl f⟩:=ou_no hf1
  exact ⟨rfl,by rw [HG.out,hfo];rfl,HF.out _ (P1.out.kp0 k2)⟩
 | none=>
  have hft:=ft_ok hf1
  have HR:Hid (∀ W,Calls Tryz.prog 154 #[noFt.val] W fun e w'=>e=.returned (.tuple #[])∧Kp noB W w'):=fun W=>cRaise_ok W
  rw [hft] at e0 e1 e2
  unfold Ft.val noFt at HR
  unfold noFt at e0 e1 e2
  go_wp2_with (go_at_call 154;refine Calls.mono (HR.out _) ?_;rintro e w2 ⟨rfl,k2⟩)
  have hfo:q.ou=⟨q.m,.inr q.val⟩:=ou_ok hf1
  go_ret
  exact ⟨by rw [HG.out,hfo];rfl,HF.out _ (P1.out.kp0 k2)⟩
end Go.Proofs.YtacgmoikegcopaaGreatDoor.Rm
namespace Go.Proofs.YtacgmoikegcopaaGreatDoor.Sg
open Go.ChangeShapes Go.WideShapes Go.ChangeAt Go.RowKit
set_option linter.unusedVariables false
set_option maxRecDepth 20000
theorem field_W (C F R Wt D:Bool) (w:World):(Instr.field 284 (.agg #[.bool C,.bool F,.bool R,.bool Wt,.bool D]) 3).run Tryz.prog w=.ok (.bool Wt) w:=by kernel_rfl
def fsX (Wt p:Bool) (r d c:Int):Int:=if r=c∧d=c∧Wt=true then presB p 12 else 13
set_option maxHeartbeats 1000000 in
theorem fs_1 (b l t:Int) (s:Bool) (d:Int) (p g:Bool) (x r c:Int) (w:World) (C F R Wt D:Bool)
  (H:Hid (∀ w:World,Calls Tryz.prog 192 #[.agg #[.int .u32 b,.int .u32 l,.int .i64 t,.bool s,.int .i64 d,.bool p,.bool g]] w fun e w'=>e=.returned (.agg #[.bool C,.bool F,.bool R,.bool Wt,.bool D])∧Grown w w')) (HR:Hid (∀ w:World,Calls Tryz.prog 194 #[.int .u16 x] w fun e w'=>e=.returned (.int .i64 r)∧w'=w))
  (h1:¬ r=c):
  Calls Tryz.prog 236 #[.int .u16 x,.agg #[.int .u32 b,.int .u32 l,.int .i64 t,.bool s,.int .i64 d,.bool p,.bool g],.int .i64 c] w fun e w'=>e=.returned (.int .i64 13)∧Grown w w':=by
 go_enter Tryz.func236,Tryz.ntmps236
 go_wp2_with fail
 refine (HR.out _).mono ?_;rintro e w' ⟨rfl,hw⟩;replace hw:=hw.symm;subst hw
 go_wp2
 go_ret
 exact ⟨rfl,Grown.alloc (Grown.refl _) _ _⟩
set_option maxHeartbeats 1000000 in
theorem fs_2 (b l t:Int) (s:Bool) (d:Int) (p g:Bool) (x r c:Int) (w:World) (C F R Wt D:Bool)
  (H:Hid (∀ w:World,Calls Tryz.prog 192 #[.agg #[.int .u32 b,.int .u32 l,.int .i64 t,.bool s,.int .i64 d,.bool p,.bool g]] w fun e w'=>e=.returned (.agg #[.bool C,.bool F,.bool R,.bool Wt,.bool D])∧Grown w w')) (HR:Hid (∀ w:World,Calls Tryz.prog 194 #[.int .u16 x] w fun e w'=>e=.returned (.int .i64 r)∧w'=w))
  (h1:r=c) (h2:¬ d=c):
  Calls Tryz.prog 236 #[.int .u16 x,.agg #[.int .u32 b,.int .u32 l,.int .i64 t,.bool s,.int .i64 d,.bool p,.bool g],.int .i64 c] w fun e w'=>e=.returned (.int .i64 13)∧Grown w w':=by
 subst h1
 have e2:(d != r)=true:=by simpa using h2
 go_enter Tryz.func236,Tryz.ntmps236
 go_wp2_with fail
 refine (HR.out _).mono ?_;rintro e w' ⟨rfl,hw⟩;replace hw:=hw.symm;subst hw
 go_wp2
 go_ret
 exact ⟨rfl,Grown.alloc (Grown.refl _) _ _⟩
set_option maxHeartbeats 1000000 in
theorem fs_3 (b l t:Int) (s:Bool) (d:Int) (p g:Bool) (x r c:Int) (w:World) (C F R Wt D:Bool)
  (H:Hid (∀ w:World,Calls Tryz.prog 192 #[.agg #[.int .u32 b,.int .u32 l,.int .i64 t,.bool s,.int .i64 d,.bool p,.bool g]] w fun e w'=>e=.returned (.agg #[.bool C,.bool F,.bool R,.bool Wt,.bool D])∧Grown w w')) (HR:Hid (∀ w:World,Calls Tryz.prog 194 #[.int .u16 x] w fun e w'=>e=.returned (.int .i64 r)∧w'=w))
  (h1:r=c) (h2:d=c) (h3:Wt=false):
  Calls Tryz.prog 236 #[.int .u16 x,.agg #[.int .u32 b,.int .u32 l,.int .i64 t,.bool s,.int .i64 d,.bool p,.bool g],.int .i64 c] w fun e w'=>e=.returned (.int .i64 13)∧Grown w w':=by
 subst h1 h2 h3
 have hfw:=field_W C F R
 go_enter Tryz.func236,Tryz.ntmps236
 go_wp2_with fail
 refine (HR.out _).mono ?_;rintro e w' ⟨rfl,hw⟩;replace hw:=hw.symm;subst hw
 go_wp2_with fail
 refine (H.out _).mono ?_;rintro e w1 ⟨rfl,hg⟩
 go_wp2
 go_ret
 exact ⟨rfl,Grown.trans (Grown.alloc (Grown.refl _) _ _) hg⟩
set_option maxHeartbeats 1000000 in
theorem fs_4 (b l t:Int) (s:Bool) (d:Int) (p g:Bool) (x r c:Int) (w:World) (C F R Wt D:Bool)
  (H:Hid (∀ w:World,Calls Tryz.prog 192 #[.agg #[.int .u32 b,.int .u32 l,.int .i64 t,.bool s,.int .i64 d,.bool p,.bool g]] w fun e w'=>e=.returned (.agg #[.bool C,.bool F,.bool R,.bool Wt,.bool D])∧Grown w w')) (HR:Hid (∀ w:World,Calls Tryz.prog 194 #[.int .u16 x] w fun e w'=>e=.returned (.int .i64 r)∧w'=w))
  (h1:r=c) (h2:d=c) (h3:Wt=true):
  Calls Tryz.prog 236 #[.int .u16 x,.agg #[.int .u32 b,.int .u32 l,.int .i64 t,.bool s,.int .i64 d,.bool p,.bool g],.int .i64 c] w fun e w'=>e=.returned (.int .i64 (presB p 12))∧Grown w w':=by
 subst h1 h2 h3
 have hfw:=field_W C F R
 go_enter Tryz.func236,Tryz.ntmps236
 go_wp2_with fail
 refine (HR.out _).mono ?_;rintro e w' ⟨rfl,hw⟩;replace hw:=hw.symm;subst hw
 go_wp2_with fail
 refine (H.out _).mono ?_;rintro e w1 ⟨rfl,hg⟩
 have c0:w1.cell? ⟨w.heap.size,0,none⟩=some (.int .u32 b):=Grown.holds hg (by simp [go_sem])
 have c1:w1.cell? ⟨w.heap.size,1,none⟩=some (.int .u32 l):=Grown.holds hg (by simp [go_sem])
 have c2:w1.cell? ⟨w.heap.size,2,none⟩=some (.int .i64 t):=Grown.holds hg (by simp [go_sem])
 have c3:w1.cell? ⟨w.heap.size,3,none⟩=some (.bool s):=Grown.holds hg (by simp [go_sem])
 have c4:w1.cell? ⟨w.heap.size,4,none⟩=some (.int .i64 d):=Grown.holds hg (by simp [go_sem])
 have c5:w1.cell? ⟨w.heap.size,5,none⟩=some (.bool p):=Grown.holds hg (by simp [go_sem])
 have c6:w1.cell? ⟨w.heap.size,6,none⟩=some (.bool g):=Grown.holds hg (by simp [go_sem])
 have hlt:w.heap.size < w1.heap.size:=by have:=hg.2.2;simp at this;omega
 go_wp2_with (go_at_call 195;refine (ifPresent_any _ _ _ _ _ _ _ _ _).mono ?_;rintro e w2 ⟨rfl,hg2⟩)
 go_ret
 exact ⟨rfl,Grown.trans (Grown.trans (Grown.alloc (Grown.refl _) _ _) hg) hg2⟩
set_option maxHeartbeats 1000000 in
theorem fs_any (b l t:Int) (s:Bool) (d:Int) (p g:Bool) (x r c:Int) (w:World) (C F R Wt D:Bool)
  (H:Hid (∀ w:World,Calls Tryz.prog 192 #[.agg #[.int .u32 b,.int .u32 l,.int .i64 t,.bool s,.int .i64 d,.bool p,.bool g]] w fun e w'=>e=.returned (.agg #[.bool C,.bool F,.bool R,.bool Wt,.bool D])∧Grown w w')) (HR:Hid (∀ w:World,Calls Tryz.prog 194 #[.int .u16 x] w fun e w'=>e=.returned (.int .i64 r)∧w'=w))
   :
  Calls Tryz.prog 236 #[.int .u16 x,.agg #[.int .u32 b,.int .u32 l,.int .i64 t,.bool s,.int .i64 d,.bool p,.bool g],.int .i64 c] w fun e w'=>e=.returned (.int .i64 (fsX Wt p r d c))∧Grown w w':=by
 by_cases h1:r=c
 ·by_cases h2:d=c
  ·cases h3:Wt
   ·rw [show fsX false p r d c=13 by simp [fsX]]
    exact fs_3 b l t s d p g x r c w C F R Wt D H HR h1 h2 h3
   ·rw [show fsX true p r d c=presB p 12 by simp [fsX,h1,h2]]
    exact fs_4 b l t s d p g x r c w C F R Wt D H HR h1 h2 h3
  ·rw [show fsX Wt p r d c=13 by simp [fsX,h2]]
   exact fs_2 b l t s d p g x r c w C F R Wt D H HR h1 h2
 ·rw [show fsX Wt p r d c=13 by simp [fsX,h1]]
  exact fs_1 b l t s d p g x r c w C F R Wt D H HR h1
end Go.Proofs.YtacgmoikegcopaaGreatDoor.Sg
