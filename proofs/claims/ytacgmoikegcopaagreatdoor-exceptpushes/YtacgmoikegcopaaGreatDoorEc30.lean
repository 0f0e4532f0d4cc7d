/- The bus and its devices: BrTell, BsMap, BsByte, BsLay. -/
import Derived.Test.YtacgmoikegcopaaGreatDoorEc29
import Derived.Test.YtacgmoikegcopaaGreatDoorEc27
import Derived.MapKept
namespace Go.Proofs.YtacgmoikegcopaaGreatDoor.Bs
open Go.ChangeShapes Go.WideShapes Go.ChangeAt Go.RowKit
open Go.Proofs.YtacgmoikegcopaaGreatDoor.Ut (Kp heap_lt heap_kept heap_set heap_new noB isB kpB)
set_option linter.unusedVariables false
set_option maxRecDepth 20000
set_option maxHeartbeats 1000000 in
theorem lines_ok {w:World} {S:Nat→Prop} {L:LocR} {x:Bm} (h:DW w S L x) (k:x.Ok):Calls Tryz.prog 67 #[.pointer (some ⟨L.B,0,none⟩)] w fun e w'=>e=.returned (.tuple #[])∧DNx w S L x.tell w':=by
 obtain ⟨l0,e0⟩:∃ l,l=(x.f 0).line x.now:=⟨_,rfl⟩
 obtain ⟨l1,e1⟩:∃ l,l=x.u.ln:=⟨_,rfl⟩
 obtain ⟨l2,e2⟩:∃ l,l=x.d.line:=⟨_,rfl⟩
 have k0:=k.p
 have k1:=k0.line (n:=0) (by decide) (by decide) l0
 have k2:=k1.line (n:=4) (by decide) (by decide) l1
 have HA:Hid (∀ W S,DW W S L x→Calls Tryz.prog 140 #[.pointer (some ⟨L.T,0,none⟩),.int .u64 x.now] W fun e w'=>e=.returned (.bool l0)∧DNx W S L x w'):=fun W S h=>by rw [e0];exact dPitK h (fun a=>Pt.xLine W L.T x.f a x.now)
 have HB:Hid (∀ W S,DW W S L x→Calls Tryz.prog 139 #[.pointer (some ⟨L.P,0,none⟩),.int .i64 0,.bool l0] W fun e w'=>e=.returned (.int .i64 0)∧DNx W S L { x with p:=x.p.line 0 l0 } w'):=fun W S h=>dPic h (fun T a=>Pc.sLine W L.P _ T a 0 l0 (by decide) (by decide))
 have HC:Hid (∀ W S,DW W S L { x with p:=x.p.line 0 l0 }→Calls Tryz.prog 141 #[.pointer (some ⟨L.U,0,none⟩)] W fun e w'=>e=.returned (.bool l1)∧DNx W S L { x with p:=x.p.line 0 l0 } w'):=fun W S h=>by rw [e1];exact dUart (m:=x.u) h (fun T a=>(Ut.xLine a k.u).mono fun e w' ⟨q,r⟩=>⟨q,.same a r⟩)
 have HD:Hid (∀ W S,DW W S L { x with p:=x.p.line 0 l0 }→Calls Tryz.prog 139 #[.pointer (some ⟨L.P,0,none⟩),.int .i64 4,.bool l1] W fun e w'=>e=.returned (.int .i64 0)∧DNx W S L { x with p:=(x.p.line 0 l0).line 4 l1 } w'):=fun W S h=>dPic (x:={ x with p:=x.p.line 0 l0 }) h (fun T a=>Pc.sLine W L.P _ T a 4 l1 (by decide) (by decide))
 have HE:Hid (∀ W S,DW W S L { x with p:=(x.p.line 0 l0).line 4 l1 }→Calls Tryz.prog 142 #[.pointer (some ⟨L.I,0,none⟩)] W fun e w'=>e=.returned (.bool l2)∧DNx W S L { x with p:=(x.p.line 0 l0).line 4 l1 } w'):=fun W S h=>by rw [e2];exact dIde (m:=x.d) h (fun T a=>(Dk.xLine a k.d).mono fun e w' ⟨q,r⟩=>⟨q,.same a r⟩)
 have HF:Hid (∀ W S,DW W S L { x with p:=(x.p.line 0 l0).line 4 l1 }→Calls Tryz.prog 139 #[.pointer (some ⟨L.P,0,none⟩),.int .i64 14,.bool l2] W fun e w'=>e=.returned (.int .i64 0)∧DNx W S L { x with p:=((x.p.line 0 l0).line 4 l1).line 14 l2 } w'):=fun W S h=>dPic (x:={ x with p:=(x.p.line 0 l0).line 4 l1 }) h (fun T a=>Pc.sLine W L.P _ T a 14 l2 (by decide) (by decide))
 have CX:Hid (∀ W S m,DW W S L { x with p:=m }→W.cell? ⟨L.B,1,none⟩=some (.pointer (some ⟨L.P,0,none⟩))∧W.cell? ⟨L.B,2,none⟩=some (.pointer (some ⟨L.T,0,none⟩))∧W.cell? ⟨L.B,3,none⟩=some (.pointer (some ⟨L.U,0,none⟩))∧W.cell? ⟨L.B,4,none⟩=some (.pointer (some ⟨L.I,0,none⟩))∧W.cell? ⟨L.B,5,none⟩=some (.int .u64 x.now)):=fun W S m h=>⟨h.c1,h.c2,h.c3,h.c4,h.c5⟩
 have ET:Hid (x.tell={ x with p:=((x.p.line 0 l0).line 4 l1).line 14 l2 }):=by show _=_;rw [e0,e1,e2];rfl
 have P0:Hid (DW w.drew S L x):=h.drew
 have N0:Hid (Nx w S w.drew S):=Nx.keep (Kp.refl _ _).drew
 generalize x.p.line 0 l0=m1 at *
 generalize m1.line 4 l1=m2 at *
 generalize m2.line 14 l2=m3 at *
 clear h k k0 k1 k2 e0 e1 e2
 obtain ⟨c0,c1,c2,c3,c6⟩:=CX.out _ _ _ P0.out
 have S0:Hid (w.drew.cell? ⟨L.B,1,none⟩=some (.pointer (some ⟨L.P,0,none⟩))∧w.drew.cell? ⟨L.B,2,none⟩=some (.pointer (some ⟨L.T,0,none⟩))∧w.drew.cell? ⟨L.B,5,none⟩=some (.int .u64 x.now)):=⟨c0,c1,c6⟩
 have CA:Hid (∀ W S m,DW W S L { x with p:=m }→W.cell? ⟨L.B,1,none⟩=some (.pointer (some ⟨L.P,0,none⟩))∧W.cell? ⟨L.B,2,none⟩=some (.pointer (some ⟨L.T,0,none⟩))∧W.cell? ⟨L.B,5,none⟩=some (.int .u64 x.now)):=fun W S m h=>⟨h.c1,h.c2,h.c5⟩
 have CB:Hid (∀ W S m,DW W S L { x with p:=m }→W.cell? ⟨L.B,1,none⟩=some (.pointer (some ⟨L.P,0,none⟩))∧W.cell? ⟨L.B,3,none⟩=some (.pointer (some ⟨L.U,0,none⟩))):=fun W S m h=>⟨h.c1,h.c3⟩
 have CC:Hid (∀ W S m,DW W S L { x with p:=m }→W.cell? ⟨L.B,1,none⟩=some (.pointer (some ⟨L.P,0,none⟩))∧W.cell? ⟨L.B,4,none⟩=some (.pointer (some ⟨L.I,0,none⟩))):=fun W S m h=>⟨h.c1,h.c4⟩
 clear c0 c1 c2 c3 c6 CX
 go_enter Tryz.func67,Tryz.ntmps67
 go_wp2
 go_region_held3 (fun W=>W.cell? ⟨L.B,1,none⟩=some (.pointer (some ⟨L.P,0,none⟩))∧W.cell? ⟨L.B,2,none⟩=some (.pointer (some ⟨L.T,0,none⟩))∧W.cell? ⟨L.B,5,none⟩=some (.int .u64 x.now))
  (first | exact S0.out | exact CA.out _ _ _ (by assumption) | assumption)
  (first
   | (go_at_call 140;refine Calls.mono (HA.out _ _ P0.out) ?_;rintro e z1 ⟨rfl,S1,p1,n1⟩)
   | (go_at_call 139;refine Calls.mono (HB.out _ _ p1) ?_;rintro e z2 ⟨rfl,S2,p2,n2⟩))
 have N2:Hid (Nx w S z2 S2):=(N0.out.trans n1).trans n2
 have P2:Hid (DW z2.drew S2 L { x with p:=m1 }):=p2.drew
 have T2:Hid (Nx w S z2.drew S2):=N2.out.trans (Nx.keep (Kp.refl _ _).drew)
 have S2':Hid _:=CB.out _ _ _ P2.out
 clear p1 p2 n1 n2 N2 P0 N0 S0 HA HB CA
 go_wp2
 go_region_held3 (fun W=>W.cell? ⟨L.B,1,none⟩=some (.pointer (some ⟨L.P,0,none⟩))∧W.cell? ⟨L.B,3,none⟩=some (.pointer (some ⟨L.U,0,none⟩)))
  (first | exact S2'.out | exact CB.out _ _ _ (by assumption) | assumption)
  (first
   | (go_at_call 141;refine Calls.mono (HC.out _ _ P2.out) ?_;rintro e z3 ⟨rfl,S3,p3,n3⟩)
   | (go_at_call 139;refine Calls.mono (HD.out _ _ p3) ?_;rintro e z4 ⟨rfl,S4,p4,n4⟩))
 have P4:Hid (DW z4.drew S4 L { x with p:=m2 }):=p4.drew
 have T4:Hid (Nx w S z4.drew S4):=((T2.out.trans n3).trans n4).trans (Nx.keep (Kp.refl _ _).drew)
 have S4':Hid _:=CC.out _ _ _ P4.out
 clear p3 p4 n3 n4 T2 P2 S2' HC HD CB
 go_wp2
 go_region_held3 (fun W=>W.cell? ⟨L.B,1,none⟩=some (.pointer (some ⟨L.P,0,none⟩))∧W.cell? ⟨L.B,4,none⟩=some (.pointer (some ⟨L.I,0,none⟩)))
  (first | exact S4'.out | exact CC.out _ _ _ (by assumption) | assumption)
  (first
   | (go_at_call 142;refine Calls.mono (HE.out _ _ P4.out) ?_;rintro e z5 ⟨rfl,S5,p5,n5⟩)
   | (go_at_call 139;refine Calls.mono (HF.out _ _ p5) ?_;rintro e z6 ⟨rfl,S6,p6,n6⟩))
 have HZ:Hid (DNx w S L x.tell z6):=by
  show DNx w S L x.tell z6
  rw [ET.out]
  exact ⟨S6,p6,(T4.out.trans n5).trans n6⟩
 clear p5 p6 n5 n6 T4 P4 S4' HE HF CC ET
 go_wp2
 go_end0
 exact ⟨rfl,HZ.out⟩
theorem keyT:Tryz.prog.underlying 24=some (.int .u16):=by kernel_rfl
theorem mapT:Tryz.prog.underlying 134=some (.map 24 235):=by kernel_rfl
def getP:List (Int × (Dv × Int))→Int→Option (Dv × Int)
 | [],_=>none
 | e::es,p=>if p=e.1 then some e.2 else getP es p
theorem same16 (p q:Int):Instr.sameNow (.int .u16) (.int .u16 p) (.int .u16 q)=some (decide (p=q)):=by
 simp only [Instr.sameNow]
 simp
 rw [Bool.eq_iff_iff,beq_iff_eq,decide_eq_true_iff]
theorem find_es (L:Loc) (p:Int):∀ (l:List (Int × (Dv × Int))) (n i:Nat),∃ r,Instr.findNow (.int .u16) (.int .u16 p) (esFrom L l n) i=some r∧r.map Prod.snd=(getP l p).map (portV L)
 | [],n,i=>⟨none,rfl,rfl⟩
 | e::es,n,i=>by
  obtain ⟨r,h1,h2⟩:=find_es L p es (n+1) (i+1)
  by_cases h:p=e.1
  ·refine ⟨some (i,portV L e.2),?_,?_⟩
   ·show (match Instr.sameNow (.int .u16) (.int .u16 p) (.int .u16 e.1) with | some true=>some (some (i,portV L e.2)) | some false=>Instr.findNow (.int .u16) (.int .u16 p) (esFrom L es (n+1)) (i+1) | none=>none)=_
    rw [same16,decide_eq_true h]
   ·unfold getP
    rw [if_pos h]
    rfl
  ·refine ⟨r,?_,?_⟩
   ·show (match Instr.sameNow (.int .u16) (.int .u16 p) (.int .u16 e.1) with | some true=>some (some (i,portV L e.2)) | some false=>Instr.findNow (.int .u16) (.int .u16 p) (esFrom L es (n+1)) (i+1) | none=>none)=_
    rw [same16,decide_eq_false h]
    exact h1
   ·unfold getP
    rw [if_neg h]
    exact h2
theorem getP_ports (p:Int):getP ports p=portOf p:=by
 unfold portOf
 by_cases h1:p=32∨p=33
 ·rw [if_pos h1]
  rcases h1 with rfl | rfl<;>rfl
 rw [if_neg h1]
 by_cases h2:p=160∨p=161
 ·rw [if_pos h2]
  rcases h2 with rfl | rfl<;>rfl
 rw [if_neg h2]
 by_cases h3:64≤p∧p < 68
 ·rw [if_pos h3]
  have:p=64∨p=65∨p=66∨p=67:=by omega
  rcases this with rfl | rfl | rfl | rfl<;>rfl
 rw [if_neg h3]
 by_cases h4:1016≤p∧p < 1024
 ·rw [if_pos h4]
  have:p=1016∨p=1017∨p=1018∨p=1019∨p=1020∨p=1021∨p=1022∨p=1023:=by omega
  rcases this with rfl | rfl | rfl | rfl | rfl | rfl | rfl | rfl<;>rfl
 rw [if_neg h4]
 by_cases h5:496≤p∧p < 504
 ·rw [if_pos h5]
  have:p=496∨p=497∨p=498∨p=499∨p=500∨p=501∨p=502∨p=503:=by omega
  rcases this with rfl | rfl | rfl | rfl | rfl | rfl | rfl | rfl<;>rfl
 rw [if_neg h5]
 by_cases h6:p=1014
 ·rw [if_pos h6];subst h6;rfl
 rw [if_neg h6]
 by_cases h7:p=146
 ·rw [if_pos h7];subst h7;rfl
 rw [if_neg h7]
 unfold ports
 simp only [getP]
 repeat rw [if_neg (by omega)]
def portRow (L:Loc):Option (Dv × Int)→Value
 | some q=>.tuple #[portV L q,.bool true]
 | none=>.tuple #[.agg #[.int .i64 0,.nilFunc,.nilFunc],.bool false]
theorem look_any (b:Nat) (w:World) (es:Array MapEntry) (n:Nat) (hb:w.heap[b]?=some (.map es n)) (i:Int) (r:Option (Nat × Value)) (hf:Instr.findNow (.int .u16) (.int .u16 i) es.toList 0=some r):
  (Instr.lookup 134 (.map (some b)) (.int .u16 i) true).run Tryz.prog w=.ok (match r with | some (_,v)=>.tuple #[v,.bool true] | none=>.tuple #[.agg #[.int .i64 0,.nilFunc,.nilFunc],.bool false]) w:=by
 have hc:=MapKept.run_checkKey (P:=Tryz.prog) (w:=w) keyT (k:=.int .u16 i) (by simp [MapKept.IsKey]) es.isEmpty 9999
 have hd:=MapKept.run_findKey (P:=Tryz.prog) (w:=w) keyT hf
 cases r with
 | none=>simp [Instr.lookup,run_underlying mapT,MapKept.run_getObj_map hb,hc,hd,Result.andThen]
 | some p=>simp [Instr.lookup,run_underlying mapT,MapKept.run_getObj_map hb,hc,hd,Result.andThen]
theorem look_port {w:World} {L:Loc} (hb:w.heap[L.Q]?=some (mapO L ports)) (p:Int):(Instr.lookup 134 (.map (some L.Q)) (.int .u16 p) true).run Tryz.prog w=.ok (portRow L (portOf p)) w:=by
 obtain ⟨r,h1,h2⟩:=find_es L p ports 0 0
 rw [getP_ports] at h2
 rw [look_any L.Q w _ _ hb p r h1]
 cases r with
 | none=>
  cases hp:portOf p with
  | none=>rfl
  | some q=>rw [hp] at h2;cases h2
 | some y=>
  cases hp:portOf p with
  | none=>rw [hp] at h2;cases h2
  | some q=>
   rw [hp] at h2
   injection h2 with h2
   show Result.ok (Value.tuple #[y.2,.bool true]) w=_
   rw [h2]
   rfl
theorem put_any (b:Nat) (w:World) (es:Array MapEntry) (n:Nat) (hb:w.heap[b]?=some (.map es n)) (i:Int) (v:Value) (hf:Instr.findNow (.int .u16) (.int .u16 i) es.toList 0=some none):
  (Instr.mapUpdate 134 (.map (some b)) (.int .u16 i) v).run Tryz.prog w=.ok () { w with heap:=w.heap.setIfInBounds b (.map (es.push ⟨.int .u16 i,v,n⟩) (n+1)) }:=by
 have hc:=MapKept.run_checkKey (P:=Tryz.prog) (w:=w) keyT (k:=.int .u16 i) (by simp [MapKept.IsKey]) false 9999
 have hd:=MapKept.run_findKey (P:=Tryz.prog) (w:=w) keyT hf
 have hs:=MapKept.run_setObj_map (P:=Tryz.prog) (.map (es.push ⟨.int .u16 i,v,n⟩) (n+1)) hb
 simp [Instr.mapUpdate,run_underlying mapT,MapKept.run_getObj_map hb,hc,hd,hs,Result.andThen]
theorem es_snoc (L:Loc) (p:Int) (q:Dv × Int):∀ (l:List (Int × (Dv × Int))) (n:Nat),esFrom L (l++[(p,q)]) n=esFrom L l n++[⟨.int .u16 p,portV L q,n+l.length⟩]
 | [],n=>rfl
 | e::es,n=>by
  show _::esFrom L (es++[(p,q)]) (n+1)=_
  rw [es_snoc L p q es (n+1),show n+1+es.length=n+(e::es).length by simp;omega]
  rfl
theorem put_port {w:World} {L:Loc} {l:List (Int × (Dv × Int))} (hb:w.heap[L.Q]?=some (mapO L l)) (p:Int) (q:Dv × Int) (hn:getP l p=none):∃ w',(Instr.mapUpdate 134 (.map (some L.Q)) (.int .u16 p) (portV L q)).run Tryz.prog w=.ok () w'∧w'.heap[L.Q]?=some (mapO L (l++[(p,q)]))∧Kp (isB L.Q) w w':=by
 obtain ⟨r,h1,h2⟩:=find_es L p l 0 0
 rw [hn] at h2
 have hr:r=none:=by cases r with | none=>rfl | some y=>cases h2
 subst hr
 unfold mapO at hb ⊢
 refine ⟨_,put_any L.Q w _ _ hb p (portV L q) h1,?_,?_⟩
 ·rw [(MapKept.heap_set hb).1,es_snoc]
  simp
 ·exact ⟨rfl,rfl,rfl,by simp,fun k hk hs=>(MapKept.heap_set hb).2 k hs⟩
section
variable {w:World} {S:Nat→Prop} {L:Loc} {x:Bm}
theorem pic_out (h:BW w S L x) (k:x.Ok) {a v:Int} (ha:0≤a∧a < 4) (hv:Byt v):Calls Tryz.prog 124 #[.pointer (some ⟨L.P,0,none⟩),.int .i64 a,.int .u8 v] w fun e w'=>(∃ y,e=.returned (.int .i64 y))∧BNx w S L (x.outD v (some (.pic,a))) w':=
 (bPic h (fun q=>Pc.out_ok w L.P x.p q k.p a v ha.1 ha.2 hv)).mono fun e w' ⟨q,r⟩=>⟨⟨_,q⟩,r⟩
end
def rowP (p:Int) (dv:Dv) (a:Int):Nat→List (Int × (Dv × Int))
 | 0=>[]
 | n+1=>rowP p dv a n++[(p+n,(dv,a+n))]
theorem cell_of {w:World} {b:Nat} {c:Array Value} {t:TypeId} {fr:Nat × Nat} (h:w.heap[b]?=some (.cells c t fr)) {k:Nat} {v:Value} (e:c[k]?=some v):w.cell? ⟨b,k,none⟩=some v:=by
 simp [World.cell?,h,e]
theorem fz_of {w:World} {b:Nat} {c:Array Value} {t:TypeId} (h:w.heap[b]?=some (.cells c t (0,0))) (k:Nat):w.frozen? ⟨b,k,none⟩=false:=by
 simp [World.frozen?,h]
def entO (a:Int) (F G:Value):Obj:=.cells #[.int .i64 a,F,G] 235 (0,0)
set_option maxHeartbeats 1000000 in
theorem lay_ok (w:World) (L:Loc) (l:List (Int × (Dv × Int))) (p a:Int) (dv:Dv) (F G:Value) (n:Nat) (hB:w.cell? ⟨L.B,7,none⟩=some (.map (some L.Q))) (hBl:L.B < w.heap.size) (hq:w.heap[L.Q]?=some (mapO L l)) (BQ:L.B≠L.Q)
  (hv:∀ i:Nat,portV L (dv,a+i)=.agg #[.int .i64 (a+i),F,G]) (hn:∀ i:Nat,i < n→getP (l++rowP p dv a i) (p+i)=none) (n8:n≤8) (p0:0≤p) (p1:p+8 < 65536) (a0:0≤a) (a1:a < 9):
  Calls Tryz.prog 123 #[.pointer (some ⟨L.B,0,none⟩),.int .u16 p,.int .i64 n,.agg #[.int .i64 a,F,G]] w fun e w'=>e=.returned (.tuple #[])∧w'.heap[L.Q]?=some (mapO L (l++rowP p dv a n))∧Kp (isB L.Q) w w':=by
 have HV:Hid (∀ i:Nat,portV L (dv,a+i)=.agg #[.int .i64 (a+i),F,G]):=hv
 have HN:Hid (∀ i:Nat,i < n→getP (l++rowP p dv a i) (p+i)=none):=hn
 have Ql:=heap_lt hq
 obtain ⟨E,hE⟩:∃ E,E=w.heap.size:=⟨_,rfl⟩
 have P0:Hid ((w.alloc (.cells #[.int .i64 a,F,G] 235)).heap[E]?=some (entO (a+(0:Nat)) F G)∧(w.alloc (.cells #[.int .i64 a,F,G] 235)).heap[L.Q]?=some (mapO L (l++rowP p dv a 0))∧Kp (fun k=>k=L.Q∨k=E) w (w.alloc (.cells #[.int .i64 a,F,G] 235))):=by
  refine ⟨by rw [hE,heap_new];simp [entO],?_,Kp.alloc _ _ _⟩
  rw [show l++rowP p dv a 0=l from List.append_nil l]
  exact heap_kept hq (Kp.alloc noB _ _) id
 have hB0:Hid (w.cell? ⟨L.B,7,none⟩=some (.map (some L.Q))):=hB
 have EQ:E≠L.Q:=by omega
 have EB:E≠L.B:=by omega
 have HK:Hid (∀ W,Kp (fun k=>k=L.Q∨k=E) w W→Kp (isB L.Q) w W):=fun W k=>k.mono fun j hj g=>by
  rcases g with g | g
  ·exact g
  ·omega
 clear hB hq hv hn
 go_enter Tryz.func123,Tryz.ntmps123
 go_wp2
 rw [← hE]
 clear hE
 go_loopw [1,9] (fun s1 s9 wr=>∃ (i:Nat) (p':Int),s1=.int .u16 p'∧s9=.int .i64 i∧p'=p+i∧i≤n∧wr.heap[E]?=some (entO (a+i) F G)∧wr.heap[L.Q]?=some (mapO L (l++rowP p dv a i))∧Kp (fun k=>k=L.Q∨k=E) w wr) (fun s1 s9 _=>((n:Int) - intOf s9).toNat)
 case atStart=>exact ⟨0,p,rfl,rfl,by omega,by omega,P0.out.1,P0.out.2.1,P0.out.2.2⟩
 case round=>
  clear P0
  obtain ⟨i,p',rfl,rfl,hp',hi,h1,h2,kk⟩:=hrel
  by_cases hlt:i < n
  ·have h2d:wr.drew.heap[L.Q]?=some (mapO L (l++rowP p dv a i)):=h2
   obtain ⟨w2,g1,g2,g3⟩:=put_port h2d (p+i) (dv,a+i) (HN.out i hlt)
   rw [HV.out i] at g1
   rw [← hp'] at g1 g2
   obtain ⟨a2,ha2⟩:∃ a2,a2=a+i:=⟨_,rfl⟩
   rw [← ha2] at g1 h1
   have b1:IntKind.i64.wrap (a2+1)=a2+1:=by rw [IntKind.wrap_i64];omega
   obtain ⟨p2,hp2⟩:∃ p2,p2=p'+1:=⟨_,rfl⟩
   have b2:IntKind.u16.wrap (p'+1)=p2:=by rw [IntKind.wrap_u16];omega
   have b3:(p'+1)%65536=p2:=by omega
   have h1d:wr.drew.heap[E]?=some (entO a2 F G):=h1
   unfold entO at h1d
   have c0:=cell_of h1d (k:=0) rfl
   have c1:=cell_of h1d (k:=1) rfl
   have c2:=cell_of h1d (k:=2) rfl
   have cB:wr.drew.cell? ⟨L.B,7,none⟩=some (.map (some L.Q)):=by
    have e:wr.heap[L.B]?=w.heap[L.B]?:=kk.block L.B hBl (fun g=>by rcases g with g | g<;>omega)
    have:=hB0.out
    simp only [World.cell?] at this ⊢
    rw [show wr.drew.heap=wr.heap from rfl,e]
    exact this
   have e2:w2.heap[E]?=some (entO a2 F G):=heap_kept (show wr.drew.heap[E]?=some (entO a2 F G) from h1) g3 EQ
   unfold entO at e2
   have d0:=cell_of e2 (k:=0) rfl
   have df:=fz_of e2 0
   have K3:Hid (Kp (fun k=>k=L.Q∨k=E) w (w2.setCell ⟨E,0,none⟩ (.int .i64 (a2+1)))):=((kk.drew.trans (g3.mono fun _ _ g=>.inl g)).trans (Kp.setCell w2 (p:=⟨E,0,none⟩) (.inr rfl) _))
   have H3:Hid ((w2.setCell ⟨E,0,none⟩ (.int .i64 (a2+1))).heap[E]?=some (entO (a+(i+1:Nat)) F G)∧(w2.setCell ⟨E,0,none⟩ (.int .i64 (a2+1))).heap[L.Q]?=some (mapO L (l++rowP p dv a (i+1)))):=by
    refine ⟨by rw [heap_set e2,show a+((i+1:Nat):Int)=a2+1 by omega];rfl,?_⟩
    rw [heap_kept g2 (kpB E w2 0 _) (fun (g:L.Q=E)=>EQ g.symm),hp',List.append_assoc]
    rfl
   have Hp2:Hid (p2=p+((i+1:Nat):Int)):=by show _=_;omega
   have G1:=g1
   clear kk h1 h2 h1d h2d g1 g2 g3 e2 HN HV hp' hp2 ha2
   go_wp2
   go_region
   all_goals
    go_wp2
    go_roundw
    case rel=>exact ⟨i+1,p2,rfl,by go_num,Hp2.out,by omega,H3.out.1,H3.out.2,K3.out⟩
    case measure=>simp [intOf];omega
  ·have hi':i=n:=by omega
   subst hi'
   have HZ:Hid (wr.heap[L.Q]?=some (mapO L (l++rowP p dv a i))∧Kp (isB L.Q) w wr):=⟨h2,HK.out _ kk⟩
   clear h1 h2 kk HN HV
   go_wp2
   go_end0
   exact ⟨rfl,HZ.out⟩
end Go.Proofs.YtacgmoikegcopaaGreatDoor.Bs
