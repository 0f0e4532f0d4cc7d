/- The bus and its devices: BsPorts. -/
import Derived.Test.YtacgmoikegcopaaGreatDoorEc30
import Derived.Test.YtacgmoikegcopaaGreatDoorEc27
import Derived.Test.YtacgmoikegcopaaGreatDoorEc28
namespace Go.Proofs.YtacgmoikegcopaaGreatDoor.Bs
open Go.ChangeShapes Go.WideShapes Go.ChangeAt Go.RowKit
open Go.Proofs.YtacgmoikegcopaaGreatDoor.Ut (Kp heap_lt heap_kept heap_set heap_new noB isB kpB)
set_option linter.unusedVariables false
set_option maxRecDepth 20000
structure LP (w0 w:World) (L:Loc) (l:List (Int × (Dv × Int))):Prop where
 b:w.heap[L.B]?=some (busO L false 0)
 q:w.heap[L.Q]?=some (mapO L l)
 kp:Kp (fun k=>k=L.B∨k=L.Q) w0 w
 ne:L.B≠L.Q
theorem LP.drew {w0 w:World} {L:Loc} {l:List (Int × (Dv × Int))} (h:LP w0 w L l):LP w0 w.drew L l:=⟨h.b,h.q,h.kp.drew,h.ne⟩
theorem LP.cell {w0 w:World} {L:Loc} {l:List (Int × (Dv × Int))} (h:LP w0 w L l) {k:Nat} {v:Value} (e:(busC L false 0)[k]?=some v):w.cell? ⟨L.B,k,none⟩=some v:=cell_of h.b e
theorem LP.lay {w0 W:World} {L:Loc} {l:List (Int × (Dv × Int))} (h:LP w0 W L l) (p a:Int) (dv:Dv) (F G:Value) (n:Nat)
  (hv:∀ i:Nat,portV L (dv,a+i)=.agg #[.int .i64 (a+i),F,G]) (hn:∀ i:Nat,i < n→getP (l++rowP p dv a i) (p+i)=none) (n8:n≤8) (p0:0≤p) (p1:p+8 < 65536) (a0:0≤a) (a1:a < 9):
  Calls Tryz.prog 123 #[.pointer (some ⟨L.B,0,none⟩),.int .u16 p,.int .i64 n,.agg #[.int .i64 a,F,G]] W fun e w'=>e=.returned (.tuple #[])∧LP w0 w' L (l++rowP p dv a n):=
 (lay_ok W L l p a dv F G n (h.cell rfl) (heap_lt h.b) h.q h.ne hv hn n8 p0 p1 a0 a1).mono fun e w' ⟨q1,q2,q3⟩=>⟨q1,heap_kept h.b q3 h.ne,q2,h.kp.trans (q3.mono fun _ _ g=>.inr g),h.ne⟩
def l0:List (Int × (Dv × Int)):=[]
def l1:List (Int × (Dv × Int)):=l0++rowP 32 .pic 0 2
def l2:List (Int × (Dv × Int)):=l1++rowP 160 .pic 2 2
def l3:List (Int × (Dv × Int)):=l2++rowP 64 .pit 0 4
def l4:List (Int × (Dv × Int)):=l3++rowP 1016 .uart 0 8
def l5:List (Int × (Dv × Int)):=l4++rowP 496 .ide 0 8
def l6:List (Int × (Dv × Int)):=l5++rowP 1014 .ide 8 1
theorem new0:∀ i:Nat,i < 2→getP (l0++rowP 32 .pic 0 i) (32+i)=none
 | 0,_=>rfl
 | 1,_=>rfl
 | _+2,h=>absurd h (by omega)
theorem new1:∀ i:Nat,i < 2→getP (l1++rowP 160 .pic 2 i) (160+i)=none
 | 0,_=>rfl
 | 1,_=>rfl
 | _+2,h=>absurd h (by omega)
theorem new2:∀ i:Nat,i < 4→getP (l2++rowP 64 .pit 0 i) (64+i)=none
 | 0,_=>rfl
 | 1,_=>rfl
 | 2,_=>rfl
 | 3,_=>rfl
 | _+4,h=>absurd h (by omega)
theorem new3:∀ i:Nat,i < 8→getP (l3++rowP 1016 .uart 0 i) (1016+i)=none
 | 0,_=>rfl
 | 1,_=>rfl
 | 2,_=>rfl
 | 3,_=>rfl
 | 4,_=>rfl
 | 5,_=>rfl
 | 6,_=>rfl
 | 7,_=>rfl
 | _+8,h=>absurd h (by omega)
theorem new4:∀ i:Nat,i < 8→getP (l4++rowP 496 .ide 0 i) (496+i)=none
 | 0,_=>rfl
 | 1,_=>rfl
 | 2,_=>rfl
 | 3,_=>rfl
 | 4,_=>rfl
 | 5,_=>rfl
 | 6,_=>rfl
 | 7,_=>rfl
 | _+8,h=>absurd h (by omega)
theorem new5:∀ i:Nat,i < 1→getP (l5++rowP 1014 .ide 8 i) (1014+i)=none
 | 0,_=>rfl
 | _+1,h=>absurd h (by omega)
theorem new6:∀ i:Nat,i < 1→getP (l6++rowP 146 .gate 0 i) (146+i)=none
 | 0,_=>rfl
 | _+1,h=>absurd h (by omega)
def bus0 (L:Loc):Obj:=.cells #[.pointer (some ⟨L.P,0,none⟩),.pointer (some ⟨L.T,0,none⟩),.pointer (some ⟨L.U,0,none⟩),.pointer (some ⟨L.I,0,none⟩),.pointer (some ⟨L.M+3,0,none⟩),.bool false,.int .u64 0,.map none] 136 (0,0)
set_option maxHeartbeats 2000000 in
theorem layPorts_ok (w:World) (L:Loc) (hb:w.heap[L.B]?=some (bus0 L)) (hQ:L.Q=w.heap.size):Calls Tryz.prog 60 #[.pointer (some ⟨L.B,0,none⟩)] w fun e w'=>e=.returned (.tuple #[])∧w'.heap[L.B]?=some (busO L false 0)∧w'.heap[L.Q]?=some (mapO L ports)∧Kp (isB L.B) w w':=by
 have hmm:=@run_makeMap Tryz.prog
 have Bl:=heap_lt hb
 have ne:L.B≠L.Q:=by omega
 unfold bus0 at hb
 have c7:=cell_of hb (k:=7) rfl
 have f7:=fz_of hb 7
 obtain ⟨w1,hw1⟩:∃ w1,w1=w.setCell ⟨L.B,7,none⟩ (.map (some w.heap.size)):=⟨_,rfl⟩
 have s1:w1.heap.size=w.heap.size:=by rw [hw1];simp [World.setCell]
 have b1:w1.heap[L.B]?=some (busO L false 0):=by rw [hw1,heap_set hb,← hQ];rfl
 have P0:Hid (LP w (w1.alloc (.map #[] 0)) L l0):=⟨heap_kept b1 (Kp.alloc noB _ _) id,by rw [hQ,← s1];exact heap_new _ _,by rw [hw1];exact (Kp.setCell w (p:=⟨L.B,7,none⟩) (.inl rfl) _).trans (Kp.alloc _ _ _),ne⟩
 have HK:Hid (∀ W,LP w W L ports→W.heap[L.B]?=some (busO L false 0)∧W.heap[L.Q]?=some (mapO L ports)∧Kp (isB L.B) w W):=fun W h=>⟨h.b,h.q,h.kp.mono fun k hk g=>by
  rcases g with g | g
  ·exact g
  ·omega⟩
 have CX:Hid (∀ W l,LP w W L l→W.cell? ⟨L.B,0,none⟩=some (.pointer (some ⟨L.P,0,none⟩))):=fun W l h=>h.cell rfl
 have CU:Hid (∀ W l,LP w W L l→W.cell? ⟨L.B,2,none⟩=some (.pointer (some ⟨L.U,0,none⟩))):=fun W l h=>h.cell rfl
 have H0:Hid (∀ W,LP w W L l0→Calls Tryz.prog 123 #[.pointer (some ⟨L.B,0,none⟩),.int .u16 32,.int .i64 2,.agg #[.int .i64 0,.func (.func 124) #[.pointer (some ⟨L.P,0,none⟩)] #[],.func (.func 125) #[.pointer (some ⟨L.P,0,none⟩)] #[]]] W fun e w'=>e=.returned (.tuple #[])∧LP w w' L l1):=fun W h=>h.lay 32 0 .pic _ _ 2 (fun i=>rfl) new0 (by decide) (by decide) (by decide) (by decide) (by decide)
 have H1:Hid (∀ W,LP w W L l1→Calls Tryz.prog 123 #[.pointer (some ⟨L.B,0,none⟩),.int .u16 160,.int .i64 2,.agg #[.int .i64 2,.func (.func 124) #[.pointer (some ⟨L.P,0,none⟩)] #[],.func (.func 125) #[.pointer (some ⟨L.P,0,none⟩)] #[]]] W fun e w'=>e=.returned (.tuple #[])∧LP w w' L l2):=fun W h=>h.lay 160 2 .pic _ _ 2 (fun i=>rfl) new1 (by decide) (by decide) (by decide) (by decide) (by decide)
 have H2:Hid (∀ W,LP w W L l2→Calls Tryz.prog 123 #[.pointer (some ⟨L.B,0,none⟩),.int .u16 64,.int .i64 4,.agg #[.int .i64 0,.func (.func 126) #[.pointer (some ⟨L.B,0,none⟩)] #[],.func (.func 127) #[.pointer (some ⟨L.B,0,none⟩)] #[]]] W fun e w'=>e=.returned (.tuple #[])∧LP w w' L l3):=fun W h=>h.lay 64 0 .pit _ _ 4 (fun i=>rfl) new2 (by decide) (by decide) (by decide) (by decide) (by decide)
 have H3:Hid (∀ W,LP w W L l3→Calls Tryz.prog 123 #[.pointer (some ⟨L.B,0,none⟩),.int .u16 1016,.int .i64 8,.agg #[.int .i64 0,.func (.func 128) #[.pointer (some ⟨L.U,0,none⟩)] #[],.func (.func 129) #[.pointer (some ⟨L.U,0,none⟩)] #[]]] W fun e w'=>e=.returned (.tuple #[])∧LP w w' L l4):=fun W h=>h.lay 1016 0 .uart _ _ 8 (fun i=>rfl) new3 (by decide) (by decide) (by decide) (by decide) (by decide)
 have H4:Hid (∀ W,LP w W L l4→Calls Tryz.prog 123 #[.pointer (some ⟨L.B,0,none⟩),.int .u16 496,.int .i64 8,.agg #[.int .i64 0,.func (.func 130) #[.pointer (some ⟨L.B,0,none⟩)] #[],.func (.func 131) #[.pointer (some ⟨L.B,0,none⟩)] #[]]] W fun e w'=>e=.returned (.tuple #[])∧LP w w' L l5):=fun W h=>h.lay 496 0 .ide _ _ 8 (fun i=>rfl) new4 (by decide) (by decide) (by decide) (by decide) (by decide)
 have H5:Hid (∀ W,LP w W L l5→Calls Tryz.prog 123 #[.pointer (some ⟨L.B,0,none⟩),.int .u16 1014,.int .i64 1,.agg #[.int .i64 8,.func (.func 130) #[.pointer (some ⟨L.B,0,none⟩)] #[],.func (.func 131) #[.pointer (some ⟨L.B,0,none⟩)] #[]]] W fun e w'=>e=.returned (.tuple #[])∧LP w w' L l6):=fun W h=>h.lay 1014 8 .ide _ _ 1 (fun i=>rfl) new5 (by decide) (by decide) (by decide) (by decide) (by decide)
 have H6:Hid (∀ W,LP w W L l6→Calls Tryz.prog 123 #[.pointer (some ⟨L.B,0,none⟩),.int .u16 146,.int .i64 1,.agg #[.int .i64 0,.func (.func 132) #[.pointer (some ⟨L.B,0,none⟩)] #[],.func (.func 133) #[.pointer (some ⟨L.B,0,none⟩)] #[]]] W fun e w'=>e=.returned (.tuple #[])∧LP w w' L ports):=fun W h=>h.lay 146 0 .gate _ _ 1 (fun i=>rfl) new6 (by decide) (by decide) (by decide) (by decide) (by decide)
 rw [hw1] at P0
 clear hb hw1 s1 b1 ne
 go_enter Tryz.func60,Tryz.ntmps60
 go_wp2
 generalize hz:(w.setCell ⟨L.B,7,none⟩ (.map (some w.heap.size))).alloc (.map #[] 0)=z0 at P0 ⊢
 clear c7 f7 hz hQ Bl hmm
 have D0:Hid (LP w z0.drew L l0):=P0.out.drew
 have S0:Hid _:=CX.out _ _ D0.out
 go_region_held3 (fun W=>W.cell? ⟨L.B,0,none⟩=some (.pointer (some ⟨L.P,0,none⟩)))
  (first | exact S0.out | exact CX.out _ _ (by assumption) | assumption)
  (first | (go_at_call 123;refine Calls.mono (H0.out _ D0.out) ?_;rintro e z1 ⟨rfl,p1⟩))
 all_goals
  have P1:Hid _:=p1
  clear p1 P0 D0 S0 H0
  go_wp2
  have D1:Hid (LP w z1.drew L l1):=P1.out.drew
  have S1:Hid _:=CX.out _ _ D1.out
  go_region_held3 (fun W=>W.cell? ⟨L.B,0,none⟩=some (.pointer (some ⟨L.P,0,none⟩)))
   (first | exact S1.out | exact CX.out _ _ (by assumption) | assumption)
   (first | (go_at_call 123;refine Calls.mono (H1.out _ D1.out) ?_;rintro e z2 ⟨rfl,p2⟩))
  all_goals
   have P2:Hid _:=p2
   clear p2 P1 D1 S1 H1
   go_wp2_with fail
   refine Calls.mono (H2.out _ P2.out) ?_;rintro e z3 ⟨rfl,p3⟩
   have P3:Hid _:=p3
   clear p3 P2 H2
   go_wp2
   have D3:Hid (LP w z3.drew L l3):=P3.out.drew
   have S3:Hid _:=CU.out _ _ D3.out
   go_region_held3 (fun W=>W.cell? ⟨L.B,2,none⟩=some (.pointer (some ⟨L.U,0,none⟩)))
    (first | exact S3.out | exact CU.out _ _ (by assumption) | assumption)
    (first | (go_at_call 123;refine Calls.mono (H3.out _ D3.out) ?_;rintro e z4 ⟨rfl,p4⟩))
   all_goals
    have P4:Hid _:=p4
    clear p4 P3 D3 S3 H3
    go_wp2_with fail
    refine Calls.mono (H4.out _ P4.out) ?_;rintro e z5 ⟨rfl,p5⟩
    have P5:Hid _:=p5
    clear p5 P4 H4
    go_wp2_with fail
    refine Calls.mono (H5.out _ P5.out) ?_;rintro e z6 ⟨rfl,p6⟩
    have P6:Hid _:=p6
    clear p6 P5 H5
    go_wp2_with fail
    refine Calls.mono (H6.out _ P6.out) ?_;rintro e z7 ⟨rfl,p7⟩
    have P7:Hid _:=p7
    clear p7 P6 H6
    have HZ:Hid _:=HK.out _ P7.out
    clear P7 HK CX CU
    go_wp2
    go_end0
    exact ⟨rfl,HZ.out⟩
end Go.Proofs.YtacgmoikegcopaaGreatDoor.Bs
