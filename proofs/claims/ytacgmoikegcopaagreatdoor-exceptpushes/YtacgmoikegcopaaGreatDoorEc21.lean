/- The bus and its devices: PcBeg. -/
import Derived.Test.YtacgmoikegcopaaGreatDoorEc20
namespace Go.Proofs.YtacgmoikegcopaaGreatDoor.Pc
open Go.ChangeShapes Go.WideShapes Go.ChangeAt Go.RowKit
set_option linter.unusedVariables false
set_option maxRecDepth 20000
theorem beg8_a (w:World) (B:Nat) (m:M2) (h:PAt w B m) (v:Int):PAt (((((((((w.setCell ⟨B,0,none⟩ (.int .u8 m.a.up)).setCell ⟨B,1,none⟩ (.int .u8 0)).setCell ⟨B,2,none⟩ (.int .u8 0)).setCell ⟨B,3,none⟩ (.int .u8 0)).setCell ⟨B,4,none⟩ (.int .u8 m.a.base)).setCell ⟨B,5,none⟩ (.int .u8 (setUpD v))).setCell ⟨B,6,none⟩ (.bool false)).setCell ⟨B,7,none⟩ (.bool false)).drew) B (m.set false { up:=m.a.up,asks:=0,srv:=0,msk:=0,base:=m.a.base,due:=setUpD v,sh:=false,ends:=false }):=
  PAt.drew ((((((((h.set 0 _ (m.set false { up:=m.a.up,asks:=m.a.asks,srv:=m.a.srv,msk:=m.a.msk,base:=m.a.base,due:=m.a.due,sh:=m.a.sh,ends:=m.a.ends }) rfl).set 1 _ (m.set false { up:=m.a.up,asks:=0,srv:=m.a.srv,msk:=m.a.msk,base:=m.a.base,due:=m.a.due,sh:=m.a.sh,ends:=m.a.ends }) rfl).set 2 _ (m.set false { up:=m.a.up,asks:=0,srv:=0,msk:=m.a.msk,base:=m.a.base,due:=m.a.due,sh:=m.a.sh,ends:=m.a.ends }) rfl).set 3 _ (m.set false { up:=m.a.up,asks:=0,srv:=0,msk:=0,base:=m.a.base,due:=m.a.due,sh:=m.a.sh,ends:=m.a.ends }) rfl).set 4 _ (m.set false { up:=m.a.up,asks:=0,srv:=0,msk:=0,base:=m.a.base,due:=m.a.due,sh:=m.a.sh,ends:=m.a.ends }) rfl).set 5 _ (m.set false { up:=m.a.up,asks:=0,srv:=0,msk:=0,base:=m.a.base,due:=setUpD v,sh:=m.a.sh,ends:=m.a.ends }) rfl).set 6 _ (m.set false { up:=m.a.up,asks:=0,srv:=0,msk:=0,base:=m.a.base,due:=setUpD v,sh:=false,ends:=m.a.ends }) rfl).set 7 _ (m.set false { up:=m.a.up,asks:=0,srv:=0,msk:=0,base:=m.a.base,due:=setUpD v,sh:=false,ends:=false }) rfl)
set_option maxRecDepth 20000 in
set_option maxHeartbeats 4000000 in
theorem begin_a (w:World) (B:Nat) (m:M2) (h:PAt w B m) (v:Int) (b16:(bits .and .u8 v 16 != 0)=true):Calls Tryz.prog 172 #[.pointer (some ⟨B,0,none⟩),.int .u8 v] w fun e w'=>e=.returned (.tuple #[])∧PAt w' B (m.set false { up:=m.a.up,asks:=0,srv:=0,msk:=0,base:=m.a.base,due:=setUpD v,sh:=false,ends:=false })∧Kp (isB B) w w':=by
 have HS:Hid (∀ w,_):=fun w=>setUp_any w v
 have c0:=h.c0
 have c1:=h.c1
 have c2:=h.c2
 have c3:=h.c3
 have c4:=h.c4
 have c5:=h.c5
 have c6:=h.c6
 have c7:=h.c7
 have z0:=h.fz 0
 have z1:=h.fz 1
 have z2:=h.fz 2
 have z3:=h.fz 3
 have z4:=h.fz 4
 have z5:=h.fz 5
 have z6:=h.fz 6
 have z7:=h.fz 7
 go_enter Tryz.func172,Tryz.ntmps172
 go_wp2
 go_region_with (go_at_call 216;refine (HS.out _).mono ?_;rintro e w1 ⟨rfl,hw⟩;replace hw:=hw.symm;subst hw)
 all_goals
  go_wp2
  go_end0
  exact ⟨rfl,beg8_a w B m h v,((((((((kpB B w _ _).trans (kpB B _ _ _)).trans (kpB B _ _ _)).trans (kpB B _ _ _)).trans (kpB B _ _ _)).trans (kpB B _ _ _)).trans (kpB B _ _ _)).trans (kpB B _ _ _)).drew⟩
theorem beg8_b (w:World) (B:Nat) (m:M2) (h:PAt w B m) (v:Int):PAt (((((((((w.setCell ⟨B,8,none⟩ (.int .u8 m.b.up)).setCell ⟨B,9,none⟩ (.int .u8 0)).setCell ⟨B,10,none⟩ (.int .u8 0)).setCell ⟨B,11,none⟩ (.int .u8 0)).setCell ⟨B,12,none⟩ (.int .u8 m.b.base)).setCell ⟨B,13,none⟩ (.int .u8 (setUpD v))).setCell ⟨B,14,none⟩ (.bool false)).setCell ⟨B,15,none⟩ (.bool false)).drew) B (m.set true { up:=m.b.up,asks:=0,srv:=0,msk:=0,base:=m.b.base,due:=setUpD v,sh:=false,ends:=false }):=
  PAt.drew ((((((((h.set 8 _ (m.set true { up:=m.b.up,asks:=m.b.asks,srv:=m.b.srv,msk:=m.b.msk,base:=m.b.base,due:=m.b.due,sh:=m.b.sh,ends:=m.b.ends }) rfl).set 9 _ (m.set true { up:=m.b.up,asks:=0,srv:=m.b.srv,msk:=m.b.msk,base:=m.b.base,due:=m.b.due,sh:=m.b.sh,ends:=m.b.ends }) rfl).set 10 _ (m.set true { up:=m.b.up,asks:=0,srv:=0,msk:=m.b.msk,base:=m.b.base,due:=m.b.due,sh:=m.b.sh,ends:=m.b.ends }) rfl).set 11 _ (m.set true { up:=m.b.up,asks:=0,srv:=0,msk:=0,base:=m.b.base,due:=m.b.due,sh:=m.b.sh,ends:=m.b.ends }) rfl).set 12 _ (m.set true { up:=m.b.up,asks:=0,srv:=0,msk:=0,base:=m.b.base,due:=m.b.due,sh:=m.b.sh,ends:=m.b.ends }) rfl).set 13 _ (m.set true { up:=m.b.up,asks:=0,srv:=0,msk:=0,base:=m.b.base,due:=setUpD v,sh:=m.b.sh,ends:=m.b.ends }) rfl).set 14 _ (m.set true { up:=m.b.up,asks:=0,srv:=0,msk:=0,base:=m.b.base,due:=setUpD v,sh:=false,ends:=m.b.ends }) rfl).set 15 _ (m.set true { up:=m.b.up,asks:=0,srv:=0,msk:=0,base:=m.b.base,due:=setUpD v,sh:=false,ends:=false }) rfl)
set_option maxRecDepth 20000 in
set_option maxHeartbeats 4000000 in
theorem begin_b (w:World) (B:Nat) (m:M2) (h:PAt w B m) (v:Int) (b16:(bits .and .u8 v 16 != 0)=true):Calls Tryz.prog 172 #[.pointer (some ⟨B,8,none⟩),.int .u8 v] w fun e w'=>e=.returned (.tuple #[])∧PAt w' B (m.set true { up:=m.b.up,asks:=0,srv:=0,msk:=0,base:=m.b.base,due:=setUpD v,sh:=false,ends:=false })∧Kp (isB B) w w':=by
 have HS:Hid (∀ w,_):=fun w=>setUp_any w v
 have c0:=h.c8
 have c1:=h.c9
 have c2:=h.c10
 have c3:=h.c11
 have c4:=h.c12
 have c5:=h.c13
 have c6:=h.c14
 have c7:=h.c15
 have z0:=h.fz 8
 have z1:=h.fz 9
 have z2:=h.fz 10
 have z3:=h.fz 11
 have z4:=h.fz 12
 have z5:=h.fz 13
 have z6:=h.fz 14
 have z7:=h.fz 15
 go_enter Tryz.func172,Tryz.ntmps172
 go_wp2
 go_region_with (go_at_call 216;refine (HS.out _).mono ?_;rintro e w1 ⟨rfl,hw⟩;replace hw:=hw.symm;subst hw)
 all_goals
  go_wp2
  go_end0
  exact ⟨rfl,beg8_b w B m h v,((((((((kpB B w _ _).trans (kpB B _ _ _)).trans (kpB B _ _ _)).trans (kpB B _ _ _)).trans (kpB B _ _ _)).trans (kpB B _ _ _)).trans (kpB B _ _ _)).trans (kpB B _ _ _)).drew⟩
end Go.Proofs.YtacgmoikegcopaaGreatDoor.Pc
