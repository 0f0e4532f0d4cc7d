/- The bus and its devices: PcCmd, PcDat, PcLine, PcSettle, PcClo. -/
import Derived.Test.YtacgmoikegcopaaGreatDoorEc21
import Derived.Test.YtacgmoikegcopaaGreatDoorEc20
import Derived.MapKept
namespace Go.Proofs.YtacgmoikegcopaaGreatDoor.Pc
open Go.ChangeShapes Go.WideShapes Go.ChangeAt Go.RowKit
set_option linter.unusedVariables false
set_option maxRecDepth 20000
theorem cmd_a (w:World) (B:Nat) (m:M2) (h:PAt w B m) (v:Int) (hv:By v):Calls Tryz.prog 172 #[.pointer (some ⟨B,0,none⟩),.int .u8 v] w fun e w'=>e=.returned (.tuple #[])∧PAt w' B (m.set false (m.a.cmd v))∧Kp (isB B) w w':=by
 have c0:=h.c0
 have c2:=h.c2
 have c4:=h.c4
 have c6:=h.c6
 have z2:=h.fz 2
 have z6:=h.fz 6
 obtain ⟨v0,v1⟩:=hv
 have b16:(bits .and .u8 v 16 != 0)=bt v 16:=rfl
 have b8:(bits .and .u8 v 8 != 0)=bt v 8:=rfl
 have b2:(bits .and .u8 v 2 != 0)=bt v 2:=rfl
 have b1:(bits .and .u8 v 1 != 0)=bt v 1:=rfl
 have a7:bits .and .u8 v 7=v%8:=and8_7 v0 v1
 have p7:(2:Int) ^ (v%8).toNat%256=pw (v%8):=pw_mod (by omega) (by omega)
 cases e16:bt v 16
 ·rw [e16] at b16
  cases e8:bt v 8
  ·rw [e8] at b8
   by_cases g1:v / 32=1
   ·have hX:m.a.cmd v={ m.a with srv:=bits .and .u8 m.a.srv ((m.a.srv - 1)%256) }:=by simp [Ch.cmd,e16,e8,g1]
    rw [hX]
    go_enter Tryz.func172,Tryz.ntmps172
    go_wp2
    go_region
    all_goals
     go_wp2
     go_end0
     exact ⟨rfl,PAt.drew (h.set 2 _ _ rfl),(kpB B w _ _).drew⟩
   ·by_cases g3:v / 32=3
    ·have hX:m.a.cmd v={ m.a with srv:=bits .andNot .u8 m.a.srv (pw (v%8)) }:=by simp [Ch.cmd,e16,e8,g3]
     rw [hX]
     go_enter Tryz.func172,Tryz.ntmps172
     go_wp2
     go_end0
     exact ⟨rfl,h.set 2 _ _ rfl,kpB B w _ _⟩
    ·have hX:m.a.cmd v=m.a:=by simp [Ch.cmd,e16,e8,g1,g3]
     rw [hX]
     go_enter Tryz.func172,Tryz.ntmps172
     go_wp2
     go_end0
     exact ⟨rfl,h,Kp.refl _ _⟩
  ·rw [e8] at b8
   cases e2:bt v 2
   ·rw [e2] at b2
    have hX:m.a.cmd v=m.a:=by simp [Ch.cmd,e16,e8,e2]
    rw [hX]
    go_enter Tryz.func172,Tryz.ntmps172
    go_wp2
    go_end0
    exact ⟨rfl,h,Kp.refl _ _⟩
   ·rw [e2] at b2
    have hX:m.a.cmd v={ m.a with sh:=bt v 1 }:=by simp [Ch.cmd,e16,e8,e2]
    rw [hX]
    go_enter Tryz.func172,Tryz.ntmps172
    go_wp2
    go_end0
    exact ⟨rfl,h.set 6 _ _ rfl,kpB B w _ _⟩
 ·rw [e16] at b16
  have hX:m.a.cmd v={ up:=m.a.up,asks:=0,srv:=0,msk:=0,base:=m.a.base,due:=setUpD v,sh:=false,ends:=false }:=by simp [Ch.cmd,e16]
  rw [hX]
  exact begin_a w B m h v b16
theorem cmd_b (w:World) (B:Nat) (m:M2) (h:PAt w B m) (v:Int) (hv:By v):Calls Tryz.prog 172 #[.pointer (some ⟨B,8,none⟩),.int .u8 v] w fun e w'=>e=.returned (.tuple #[])∧PAt w' B (m.set true (m.b.cmd v))∧Kp (isB B) w w':=by
 have c0:=h.c8
 have c2:=h.c10
 have c4:=h.c12
 have c6:=h.c14
 have z2:=h.fz 10
 have z6:=h.fz 14
 obtain ⟨v0,v1⟩:=hv
 have b16:(bits .and .u8 v 16 != 0)=bt v 16:=rfl
 have b8:(bits .and .u8 v 8 != 0)=bt v 8:=rfl
 have b2:(bits .and .u8 v 2 != 0)=bt v 2:=rfl
 have b1:(bits .and .u8 v 1 != 0)=bt v 1:=rfl
 have a7:bits .and .u8 v 7=v%8:=and8_7 v0 v1
 have p7:(2:Int) ^ (v%8).toNat%256=pw (v%8):=pw_mod (by omega) (by omega)
 cases e16:bt v 16
 ·rw [e16] at b16
  cases e8:bt v 8
  ·rw [e8] at b8
   by_cases g1:v / 32=1
   ·have hX:m.b.cmd v={ m.b with srv:=bits .and .u8 m.b.srv ((m.b.srv - 1)%256) }:=by simp [Ch.cmd,e16,e8,g1]
    rw [hX]
    go_enter Tryz.func172,Tryz.ntmps172
    go_wp2
    go_region
    all_goals
     go_wp2
     go_end0
     exact ⟨rfl,PAt.drew (h.set 10 _ _ rfl),(kpB B w _ _).drew⟩
   ·by_cases g3:v / 32=3
    ·have hX:m.b.cmd v={ m.b with srv:=bits .andNot .u8 m.b.srv (pw (v%8)) }:=by simp [Ch.cmd,e16,e8,g3]
     rw [hX]
     go_enter Tryz.func172,Tryz.ntmps172
     go_wp2
     go_end0
     exact ⟨rfl,h.set 10 _ _ rfl,kpB B w _ _⟩
    ·have hX:m.b.cmd v=m.b:=by simp [Ch.cmd,e16,e8,g1,g3]
     rw [hX]
     go_enter Tryz.func172,Tryz.ntmps172
     go_wp2
     go_end0
     exact ⟨rfl,h,Kp.refl _ _⟩
  ·rw [e8] at b8
   cases e2:bt v 2
   ·rw [e2] at b2
    have hX:m.b.cmd v=m.b:=by simp [Ch.cmd,e16,e8,e2]
    rw [hX]
    go_enter Tryz.func172,Tryz.ntmps172
    go_wp2
    go_end0
    exact ⟨rfl,h,Kp.refl _ _⟩
   ·rw [e2] at b2
    have hX:m.b.cmd v={ m.b with sh:=bt v 1 }:=by simp [Ch.cmd,e16,e8,e2]
    rw [hX]
    go_enter Tryz.func172,Tryz.ntmps172
    go_wp2
    go_end0
    exact ⟨rfl,h.set 14 _ _ rfl,kpB B w _ _⟩
 ·rw [e16] at b16
  have hX:m.b.cmd v={ up:=m.b.up,asks:=0,srv:=0,msk:=0,base:=m.b.base,due:=setUpD v,sh:=false,ends:=false }:=by simp [Ch.cmd,e16]
  rw [hX]
  exact begin_b w B m h v b16
theorem dat_a (w:World) (B:Nat) (m:M2) (h:PAt w B m) (v:Int) (hv:By v):Calls Tryz.prog 173 #[.pointer (some ⟨B,0,none⟩),.int .u8 v] w fun e w'=>e=.returned (.tuple #[])∧PAt w' B (m.set false (m.a.dat v))∧Kp (isB B) w w':=by
 have c5:=h.c5
 have c3:=h.c3
 have c4:=h.c4
 have c7:=h.c7
 have z3:=h.fz 3
 have z4:=h.fz 4
 have z5:=h.fz 5
 have z7:=h.fz 7
 obtain ⟨v0,v1⟩:=hv
 have b2:(bits .and .u8 v 2 != 0)=bt v 2:=rfl
 have a7:bits .andNot .u8 v 7=v - v%8:=not8_7 v0 v1
 have lb:bits .and .u8 m.a.due (-m.a.due%256)=lowB m.a.due:=rfl
 unfold Ch.dat
 by_cases g0:lowB m.a.due=0
 ·have hX:m.a.dat1 v={ m.a with msk:=v }:=by unfold Ch.dat1;rw [if_pos g0]
  rw [hX]
  have r1:∀ n,PAt ((w.drewN n).setCell ⟨B,3,none⟩ (.int .u8 v)) B (m.set false { m.a with msk:=v }):=fun n=>(h.drewN n).set 3 _ _ rfl
  have c5':∀ n,((w.drewN n).setCell ⟨B,3,none⟩ (.int .u8 v)).cell? ⟨B,5,none⟩=some (.int .u8 m.a.due):=fun n=>(r1 n).c5
  go_enter Tryz.func173,Tryz.ntmps173
  go_wp2
  go_quiet (fail)
  go_wp2
  go_region
  all_goals
   go_wp2
   go_end0
   exact ⟨rfl,PAt.drew ((r1 _).set 5 _ _ rfl),((((Kp.refl _ w).drewN _).trans (kpB B _ _ _)).trans (kpB B _ _ _)).drew⟩
 ·by_cases g1:lowB m.a.due=1
  ·have hX:m.a.dat1 v={ m.a with base:=v - v%8 }:=by unfold Ch.dat1;rw [if_neg g0,if_pos g1]
   rw [hX]
   have r1:∀ n,PAt ((w.drewN n).setCell ⟨B,4,none⟩ (.int .u8 (v - v%8))) B (m.set false { m.a with base:=v - v%8 }):=fun n=>(h.drewN n).set 4 _ _ rfl
   have c5':∀ n,((w.drewN n).setCell ⟨B,4,none⟩ (.int .u8 (v - v%8))).cell? ⟨B,5,none⟩=some (.int .u8 m.a.due):=fun n=>(r1 n).c5
   go_enter Tryz.func173,Tryz.ntmps173
   go_wp2
   go_quiet (fail)
   go_wp2
   go_region
   all_goals
    go_wp2
    go_end0
    exact ⟨rfl,PAt.drew ((r1 _).set 5 _ _ rfl),((((Kp.refl _ w).drewN _).trans (kpB B _ _ _)).trans (kpB B _ _ _)).drew⟩
  ·by_cases g4:lowB m.a.due=4
   ·have hX:m.a.dat1 v={ m.a with ends:=bt v 2 }:=by unfold Ch.dat1;rw [if_neg g0,if_neg g1,if_pos g4]
    rw [hX]
    have r1:∀ n,PAt ((w.drewN n).setCell ⟨B,7,none⟩ (.bool (bt v 2))) B (m.set false { m.a with ends:=bt v 2 }):=fun n=>(h.drewN n).set 7 _ _ rfl
    have c5':∀ n,((w.drewN n).setCell ⟨B,7,none⟩ (.bool (bt v 2))).cell? ⟨B,5,none⟩=some (.int .u8 m.a.due):=fun n=>(r1 n).c5
    go_enter Tryz.func173,Tryz.ntmps173
    go_wp2
    go_quiet (fail)
    go_wp2
    go_region
    all_goals
     go_wp2
     go_end0
     exact ⟨rfl,PAt.drew ((r1 _).set 5 _ _ rfl),((((Kp.refl _ w).drewN _).trans (kpB B _ _ _)).trans (kpB B _ _ _)).drew⟩
   ·have hX:m.a.dat1 v=m.a:=by unfold Ch.dat1;rw [if_neg g0,if_neg g1,if_neg g4]
    rw [hX]
    go_enter Tryz.func173,Tryz.ntmps173
    go_wp2
    go_quiet (fail)
    go_wp2
    go_region
    all_goals
     go_wp2
     go_end0
     exact ⟨rfl,(h.drewN _).set 5 _ _ rfl,((Kp.refl _ w).drewN _).trans (kpB B _ _ _)⟩
theorem dat_b (w:World) (B:Nat) (m:M2) (h:PAt w B m) (v:Int) (hv:By v):Calls Tryz.prog 173 #[.pointer (some ⟨B,8,none⟩),.int .u8 v] w fun e w'=>e=.returned (.tuple #[])∧PAt w' B (m.set true (m.b.dat v))∧Kp (isB B) w w':=by
 have c5:=h.c13
 have c3:=h.c11
 have c4:=h.c12
 have c7:=h.c15
 have z3:=h.fz 11
 have z4:=h.fz 12
 have z5:=h.fz 13
 have z7:=h.fz 15
 obtain ⟨v0,v1⟩:=hv
 have b2:(bits .and .u8 v 2 != 0)=bt v 2:=rfl
 have a7:bits .andNot .u8 v 7=v - v%8:=not8_7 v0 v1
 have lb:bits .and .u8 m.b.due (-m.b.due%256)=lowB m.b.due:=rfl
 unfold Ch.dat
 by_cases g0:lowB m.b.due=0
 ·have hX:m.b.dat1 v={ m.b with msk:=v }:=by unfold Ch.dat1;rw [if_pos g0]
  rw [hX]
  have r1:∀ n,PAt ((w.drewN n).setCell ⟨B,11,none⟩ (.int .u8 v)) B (m.set true { m.b with msk:=v }):=fun n=>(h.drewN n).set 11 _ _ rfl
  have c5':∀ n,((w.drewN n).setCell ⟨B,11,none⟩ (.int .u8 v)).cell? ⟨B,13,none⟩=some (.int .u8 m.b.due):=fun n=>(r1 n).c13
  go_enter Tryz.func173,Tryz.ntmps173
  go_wp2
  go_quiet (fail)
  go_wp2
  go_region
  all_goals
   go_wp2
   go_end0
   exact ⟨rfl,PAt.drew ((r1 _).set 13 _ _ rfl),((((Kp.refl _ w).drewN _).trans (kpB B _ _ _)).trans (kpB B _ _ _)).drew⟩
 ·by_cases g1:lowB m.b.due=1
  ·have hX:m.b.dat1 v={ m.b with base:=v - v%8 }:=by unfold Ch.dat1;rw [if_neg g0,if_pos g1]
   rw [hX]
   have r1:∀ n,PAt ((w.drewN n).setCell ⟨B,12,none⟩ (.int .u8 (v - v%8))) B (m.set true { m.b with base:=v - v%8 }):=fun n=>(h.drewN n).set 12 _ _ rfl
   have c5':∀ n,((w.drewN n).setCell ⟨B,12,none⟩ (.int .u8 (v - v%8))).cell? ⟨B,13,none⟩=some (.int .u8 m.b.due):=fun n=>(r1 n).c13
   go_enter Tryz.func173,Tryz.ntmps173
   go_wp2
   go_quiet (fail)
   go_wp2
   go_region
   all_goals
    go_wp2
    go_end0
    exact ⟨rfl,PAt.drew ((r1 _).set 13 _ _ rfl),((((Kp.refl _ w).drewN _).trans (kpB B _ _ _)).trans (kpB B _ _ _)).drew⟩
  ·by_cases g4:lowB m.b.due=4
   ·have hX:m.b.dat1 v={ m.b with ends:=bt v 2 }:=by unfold Ch.dat1;rw [if_neg g0,if_neg g1,if_pos g4]
    rw [hX]
    have r1:∀ n,PAt ((w.drewN n).setCell ⟨B,15,none⟩ (.bool (bt v 2))) B (m.set true { m.b with ends:=bt v 2 }):=fun n=>(h.drewN n).set 15 _ _ rfl
    have c5':∀ n,((w.drewN n).setCell ⟨B,15,none⟩ (.bool (bt v 2))).cell? ⟨B,13,none⟩=some (.int .u8 m.b.due):=fun n=>(r1 n).c13
    go_enter Tryz.func173,Tryz.ntmps173
    go_wp2
    go_quiet (fail)
    go_wp2
    go_region
    all_goals
     go_wp2
     go_end0
     exact ⟨rfl,PAt.drew ((r1 _).set 13 _ _ rfl),((((Kp.refl _ w).drewN _).trans (kpB B _ _ _)).trans (kpB B _ _ _)).drew⟩
   ·have hX:m.b.dat1 v=m.b:=by unfold Ch.dat1;rw [if_neg g0,if_neg g1,if_neg g4]
    rw [hX]
    go_enter Tryz.func173,Tryz.ntmps173
    go_wp2
    go_quiet (fail)
    go_wp2
    go_region
    all_goals
     go_wp2
     go_end0
     exact ⟨rfl,(h.drewN _).set 13 _ _ rfl,((Kp.refl _ w).drewN _).trans (kpB B _ _ _)⟩
theorem line_a (w:World) (B:Nat) (m:M2) (h:PAt w B m) (n:Int) (n0:0≤n) (n1:n < 8) (u:Bool):Calls Tryz.prog 185 #[.pointer (some ⟨B,0,none⟩),.int .i64 n,.bool u] w fun e w'=>e=.returned (.tuple #[])∧PAt w' B (m.set false (m.a.line n u))∧Kp (isB B) w w':=by
 have c0:=h.c0
 have c1:=h.c1
 have z0:=h.fz 0
 have z1:=h.fz 1
 have pn:(2:Int) ^ n.toNat%256=pw n:=pw_mod n0 n1
 have bu:(bits .and .u8 m.a.up (pw n)==0)=!bt m.a.up (pw n):=by unfold bt;simp [bne]
 cases u
 ·have hX:m.a.line n false={ m.a with up:=bits .andNot .u8 m.a.up (pw n),asks:=bits .andNot .u8 m.a.asks (pw n) }:=by simp [Ch.line]
  rw [hX]
  go_enter Tryz.func185,Tryz.ntmps185
  go_wp2
  go_end0
  exact ⟨rfl,(h.set 0 _ (m.set false { m.a with up:=bits .andNot .u8 m.a.up (pw n) }) rfl).set 1 _ _ rfl,(kpB B w _ _).trans (kpB B _ _ _)⟩
 ·cases eu:bt m.a.up (pw n)
  ·rw [eu] at bu
   have hX:m.a.line n true={ m.a with up:=bits .or .u8 m.a.up (pw n),asks:=bits .or .u8 m.a.asks (pw n) }:=by simp [Ch.line,eu]
   rw [hX]
   go_enter Tryz.func185,Tryz.ntmps185
   go_wp2
   go_end0
   exact ⟨rfl,(h.set 0 _ (m.set false { m.a with up:=bits .or .u8 m.a.up (pw n) }) rfl).set 1 _ _ rfl,(kpB B w _ _).trans (kpB B _ _ _)⟩
  ·rw [eu] at bu
   have hX:m.a.line n true=m.a:=by simp [Ch.line,eu]
   rw [hX]
   go_enter Tryz.func185,Tryz.ntmps185
   go_wp2
   go_end0
   exact ⟨rfl,h,Kp.refl _ _⟩
theorem line_b (w:World) (B:Nat) (m:M2) (h:PAt w B m) (n:Int) (n0:0≤n) (n1:n < 8) (u:Bool):Calls Tryz.prog 185 #[.pointer (some ⟨B,8,none⟩),.int .i64 n,.bool u] w fun e w'=>e=.returned (.tuple #[])∧PAt w' B (m.set true (m.b.line n u))∧Kp (isB B) w w':=by
 have c0:=h.c8
 have c1:=h.c9
 have z0:=h.fz 8
 have z1:=h.fz 9
 have pn:(2:Int) ^ n.toNat%256=pw n:=pw_mod n0 n1
 have bu:(bits .and .u8 m.b.up (pw n)==0)=!bt m.b.up (pw n):=by unfold bt;simp [bne]
 cases u
 ·have hX:m.b.line n false={ m.b with up:=bits .andNot .u8 m.b.up (pw n),asks:=bits .andNot .u8 m.b.asks (pw n) }:=by simp [Ch.line]
  rw [hX]
  go_enter Tryz.func185,Tryz.ntmps185
  go_wp2
  go_end0
  exact ⟨rfl,(h.set 8 _ (m.set true { m.b with up:=bits .andNot .u8 m.b.up (pw n) }) rfl).set 9 _ _ rfl,(kpB B w _ _).trans (kpB B _ _ _)⟩
 ·cases eu:bt m.b.up (pw n)
  ·rw [eu] at bu
   have hX:m.b.line n true={ m.b with up:=bits .or .u8 m.b.up (pw n),asks:=bits .or .u8 m.b.asks (pw n) }:=by simp [Ch.line,eu]
   rw [hX]
   go_enter Tryz.func185,Tryz.ntmps185
   go_wp2
   go_end0
   exact ⟨rfl,(h.set 8 _ (m.set true { m.b with up:=bits .or .u8 m.b.up (pw n) }) rfl).set 9 _ _ rfl,(kpB B w _ _).trans (kpB B _ _ _)⟩
  ·rw [eu] at bu
   have hX:m.b.line n true=m.b:=by simp [Ch.line,eu]
   rw [hX]
   go_enter Tryz.func185,Tryz.ntmps185
   go_wp2
   go_end0
   exact ⟨rfl,h,Kp.refl _ _⟩
theorem settle_ok (w:World) (B:Nat) (m:M2) (h:PAt w B m) (k:m.b.Ok):Calls Tryz.prog 215 #[.pointer (some ⟨B,0,none⟩)] w fun e w'=>e=.returned (.tuple #[])∧PAt w' B m.settle∧Kp (isB B) w w':=by
 have c1:=h.c1
 have z1:=h.fz 1
 have r1:PAt (w.setCell ⟨B,1,none⟩ (.int .u8 (bits .andNot .u8 m.a.asks 4))).drew B ⟨{ m.a with asks:=bits .andNot .u8 m.a.asks 4 },m.b⟩:=PAt.drew (h.set 1 _ _ rfl)
 have HN:Hid _:=next_b _ B _ r1 k
 have k1:Kp (isB B) w (w.setCell ⟨B,1,none⟩ (.int .u8 (bits .andNot .u8 m.a.asks 4))).drew:=(kpB B w _ _).drew
 have hs:(⟨{ m.a with asks:=bits .andNot .u8 m.a.asks 4 },m.b⟩:M2).b=m.b:=rfl
 rw [hs] at HN
 by_cases g:m.b.next=-1
 ·have hX:m.settle=⟨{ m.a with asks:=bits .andNot .u8 m.a.asks 4 },m.b⟩:=by unfold M2.settle;rw [if_pos g]
  rw [hX]
  rw [g] at HN
  go_enter Tryz.func215,Tryz.ntmps215
  go_wp2
  go_region
  all_goals
   go_wp2_with fail
   refine Calls.mono HN.out ?_;rintro e w1 ⟨rfl,k2⟩
   go_wp2
   go_end0
   exact ⟨rfl,r1.kept k2 id,k1.trans k2.any⟩
 ·have hX:m.settle=⟨{ m.a with asks:=bits .or .u8 (bits .andNot .u8 m.a.asks 4) 4 },m.b⟩:=by unfold M2.settle;rw [if_neg g]
  rw [hX]
  have g':(m.b.next != -1)=true:=by simp [g]
  obtain ⟨N,hN⟩:∃ N,N=m.b.next:=⟨_,rfl⟩
  rw [← hN] at HN g'
  clear hN g
  go_enter Tryz.func215,Tryz.ntmps215
  go_wp2
  go_region
  all_goals
   go_wp2_with fail
   refine Calls.mono HN.out ?_;rintro e w1 ⟨rfl,k2⟩
   have r2:=r1.kept k2 id
   have d1:=r2.c1
   have y1:=r2.fz 1
   replace k1:=k1.trans k2.any
   clear c1 z1
   go_wp2
   go_region
   all_goals
    go_wp2
    go_end0
    exact ⟨rfl,PAt.drew (r2.set 1 _ _ rfl),(k1.trans (kpB B _ _ _)).drew⟩
def ch0:Ch:=⟨0,0,0,0,0,0,false,false⟩
theorem new_ok (w:World):Calls Tryz.prog 57 #[] w fun e w'=>e=.returned (.pointer (some ⟨w.heap.size,0,none⟩))∧PAt w' w.heap.size ⟨ch0,ch0⟩∧Kp noB w w':=by
 go_enter Tryz.func57,Tryz.ntmps57
 go_wp2
 go_ret
 exact ⟨rfl,⟨(MapKept.heap_alloc w _).1⟩,Kp.alloc _ _ _⟩
theorem outc_a (w:World) (B q:Nat) (m:M2) (h:PAt w B m) (v:Int) (hv:By v) (hq:w.cell? ⟨q,0,none⟩=some (.int .u8 v)):Calls Tryz.prog 171 #[.pointer (some ⟨B,0,none⟩),.int .i64 0,.pointer (some ⟨q,0,none⟩)] w fun e w'=>e=.returned (.tuple #[])∧PAt w' B (m.set false (m.a.cmd v))∧Kp (isB B) w w':=by
 have H:Hid _:=cmd_a w B m h v hv
 go_enter Tryz.func171,Tryz.ntmps171
 go_wp2_with fail
 refine Calls.mono H.out ?_;rintro e w1 ⟨rfl,r1,k1⟩
 go_wp2
 go_end0
 exact ⟨rfl,r1,k1⟩
theorem outd_a (w:World) (B q:Nat) (m:M2) (h:PAt w B m) (v:Int) (hv:By v) (hq:w.cell? ⟨q,0,none⟩=some (.int .u8 v)):Calls Tryz.prog 171 #[.pointer (some ⟨B,0,none⟩),.int .i64 1,.pointer (some ⟨q,0,none⟩)] w fun e w'=>e=.returned (.tuple #[])∧PAt w' B (m.set false (m.a.dat v))∧Kp (isB B) w w':=by
 have H:Hid _:=dat_a w B m h v hv
 go_enter Tryz.func171,Tryz.ntmps171
 go_wp2_with fail
 refine Calls.mono H.out ?_;rintro e w1 ⟨rfl,r1,k1⟩
 go_wp2
 go_end0
 exact ⟨rfl,r1,k1⟩
theorem linc_a (w:World) (B q r:Nat) (m:M2) (h:PAt w B m) (n x:Int) (u:Bool) (n0:0≤n) (n1:n < 8) (hx:(x != 2)=true) (hq:w.cell? ⟨q,0,none⟩=some (.int .i64 x)) (hr:w.cell? ⟨r,0,none⟩=some (.bool u)):Calls Tryz.prog 184 #[.pointer (some ⟨B,0,none⟩),.int .i64 n,.pointer (some ⟨q,0,none⟩),.pointer (some ⟨r,0,none⟩)] w fun e w'=>e=.returned (.tuple #[])∧PAt w' B (m.set false (m.a.line n u))∧Kp (isB B) w w':=by
 have H:Hid _:=line_a w B m h n n0 n1 u
 go_enter Tryz.func184,Tryz.ntmps184
 go_wp2_with fail
 refine Calls.mono H.out ?_;rintro e w1 ⟨rfl,r1,k1⟩
 go_wp2
 go_end0
 exact ⟨rfl,r1,k1⟩
theorem outc_b (w:World) (B q:Nat) (m:M2) (h:PAt w B m) (v:Int) (hv:By v) (hq:w.cell? ⟨q,0,none⟩=some (.int .u8 v)):Calls Tryz.prog 171 #[.pointer (some ⟨B,8,none⟩),.int .i64 0,.pointer (some ⟨q,0,none⟩)] w fun e w'=>e=.returned (.tuple #[])∧PAt w' B (m.set true (m.b.cmd v))∧Kp (isB B) w w':=by
 have H:Hid _:=cmd_b w B m h v hv
 go_enter Tryz.func171,Tryz.ntmps171
 go_wp2_with fail
 refine Calls.mono H.out ?_;rintro e w1 ⟨rfl,r1,k1⟩
 go_wp2
 go_end0
 exact ⟨rfl,r1,k1⟩
theorem outd_b (w:World) (B q:Nat) (m:M2) (h:PAt w B m) (v:Int) (hv:By v) (hq:w.cell? ⟨q,0,none⟩=some (.int .u8 v)):Calls Tryz.prog 171 #[.pointer (some ⟨B,8,none⟩),.int .i64 1,.pointer (some ⟨q,0,none⟩)] w fun e w'=>e=.returned (.tuple #[])∧PAt w' B (m.set true (m.b.dat v))∧Kp (isB B) w w':=by
 have H:Hid _:=dat_b w B m h v hv
 go_enter Tryz.func171,Tryz.ntmps171
 go_wp2_with fail
 refine Calls.mono H.out ?_;rintro e w1 ⟨rfl,r1,k1⟩
 go_wp2
 go_end0
 exact ⟨rfl,r1,k1⟩
theorem linc_b (w:World) (B q r:Nat) (m:M2) (h:PAt w B m) (n x:Int) (u:Bool) (n0:0≤n) (n1:n < 8) (hx:(x != 2)=true) (hq:w.cell? ⟨q,0,none⟩=some (.int .i64 x)) (hr:w.cell? ⟨r,0,none⟩=some (.bool u)):Calls Tryz.prog 184 #[.pointer (some ⟨B,8,none⟩),.int .i64 n,.pointer (some ⟨q,0,none⟩),.pointer (some ⟨r,0,none⟩)] w fun e w'=>e=.returned (.tuple #[])∧PAt w' B (m.set true (m.b.line n u))∧Kp (isB B) w w':=by
 have H:Hid _:=line_b w B m h n n0 n1 u
 go_enter Tryz.func184,Tryz.ntmps184
 go_wp2_with fail
 refine Calls.mono H.out ?_;rintro e w1 ⟨rfl,r1,k1⟩
 go_wp2
 go_end0
 exact ⟨rfl,r1,k1⟩
theorem linc_2 (w:World) (B q r:Nat) (hq:w.cell? ⟨q,0,none⟩=some (.int .i64 2)):Calls Tryz.prog 184 #[.pointer (some ⟨B,0,none⟩),.int .i64 2,.pointer (some ⟨q,0,none⟩),.pointer (some ⟨r,0,none⟩)] w fun e w'=>e=.returned (.tuple #[])∧w'=w:=by
 go_enter Tryz.func184,Tryz.ntmps184
 go_wp2
 go_end0
 exact ⟨rfl,rfl⟩
theorem cell_kept {S:Nat→Prop} {w w':World} {b o:Nat} {v:Value} (h:w.cell? ⟨b,o,none⟩=some v) (k:Kp S w w') (hS:¬ S b):w'.cell? ⟨b,o,none⟩=some v:=by
 have hb:b < w.heap.size:=by
  by_cases e:b < w.heap.size
  ·exact e
  ·have:w.heap[b]?=none:=Array.getElem?_eq_none (by omega)
   simp [World.cell?,this] at h
 rw [World.cell?_of_block (w:=w) (k.block b hb hS)];exact h
end Go.Proofs.YtacgmoikegcopaaGreatDoor.Pc
