/- The bus and its devices: PcWith. -/
import Derived.Test.YtacgmoikegcopaaGreatDoorEc22
namespace Go.Proofs.YtacgmoikegcopaaGreatDoor.Pc
open Go.ChangeShapes Go.WideShapes Go.ChangeAt Go.RowKit
set_option linter.unusedVariables false
set_option maxRecDepth 20000
theorem Kp.ofDrew {S:Nat→Prop} {w w':World} (h:Kp S w.drew w'):Kp S w w':=⟨h.os,h.tape,h.output,h.size,h.block⟩
theorem withO_0 (w:World) (B q:Nat) (m:M2) (h:PAt w B m) (k:m.Ok) (v:Int) (hv:By v) (hq:w.cell? ⟨q,0,none⟩=some (.int .u8 v)):Calls Tryz.prog 170 #[.pointer (some ⟨B,0,none⟩),.int .i64 0,.int .i64 2,.func (.func 171) #[] #[.pointer (some ⟨q,0,none⟩)]] w fun e w'=>e=.returned (.int .i64 0)∧PAt w' B (m.set false (m.a.cmd v)).settle∧Kp (isB B) w w':=by
 have H:Hid _:=outc_a w.drew B q m h.drew v hv hq
 have HS:Hid (∀ w,PAt w B (m.set false (m.a.cmd v))→_):=fun w h=>settle_ok w B _ h (k.set false ((k.get false).cmd hv)).b
 go_enter Tryz.func170,Tryz.ntmps170
 go_wp2
 go_region_with (go_at_call 171;refine Calls.mono H.out ?_;rintro e w1 ⟨rfl,h1,k1⟩)
 all_goals
  go_wp2_with fail
  refine Calls.mono (HS.out _ h1) ?_;rintro e w2 ⟨rfl,h2,k2⟩
  go_wp2
  go_ret
  exact ⟨rfl,h2,k1.ofDrew.trans k2⟩
theorem withO_1 (w:World) (B q:Nat) (m:M2) (h:PAt w B m) (k:m.Ok) (v:Int) (hv:By v) (hq:w.cell? ⟨q,0,none⟩=some (.int .u8 v)):Calls Tryz.prog 170 #[.pointer (some ⟨B,0,none⟩),.int .i64 1,.int .i64 2,.func (.func 171) #[] #[.pointer (some ⟨q,0,none⟩)]] w fun e w'=>e=.returned (.int .i64 0)∧PAt w' B (m.set false (m.a.dat v)).settle∧Kp (isB B) w w':=by
 have H:Hid _:=outd_a w.drew B q m h.drew v hv hq
 have HS:Hid (∀ w,PAt w B (m.set false (m.a.dat v))→_):=fun w h=>settle_ok w B _ h (k.set false ((k.get false).dat hv)).b
 go_enter Tryz.func170,Tryz.ntmps170
 go_wp2
 go_region_with (go_at_call 171;refine Calls.mono H.out ?_;rintro e w1 ⟨rfl,h1,k1⟩)
 all_goals
  go_wp2_with fail
  refine Calls.mono (HS.out _ h1) ?_;rintro e w2 ⟨rfl,h2,k2⟩
  go_wp2
  go_ret
  exact ⟨rfl,h2,k1.ofDrew.trans k2⟩
theorem withO_2 (w:World) (B q:Nat) (m:M2) (h:PAt w B m) (k:m.Ok) (v:Int) (hv:By v) (hq:w.cell? ⟨q,0,none⟩=some (.int .u8 v)):Calls Tryz.prog 170 #[.pointer (some ⟨B,0,none⟩),.int .i64 2,.int .i64 2,.func (.func 171) #[] #[.pointer (some ⟨q,0,none⟩)]] w fun e w'=>e=.returned (.int .i64 0)∧PAt w' B (m.set true (m.b.cmd v)).settle∧Kp (isB B) w w':=by
 have H:Hid _:=outc_b w.drew B q m h.drew v hv hq
 have HS:Hid (∀ w,PAt w B (m.set true (m.b.cmd v))→_):=fun w h=>settle_ok w B _ h (k.set true ((k.get true).cmd hv)).b
 go_enter Tryz.func170,Tryz.ntmps170
 go_wp2
 go_region_with (go_at_call 171;refine Calls.mono H.out ?_;rintro e w1 ⟨rfl,h1,k1⟩)
 all_goals
  go_wp2_with fail
  refine Calls.mono (HS.out _ h1) ?_;rintro e w2 ⟨rfl,h2,k2⟩
  go_wp2
  go_ret
  exact ⟨rfl,h2,k1.ofDrew.trans k2⟩
theorem withO_3 (w:World) (B q:Nat) (m:M2) (h:PAt w B m) (k:m.Ok) (v:Int) (hv:By v) (hq:w.cell? ⟨q,0,none⟩=some (.int .u8 v)):Calls Tryz.prog 170 #[.pointer (some ⟨B,0,none⟩),.int .i64 3,.int .i64 2,.func (.func 171) #[] #[.pointer (some ⟨q,0,none⟩)]] w fun e w'=>e=.returned (.int .i64 0)∧PAt w' B (m.set true (m.b.dat v)).settle∧Kp (isB B) w w':=by
 have H:Hid _:=outd_b w.drew B q m h.drew v hv hq
 have HS:Hid (∀ w,PAt w B (m.set true (m.b.dat v))→_):=fun w h=>settle_ok w B _ h (k.set true ((k.get true).dat hv)).b
 go_enter Tryz.func170,Tryz.ntmps170
 go_wp2
 go_region_with (go_at_call 171;refine Calls.mono H.out ?_;rintro e w1 ⟨rfl,h1,k1⟩)
 all_goals
  go_wp2_with fail
  refine Calls.mono (HS.out _ h1) ?_;rintro e w2 ⟨rfl,h2,k2⟩
  go_wp2
  go_ret
  exact ⟨rfl,h2,k1.ofDrew.trans k2⟩
theorem withL_a (w:World) (B q r:Nat) (m:M2) (h:PAt w B m) (k:m.Ok) (n x:Int) (u:Bool) (n0:0≤n) (n1:n < 8) (ex:x=n) (hx:(x != 2)=true) (hq:w.cell? ⟨q,0,none⟩=some (.int .i64 x)) (hr:w.cell? ⟨r,0,none⟩=some (.bool u)):Calls Tryz.prog 170 #[.pointer (some ⟨B,0,none⟩),.int .i64 x,.int .i64 8,.func (.func 184) #[] #[.pointer (some ⟨q,0,none⟩),.pointer (some ⟨r,0,none⟩)]] w fun e w'=>e=.returned (.int .i64 0)∧PAt w' B (m.set false (m.a.line n u)).settle∧Kp (isB B) w w':=by
 have H:Hid _:=linc_a w.drew B q r m h.drew n x u n0 n1 hx hq hr
 have HS:Hid (∀ w,PAt w B (m.set false (m.a.line n u))→_):=fun w h=>settle_ok w B _ h (k.set false ((k.get false).line n0 n1 u)).b
 have x0:0≤x:=by omega
 have x1:x < 16:=by omega
 have g0:decide (x < 0)=false:=by simp;omega
 have g1:decide (x ≥ 16)=false:=by simp;omega
 have d1:x.tdiv 8=0:=by rw [Int.tdiv_eq_ediv_of_nonneg x0];omega
 have d2:x.tmod 8=n:=by rw [Int.tmod_eq_emod_of_nonneg x0];omega
 clear ex
 go_enter Tryz.func170,Tryz.ntmps170
 go_wp2
 go_region_with (go_at_call 184;refine Calls.mono H.out ?_;rintro e w1 ⟨rfl,h1,k1⟩)
 all_goals
  go_wp2_with fail
  refine Calls.mono (HS.out _ h1) ?_;rintro e w2 ⟨rfl,h2,k2⟩
  go_wp2
  go_ret
  exact ⟨rfl,h2,k1.ofDrew.trans k2⟩
theorem withL_b (w:World) (B q r:Nat) (m:M2) (h:PAt w B m) (k:m.Ok) (n x:Int) (u:Bool) (n0:0≤n) (n1:n < 8) (ex:x=n+8) (hx:(x != 2)=true) (hq:w.cell? ⟨q,0,none⟩=some (.int .i64 x)) (hr:w.cell? ⟨r,0,none⟩=some (.bool u)):Calls Tryz.prog 170 #[.pointer (some ⟨B,0,none⟩),.int .i64 x,.int .i64 8,.func (.func 184) #[] #[.pointer (some ⟨q,0,none⟩),.pointer (some ⟨r,0,none⟩)]] w fun e w'=>e=.returned (.int .i64 0)∧PAt w' B (m.set true (m.b.line n u)).settle∧Kp (isB B) w w':=by
 have H:Hid _:=linc_b w.drew B q r m h.drew n x u n0 n1 hx hq hr
 have HS:Hid (∀ w,PAt w B (m.set true (m.b.line n u))→_):=fun w h=>settle_ok w B _ h (k.set true ((k.get true).line n0 n1 u)).b
 have x0:0≤x:=by omega
 have x1:x < 16:=by omega
 have g0:decide (x < 0)=false:=by simp;omega
 have g1:decide (x ≥ 16)=false:=by simp;omega
 have d1:x.tdiv 8=1:=by rw [Int.tdiv_eq_ediv_of_nonneg x0];omega
 have d2:x.tmod 8=n:=by rw [Int.tmod_eq_emod_of_nonneg x0];omega
 clear ex
 go_enter Tryz.func170,Tryz.ntmps170
 go_wp2
 go_region_with (go_at_call 184;refine Calls.mono H.out ?_;rintro e w1 ⟨rfl,h1,k1⟩)
 all_goals
  go_wp2_with fail
  refine Calls.mono (HS.out _ h1) ?_;rintro e w2 ⟨rfl,h2,k2⟩
  go_wp2
  go_ret
  exact ⟨rfl,h2,k1.ofDrew.trans k2⟩
theorem withL_2 (w:World) (B q r:Nat) (m:M2) (h:PAt w B m) (k:m.Ok) (hq:w.cell? ⟨q,0,none⟩=some (.int .i64 2)):Calls Tryz.prog 170 #[.pointer (some ⟨B,0,none⟩),.int .i64 2,.int .i64 8,.func (.func 184) #[] #[.pointer (some ⟨q,0,none⟩),.pointer (some ⟨r,0,none⟩)]] w fun e w'=>e=.returned (.int .i64 0)∧PAt w' B m.settle∧Kp (isB B) w w':=by
 have H:Hid (Calls Tryz.prog 184 #[.pointer (some ⟨B,0,none⟩),.int .i64 2,.pointer (some ⟨q,0,none⟩),.pointer (some ⟨r,0,none⟩)] w.drew fun e w'=>e=.returned (.tuple #[])∧PAt w' B m∧Kp (isB B) w w'):=Calls.mono (linc_2 w.drew B q r hq) (by rintro e w1 ⟨rfl,rfl⟩;exact ⟨rfl,h.drew,(Kp.refl _ _).drew⟩)
 have HS:Hid (∀ w,PAt w B m→_):=fun w h=>settle_ok w B _ h k.b
 go_enter Tryz.func170,Tryz.ntmps170
 go_wp2
 go_region_with (go_at_call 184;refine Calls.mono H.out ?_;rintro e w1 ⟨rfl,h1,k1⟩)
 all_goals
  go_wp2_with fail
  refine Calls.mono (HS.out _ h1) ?_;rintro e w2 ⟨rfl,h2,k2⟩
  go_wp2
  go_ret
  exact ⟨rfl,h2,k1.trans k2⟩
end Go.Proofs.YtacgmoikegcopaaGreatDoor.Pc
