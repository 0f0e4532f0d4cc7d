/- The document's disk: Out, Line, Written. -/
import Derived.Test.YtddalplpmgmplaaIxEc
import Derived.Test.YtddalplpmgmplaaIxPut
import Derived.Test.YtddalplpmgmplaaIdW
namespace Go.Proofs.Ytddalplpmgmplaa
open Go.ChangeShapes Go.WideShapes Go.ChangeAt Go.RowKit
set_option linter.unusedVariables false

theorem next_off (d : Id) : d.next.off = d.off := by
  show ((d.r6 - d.r6 % 16 + (d.place + 1) / 16777216 % 16) / 16 % 2 == 1) = (d.r6 / 16 % 2 == 1)
  have e : (d.r6 - d.r6 % 16 + (d.place + 1) / 16777216 % 16) / 16 = d.r6 / 16 := by omega
  rw [e]
theorem begin_off (d : Id) (m : Int) : (d.begin m).off = d.off := by
  unfold Id.begin
  repeat' split
  all_goals rfl
theorem one_off (d : Id) : d.one.off = d.off := by
  unfold Id.one
  split
  · exact next_off d
  · rw [begin_off, next_off]
theorem put_off (d : Id) (b : Int) : (d.put b).off = d.off := by
  unfold Id.put
  split
  · split
    · rfl
    · split
      · exact one_off _
      · rfl
  · rfl
theorem puts_off (d : Id) (v : Int) : ∀ k, (d.puts v k).off = d.off
  | 0 => rfl
  | k + 1 => (put_off _ _).trans (puts_off d v k)
theorem puts_work {d : Id} (k : d.Ok) (v : Int) (n : Nat) : (d.puts v n).work ≤ d.work + n := by
  rw [← putL_puts]
  have := putL_work (bytL v n) d k (bytL_byt v n)
  rwa [bytL_len] at this

section
variable {w : World} {B gD cap : Nat} {dn : Int} {sv : Value} {d : Id}

theorem XOut.refl (h : XAt w B gD cap dn sv d) (hd : Dn d dn) : XOut w B gD cap sv d w := XOk.out ⟨dn, h, hd, Kp.refl _ _⟩

theorem xout_no (w : World) (x : Option Addr) (reg size v : Int) (v0 : 0 ≤ v) (v1 : v < 4294967296) (h : ck reg size ≠ 0) : Calls Try.prog 8 #[.pointer x, .int .i64 reg, .int .i64 size, .int .u32 v] w fun e w' => e = .returned (.int .i64 (ck reg size)) ∧ w' = w := by
  by_cases a : reg < 0
  · have e : ck reg size = 1 := by unfold ck; rw [if_pos (.inl a)]
    rw [e]
    clear h e
    go_enter Try.func8, Try.ntmps8
    go_wp2
    go_ret
    exact ⟨rfl, rfl⟩
  · by_cases b : 8 < reg
    · have e : ck reg size = 1 := by unfold ck; rw [if_pos (.inr (by omega))]
      rw [e]
      clear h e
      go_enter Try.func8, Try.ntmps8
      go_wp2
      go_ret
      exact ⟨rfl, rfl⟩
    · have g : reg = 0 ∧ size ≠ 1 ∧ size ≠ 2 ∧ size ≠ 4 := by
        refine Decidable.byContradiction fun g => h ?_
        unfold ck
        rw [if_neg (by omega), if_neg g]
      obtain ⟨rfl, s1, s2, s4⟩ := g
      have e : ck 0 size = 2 := by unfold ck; rw [if_neg (by omega), if_pos ⟨rfl, s1, s2, s4⟩]
      rw [e]
      have q1 : (size != 1) = true := by rw [bne_iff_ne]; exact s1
      have q2 : (size != 2) = true := by rw [bne_iff_ne]; exact s2
      have q4 : (size != 4) = true := by rw [bne_iff_ne]; exact s4
      clear h e a b
      go_enter Try.func8, Try.ntmps8
      go_wp2
      go_ret
      exact ⟨rfl, rfl⟩

theorem xout_set (h : XAt w B gD cap dn sv d) (hd : Dn d dn) (reg size v : Int) (j : Nat) (hj : reg = j) (j2 : 2 ≤ j) (j6 : j ≤ 6) (v0 : 0 ≤ v) (v1 : v < 4294967296) (d' : Id) (hr : d'.reg = setB d.reg j (v % 256)) (e1 : d'.log = d.log) (e2 : d'.D = d.D) (e3 : d'.n = d.n) (e4 : d'.buf = d.buf) (e5 : d'.mode = d.mode) (e6 : d'.mark = d.mark) (e7 : d'.don = d.don) (e8 : d'.failed = d.failed) (e9 : d'.c = d.c) :
    Calls Try.prog 8 #[.pointer (some ⟨B, 0, none⟩), .int .i64 reg, .int .i64 size, .int .u32 v] w fun e w' => e = .returned (.int .i64 0) ∧ XOut w B gD cap sv d' w' := by
  have H : Hid (XOut w B gD cap sv d' (w.setCell ⟨B, 1 + j, none⟩ (.int .u8 (v % 256)))) := by
    refine XOk.out ⟨dn, (h.raw.setR j (by omega) _ rfl (v % 256)).id d' e1.symm e2.symm e3.symm (fun i _ => by rw [hr]) e4.symm e9.symm e5.symm e6.symm e8.symm, ?_, kpB B _ _ _⟩
    intro q
    rw [e7]
    exact hd (by rw [← e5]; exact q)
  have cc := h.cr j (by omega)
  have zz := h.fz (1 + j)
  clear h hd hr e1 e2 e3 e4 e5 e6 e7 e8 e9
  subst hj
  rcases (by omega : j = 2 ∨ j = 3 ∨ j = 4 ∨ j = 5 ∨ j = 6) with rfl | rfl | rfl | rfl | rfl
  all_goals
    simp only [Nat.reduceAdd] at H cc zz
    go_enter Try.func8, Try.ntmps8
    go_wp2
    go_ret
    exact ⟨rfl, H.out⟩

theorem xout_1 (h : XAt w B gD cap dn sv d) (hd : Dn d dn) (size v : Int) (v0 : 0 ≤ v) (v1 : v < 4294967296) : Calls Try.prog 8 #[.pointer (some ⟨B, 0, none⟩), .int .i64 1, .int .i64 size, .int .u32 v] w fun e w' => e = .returned (.int .i64 0) ∧ XOut w B gD cap sv d w' := by
  have H : Hid (XOut w B gD cap sv d w) := XOut.refl h hd
  clear h hd
  go_enter Try.func8, Try.ntmps8
  go_wp2
  go_ret
  exact ⟨rfl, H.out⟩

theorem xout_7 (h : XAt w B gD cap dn sv d) (hd : Dn d dn) (k : d.Ok) (size v : Int) (v0 : 0 ≤ v) (v1 : v < 4294967296) : Calls Try.prog 8 #[.pointer (some ⟨B, 0, none⟩), .int .i64 7, .int .i64 size, .int .u32 v] w fun e w' => e = .returned (.int .i64 0) ∧ XOut w B gD cap sv (d.command (v % 256)) w' := by
  have HM : Hid _ := xcommand_ok h hd k (v % 256) byt_m
  clear h hd k
  go_enter Try.func8, Try.ntmps8
  go_wp2_with fail
  refine Calls.mono HM.out ?_; rintro e w2 ⟨rfl, h2⟩
  have H : Hid (XOut w B gD cap sv (d.command (v % 256)) w2) := h2.out
  clear h2 HM
  go_wp2
  go_ret
  exact ⟨rfl, H.out⟩

theorem xout_8 (h : XAt w B gD cap dn sv d) (hd : Dn d dn) (k : d.Ok) (size v : Int) (v0 : 0 ≤ v) (v1 : v < 4294967296) : Calls Try.prog 8 #[.pointer (some ⟨B, 0, none⟩), .int .i64 8, .int .i64 size, .int .u32 v] w fun e w' => e = .returned (.int .i64 0) ∧ XOut w B gD cap sv (d.ctl (v % 256)) w' := by
  have h2 : XAt (w.setCell ⟨B, 8, none⟩ (.int .u8 (v % 256))) B gD cap dn sv { d with c := v % 256 } := (h.raw.setc (v % 256)).id _ rfl rfl rfl (fun j hj => by rcases (by omega : j = 0 ∨ j = 1 ∨ j = 2 ∨ j = 3 ∨ j = 4 ∨ j = 5 ∨ j = 6) with rfl | rfl | rfl | rfl | rfl | rfl | rfl <;> rfl) rfl rfl rfl rfl rfl
  have k2 : Kp (isB B) w (w.setCell ⟨B, 8, none⟩ (.int .u8 (v % 256))) := kpB B _ _ _
  have HM : Hid _ := xfresh_ok h2
  have c8 := h.cc
  have z8 := h.fz 8
  have K2 : Hid _ := k2
  have y0 : 0 ≤ v % 256 ∧ v % 256 < 256 := ⟨by omega, by omega⟩
  obtain ⟨y0, y1⟩ := y0
  by_cases q : v % 256 / 4 % 2 = 1
  · have e : d.ctl (v % 256) = ({ d with c := v % 256 } : Id).fresh := by unfold Id.ctl; rw [if_pos q]
    rw [e]
    clear h hd k h2 k2 e
    go_enter Try.func8, Try.ntmps8
    go_wp2_with fail
    refine Calls.mono HM.out ?_; rintro e w2 ⟨rfl, dn', g1, g2, g3⟩
    have H : Hid (XOut w B gD cap sv ({ d with c := v % 256 } : Id).fresh w2) := XOk.out ⟨dn', g1, g2, K2.out.trans g3⟩
    clear g1 g2 g3 HM
    go_wp2
    go_ret
    exact ⟨rfl, H.out⟩
  · have e : d.ctl (v % 256) = { d with c := v % 256 } := by unfold Id.ctl; rw [if_neg q]
    have H : Hid (XOut w B gD cap sv (d.ctl (v % 256)) (w.setCell ⟨B, 8, none⟩ (.int .u8 (v % 256)))) := by
      show XOut _ _ _ _ _ _ _
      rw [e]
      exact XOk.out ⟨dn, h2, hd, k2⟩
    clear h hd k h2 k2 e HM K2
    go_enter Try.func8, Try.ntmps8
    go_wp2
    go_ret
    exact ⟨rfl, H.out⟩

theorem xline_ok (h : XAt w B gD cap dn sv d) (k : d.Ok) : Calls Try.prog 15 #[.pointer (some ⟨B, 0, none⟩)] w fun e w' => e = .returned (.bool d.line) ∧ w' = w := by
  have cm := h.cmk
  have c8 := h.cc
  obtain ⟨c0, c1⟩ := k.c
  clear h k
  unfold Id.line
  generalize d.c = c at *
  cases q : d.mark
  · rw [q] at cm
    clear q
    go_enter Try.func15, Try.ntmps15
    go_wp2
    go_ret
    exact ⟨rfl, rfl⟩
  · rw [q] at cm
    clear q
    have e : (true && !(c / 2 % 2 == 1)) = (c / 2 % 2 == 0) := by
      rcases (by omega : c / 2 % 2 = 0 ∨ c / 2 % 2 = 1) with a | a <;> rw [a] <;> rfl
    rw [e]
    clear e
    go_enter Try.func15, Try.ntmps15
    go_wp2
    go_ret
    exact ⟨rfl, rfl⟩

theorem xwritten_ok (h : XAt w B gD cap dn sv d) : Calls Try.prog 13 #[.pointer (some ⟨B, 0, none⟩)] w fun e w' => e = .returned sv ∧ XAt w' B gD cap dn (.slice none 0 0) d.told ∧ Kp (isB B) w w' := by
  have cs := h.csv
  have zs := h.fz 525
  have H : Hid (XAt (w.setCell ⟨B, 525, none⟩ (.slice none 0 0)) B gD cap dn (.slice none 0 0) d.told) := (h.raw.setsv _ [] (OwnI.nil w)).id _ rfl rfl rfl (fun _ _ => rfl) rfl rfl rfl rfl rfl
  obtain ⟨p, c, es⟩ := h.log.sl
  subst es
  generalize d.log.length = n at *
  clear h
  go_enter Try.func13, Try.ntmps13
  go_wp2
  go_ret
  exact ⟨rfl, H.out, kpB B _ _ _⟩
end
end Go.Proofs.Ytddalplpmgmplaa
