/- The bus and its devices: IdMid, IdZero, IdCmd, IdWrite, IdMany. -/
import Derived.Test.YtonfjhbfkichkaaGreatBz11
import Derived.Deep.RegionHeld3
import Derived.Laws.CopyOwn
import Derived.Deep.RegionLaw
import Derived.Outline
import Derived.Laws.AppendOwnNone
namespace Go.Proofs.YtonfjhbfkichkaaGreat.Dk
open Go.ChangeShapes Go.WideShapes Go.ChangeAt Go.RowKit
set_option linter.unusedVariables false
theorem arr512 : Tryz.prog.underlying 104 = some (.array 512 5) := Tryz.underlying104
theorem arrDisk : Tryz.prog.underlying 112 = some (.array 32768 5) := Tryz.underlying112
theorem run_low (w : World) (T : TypeId) (N B o x : Nat) (hu : Tryz.prog.underlying T = some (.array N 5)) (h : x < N) : (Instr.sliceAt T (.pointer (some ⟨B, o, none⟩)) (some (.int .i64 x)) none none).run Tryz.prog w = .ok (.slice (some ⟨B, o + x, none⟩) (N - x) (N - x)) w := by
 have hq : ¬ N = x := by omega
 have h2 : (x : Int) ≤ N := by omega
 have h3 : x ≤ N := by omega
 cases hi : Tryz.prog.info? 5 with
 | none => have := byteT; rw [hi] at this; cases this
 | some i =>
  have hs : i.size = 1 := by have := byteT; rw [hi] at this; simpa using this
  simp [Instr.sliceAt, Instr.sureAddr, run_underlying hu, Instr.sliceBounds, run_sliceBound, sizeOf, typeInfo, hi, hs, hq, h3, Addr.add]
theorem run_three (w : World) (T : TypeId) (N M B f : Nat) (hu : Tryz.prog.underlying T = some (.array N 5)) (h : f + M ≤ N) (hM : 0 < M) : (Instr.sliceAt T (.pointer (some ⟨B, 0, none⟩)) (some (.int .i64 f)) (some (.int .i64 ((f + M : Nat) : Int))) (some (.int .i64 ((f + M : Nat) : Int)))).run Tryz.prog w = .ok (.slice (some ⟨B, f, none⟩) M M) w := by
 have h6 : f + M - f = M := by omega
 have h7 : ¬ f + M = f := by omega
 have h8 : ((f + M : Nat) : Int) ≤ N := by omega
 have h9 : (f : Int) ≤ ((f + M : Nat) : Int) := by omega
 obtain ⟨t, ht⟩ : ∃ t, t = f + M := ⟨_, rfl⟩
 rw [← ht] at h6 h7 h8 h9 ⊢
 cases hi : Tryz.prog.info? 5 with
 | none => have := byteT; rw [hi] at this; cases this
 | some i =>
  have hs : i.size = 1 := by have := byteT; rw [hi] at this; simpa using this
  have h10 : t ≤ N := by omega
  have h11 : f ≤ t := by omega
  simp [Instr.sliceAt, Instr.sureAddr, run_underlying hu, Instr.sliceBounds, run_sliceBound, sizeOf, typeInfo, hi, hs, h6, h7, h10, h11, Addr.add]
  exact fun e => e.symm
theorem run_buf (w : World) (B o x : Nat) (h : x < 512) : (Instr.sliceAt 104 (.pointer (some ⟨B, o, none⟩)) (some (.int .i64 x)) none none).run Tryz.prog w = .ok (.slice (some ⟨B, o + x, none⟩) (512 - x) (512 - x)) w := run_low w _ 512 B o x arr512 h
theorem run_sec (w : World) (B f : Nat) (h : f + 512 ≤ 32768) : (Instr.sliceAt 112 (.pointer (some ⟨B, 0, none⟩)) (some (.int .i64 f)) (some (.int .i64 ((f + 512 : Nat) : Int))) (some (.int .i64 ((f + 512 : Nat) : Int)))).run Tryz.prog w = .ok (.slice (some ⟨B, f, none⟩) 512 512) w := run_three w _ 32768 512 B f arrDisk h (by decide)
theorem nil_yes (w : World) : (binOp .eql 22 (.slice none 0 0) (.slice none 0 0)).run Tryz.prog w = .ok (.bool true) w := by kernel_rfl
theorem nil_no (w : World) (a : Addr) (n c : Nat) : (binOp .eql 22 (.slice (some a) n c) (.slice none 0 0)).run Tryz.prog w = .ok (.bool false) w := by kernel_rfl
section
variable {w : World} {B : Nat} {dn : Int} {sv : Value} {d : Id}
theorem at_lt (k : d.Ok) (ht : d.there = true) : d.place < d.n ∧ d.at + 512 ≤ 32768 ∧ (d.at : Int) = d.place * 512 := by
 have p := k.place
 have f := k.few
 unfold Id.there at ht
 rw [decide_eq_true_eq] at ht
 unfold Id.at
 omega
theorem sector_some (h : IAt w B dn sv d) (k : d.Ok) (ht : d.there = true) : Calls Tryz.prog 163 #[.pointer (some ⟨B, 0, none⟩)] w fun e w' => e = .returned (.slice (some ⟨B, d.at, none⟩) 512 512) ∧ Kp noB w w' := by
 have HP : Hid _ := place_any h k
 have hC : Hid (IAt w B dn sv d) := h
 obtain ⟨a1, a2, a3⟩ := at_lt k ht
 have p := k.place
 have f := k.few
 obtain ⟨A, hA⟩ : ∃ A, A = d.at := ⟨_, rfl⟩
 rw [← hA] at a2 a3 ⊢
 generalize d.place = P at *
 have n1 : decide (P ≥ (d.n : Int)) = false := by simp; omega
 have HS : ∀ w, _ := fun w => run_sec w B A a2
 clear h k ht hA
 go_enter Tryz.func163, Tryz.ntmps163
 go_wp2_with fail
 refine Calls.mono HP.out ?_; rintro e w1 ⟨rfl, k1⟩
 have cn := (hC.out.keep k1).cn
 have hs := HS w1
 have K : Hid (Kp noB w w1) := k1
 clear HS k1
 rw [show ((A + 512 : Nat) : Int) = P * 512 + 512 by omega, a3] at hs
 go_wp2
 go_ret
 exact ⟨rfl, K.out⟩
theorem sector_none (h : IAt w B dn sv d) (k : d.Ok) (ht : d.there = false) : Calls Tryz.prog 163 #[.pointer (some ⟨B, 0, none⟩)] w fun e w' => e = .returned (.slice none 0 0) ∧ Kp noB w w' := by
 have HP : Hid _ := place_any h k
 have hC : Hid (IAt w B dn sv d) := h
 have p := k.place
 have f := k.few
 have n0 : (d.n : Int) ≤ d.place := by
  unfold Id.there at ht
  rw [decide_eq_false_iff_not] at ht
  omega
 generalize d.place = P at *
 have n1 : decide (P ≥ (d.n : Int)) = true := by simp; omega
 clear h k ht
 go_enter Tryz.func163, Tryz.ntmps163
 go_wp2_with fail
 refine Calls.mono HP.out ?_; rintro e w1 ⟨rfl, k1⟩
 have cn := (hC.out.keep k1).cn
 have K : Hid (Kp noB w w1) := k1
 clear k1
 go_wp2
 go_ret
 exact ⟨rfl, K.out⟩
theorem DOk.over {w1 w2 : World} {d' : Id} (k : Kp noB w w1) (h : DOk w1 B sv d' w2) : DOk w B sv d' w2 := by
 obtain ⟨dn', h1, hd, h2⟩ := h
 exact ⟨dn', h1, hd, k.any.trans h2⟩
theorem turnTo_none (h : IAt w B dn sv d) (k : d.Ok) (ht : d.there = false) (g m : Int) : Calls Tryz.prog 166 #[.pointer (some ⟨B, 0, none⟩), .int .i64 g] w fun e w' => e = .returned (.tuple #[]) ∧ DOk w B sv (d.begin m) w' := by
 have HS : Hid _ := sector_none h k ht
 have hC : Hid (IAt w B dn sv d) := h
 have e : d.begin m = d.fail 16 := by unfold Id.begin; rw [if_neg (by rw [ht]; decide)]
 rw [e]
 clear h k ht e
 go_enter Tryz.func166, Tryz.ntmps166
 go_wp2_with fail
 refine Calls.mono HS.out ?_; rintro e w1 ⟨rfl, k1⟩
 have HF : Hid _ := fail_ok (hC.out.keep k1) 16 (.inr rfl)
 have hn := nil_yes w1
 have K : Hid (Kp noB w w1) := k1
 clear k1
 go_wp2_with fail
 refine Calls.mono HF.out ?_; rintro e w2 ⟨rfl, h2⟩
 have H2 : Hid (DOk w B sv (d.fail 16) w2) := h2.over K.out
 clear h2 HF
 go_wp2
 refine bodyPost_ret (results_none rfl _ _ _) rfl ?_
 exact ⟨rfl, H2.out⟩
theorem turnTo_write (h : IAt w B dn sv d) (k : d.Ok) (ht : d.there = true) : Calls Tryz.prog 166 #[.pointer (some ⟨B, 0, none⟩), .int .i64 3] w fun e w' => e = .returned (.tuple #[]) ∧ DOk w B sv (d.begin 2) w' := by
 have HS : Hid _ := sector_some h k ht
 have hC : Hid (IAt w B dn sv d) := h
 have e : d.begin 2 = { d with mode := 2, don := 0 } := by unfold Id.begin; rw [if_pos ht, if_neg (by decide)]
 rw [e]
 clear h k ht e
 go_enter Tryz.func166, Tryz.ntmps166
 go_wp2_with fail
 refine Calls.mono HS.out ?_; rintro e w1 ⟨rfl, k1⟩
 have h1 := hC.out.keep k1
 have hn := nil_no w1 ⟨B, d.at, none⟩ 512 512
 have cg := h1.cgo
 have cd := h1.cdn
 have z1 := h1.fz 33291
 have z2 := h1.fz 33290
 have H : Hid (DOk w B sv { d with mode := 2, don := 0 } ((w1.setCell ⟨B, 33291, none⟩ (.int .i64 3)).setCell ⟨B, 33290, none⟩ (.int .i64 0))) :=
  ⟨0, ((h1.raw.setgo 3).setdn 0).id _ rfl rfl rfl rfl rfl rfl rfl h1.fl, fun _ => rfl, k1.any.trans ((kpB B _ _ _).trans (kpB B _ _ _))⟩
 clear k1 h1
 go_wp2
 go_end0
 exact ⟨rfl, H.out⟩
theorem turnTo_read (h : IAt w B dn sv d) (k : d.Ok) (ht : d.there = true) : Calls Tryz.prog 166 #[.pointer (some ⟨B, 0, none⟩), .int .i64 1] w fun e w' => e = .returned (.tuple #[]) ∧ DOk w B sv (d.begin 1) w' := by
 have HS : Hid _ := sector_some h k ht
 have hC : Hid (IAt w B dn sv d) := h
 have e : d.begin 1 = { d with mode := 1, don := 0, buf := fun i => d.D (d.at + i), mark := true } := by unfold Id.begin; rw [if_pos ht, if_pos rfl]
 rw [e]
 have a2 : Hid (d.at + 512 ≤ 32768) := (at_lt k ht).2.1
 obtain ⟨A, hA⟩ : ∃ A, A = d.at := ⟨_, rfl⟩
 rw [← hA] at HS a2 ⊢
 clear h k ht e hA
 go_enter Tryz.func166, Tryz.ntmps166
 go_wp2_with fail
 refine Calls.mono HS.out ?_; rintro e w1 ⟨rfl, k1⟩
 have h1 := hC.out.keep k1
 have hn := nil_no w1 ⟨B, A, none⟩ 512 512
 have cg := h1.cgo
 have cd := h1.cdn
 have z1 := h1.fz 33291
 have z2 := h1.fz 33290
 have r2 := (h1.raw.setgo 1).setdn 0
 obtain ⟨cur, hb, hs, hc⟩ := r2.blk
 have a2' := a2.out
 obtain ⟨w2, hcp, ⟨cur2, hh2, hl2⟩, hk2⟩ := copy_any _ B 32778 512 512 B A 512 512 512 rfl cur _ hb (by omega) (fun j => d.D (A + j)) (fun j hj => by
  rw [cell_at hb, hc _ (by omega), cC_D (by omega)])
 have r3 := r2.laybuf (o := 0) hb hh2 (by omega) hl2 hk2
 have cm : w2.cell? ⟨B, 33292, none⟩ = some (.bool d.mark) := r3.blk.cell 33292 (by decide)
 have z3 := r3.blk.fz 33292
 have H : Hid (DOk w B sv { d with mode := 1, don := 0, buf := fun i => d.D (A + i), mark := true } (w2.setCell ⟨B, 33292, none⟩ (.bool true))) := by
  refine ⟨0, ?_, fun _ => rfl, k1.any.trans ((((kpB B _ _ _).trans (kpB B _ _ _)).trans hk2).trans (kpB B _ _ _))⟩
  refine ((r3.setmk true).same (b' := fun i => d.D (A + i)) fun i hi => ?_).id _ rfl rfl rfl rfl rfl rfl rfl h1.fl
  show (if 0 ≤ i ∧ i < 0 + 512 then d.D (A + (i - 0)) else d.buf i) = _
  rw [if_pos (by omega), Nat.sub_zero]
 clear k1 h1 r2 hs hc hb hh2 hl2 hk2 r3 a2'
 go_wp2
 go_end0
 exact ⟨rfl, H.out⟩
theorem turnTo_ok (h : IAt w B dn sv d) (k : d.Ok) (m : Int) (hm : m = 1 ∨ m = 2) : Calls Tryz.prog 166 #[.pointer (some ⟨B, 0, none⟩), .int .i64 (goV m)] w fun e w' => e = .returned (.tuple #[]) ∧ DOk w B sv (d.begin m) w' := by
 cases ht : d.there
 ·exact turnTo_none h k ht _ _
 ·rcases hm with rfl | rfl
  ·exact turnTo_read h k ht
  ·exact turnTo_write h k ht
theorem begin_ok (h : IAt w B dn sv d) (k : d.Ok) (m : Int) (hm : m = 1 ∨ m = 2) : Calls Tryz.prog 138 #[.pointer (some ⟨B, 0, none⟩), .int .i64 (goV m)] w fun e w' => e = .returned (.tuple #[]) ∧ DOk w B sv (if d.meant = true then d.begin m else d.fail 4) w' := by
 have HT : Hid _ := turnTo_ok h k m hm
 have HF : Hid _ := fail_ok h 4 (.inl rfl)
 have c6 := h.c6
 have e6 := iand64 k.r6
 unfold Id.meant
 generalize goV m = g at *
 clear h k
 cases q : (d.r6 / 64 % 2 == 1)
 ·rw [q] at e6
  rw [if_neg (by decide)]
  clear q
  go_enter Tryz.func138, Tryz.ntmps138
  go_wp2_with fail
  refine Calls.mono HF.out ?_; rintro e w2 ⟨rfl, h2⟩
  have H2 : Hid (DOk w B sv (d.fail 4) w2) := h2
  clear h2
  go_wp2
  refine bodyPost_ret (results_none rfl _ _ _) rfl ?_
  exact ⟨rfl, H2.out⟩
 ·rw [q] at e6
  rw [if_pos rfl]
  clear q
  go_enter Tryz.func138, Tryz.ntmps138
  go_wp2_with fail
  refine Calls.mono HT.out ?_; rintro e w2 ⟨rfl, h2⟩
  have H2 : Hid (DOk w B sv (d.begin m) w2) := h2
  clear h2
  go_wp2
  go_end0
  exact ⟨rfl, H2.out⟩
theorem next_place (d : Id) : ({ d with r3 := (d.place + 1) % 268435456 % 256, r4 := (d.place + 1) % 268435456 / 256 % 256, r5 := (d.place + 1) % 268435456 / 65536 % 256, r6 := d.r6 - d.r6 % 16 + (d.place + 1) % 268435456 / 16777216, r2 := (d.r2 - 1) % 256 } : Id) = d.next := by
 have e1 : (d.place + 1) % 268435456 % 256 = (d.place + 1) % 256 := by omega
 have e2 : (d.place + 1) % 268435456 / 256 % 256 = (d.place + 1) / 256 % 256 := by omega
 have e3 : (d.place + 1) % 268435456 / 65536 % 256 = (d.place + 1) / 65536 % 256 := by omega
 have e4 : (d.place + 1) % 268435456 / 16777216 = (d.place + 1) / 16777216 % 16 := by omega
 unfold Id.next
 rw [e1, e2, e3, e4]
theorem count_less (h : IAt w B dn sv { d with r3 := (d.place + 1) % 268435456 % 256, r4 := (d.place + 1) % 268435456 / 256 % 256, r5 := (d.place + 1) % 268435456 / 65536 % 256, r6 := d.r6 - d.r6 % 16 + (d.place + 1) % 268435456 / 16777216 }) : IAt (w.setCell ⟨B, 32771, none⟩ (.int .u8 ((d.r2 - 1) % 256))).drew B dn sv d.next := by
 have r := h.raw.setR 2 (by decide) 32771 rfl ((d.r2 - 1) % 256)
 rw [← next_place d]
 refine IAt.keep ?_ (Kp.refl _ _).drew
 exact r.id _ rfl rfl rfl (reg_2 (d := { d with r3 := (d.place + 1) % 268435456 % 256, r4 := (d.place + 1) % 268435456 / 256 % 256, r5 := (d.place + 1) % 268435456 / 65536 % 256, r6 := d.r6 - d.r6 % 16 + (d.place + 1) % 268435456 / 16777216 }) _).symm rfl rfl rfl h.fl
theorem goOn_ok (h : IAt w B dn sv d) (k : d.Ok) (hm : d.mode = 1 ∨ d.mode = 2) : Calls Tryz.prog 165 #[.pointer (some ⟨B, 0, none⟩)] w fun e w' => e = .returned (.tuple #[]) ∧ DOk w B sv d.one w' := by
 have HP : Hid _ := place_any h k
 have hC : Hid (IAt w B dn sv d) := h
 have hK : Hid d.Ok := k
 have hM : Hid (d.mode = 1 ∨ d.mode = 2) := hm
 have p := k.place
 have e28 := iand28 (d.place + 1)
 clear h k hm
 go_enter Tryz.func165, Tryz.ntmps165
 go_wp2_with fail
 refine Calls.mono HP.out ?_; rintro e w1 ⟨rfl, k1⟩
 have HS : Hid _ := setPlace_ok (hC.out.keep k1) hK.out ((d.place + 1) % 268435456) (by omega) (by omega)
 have K1 : Hid (Kp noB w w1) := k1
 clear k1 HP
 go_wp2_with fail
 refine Calls.mono HS.out ?_; rintro e w2 ⟨rfl, h2, k2⟩
 have c2 : w2.cell? ⟨B, 32771, none⟩ = some (.int .u8 d.r2) := h2.c2
 have z2 := h2.fz 32771
 have h3 := count_less h2
 have k3 : Kp (isB B) w (w2.setCell ⟨B, 32771, none⟩ (.int .u8 ((d.r2 - 1) % 256))).drew := (K1.out.any.trans (k2.trans (kpB B _ _ _))).drew
 have H3 : Hid (IAt (w2.setCell ⟨B, 32771, none⟩ (.int .u8 ((d.r2 - 1) % 256))).drew B dn sv d.next ∧ Kp (isB B) w (w2.setCell ⟨B, 32771, none⟩ (.int .u8 ((d.r2 - 1) % 256))).drew) := ⟨h3, k3⟩
 clear h3 k3 h2 k2 e28 HS K1 p
 go_wp2
 go_region
 revert H3
 generalize (w2.setCell ⟨B, 32771, none⟩ (.int .u8 ((d.r2 - 1) % 256))).drew = w3
 intro H3
 obtain ⟨h3, k3⟩ := H3.out
 have c2' : w3.cell? ⟨B, 32771, none⟩ = some (.int .u8 d.next.r2) := h3.c2
 have cg : w3.cell? ⟨B, 33291, none⟩ = some (.int .i64 (goV d.mode)) := h3.cgo
 have z3 := h3.fz 33291
 have nm : d.next.mode = d.mode := rfl
 clear c2 z2
 by_cases q : d.next.r2 = 0
 ·have e : d.one = { d.next with mode := 0 } := by unfold Id.one; rw [if_pos q]
  have H : Hid (DOk w B sv d.one (w3.setCell ⟨B, 33291, none⟩ (.int .i64 0))) := by
   rw [e]
   exact ⟨dn, (h3.raw.setgo 0).id _ rfl rfl rfl rfl rfl rfl rfl h3.fl, Dn.none rfl, k3.trans (kpB B _ _ _)⟩
  rw [q] at c2'
  clear h3 k3 H3 nm q e hC hK hM
  go_wp2
  refine bodyPost_ret (results_none rfl _ _ _) rfl ?_
  exact ⟨rfl, H.out⟩
 ·have e : d.one = d.next.begin d.mode := by unfold Id.one; rw [if_neg q]
  have q' : (d.next.r2 == 0) = false := by simpa using q
  have HT : Hid _ := turnTo_ok h3 hK.out.next d.mode hM.out
  have K3 : Hid (Kp (isB B) w w3) := k3
  have E : Hid (d.one = d.next.begin d.mode) := e
  clear h3 k3 H3 nm q e hC hK hM
  generalize goV d.mode = g at *
  go_wp2_with fail
  refine Calls.mono HT.out ?_; rintro e w4 ⟨rfl, dn4, h4, d4, k4⟩
  have H : Hid (DOk w B sv d.one w4) := by
   rw [E.out]
   exact ⟨dn4, h4, d4, K3.out.trans k4⟩
  clear h4 k4 d4
  go_wp2
  go_end0
  exact ⟨rfl, H.out⟩
theorem endRead_ec (h : IAt w B dn sv d) (hm : d.mode = 3) : Calls Tryz.prog 141 #[.pointer (some ⟨B, 0, none⟩)] w fun e w' => e = .returned (.tuple #[]) ∧ DOk w B sv { d with mode := 0 } w' := by
 have cg := h.cgo
 have z1 := h.fz 33291
 rw [hm, show goV 3 = 2 from rfl] at cg
 have H : Hid (DOk w B sv { d with mode := 0 } (w.setCell ⟨B, 33291, none⟩ (.int .i64 0))) := ⟨dn, (h.raw.setgo 0).id _ rfl rfl rfl rfl rfl rfl rfl h.fl, Dn.none rfl, kpB B _ _ _⟩
 clear h hm
 go_enter Tryz.func141, Tryz.ntmps141
 go_wp2
 refine bodyPost_ret (results_none rfl _ _ _) rfl ?_
 exact ⟨rfl, H.out⟩
theorem endRead_read (h : IAt w B dn sv d) (k : d.Ok) (hm : d.mode = 1) : Calls Tryz.prog 141 #[.pointer (some ⟨B, 0, none⟩)] w fun e w' => e = .returned (.tuple #[]) ∧ DOk w B sv d.one w' := by
 have cg := h.cgo
 rw [hm, show goV 1 = 1 from rfl] at cg
 have HG : Hid _ := goOn_ok h k (.inl hm)
 clear h hm k
 go_enter Tryz.func141, Tryz.ntmps141
 go_wp2_with fail
 refine Calls.mono HG.out ?_; rintro e w4 ⟨rfl, h4⟩
 have H : Hid (DOk w B sv d.one w4) := h4
 clear h4
 go_wp2
 go_end0
 exact ⟨rfl, H.out⟩
theorem setControl_ok (h : IAt w B dn sv d) (hd : Dn d dn) (b : Int) (hb : byt b) : Calls Tryz.prog 98 #[.pointer (some ⟨B, 0, none⟩), .int .u8 b] w fun e w' => e = .returned (.tuple #[]) ∧ DOk w B sv (d.ctl b) w' := by
 have e4 := iand4 hb
 have hC : Hid (IAt w B dn sv d) := h
 unfold Id.ctl
 by_cases q : b / 4 % 2 = 1
 ·have q' : (b / 4 % 2 == 1) = true := by simpa using q
  rw [q'] at e4
  rw [if_pos q]
  have HS : Hid _ := start_ok h
  clear h q q'
  go_enter Tryz.func98, Tryz.ntmps98
  go_wp2_with fail
  refine Calls.mono HS.out ?_; rintro e w1 ⟨rfl, dn1, h1, d1, k1⟩
  have c8 := h1.c8
  have z8 := h1.fz 32777
  have H : Hid (DOk w B sv ({ d with c := b } : Id).fresh (w1.setCell ⟨B, 32777, none⟩ (.int .u8 b))) :=
   ⟨dn1, (h1.raw.setR 8 (by decide) 32777 rfl b).id _ rfl rfl rfl (reg_8 (d := ({ d with c := 0 } : Id).fresh) b).symm rfl rfl rfl h1.fl, Dn.none rfl, k1.trans (kpB B _ _ _)⟩
  clear h1 k1 d1 HS
  go_wp2
  go_end0
  exact ⟨rfl, H.out⟩
 ·have q' : (b / 4 % 2 == 1) = false := by simpa using q
  rw [q'] at e4
  rw [if_neg q]
  have c8 := h.c8
  have z8 := h.fz 32777
  have H : Hid (DOk w B sv { d with c := b } (w.setCell ⟨B, 32777, none⟩ (.int .u8 b))) :=
   ⟨dn, (h.raw.setR 8 (by decide) 32777 rfl b).id _ rfl rfl rfl (reg_8 (d := d) b).symm rfl rfl rfl h.fl, hd, kpB B _ _ _⟩
  clear h q q' hd
  go_enter Tryz.func98, Tryz.ntmps98
  go_wp2
  go_end0
  exact ⟨rfl, H.out⟩
def chkV (x : Option Addr) (reg size : Int) : Int := if x = none ∨ reg < 0 ∨ 9 ≤ reg then 1 else if reg = 0 ∧ size ≠ 1 ∧ size ≠ 2 ∧ size ≠ 4 then 2 else 0
theorem check_any (w : World) (x : Option Addr) (reg size : Int) : Calls Tryz.prog 95 #[.pointer x, .int .i64 reg, .int .i64 size] w fun e w' => e = .returned (.int .i64 (chkV x reg size)) ∧ w' = w := by
 unfold chkV
 cases x with
 | none =>
  rw [if_pos (.inl rfl)]
  go_enter Tryz.func95, Tryz.ntmps95
  go_wp2
  go_ret
  exact ⟨rfl, rfl⟩
 | some a =>
  by_cases g : reg < 0
  ·rw [if_pos (.inr (.inl g))]
   have d0 : decide (reg < 0) = true := by simp; omega
   go_enter Tryz.func95, Tryz.ntmps95
   go_wp2
   go_ret
   exact ⟨rfl, rfl⟩
  ·have d0 : decide (reg < 0) = false := by simp; omega
   by_cases g2 : 9 ≤ reg
   ·rw [if_pos (.inr (.inr g2))]
    have d1 : decide (reg ≥ 9) = true := by simp; omega
    go_enter Tryz.func95, Tryz.ntmps95
    go_wp2
    go_ret
    exact ⟨rfl, rfl⟩
   ·have d1 : decide (reg ≥ 9) = false := by simp; omega
    rw [if_neg (by rintro (q | q | q); cases q; exact g q; exact g2 q)]
    by_cases r : reg = 0
    ·subst r
     by_cases s1 : size = 1
     ·subst s1
      rw [if_neg (by simp)]
      go_enter Tryz.func95, Tryz.ntmps95
      go_wp2
      go_ret
      exact ⟨rfl, rfl⟩
     ·have s1' : (size == 1) = false := by simpa using s1
      by_cases s2 : size = 2
      ·subst s2
       rw [if_neg (by simp)]
       go_enter Tryz.func95, Tryz.ntmps95
       go_wp2
       go_ret
       exact ⟨rfl, rfl⟩
      ·have s2' : (size == 2) = false := by simpa using s2
       by_cases s4 : size = 4
       ·subst s4
        rw [if_neg (by simp)]
        go_enter Tryz.func95, Tryz.ntmps95
        go_wp2
        go_ret
        exact ⟨rfl, rfl⟩
       ·have s4' : (size == 4) = false := by simpa using s4
        have t1 : (size != 1) = true := by simpa using s1
        have t2 : (size != 2) = true := by simpa using s2
        have t4 : (size != 4) = true := by simpa using s4
        rw [if_pos ⟨rfl, s1, s2, s4⟩]
        clear s1 s2 s4
        go_enter Tryz.func95, Tryz.ntmps95
        go_wp2
        go_ret
        exact ⟨rfl, rfl⟩
    ·have r' : (reg == 0) = false := by simpa using r
     rw [if_neg (fun q => r q.1)]
     go_enter Tryz.func95, Tryz.ntmps95
     go_wp2
     go_ret
     exact ⟨rfl, rfl⟩
end
end Go.Proofs.YtonfjhbfkichkaaGreat.Dk
namespace Go.Proofs.YtonfjhbfkichkaaGreat.Dk
open Go.RowKit
set_option linter.unusedVariables false
def z8 : Value := .int .u8 0
def zr (n : Nat) : List Value := List.replicate n z8
def zp (n : Nat) (l : List Value) : List Value := zr n ++ l
theorem zr_one : [Value.int .u8 0] = zr 1 := rfl
theorem zr_cons (n : Nat) : Value.int .u8 0 :: zr n = zr (n + 1) := rfl
theorem zr_app (a b : Nat) : List.append (zr a) (zr b) = zr (a + b) := by
 show List.replicate a z8 ++ List.replicate b z8 = _
 rw [List.replicate_append_replicate]
 rfl
theorem zp_app (a : Nat) (l : List Value) : List.append (zr a) l = zp a l := rfl
theorem zp_zr (a b : Nat) : zp a (zr b) = zr (a + b) := zr_app a b
theorem zp_zp (a b : Nat) (l : List Value) : zp a (zp b l) = zp (a + b) l := by
 unfold zp
 rw [← List.append_assoc]
 congr 1
 exact zr_app a b
theorem zp_cons (a : Nat) (l : List Value) : Value.int .u8 0 :: zp a l = zp (a + 1) l := rfl
theorem zp_i (l : List Value) : Value.int .u8 0 :: Value.int .i64 0 :: l = zp 1 (Value.int .i64 0 :: l) := rfl
theorem zp_l (a : Nat) (l m : List Value) : List.append (zp a l) m = zp a (List.append l m) := by
 show zr a ++ l ++ m = zr a ++ (l ++ m)
 exact List.append_assoc _ _ _
theorem ap_i (l m : List Value) : List.append (Value.int .i64 0 :: l) m = Value.int .i64 0 :: List.append l m := rfl
theorem ap_s (l m : List Value) : List.append (Value.slice none 0 0 :: l) m = Value.slice none 0 0 :: List.append l m := rfl
set_option maxRecDepth 100000 in
theorem zero57 : Tryz.t115.zero = some (.agg (zp 32768 (Value.int .i64 0 :: zp 521 [.int .i64 0, .int .i64 0, .bool false, .slice none 0 0])).toArray) := by
 unfold Tryz.t115
 simp only [zr_one, zr_cons, zp_app, zp_zr, zp_zp, zp_cons, zp_i, zp_l, ap_i, Nat.reduceAdd]
set_option maxRecDepth 100000 in
theorem zero43 : Tryz.t104.zero = some (.agg (zr 512).toArray) := by
 unfold Tryz.t104
 simp only [zr_one, zr_cons, zr_app, Nat.reduceAdd]
set_option maxRecDepth 100000 in
theorem zero45 : Tryz.t106.zero = some (.agg (Value.slice none 0 0 :: zp 520 [.int .i64 0, .int .i64 0, .bool false, .bool false, .slice none 0 0]).toArray) := by
 unfold Tryz.t106
 simp only [zr_one, zr_cons, zp_app, zp_zr, zp_zp, zp_cons, zp_i, ap_s, Nat.reduceAdd]
theorem zr_get {n j : Nat} (h : j < n) : (zr n)[j]? = some z8 := by unfold zr; rw [List.getElem?_replicate, if_pos h]
theorem zr_len (n : Nat) : (zr n).length = n := List.length_replicate
theorem zp_get {n j : Nat} {l : List Value} : (zp n l)[j]? = if j < n then some z8 else l[j - n]? := by
 unfold zp
 by_cases h : j < n
 ·rw [if_pos h, List.getElem?_append_left (by rw [zr_len]; exact h), zr_get h]
 ·rw [if_neg h, List.getElem?_append_right (by rw [zr_len]; omega), zr_len]
theorem zp_len (n : Nat) (l : List Value) : (zp n l).length = n + l.length := by
 unfold zp
 rw [List.length_append, zr_len]
def zI : Array Value := (zp 32768 (Value.int .i64 0 :: zp 521 [.int .i64 0, .int .i64 0, .bool false, .slice none 0 0])).toArray
theorem zI_size : zI.size = 33294 := by
 unfold zI
 rw [List.size_toArray, zp_len, List.length_cons, zp_len]
 rfl
theorem zI_get {k : Nat} (hk : k < 33294) : zI[k]? = some (cC (fun _ => 0) 0 (fun _ => 0) (fun _ => 0) 0 0 false (.slice none 0 0) k) := by
 unfold zI
 rw [List.getElem?_toArray, zp_get]
 by_cases a : k < 32768
 ·rw [if_pos a, cC_D a]
  rfl
 ·rw [if_neg a]
  by_cases b : k = 32768
  ·subst b
   rfl
  ·obtain ⟨j, rfl⟩ : ∃ j, k = 32769 + j := ⟨k - 32769, by omega⟩
   rw [show 32769 + j - 32768 = j + 1 by omega, List.getElem?_cons_succ, zp_get]
   by_cases c : j < 9
   ·rw [if_pos (by omega), cC_R c]
    rfl
   ·by_cases e : j < 521
    ·rw [if_pos e]
     obtain ⟨i, rfl⟩ : ∃ i, j = 9 + i := ⟨j - 9, by omega⟩
     rw [show 32769 + (9 + i) = 32778 + i by omega, cC_b (by omega)]
     rfl
    ·rw [if_neg e]
     rcases (by omega : j = 521 ∨ j = 522 ∨ j = 523 ∨ j = 524) with rfl | rfl | rfl | rfl <;> rfl
open Go.ChangeShapes Go.WideShapes Go.ChangeAt
set_option maxRecDepth 20000
structure VlB (T : TypeId) (n : Nat) (Z : Array Value) : Prop where
 t : T = 104
 s : n = 512
 z : Z = (zr 512).toArray
 agg : ∀ w, (isAgg T).run Tryz.prog w = .ok true w
 size : ∀ w, (sizeOf T).run Tryz.prog w = .ok n w
 zero : ∀ w, (zeroValue T).run Tryz.prog w = .ok (.agg Z) w
 under : ∀ w, (underlying T).run Tryz.prog w = .ok (.array n 5) w
 zs : Z.size = n
theorem vlB : ∃ T n Z, VlB T n Z :=
 ⟨_, _, _, rfl, rfl, rfl, fun w => by kernel_rfl, fun w => by kernel_rfl, fun w => by simp [zeroValue, typeInfo, show Tryz.prog.info? 104 = some Tryz.t104 from Tryz.type104, zero43], fun w => by kernel_rfl, by rw [List.size_toArray, zr_len]⟩
theorem VlB.ops {T : TypeId} {n : Nat} {Z : Array Value} (h : VlB T n Z) : (∀ x, Op.build 104 x = Op.build T x) ∧ (∀ x y, Op.store 104 x y = Op.store T x y) ∧ (∀ x, Op.load 104 x = Op.load T x) ∧ Op.alloc 104 = Op.alloc T := by
 rw [h.t]
 exact ⟨fun _ => rfl, fun _ _ => rfl, fun _ => rfl, rfl⟩
theorem z8_one : ∀ v ∈ zr 512, v.oneCell' = true := by
 intro v hv
 unfold zr at hv
 rw [List.eq_of_mem_replicate hv]
 rfl
theorem VlB.put {T : TypeId} {n : Nat} {Z : Array Value} (h : VlB T n Z) {w : World} {B : Nat} {cur : Array Value} {t : TypeId} (hb : w.heap[B]? = some (.cells cur t (0, 0))) (o : Nat) (ho : o + 512 ≤ cur.size) :
  ∃ w2, (storeCells ⟨B, o, none⟩ Z.toList).run Tryz.prog w = .ok () w2 ∧ (∃ cur', w2.heap[B]? = some (.cells cur' t (0, 0)) ∧ Laid cur cur' o 512 (fun _ => .int .u8 0)) ∧ Kp (isB B) w w2 := by
 have e := run_storeCells_at Tryz.prog B o t (zr 512) 0 cur w hb (by rw [zr_len]; omega) z8_one
 have hl := Laid.splice (cur := cur) (o := o) (cs := zr 512) (by rw [zr_len]; exact ho) (fun _ => .int .u8 0) (fun j hj => by rw [zr_len] at hj; exact zr_get hj)
 rw [zr_len] at hl
 rw [h.z, List.toList_toArray, e, Nat.add_zero, zr_len]
 exact ⟨_, rfl, ⟨_, setRow_heap w B _ _ t _ hb, hl⟩, Kp.setRow (S := isB B) w rfl _⟩
section
variable {w : World} {B : Nat} {dn : Int} {sv : Value} {d : Id}
def twoF (a b : Int) (j : Nat) : Int := if j = 0 then a else b
theorem setWord_ok (h : IAt w B dn sv d) (i : Nat) (hi : i < 256) (v : Int) (v0 : 0 ≤ v) (v1 : v < 65536) : Calls Tryz.prog 167 #[.pointer (some ⟨B, 0, none⟩), .int .i64 i, .int .i64 v] w fun e w' => e = .returned (.tuple #[]) ∧ IAt w' B dn sv { d with buf := layB d.buf (2 * i) 2 (twoF (v % 256) (v / 256)) } ∧ Kp (isB B) w w' := by
 have h1 := (h.raw).kept (w' := (w.alloc (.cells #[.int .u8 (v % 256), .int .u8 (v / 256)] 127)).drew) (Kp.alloc noB w _).drew id (fun _ _ => id)
 have hq : (w.alloc (.cells #[.int .u8 (v % 256), .int .u8 (v / 256)] 127)).drew.heap[w.heap.size]? = some (.cells #[.int .u8 (v % 256), .int .u8 (v / 256)] 127 (0, 0)) := heap_new w _
 obtain ⟨cur, hb, hs, hc⟩ := h1.blk
 obtain ⟨w2, hcp, ⟨cur2, hh2, hl2⟩, hk2⟩ := copy_any _ B (32778 + 2 * i) (512 - 2 * i) (512 - 2 * i) w.heap.size 0 2 2 2 (Nat.min_eq_left (by omega)).symm cur _ hb (by omega) (twoF (v % 256) (v / 256)) (fun j hj => by
  rw [cell_at hq]
  rcases (by omega : j = 0 ∨ j = 1) with rfl | rfl <;> rfl)
 have r2 := h1.laybuf (o := 2 * i) hb hh2 (by omega) hl2 hk2
 have H : Hid (IAt w2 B dn sv { d with buf := layB d.buf (2 * i) 2 (twoF (v % 256) (v / 256)) } ∧ Kp (isB B) w w2) :=
  ⟨r2.id _ rfl rfl rfl rfl rfl rfl rfl h.fl, ((Kp.alloc (isB B) w _).drew).trans hk2⟩
 have b0 : IntKind.i64.wrap (2 * (i : Int)) = 2 * (i : Int) := by rw [IntKind.wrap_i64]; omega
 have b1 : ∀ w, (Instr.sliceAt 104 (.pointer (some ⟨B, 32778, none⟩)) (some (.int .i64 (2 * (i : Int)))) none none).run Tryz.prog w = .ok (.slice (some ⟨B, 32778 + 2 * i, none⟩) (512 - 2 * i) (512 - 2 * i)) w := fun w => run_buf w B 32778 (2 * i) (by omega)
 clear h h1 hq hb hs hc hh2 hl2 hk2 r2 hi
 go_enter Tryz.func167, Tryz.ntmps167
 go_wp2
 go_region
 go_wp2
 go_end0
 exact ⟨rfl, H.out⟩
theorem ec_is (n : Nat) (hn : n ≤ 64) (b : Nat → Int) (i : Nat) (hi : i < 512) : layB (layB (layB (layB b 0 512 (fun _ => 0)) (2 * 0) 2 (twoF (64 % 256) (64 / 256))) (2 * 49) 2 (twoF (512 % 256) (512 / 256))) (2 * 60) 2 (twoF ((n : Int) % 256) ((n : Int) / 256)) i = ecB n i := by
 unfold layB ecB twoF
 by_cases a : i = 0
 ·subst a; rfl
 ·by_cases b : i = 99
  ·subst b; rfl
  ·by_cases c : i = 120
   ·subst c; rfl
   ·rw [if_neg a, if_neg b, if_neg c]
    by_cases q : i = 121
    ·subst q
     show (n : Int) / 256 = 0
     omega
    ·rw [if_neg (by omega)]
     by_cases q2 : i = 98
     ·subst q2; rfl
     ·rw [if_neg (by omega)]
      by_cases q3 : i = 1
      ·subst q3; rfl
      ·rw [if_neg (by omega), if_pos (by omega)]
theorem identify_ok (h : IAt w B dn sv d) (k : d.Ok) : Calls Tryz.prog 139 #[.pointer (some ⟨B, 0, none⟩)] w fun e w' => e = .returned (.tuple #[]) ∧ DOk w B sv { d with buf := ecB d.n, mode := 3, don := 0, mark := true } w' := by
 obtain ⟨T, n, Z, V⟩ := vlB
 obtain ⟨cur, hb, hs, hc⟩ := h.blk
 obtain ⟨w1, hst, ⟨cur1, hh1, hl1⟩, hk1⟩ := V.put hb 32778 (by omega)
 have r1 := h.raw.laybuf (o := 0) (g := fun _ => 0) hb hh1 (by omega) hl1 hk1
 have h1 : IAt w1 B dn sv { d with buf := layB d.buf 0 512 (fun _ => 0) } := r1.id _ rfl rfl rfl rfl rfl rfl rfl h.fl
 have HW : Hid _ := setWord_ok h1 0 (by decide) 64 (by decide) (by decide)
 have K1 : Hid (Kp (isB B) w w1) := hk1
 have hf : Hid (d.n ≤ 64) := k.few
 have hF : Hid _ := h.fl
 have o1 := V.ops
 have e1 := V.agg
 have e2 := V.size
 have e3 := V.zero
 have e4 := V.under
 have e5 := V.zs
 clear V hb hs hc hh1 hl1 hk1 r1 h1 h k
 go_enter Tryz.func139, Tryz.ntmps139
 simp only [o1.1, o1.2.1]
 go_wp2_with fail
 refine Calls.mono HW.out ?_; rintro e w2 ⟨rfl, h2, k2⟩
 have HX : Hid _ := setWord_ok h2 49 (by decide) 512 (by decide) (by decide)
 have K2 : Hid (Kp (isB B) w w2) := K1.out.trans k2
 clear h2 k2 K1 HW
 go_wp2_with fail
 refine Calls.mono HX.out ?_; rintro e w3 ⟨rfl, h3, k3⟩
 have cn : w3.cell? ⟨B, 32768, none⟩ = some (.int .i64 d.n) := h3.cn
 have HY : Hid _ := setWord_ok h3 60 (by decide) d.n (by omega) (by have := hf.out; omega)
 have K3 : Hid (Kp (isB B) w w3) := K2.out.trans k3
 clear h3 k3 K2 HX
 go_wp2_with fail
 refine Calls.mono HY.out ?_; rintro e w4 ⟨rfl, h4, k4⟩
 have cg := h4.cgo
 have cd := h4.cdn
 have cm := h4.cmk
 have z1 := h4.fz 33290
 have z2 := h4.fz 33291
 have z3 := h4.fz 33292
 have H : Hid (DOk w B sv { d with buf := ecB d.n, mode := 3, don := 0, mark := true } (((w4.setCell ⟨B, 33291, none⟩ (.int .i64 2)).setCell ⟨B, 33290, none⟩ (.int .i64 0)).setCell ⟨B, 33292, none⟩ (.bool true))) :=
  ⟨0, ((((h4.raw.setgo 2).setdn 0).setmk true).same (b' := ecB d.n) (fun i hi => ec_is d.n hf.out d.buf i hi)).id _ rfl rfl rfl rfl rfl rfl rfl hF.out, fun _ => rfl, K3.out.trans (k4.trans (((kpB B _ _ _).trans (kpB B _ _ _)).trans (kpB B _ _ _)))⟩
 clear h4 k4 K3 HY
 go_wp2
 go_end0
 exact ⟨rfl, H.out⟩
theorem clear_ok (h : IAt w B dn sv d) : IAt (((w.setCell ⟨B, 33292, none⟩ (.bool false)).setCell ⟨B, 32770, none⟩ (.int .u8 0)).setCell ⟨B, 33291, none⟩ (.int .i64 0)) B dn sv d.clear :=
 (((h.raw.setmk false).setR 1 (by decide) 32770 rfl 0).setgo 0).id _ rfl rfl rfl (reg_1 (d := { d with mark := false, failed := false, mode := 0 }) 0).symm rfl rfl rfl rfl
theorem command_off (h : IAt w B dn sv d) (k : d.Ok) (hd : Dn d dn) (ho : d.off = true) (v : Int) : Calls Tryz.prog 97 #[.pointer (some ⟨B, 0, none⟩), .int .u8 v] w fun e w' => e = .returned (.tuple #[]) ∧ DOk w B sv (d.command v) w' := by
 have HO : Hid _ := isOther_any h k
 rw [ho] at HO
 have H : Hid (DOk w B sv (d.command v) w) := by
  unfold Id.command
  rw [if_pos ho]
  exact h.ok hd
 clear h k ho hd
 go_enter Tryz.func97, Tryz.ntmps97
 go_wp2_with fail
 refine Calls.mono HO.out ?_; rintro e w1 ⟨rfl, hw⟩; replace hw := hw.symm; subst hw
 go_wp2
 refine bodyPost_ret (results_none rfl _ _ _) rfl ?_
 exact ⟨rfl, H.out⟩
theorem command_on (h : IAt w B dn sv d) (k : d.Ok) (ho : d.off = false) (v : Int) : Calls Tryz.prog 97 #[.pointer (some ⟨B, 0, none⟩), .int .u8 v] w fun e w' => e = .returned (.tuple #[]) ∧ DOk w B sv (d.command v) w' := by
 have HO : Hid _ := isOther_any h k
 rw [ho] at HO
 have c1 := h.c1
 have cg := h.cgo
 have cm := h.cmk
 have z1 := h.fz 32770
 have z2 := h.fz 33291
 have z3 := h.fz 33292
 have hc := clear_ok h
 have hk := k.clear
 have HB1 : Hid _ := begin_ok hc hk 1 (.inl rfl)
 have HB2 : Hid _ := begin_ok hc hk 2 (.inr rfl)
 have HI : Hid _ := identify_ok hc hk
 have HF : Hid _ := fail_ok hc 4 (.inl rfl)
 rw [show goV 1 = 1 from rfl] at HB1
 rw [show goV 2 = 3 from rfl] at HB2
 have hcl : Hid (IAt (((w.setCell ⟨B, 33292, none⟩ (.bool false)).setCell ⟨B, 32770, none⟩ (.int .u8 0)).setCell ⟨B, 33291, none⟩ (.int .i64 0)) B dn sv d.clear) := hc
 have hk3 : Hid (Kp (isB B) w (((w.setCell ⟨B, 33292, none⟩ (.bool false)).setCell ⟨B, 32770, none⟩ (.int .u8 0)).setCell ⟨B, 33291, none⟩ (.int .i64 0))) := ((kpB B _ _ _).trans (kpB B _ _ _)).trans (kpB B _ _ _)
 have mt : d.clear.meant = d.meant := rfl
 rw [mt] at HB1 HB2
 have ho' : Hid (d.off = false) := ho
 clear h k ho hc hk mt
 by_cases v20 : v = 32 ∨ v = 33
 ·have E : Hid (d.command v = if d.meant = true then d.clear.begin 1 else d.clear.fail 4) := by
   show _ = _
   unfold Id.command
   rw [if_neg (by rw [ho'.out]; decide), if_pos (by omega)]
   simp only [if_pos (show v < 48 by omega)]
  have fin : ∀ w4, DOk (((w.setCell ⟨B, 33292, none⟩ (.bool false)).setCell ⟨B, 32770, none⟩ (.int .u8 0)).setCell ⟨B, 33291, none⟩ (.int .i64 0)) B sv (if d.meant = true then d.clear.begin 1 else d.clear.fail 4) w4 → DOk w B sv (d.command v) w4 := by
   rintro w4 ⟨dn4, h4, d4, k4⟩
   rw [E.out]
   exact ⟨dn4, h4, d4, hk3.out.trans k4⟩
  have FIN : Hid _ := fin
  clear fin E hcl hk3 HI HF HB2
  rcases v20 with rfl | rfl
  all_goals
   go_enter Tryz.func97, Tryz.ntmps97
   go_wp2_with fail
   refine Calls.mono HO.out ?_; rintro e w1 ⟨rfl, hw⟩; replace hw := hw.symm; subst hw
   go_wp2_with fail
   refine Calls.mono HB1.out ?_; rintro e w4 ⟨rfl, h4⟩
   have H := FIN.out w4 h4
   have H' : Hid _ := H
   clear H h4 FIN HB1
   go_wp2
   go_end0
   exact ⟨rfl, H'.out⟩
 ·by_cases v30 : v = 48 ∨ v = 49
  ·have E : Hid (d.command v = if d.meant = true then d.clear.begin 2 else d.clear.fail 4) := by
    show _ = _
    unfold Id.command
    rw [if_neg (by rw [ho'.out]; decide), if_pos (by omega)]
    simp only [if_neg (show ¬ v < 48 by omega)]
   have fin : ∀ w4, DOk (((w.setCell ⟨B, 33292, none⟩ (.bool false)).setCell ⟨B, 32770, none⟩ (.int .u8 0)).setCell ⟨B, 33291, none⟩ (.int .i64 0)) B sv (if d.meant = true then d.clear.begin 2 else d.clear.fail 4) w4 → DOk w B sv (d.command v) w4 := by
    rintro w4 ⟨dn4, h4, d4, k4⟩
    rw [E.out]
    exact ⟨dn4, h4, d4, hk3.out.trans k4⟩
   have FIN : Hid _ := fin
   clear fin E hcl hk3 HI HF HB1 v20
   rcases v30 with rfl | rfl
   all_goals
    go_enter Tryz.func97, Tryz.ntmps97
    go_wp2_with fail
    refine Calls.mono HO.out ?_; rintro e w1 ⟨rfl, hw⟩; replace hw := hw.symm; subst hw
    go_wp2_with fail
    refine Calls.mono HB2.out ?_; rintro e w4 ⟨rfl, h4⟩
    have H := FIN.out w4 h4
    have H' : Hid _ := H
    clear H h4 FIN HB2
    go_wp2
    go_end0
    exact ⟨rfl, H'.out⟩
  ·have nb : ¬ (v = 32 ∨ v = 33 ∨ v = 48 ∨ v = 49) := by omega
   by_cases vec : v = 236
   ·subst vec
    have FIN : Hid (∀ w4, DOk (((w.setCell ⟨B, 33292, none⟩ (.bool false)).setCell ⟨B, 32770, none⟩ (.int .u8 0)).setCell ⟨B, 33291, none⟩ (.int .i64 0)) B sv { d.clear with buf := ecB d.clear.n, mode := 3, don := 0, mark := true } w4 → DOk w B sv (d.command 236) w4) := by
     rintro w4 ⟨dn4, h4, d4, k4⟩
     unfold Id.command
     rw [if_neg (by rw [ho'.out]; decide), if_neg nb, if_pos rfl]
     exact ⟨dn4, h4, d4, hk3.out.trans k4⟩
    clear hcl hk3 HF HB1 HB2 v20 v30 nb
    go_enter Tryz.func97, Tryz.ntmps97
    go_wp2_with fail
    refine Calls.mono HO.out ?_; rintro e w1 ⟨rfl, hw⟩; replace hw := hw.symm; subst hw
    go_wp2_with fail
    refine Calls.mono HI.out ?_; rintro e w4 ⟨rfl, h4⟩
    have H := FIN.out w4 h4
    have H' : Hid _ := H
    clear H h4 FIN HI
    go_wp2
    go_end0
    exact ⟨rfl, H'.out⟩
   ·by_cases vm : v = 231 ∨ v = 145
    ·have H : Hid (DOk w B sv (d.command v) ((((w.setCell ⟨B, 33292, none⟩ (.bool false)).setCell ⟨B, 32770, none⟩ (.int .u8 0)).setCell ⟨B, 33291, none⟩ (.int .i64 0)).setCell ⟨B, 33292, none⟩ (.bool true))) := by
      show DOk _ _ _ _ _
      unfold Id.command
      rw [if_neg (by rw [ho'.out]; decide), if_neg nb, if_neg vec, if_pos vm]
      exact ⟨dn, (hcl.out.raw.setmk true).id _ rfl rfl rfl rfl rfl rfl rfl rfl, Dn.none rfl, hk3.out.trans (kpB B _ _ _)⟩
     clear hcl hk3 HF HB1 HB2 HI v20 v30 nb vec
     rcases vm with rfl | rfl
     all_goals
      go_enter Tryz.func97, Tryz.ntmps97
      go_wp2_with fail
      refine Calls.mono HO.out ?_; rintro e w1 ⟨rfl, hw⟩; replace hw := hw.symm; subst hw
      go_wp2
      go_end0
      exact ⟨rfl, H.out⟩
    ·have FIN : Hid (∀ w4, DOk (((w.setCell ⟨B, 33292, none⟩ (.bool false)).setCell ⟨B, 32770, none⟩ (.int .u8 0)).setCell ⟨B, 33291, none⟩ (.int .i64 0)) B sv (d.clear.fail 4) w4 → DOk w B sv (d.command v) w4) := by
      rintro w4 ⟨dn4, h4, d4, k4⟩
      unfold Id.command
      rw [if_neg (by rw [ho'.out]; decide), if_neg nb, if_neg vec, if_neg vm]
      exact ⟨dn4, h4, d4, hk3.out.trans k4⟩
     have q1 : (v == 32) = false := by rw [beq_eq_false_iff_ne]; omega
     have q2 : (v == 33) = false := by rw [beq_eq_false_iff_ne]; omega
     have q3 : (v == 48) = false := by rw [beq_eq_false_iff_ne]; omega
     have q4 : (v == 49) = false := by rw [beq_eq_false_iff_ne]; omega
     have q5 : (v == 236) = false := by rw [beq_eq_false_iff_ne]; omega
     have q6 : (v == 231) = false := by rw [beq_eq_false_iff_ne]; omega
     have q7 : (v == 145) = false := by rw [beq_eq_false_iff_ne]; omega
     clear hcl hk3 HB1 HB2 HI v20 v30 nb vec vm
     go_enter Tryz.func97, Tryz.ntmps97
     go_wp2_with fail
     refine Calls.mono HO.out ?_; rintro e w1 ⟨rfl, hw⟩; replace hw := hw.symm; subst hw
     go_wp2_with fail
     refine Calls.mono HF.out ?_; rintro e w4 ⟨rfl, h4⟩
     have H := FIN.out w4 h4
     have H' : Hid _ := H
     clear H h4 FIN HF
     go_wp2
     go_end0
     exact ⟨rfl, H'.out⟩
theorem command_ok (h : IAt w B dn sv d) (k : d.Ok) (hd : Dn d dn) (v : Int) : Calls Tryz.prog 97 #[.pointer (some ⟨B, 0, none⟩), .int .u8 v] w fun e w' => e = .returned (.tuple #[]) ∧ DOk w B sv (d.command v) w' := by
 cases ho : d.off
 ·exact command_on h k ho v
 ·exact command_off h k hd ho v
end
def isO (v : Value) (k : Nat) : Prop := v.ownBlock = some k
theorem kp_grown {w w' : World} {v : Value} (g : w.grownBy w' v.ownBlock) : Kp (isO v) w w' :=
 ⟨g.os, g.tape, g.output, g.size, fun k hk hs => g.block k hk (fun e => hs e.symm)⟩
def wI (w : World) (v : Int) : World := w.alloc (.cells #[.int .i64 v] 3)
theorem appI {w : World} {sv : Value} {l : List Int} (h : OwnI w sv l) (v : Int) (hs : l.length < 17592186044416) :
  ∃ v' w', (Builtin.append_ #[101, 101] 101 #[sv, .slice (some ⟨w.heap.size, 0, none⟩) 1 1]).run Tryz.prog (wI w v) = .ok v' w' ∧ OwnI w' v' (l ++ [v]) ∧ Kp (isO sv) w w' ∧ (∀ g, v'.ownBlock = some g → sv.ownBlock = some g ∨ w.heap.size ≤ g) := by
 have h' : OwnI (wI w v) sv l := h.kept (Kp.alloc noB _ _) (fun _ _ => id)
 have hc : (wI w v).cell? ⟨w.heap.size, 0, none⟩ = some (.int .i64 v) := by
  have := heap_new w (.cells #[.int .i64 v] 3)
  unfold wI World.cell?
  simp only [this]
  rfl
 obtain ⟨v', w', hr, h2, h3, h4, h5⟩ := run_append_own_at (P := Tryz.prog) (wI w v) 0 101 101 3 _ (.int .i64 0) 1 8 Tryz.underlying101 (show Tryz.prog.info? 3 = some _ from Tryz.type3) (by kernel_rfl) (by kernel_rfl) (by kernel_rfl) (by kernel_rfl) (by decide)
  sv l.length (l.map (Value.int .i64)) h' ⟨w.heap.size, 0, none⟩ 1 1 [.int .i64 v] (by simp) (by
   intro j u hu
   cases j with
   | zero => simp only [List.getElem?_cons_zero, Option.some.injEq] at hu; subst hu; exact hc
   | succ j => simp at hu) (by simp [Value.oneCell']) (by unfold maxLen; omega) (by omega) (Nat.zero_le _)
 refine ⟨v', w', hr, ?_, (Kp.alloc _ _ _).trans (kp_grown h3), fun g e => ?_⟩
 ·unfold OwnI
  rw [List.length_append, List.map_append]
  exact h2
 ·rcases h5 with e5 | e5
  ·exact .inl (e5 ▸ e)
  ·rw [e5] at e
   simp only [Option.some.injEq] at e
   right
   subst e
   simp [wI]
theorem step_enter {ops : Array Oper} {o : Oper} {a : Act} {w : World} {K : Act → World → Prop} {Q : Exit → Act → World → Prop} {E : Prop} {n : Nat} {args : Array Value} {R : Ending → World → Prop} (hgd : o.guard = none)
  (he : (execOp a.eval o).run Tryz.prog w = .ok (.enter n args) w) (hc : Calls Tryz.prog n args w R) (hK : ∀ e w', R e w' → ∃ u, e = .returned u ∧ K (a.put o.dst u) w') :
  if Region.wanted o (yielded ops a.tmps) = true then Oper.wp Tryz.prog o a w K Q else E := by
 have hw : Region.wanted o (yielded ops a.tmps) = true := by simp [Region.wanted, hgd]
 rw [if_pos hw]
 unfold Oper.wp
 rw [he]
 refine Calls.mono hc fun e w' hr => ?_
 obtain ⟨u, rfl, hk⟩ := hK e w' hr
 exact hk
theorem step_appI {ops : Array Oper} {o : Oper} {a : Act} {w w' : World} {K : Act → World → Prop} {Q : Exit → Act → World → Prop} {E : Prop} {v x u : Value} (hgd : o.guard = none) (s y : Operand)
  (ho : o.op = .call { callee := .builtin .append, args := #[s, y], argTypes := #[101, 101] }) (hty : o.type = 101) (hs : a.eval s = v) (hx : a.eval y = x)
  (hr : (Builtin.append_ #[101, 101] 101 #[v, x]).run Tryz.prog w = .ok u w') (hK : K (a.put o.dst u) w') :
  if Region.wanted o (yielded ops a.tmps) = true then Oper.wp Tryz.prog o a w K Q else E := by
 have hw : Region.wanted o (yielded ops a.tmps) = true := by simp [Region.wanted, hgd]
 rw [if_pos hw]
 unfold Oper.wp execOp
 simp only [ho, hty, resolve, invoke, builtin, Sem.run_bind, Sem.run_pure, Result.andThen_ok, List.map_toArray, List.map_cons, List.map_nil, hs, hx, hr]
 exact hK
def DOut (w : World) (B : Nat) (sv : Value) (d : Id) (w' : World) : Prop :=
 ∃ dn' sv', IAt w' B dn' sv' d ∧ Dn d dn' ∧ (∀ k, foot B sv' k → foot B sv k ∨ w.heap.size ≤ k) ∧ Kp (foot B sv) w w'
section
variable {w : World} {B : Nat} {dn : Int} {sv : Value} {d : Id}
theorem Kp.foot {w' : World} (h : Kp (isB B) w w') : Kp (foot B sv) w w' := h.mono fun k _ e => .inl e
theorem DOk.out {w' : World} (h : DOk w B sv d w') : DOut w B sv d w' := by
 obtain ⟨dn', h1, hd, h2⟩ := h
 exact ⟨dn', sv, h1, hd, fun _ g => .inl g, h2.foot⟩
theorem DOut.then {w1 w2 : World} {sv1 : Value} {d' : Id} (hf : ∀ k, foot B sv1 k → foot B sv k ∨ w.heap.size ≤ k) (k1 : Kp (foot B sv) w w1) (h : DOut w1 B sv1 d' w2) : DOut w B sv d' w2 := by
 obtain ⟨dn', sv', h1, hd, h2, h3⟩ := h
 refine ⟨dn', sv', h1, hd, fun k g => ?_, k1.over h3 fun j hj g => ?_⟩
 ·rcases h2 k g with e | e
  ·exact hf k e
  ·exact .inr (Nat.le_trans k1.size e)
 ·rcases hf j g with e | e
  ·exact e
  ·omega
theorem note_ok (h : IAt w B dn sv d) (hs : d.log.length < 17592186044416) (p : Int) :
  ∃ p' n' c' w', (Builtin.append_ #[101, 101] 101 #[sv, .slice (some ⟨w.heap.size, 0, none⟩) 1 1]).run Tryz.prog (wI w p) = .ok (.slice p' n' c') w' ∧ w'.cell? ⟨B, 33293, none⟩ = some sv ∧ w'.frozen? ⟨B, 33293, none⟩ = false ∧
   IAt (w'.setCell ⟨B, 33293, none⟩ (.slice p' n' c')) B dn (.slice p' n' c') { d with log := d.log ++ [p] } ∧ (∀ k, foot B (.slice p' n' c') k → foot B sv k ∨ w.heap.size ≤ k) ∧ Kp (foot B sv) w (w'.setCell ⟨B, 33293, none⟩ (.slice p' n' c')) := by
 obtain ⟨v', w', hr, h2, h3, h4⟩ := appI h.log p hs
 obtain ⟨pa, ca, ev⟩ := h2.sl
 subst ev
 have hb := h.blk.kept h3 (fun e => h.notB e rfl)
 refine ⟨pa, _, ca, w', hr, hb.cell 33293 (by decide), hb.fz _, ?_, fun k g => ?_, ?_⟩
 ·refine ⟨(hb.set 33293 (by decide) _).of (fun i hi => cC_setsv _ i hi), h2.kept (kpB B _ _ _) (fun g e => ?_), h.fl⟩
  rintro (rfl : g = B)
  obtain ⟨cur, g1⟩ := h2.lt e
  obtain ⟨c, g2, _⟩ := hb
  rw [g1] at g2
  simp at g2
 ·rcases g with g | g
  ·exact .inl (.inl g)
  ·rcases h4 k g with e | e
   ·exact .inl (.inr e)
   ·exact .inr e
 ·exact (h3.mono fun k _ e => .inr e).trans (kpB B _ _ _).foot
set_option maxHeartbeats 1000000 in
theorem write_ok (h : IAt w B dn sv d) (k : d.Ok) (ht : d.there = true) (hm : d.mode = 2) (hs : d.log.length < 17592186044416) : Calls Tryz.prog 137 #[.pointer (some ⟨B, 0, none⟩)] w fun e w' => e = .returned (.tuple #[]) ∧ DOut w B sv { d.lay.one with mark := true } w' := by
 have HS : Hid _ := sector_some h k ht
 have hC : Hid (IAt w B dn sv d) := h
 have hK : Hid d.Ok := k
 have a2 : Hid (d.at + 512 ≤ 32768) := (at_lt k ht).2.1
 have hL : Hid (d.log.length < 17592186044416) := hs
 have hT : Hid (d.there = true) := ht
 have hM : Hid (d.mode = 2) := hm
 obtain ⟨A, hA⟩ : ∃ A, A = d.at := ⟨_, rfl⟩
 have hA' : Hid (A = d.at) := hA
 rw [← hA] at HS a2
 clear h k ht hA hs hm
 go_enter Tryz.func137, Tryz.ntmps137
 go_wp2_with fail
 refine Calls.mono HS.out ?_; rintro e w1 ⟨rfl, k1⟩
 have h1 := hC.out.keep k1
 have hn := nil_no w1 ⟨B, A, none⟩ 512 512
 obtain ⟨cur, hb, hs, hc⟩ := h1.blk
 have a2' := a2.out
 obtain ⟨w2, hcp, ⟨cur2, hh2, hl2⟩, hk2⟩ := copy_any w1 B A 512 512 B 32778 512 512 512 rfl cur _ hb (by omega) d.buf (fun j hj => h1.cb j hj)
 have r2 := h1.raw.laydisk hb hh2 (by omega) hl2 hk2
 have h2 : IAt w2 B dn sv { d with D := d.lay.D } := r2.id _ rfl (by rw [hA'.out]; rfl) rfl rfl rfl rfl rfl h1.fl
 have K2 : Hid (Kp (isB B) w w2) := k1.any.trans hk2
 have H2 : Hid (IAt w2.drew B dn sv { d with D := d.lay.D }) := h2.keep (Kp.refl _ _).drew
 have hk' : Id.Ok { d with D := d.lay.D } := { hK.out with D := (hK.out.lay hT.out).D }
 obtain ⟨P, hP⟩ : ∃ P, P = d.place := ⟨_, rfl⟩
 have HP : Hid (Calls Tryz.prog 164 #[.pointer (some ⟨B, 0, none⟩)] w2.drew fun e w' => e = .returned (.int .i64 P) ∧ Kp noB w2.drew w') := by
  have := place_any H2.out hk'
  rw [hP]
  exact this
 have HN : Hid (∀ W, Kp noB w2.drew W → _) := fun W kW => note_ok (H2.out.keep kW) hL.out P
 have hP' : Hid (P = d.place) := hP
 clear hP
 have c1 : w2.drew.cell? ⟨B, 33293, none⟩ = some sv := H2.out.csv
 clear h1 hb hs hc a2' hh2 hl2 hk2 r2 h2 k1 hk'
 have HG : Hid (∀ W dn' sv', IAt W B dn' sv' d.lay → _) := fun W dn' sv' hW => goOn_ok hW (hK.out.lay hT.out) (.inr hM.out)
 go_wp2
 go_region_law (first
  | (refine step_enter rfl (by kernel_rfl) HP.out ?_
     rintro e w3 ⟨rfl, k3⟩
     refine ⟨_, rfl, ?_⟩
     have c3 : w3.cell? ⟨B, 33293, none⟩ = some sv := (H2.out.keep k3).csv
     have c4 : ∀ o, (w3.alloc o).cell? ⟨B, 33293, none⟩ = some sv := fun o => (H2.out.keep (k3.trans (Kp.alloc noB _ _))).csv
     have K3 : Hid (Kp noB w2.drew w3) := k3
     clear k3)
  | (obtain ⟨p', n', c', w5, hr, q1, q2, q3, q4, q5⟩ := HN.out _ (Hid.out (by assumption : Hid (Kp noB w2.drew _)))
     have Q3 : Hid _ := And.intro q3 (And.intro q4 q5)
     refine step_appI rfl _ _ rfl rfl rfl rfl hr ?_
     clear hr q3 q4 q5))
 all_goals
  obtain ⟨q3, q4, q5⟩ := Q3.out
  clear Q3
  generalize (w5.setCell ⟨B, 33293, none⟩ (.slice p' n' c')) = w6 at q3 q5 ⊢
  have h6 : IAt w6 B dn (.slice p' n' c') d.lay := by
   have e : ({ d with D := d.lay.D, log := d.log ++ [P] } : Id) = d.lay := by rw [hP'.out]; rfl
   rw [← e]
   exact q3
  have k3 : Kp (foot B sv) w w3 := (K2.out.foot.drew).trans (K3.out.any)
  have k6 : Kp (foot B sv) w w6 := k3.trans q5
  have f6 : ∀ k, foot B (.slice p' n' c') k → foot B sv k ∨ w.heap.size ≤ k := fun k g => by
   rcases q4 k g with e | e
   ·exact .inl e
   ·exact .inr (Nat.le_trans k3.size e)
  have HG' : Hid _ := HG.out _ _ _ h6
  have F6 : Hid ((∀ k, foot B (.slice p' n' c') k → foot B sv k ∨ w.heap.size ≤ k) ∧ Kp (foot B sv) w w6) := ⟨f6, k6⟩
  clear q3 q4 q5 h6 k3 k6 f6 HG HN HP H2 q1 q2 c3 c4 K3 K2 hP' c1 hcp hn hC hK hL hT hM a2 hA' HS
  go_wp2_with fail
  refine Calls.mono HG'.out ?_; rintro e w7 ⟨rfl, dn7, h7, d7, k7⟩
  have cm := h7.cmk
  have z7 := h7.fz 33292
  have H : Hid (DOut w B sv { d.lay.one with mark := true } (w7.setCell ⟨B, 33292, none⟩ (.bool true))) :=
   DOut.then F6.out.1 F6.out.2 ⟨dn7, _, (h7.raw.setmk true).id _ rfl rfl rfl rfl rfl rfl rfl h7.fl, d7, fun _ g => .inl g, (k7.trans (kpB B _ _ _)).foot⟩
  clear h7 k7 d7 HG' F6
  go_wp2
  go_end0
  exact ⟨rfl, H.out⟩
theorem write_no (h : IAt w B dn sv d) (k : d.Ok) (ht : d.there = false) : Calls Tryz.prog 137 #[.pointer (some ⟨B, 0, none⟩)] w fun e w' => e = .returned (.tuple #[]) ∧ DOut w B sv (d.fail 16) w' := by
 have HS : Hid _ := sector_none h k ht
 have hC : Hid (IAt w B dn sv d) := h
 clear h k ht
 go_enter Tryz.func137, Tryz.ntmps137
 go_wp2_with fail
 refine Calls.mono HS.out ?_; rintro e w1 ⟨rfl, k1⟩
 have HF : Hid _ := fail_ok (hC.out.keep k1) 16 (.inr rfl)
 have hn := nil_yes w1
 have K : Hid (Kp noB w w1) := k1
 clear k1
 go_wp2_with fail
 refine Calls.mono HF.out ?_; rintro e w2 ⟨rfl, h2⟩
 have H2 : Hid (DOut w B sv (d.fail 16) w2) := (h2.over K.out).out
 clear h2 HF
 go_wp2
 refine bodyPost_ret (results_none rfl _ _ _) rfl ?_
 exact ⟨rfl, H2.out⟩
end
end Go.Proofs.YtonfjhbfkichkaaGreat.Dk
namespace Go.Proofs.YtonfjhbfkichkaaGreat.Dk
open Go.RowKit
set_option linter.unusedVariables false
def Id.putL (d : Id) (l : List Int) : Id := l.foldl Id.put d
def bytL (v : Int) (n : Nat) : List Int := (List.range n).map (fun k => v / 2 ^ (8 * k) % 256)
theorem bytL_succ (v : Int) (n : Nat) : bytL v (n + 1) = bytL v n ++ [v / 2 ^ (8 * n) % 256] := by
 unfold bytL
 rw [List.range_succ, List.map_append]
 rfl
theorem putL_puts (d : Id) (v : Int) : ∀ n, d.putL (bytL v n) = d.puts v n
 | 0 => rfl
 | n + 1 => by
  rw [bytL_succ]
  unfold Id.putL
  rw [List.foldl_append]
  show ((bytL v n).foldl Id.put d).put _ = _
  have := putL_puts d v n
  unfold Id.putL at this
  rw [this]
  rfl
theorem putL_append (d : Id) (l m : List Int) : d.putL (l ++ m) = (d.putL l).putL m := by
 unfold Id.putL
 rw [List.foldl_append]
theorem putL_take (d : Id) (l : List Int) (m n : Nat) : d.putL (l.take (m + n)) = (d.putL (l.take m)).putL ((l.drop m).take n) := by
 rw [List.take_add, putL_append]
theorem put_idle (d : Id) (hm : d.mode ≠ 2) (b : Int) : d.put b = d := by
 unfold Id.put
 rw [if_neg hm]
theorem putL_idle (d : Id) (hm : d.mode ≠ 2) : ∀ l : List Int, d.putL l = d
 | [] => rfl
 | b :: l => by
  show (d.put b).putL l = d
  rw [put_idle d hm, putL_idle d hm l]
def layL (f : Nat → Int) (o : Nat) (l : List Int) : Nat → Int := fun i => if o ≤ i ∧ i < o + l.length then l.getD (i - o) 0 else f i
theorem layL_cons (f : Nat → Int) (o : Nat) (b : Int) (l : List Int) : layL (setB f o b) (o + 1) l = layL f o (b :: l) := by
 funext i
 unfold layL setB
 rw [List.length_cons]
 by_cases a : i = o
 ·subst a
  rw [if_neg (by omega), if_pos rfl, if_pos (by omega), Nat.sub_self]
  rfl
 ·by_cases c : o + 1 ≤ i ∧ i < o + 1 + l.length
  ·rw [if_pos c, if_pos (by omega)]
   obtain ⟨j, rfl⟩ : ∃ j, i = o + 1 + j := ⟨i - (o + 1), by omega⟩
   rw [show o + 1 + j - (o + 1) = j by omega, show o + 1 + j - o = j + 1 by omega]
   rfl
  ·rw [if_neg c, if_neg a, if_neg (by omega)]
theorem putL_few : ∀ (l : List Int) (d : Id), d.mode = 2 → d.don + l.length < 512 → d.putL l = { d with buf := layL d.buf d.don l, don := d.don + l.length }
 | [], d, _, _ => by
  show d = _
  have e : layL d.buf d.don [] = d.buf := by
   funext i
   unfold layL
   rw [if_neg (by simp)]
  rw [e]
  rfl
 | b :: l, d, hm, hl => by
  rw [List.length_cons] at hl
  show (d.put b).putL l = _
  have e : d.put b = { d with buf := setB d.buf d.don b, don := d.don + 1 } := by
   unfold Id.put
   rw [if_pos hm, if_pos (by omega)]
  rw [e, putL_few l ({ d with buf := setB d.buf d.don b, don := d.don + 1 } : Id) hm (by show d.don + 1 + l.length < 512; omega)]
  show ({ d with buf := layL (setB d.buf d.don b) (d.don + 1) l, don := d.don + 1 + l.length } : Id) = _
  rw [layL_cons, List.length_cons, show d.don + 1 + l.length = d.don + (l.length + 1) by omega]
theorem putL_full (l : List Int) (d : Id) (hm : d.mode = 2) (hl : d.don + l.length = 512) (h0 : l ≠ []) : d.putL l = if d.there = true then { (({ d with buf := layL d.buf d.don l, don := 0 } : Id).lay.one) with mark := true } else ({ d with buf := layL d.buf d.don l, don := 0 } : Id).fail 16 := by
 obtain ⟨m, b, rfl⟩ : ∃ m b, l = m ++ [b] := ⟨l.dropLast, l.getLast h0, (List.dropLast_concat_getLast h0).symm⟩
 rw [List.length_append, List.length_singleton] at hl
 rw [putL_append, putL_few m d hm (by omega)]
 show Id.put _ b = _
 unfold Id.put
 rw [if_pos (show ({ d with buf := layL d.buf d.don m, don := d.don + m.length } : Id).mode = 2 from hm), if_neg (show ¬ ({ d with buf := layL d.buf d.don m, don := d.don + m.length } : Id).don + 1 < 512 by show ¬ d.don + m.length + 1 < 512; omega)]
 have e : setB (layL d.buf d.don m) (d.don + m.length) b = layL d.buf d.don (m ++ [b]) := by
  funext i
  unfold setB layL
  rw [List.length_append, List.length_singleton]
  by_cases a : i = d.don + m.length
  ·subst a
   rw [if_pos rfl, if_pos (by omega), show d.don + m.length - d.don = m.length by omega]
   simp
  ·rw [if_neg a]
   by_cases c : d.don ≤ i ∧ i < d.don + m.length
   ·rw [if_pos c, if_pos (by omega), List.getD_eq_getElem?_getD, List.getD_eq_getElem?_getD, List.getElem?_append_left (by omega)]
   ·rw [if_neg c, if_neg (by omega)]
 show (if d.there = true then { (({ d with buf := setB (layL d.buf d.don m) (d.don + m.length) b, don := 0 } : Id).lay.one) with mark := true } else ({ d with buf := setB (layL d.buf d.don m) (d.don + m.length) b, don := 0 } : Id).fail 16) = _
 rw [e]
def Id.work (d : Id) : Nat := 512 * d.log.length + (if d.mode = 2 then d.don else 0)
theorem begin_work (d : Id) (m : Int) : (d.begin m).work ≤ 512 * d.log.length := by
 unfold Id.begin Id.work
 split
 ·split
  ·show 512 * d.log.length + (if m = 2 then 0 else 0) ≤ _
   split <;> omega
  ·show 512 * d.log.length + (if m = 2 then 0 else 0) ≤ _
   split <;> omega
 ·show 512 * d.log.length + (if (0 : Int) = 2 then d.don else 0) ≤ _
  rw [if_neg (by decide)]
  omega
theorem one_work (d : Id) : d.one.work ≤ 512 * d.log.length := by
 unfold Id.one
 split
 ·show 512 * d.log.length + (if (0 : Int) = 2 then d.don else 0) ≤ _
  rw [if_neg (by decide)]
  omega
 ·exact begin_work d.next _
theorem put_work (d : Id) (hd : d.don < 512) (b : Int) : (d.put b).work ≤ d.work + 1 := by
 unfold Id.put
 split
 ·rename_i hm
  have e : d.work = 512 * d.log.length + d.don := by unfold Id.work; rw [if_pos hm]
  split
  ·show 512 * d.log.length + (if d.mode = 2 then d.don + 1 else 0) ≤ _
   rw [if_pos hm, e]
   omega
  ·split
   ·have h1 := one_work ({ d with buf := setB d.buf d.don b, don := 0 } : Id).lay
    have h2 : ({ d with buf := setB d.buf d.don b, don := 0 } : Id).lay.log.length = d.log.length + 1 := by
     show (d.log ++ [_]).length = _
     rw [List.length_append, List.length_singleton]
    rw [h2] at h1
    have h3 : ∀ x : Id, ({ x with mark := true } : Id).work = x.work := fun x => rfl
    rw [h3]
    omega
   ·show 512 * d.log.length + (if (0 : Int) = 2 then 0 else 0) ≤ _
    rw [if_neg (by decide), e]
    omega
 ·omega
theorem putL_work : ∀ (l : List Int) (d : Id), d.Ok → (∀ b ∈ l, byt b) → (d.putL l).work ≤ d.work + l.length
 | [], d, _, _ => Nat.le_refl _
 | b :: l, d, k, hb => by
  have h1 := put_work d k.don b
  have h2 := putL_work l (d.put b) (k.put (hb b (by simp))) (fun x hx => hb x (by simp [hx]))
  show ((d.put b).putL l).work ≤ _
  rw [List.length_cons]
  omega
theorem work_log (d : Id) : 512 * d.log.length ≤ d.work := by unfold Id.work; omega
theorem bytL_byt (v : Int) (n : Nat) : ∀ b ∈ bytL v n, byt b := by
 intro b hb
 unfold bytL at hb
 rw [List.mem_map] at hb
 obtain ⟨k, _, rfl⟩ := hb
 exact byt_m
theorem putL_ok : ∀ (l : List Int) (d : Id), d.Ok → (∀ b ∈ l, byt b) → (d.putL l).Ok
 | [], d, k, _ => k
 | b :: l, d, k, hb => putL_ok l (d.put b) (k.put (hb b (by simp))) (fun x hx => hb x (by simp [hx]))
theorem gets_work (d : Id) : d.get.work ≤ d.work := by
 unfold Id.get
 split
 ·split
  ·rename_i hm _
   show 512 * d.log.length + (if d.mode = 2 then _ else 0) ≤ _
   rw [if_neg (by omega)]
   unfold Id.work
   omega
  ·split
   ·show 512 * d.log.length + (if (0 : Int) = 2 then 0 else 0) ≤ _
    rw [if_neg (by decide)]
    unfold Id.work
    omega
   ·have := one_work ({ d with don := 0 } : Id)
    have e : ({ d with don := 0 } : Id).log = d.log := rfl
    rw [e] at this
    unfold Id.work at this ⊢
    omega
 ·exact Nat.le_refl _
theorem getsN_work (d : Id) : ∀ n, (d.gets n).work ≤ d.work
 | 0 => Nat.le_refl _
 | n + 1 => Nat.le_trans (gets_work (d.gets n)) (getsN_work d n)
theorem command_work (d : Id) (k : Int) : (d.command k).work ≤ d.work := by
 have h0 : d.clear.log = d.log := rfl
 have h1 := work_log d
 unfold Id.command
 split
 ·exact Nat.le_refl _
 ·split
  ·split
   ·split
    ·have := begin_work d.clear 1; rw [h0] at this; omega
    ·have := begin_work d.clear 2; rw [h0] at this; omega
   ·show 512 * d.log.length + (if (0 : Int) = 2 then d.don else 0) ≤ _
    rw [if_neg (by decide)]; omega
  ·split
   ·show 512 * d.log.length + (if (3 : Int) = 2 then 0 else 0) ≤ _
    rw [if_neg (by decide)]; omega
   ·split
    ·show 512 * d.log.length + (if (0 : Int) = 2 then d.don else 0) ≤ _
     rw [if_neg (by decide)]; omega
    ·show 512 * d.log.length + (if (0 : Int) = 2 then d.don else 0) ≤ _
     rw [if_neg (by decide)]; omega
theorem out_work (d : Id) (hk : d.Ok) (reg : Int) (size : Nat) (v : Int) : (d.out reg size v).work ≤ d.work + size := by
 have h1 := work_log d
 unfold Id.out
 split
 ·split
  ·omega
  ·rw [← putL_puts]
   have := putL_work (bytL v size) d hk (bytL_byt v size)
   have e : (bytL v size).length = size := by unfold bytL; simp
   rw [e] at this
   exact this
 ·repeat' split
  all_goals first
   | exact Nat.le_add_right _ _
   | exact Nat.le_trans (command_work d _) (Nat.le_add_right _ _)
   | (unfold Id.ctl
      split
      · show 512 * d.log.length + (if (0 : Int) = 2 then 0 else 0) ≤ _
        rw [if_neg (by decide)]; omega
      · exact Nat.le_add_right _ _)
theorem inn_work (d : Id) (reg : Int) (size : Nat) : (d.inn reg size).work ≤ d.work := by
 unfold Id.inn
 split
 ·exact Nat.le_refl _
 ·split
  ·exact getsN_work d size
  ·split
   ·exact Nat.le_refl _
   ·exact Nat.le_refl _
theorem gets_add (d : Id) (m : Nat) : ∀ n, d.gets (m + n) = (d.gets m).gets n
 | 0 => rfl
 | n + 1 => by
  show (d.gets (m + n)).get = ((d.gets m).gets n).get
  rw [gets_add d m n]
theorem gets_idle (d : Id) (hm : ¬ (d.mode = 1 ∨ d.mode = 3)) : ∀ n, d.gets n = d
 | 0 => rfl
 | n + 1 => by
  show (d.gets n).get = d
  rw [gets_idle d hm n]
  unfold Id.get
  rw [if_neg hm]
theorem getV_idle (d : Id) (hm : ¬ (d.mode = 1 ∨ d.mode = 3)) : d.getV = 255 := by
 unfold Id.getV
 rw [if_neg hm]
theorem gets_few (d : Id) (hm : d.mode = 1 ∨ d.mode = 3) : ∀ n, d.don + n < 512 → d.gets n = { d with don := d.don + n }
 | 0, _ => rfl
 | n + 1, h => by
  show (d.gets n).get = _
  rw [gets_few d hm n (by omega)]
  unfold Id.get
  rw [if_pos (show ({ d with don := d.don + n } : Id).mode = 1 ∨ ({ d with don := d.don + n } : Id).mode = 3 from hm), if_pos (show ({ d with don := d.don + n } : Id).don + 1 < 512 by show d.don + n + 1 < 512; omega)]
  rfl
theorem gets_getV (d : Id) (hm : d.mode = 1 ∨ d.mode = 3) (n : Nat) (h : d.don + n < 512) : (d.gets n).getV = d.buf (d.don + n) := by
 rw [gets_few d hm n h]
 unfold Id.getV
 rw [if_pos (show ({ d with don := d.don + n } : Id).mode = 1 ∨ ({ d with don := d.don + n } : Id).mode = 3 from hm)]
theorem gets_full (d : Id) (hm : d.mode = 1 ∨ d.mode = 3) (n : Nat) (h : d.don + n = 512) (h0 : 0 < n) : d.gets n = if d.mode = 3 then { d with don := 0, mode := 0 } else ({ d with don := 0 } : Id).one := by
 obtain ⟨m, rfl⟩ : ∃ m, n = m + 1 := ⟨n - 1, by omega⟩
 show (d.gets m).get = _
 rw [gets_few d hm m (by omega)]
 unfold Id.get
 rw [if_pos (show ({ d with don := d.don + m } : Id).mode = 1 ∨ ({ d with don := d.don + m } : Id).mode = 3 from hm), if_neg (show ¬ ({ d with don := d.don + m } : Id).don + 1 < 512 by show ¬ d.don + m + 1 < 512; omega)]
end Go.Proofs.YtonfjhbfkichkaaGreat.Dk
