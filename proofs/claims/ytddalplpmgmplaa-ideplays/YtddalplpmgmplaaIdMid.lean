/- The contracts of sector, turnTo, begin, goOn, endRead, setControl, check. -/
import Derived.Test.YtddalplpmgmplaaIdLeaf
import Derived.Deep.RegionHeld3
namespace Go.Proofs.Ytddalplpmgmplaa
open Go.ChangeShapes Go.WideShapes Go.ChangeAt Go.RowKit
set_option linter.unusedVariables false

theorem arr512 : Try.prog.underlying 43 = some (.array 512 5) := Try.underlying43
theorem arrDisk : Try.prog.underlying 48 = some (.array 32768 5) := Try.underlying48

theorem run_low (w : World) (T : TypeId) (N B o x : Nat) (hu : Try.prog.underlying T = some (.array N 5)) (h : x < N) : (Instr.sliceAt T (.pointer (some ⟨B, o, none⟩)) (some (.int .i64 x)) none none).run Try.prog w = .ok (.slice (some ⟨B, o + x, none⟩) (N - x) (N - x)) w := by
  have hq : ¬ N = x := by omega
  have h2 : (x : Int) ≤ N := by omega
  have h3 : x ≤ N := by omega
  cases hi : Try.prog.info? 5 with
  | none => have := byteT; rw [hi] at this; cases this
  | some i =>
    have hs : i.size = 1 := by have := byteT; rw [hi] at this; simpa using this
    simp [Instr.sliceAt, Instr.sureAddr, run_underlying hu, Instr.sliceBounds, run_sliceBound, sizeOf, typeInfo, hi, hs, hq, h3, Addr.add]

theorem run_three (w : World) (T : TypeId) (N M B f : Nat) (hu : Try.prog.underlying T = some (.array N 5)) (h : f + M ≤ N) (hM : 0 < M) : (Instr.sliceAt T (.pointer (some ⟨B, 0, none⟩)) (some (.int .i64 f)) (some (.int .i64 ((f + M : Nat) : Int))) (some (.int .i64 ((f + M : Nat) : Int)))).run Try.prog w = .ok (.slice (some ⟨B, f, none⟩) M M) w := by
  have h6 : f + M - f = M := by omega
  have h7 : ¬ f + M = f := by omega
  have h8 : ((f + M : Nat) : Int) ≤ N := by omega
  have h9 : (f : Int) ≤ ((f + M : Nat) : Int) := by omega
  obtain ⟨t, ht⟩ : ∃ t, t = f + M := ⟨_, rfl⟩
  rw [← ht] at h6 h7 h8 h9 ⊢
  cases hi : Try.prog.info? 5 with
  | none => have := byteT; rw [hi] at this; cases this
  | some i =>
    have hs : i.size = 1 := by have := byteT; rw [hi] at this; simpa using this
    have h10 : t ≤ N := by omega
    have h11 : f ≤ t := by omega
    simp [Instr.sliceAt, Instr.sureAddr, run_underlying hu, Instr.sliceBounds, run_sliceBound, sizeOf, typeInfo, hi, hs, h6, h7, h10, h11, Addr.add]
    exact fun e => e.symm

theorem run_buf (w : World) (B o x : Nat) (h : x < 512) : (Instr.sliceAt 43 (.pointer (some ⟨B, o, none⟩)) (some (.int .i64 x)) none none).run Try.prog w = .ok (.slice (some ⟨B, o + x, none⟩) (512 - x) (512 - x)) w := run_low w _ 512 B o x arr512 h

theorem run_sec (w : World) (B f : Nat) (h : f + 512 ≤ 32768) : (Instr.sliceAt 48 (.pointer (some ⟨B, 0, none⟩)) (some (.int .i64 f)) (some (.int .i64 ((f + 512 : Nat) : Int))) (some (.int .i64 ((f + 512 : Nat) : Int)))).run Try.prog w = .ok (.slice (some ⟨B, f, none⟩) 512 512) w := run_three w _ 32768 512 B f arrDisk h (by decide)

theorem nil_yes (w : World) : (binOp .eql 22 (.slice none 0 0) (.slice none 0 0)).run Try.prog w = .ok (.bool true) w := by kernel_rfl
theorem nil_no (w : World) (a : Addr) (n c : Nat) : (binOp .eql 22 (.slice (some a) n c) (.slice none 0 0)).run Try.prog w = .ok (.bool false) w := by kernel_rfl

section
variable {w : World} {B : Nat} {dn : Int} {sv : Value} {d : Id}

theorem at_lt (k : d.Ok) (ht : d.there = true) : d.place < d.n ∧ d.at + 512 ≤ 32768 ∧ (d.at : Int) = d.place * 512 := by
  have p := k.place
  have f := k.few
  unfold Id.there at ht
  rw [decide_eq_true_eq] at ht
  unfold Id.at
  omega

theorem sector_some (h : IAt w B dn sv d) (k : d.Ok) (ht : d.there = true) : Calls Try.prog 40 #[.pointer (some ⟨B, 0, none⟩)] w fun e w' => e = .returned (.slice (some ⟨B, d.at, none⟩) 512 512) ∧ Kp noB w w' := by
  have HP : Hid _ := place_any h k
  have hC : Hid (IAt w B dn sv d) := h
  obtain ⟨a1, a2, a3⟩ := at_lt k ht
  have p := k.place
  have f := k.few
  obtain ⟨A, hA⟩ : ∃ A, A = d.at := ⟨_, rfl⟩
  rw [← hA] at a2 a3 ⊢
  generalize d.place = P at *
  have n1 : decide (P ≥ (d.n : Int)) = false := by simp; omega
  have HS : ∀ w, _ := fun w => run_sec w B A a2
  clear h k ht hA
  go_enter Try.func40, Try.ntmps40
  go_wp2_with fail
  refine Calls.mono HP.out ?_; rintro e w1 ⟨rfl, k1⟩
  have cn := (hC.out.keep k1).cn
  have hs := HS w1
  have K : Hid (Kp noB w w1) := k1
  clear HS k1
  rw [show ((A + 512 : Nat) : Int) = P * 512 + 512 by omega, a3] at hs
  go_wp2
  go_ret
  exact ⟨rfl, K.out⟩

theorem sector_none (h : IAt w B dn sv d) (k : d.Ok) (ht : d.there = false) : Calls Try.prog 40 #[.pointer (some ⟨B, 0, none⟩)] w fun e w' => e = .returned (.slice none 0 0) ∧ Kp noB w w' := by
  have HP : Hid _ := place_any h k
  have hC : Hid (IAt w B dn sv d) := h
  have p := k.place
  have f := k.few
  have n0 : (d.n : Int) ≤ d.place := by
    unfold Id.there at ht
    rw [decide_eq_false_iff_not] at ht
    omega
  generalize d.place = P at *
  have n1 : decide (P ≥ (d.n : Int)) = true := by simp; omega
  clear h k ht
  go_enter Try.func40, Try.ntmps40
  go_wp2_with fail
  refine Calls.mono HP.out ?_; rintro e w1 ⟨rfl, k1⟩
  have cn := (hC.out.keep k1).cn
  have K : Hid (Kp noB w w1) := k1
  clear k1
  go_wp2
  go_ret
  exact ⟨rfl, K.out⟩

theorem DOk.over {w1 w2 : World} {d' : Id} (k : Kp noB w w1) (h : DOk w1 B sv d' w2) : DOk w B sv d' w2 := by
  obtain ⟨dn', h1, hd, h2⟩ := h
  exact ⟨dn', h1, hd, k.any.trans h2⟩

theorem turnTo_none (h : IAt w B dn sv d) (k : d.Ok) (ht : d.there = false) (g m : Int) : Calls Try.prog 43 #[.pointer (some ⟨B, 0, none⟩), .int .i64 g] w fun e w' => e = .returned (.tuple #[]) ∧ DOk w B sv (d.begin m) w' := by
  have HS : Hid _ := sector_none h k ht
  have hC : Hid (IAt w B dn sv d) := h
  have e : d.begin m = d.fail 16 := by unfold Id.begin; rw [if_neg (by rw [ht]; decide)]
  rw [e]
  clear h k ht e
  go_enter Try.func43, Try.ntmps43
  go_wp2_with fail
  refine Calls.mono HS.out ?_; rintro e w1 ⟨rfl, k1⟩
  have HF : Hid _ := fail_ok (hC.out.keep k1) 16 (.inr rfl)
  have hn := nil_yes w1
  have K : Hid (Kp noB w w1) := k1
  clear k1
  go_wp2_with fail
  refine Calls.mono HF.out ?_; rintro e w2 ⟨rfl, h2⟩
  have H2 : Hid (DOk w B sv (d.fail 16) w2) := h2.over K.out
  clear h2 HF
  go_wp2
  refine bodyPost_ret (results_none rfl _ _ _) rfl ?_
  exact ⟨rfl, H2.out⟩

theorem turnTo_write (h : IAt w B dn sv d) (k : d.Ok) (ht : d.there = true) : Calls Try.prog 43 #[.pointer (some ⟨B, 0, none⟩), .int .i64 3] w fun e w' => e = .returned (.tuple #[]) ∧ DOk w B sv (d.begin 2) w' := by
  have HS : Hid _ := sector_some h k ht
  have hC : Hid (IAt w B dn sv d) := h
  have e : d.begin 2 = { d with mode := 2, don := 0 } := by unfold Id.begin; rw [if_pos ht, if_neg (by decide)]
  rw [e]
  clear h k ht e
  go_enter Try.func43, Try.ntmps43
  go_wp2_with fail
  refine Calls.mono HS.out ?_; rintro e w1 ⟨rfl, k1⟩
  have h1 := hC.out.keep k1
  have hn := nil_no w1 ⟨B, d.at, none⟩ 512 512
  have cg := h1.cgo
  have cd := h1.cdn
  have z1 := h1.fz 33291
  have z2 := h1.fz 33290
  have H : Hid (DOk w B sv { d with mode := 2, don := 0 } ((w1.setCell ⟨B, 33291, none⟩ (.int .i64 3)).setCell ⟨B, 33290, none⟩ (.int .i64 0))) :=
    ⟨0, ((h1.raw.setgo 3).setdn 0).id _ rfl rfl rfl rfl rfl rfl rfl h1.fl, fun _ => rfl, k1.any.trans ((kpB B _ _ _).trans (kpB B _ _ _))⟩
  clear k1 h1
  go_wp2
  go_end0
  exact ⟨rfl, H.out⟩

theorem turnTo_read (h : IAt w B dn sv d) (k : d.Ok) (ht : d.there = true) : Calls Try.prog 43 #[.pointer (some ⟨B, 0, none⟩), .int .i64 1] w fun e w' => e = .returned (.tuple #[]) ∧ DOk w B sv (d.begin 1) w' := by
  have HS : Hid _ := sector_some h k ht
  have hC : Hid (IAt w B dn sv d) := h
  have e : d.begin 1 = { d with mode := 1, don := 0, buf := fun i => d.D (d.at + i), mark := true } := by unfold Id.begin; rw [if_pos ht, if_pos rfl]
  rw [e]
  have a2 : Hid (d.at + 512 ≤ 32768) := (at_lt k ht).2.1
  obtain ⟨A, hA⟩ : ∃ A, A = d.at := ⟨_, rfl⟩
  rw [← hA] at HS a2 ⊢
  clear h k ht e hA
  go_enter Try.func43, Try.ntmps43
  go_wp2_with fail
  refine Calls.mono HS.out ?_; rintro e w1 ⟨rfl, k1⟩
  have h1 := hC.out.keep k1
  have hn := nil_no w1 ⟨B, A, none⟩ 512 512
  have cg := h1.cgo
  have cd := h1.cdn
  have z1 := h1.fz 33291
  have z2 := h1.fz 33290
  have r2 := (h1.raw.setgo 1).setdn 0
  obtain ⟨cur, hb, hs, hc⟩ := r2.blk
  have a2' := a2.out
  obtain ⟨w2, hcp, ⟨cur2, hh2, hl2⟩, hk2⟩ := copy_any _ B 32778 512 512 B A 512 512 512 rfl cur _ hb (by omega) (fun j => d.D (A + j)) (fun j hj => by
    rw [cell_at hb, hc _ (by omega), cC_D (by omega)])
  have r3 := r2.laybuf (o := 0) hb hh2 (by omega) hl2 hk2
  have cm : w2.cell? ⟨B, 33292, none⟩ = some (.bool d.mark) := r3.blk.cell 33292 (by decide)
  have z3 := r3.blk.fz 33292
  have H : Hid (DOk w B sv { d with mode := 1, don := 0, buf := fun i => d.D (A + i), mark := true } (w2.setCell ⟨B, 33292, none⟩ (.bool true))) := by
    refine ⟨0, ?_, fun _ => rfl, k1.any.trans ((((kpB B _ _ _).trans (kpB B _ _ _)).trans hk2).trans (kpB B _ _ _))⟩
    refine ((r3.setmk true).same (b' := fun i => d.D (A + i)) fun i hi => ?_).id _ rfl rfl rfl rfl rfl rfl rfl h1.fl
    show (if 0 ≤ i ∧ i < 0 + 512 then d.D (A + (i - 0)) else d.buf i) = _
    rw [if_pos (by omega), Nat.sub_zero]
  clear k1 h1 r2 hs hc hb hh2 hl2 hk2 r3 a2'
  go_wp2
  go_end0
  exact ⟨rfl, H.out⟩

theorem turnTo_ok (h : IAt w B dn sv d) (k : d.Ok) (m : Int) (hm : m = 1 ∨ m = 2) : Calls Try.prog 43 #[.pointer (some ⟨B, 0, none⟩), .int .i64 (goV m)] w fun e w' => e = .returned (.tuple #[]) ∧ DOk w B sv (d.begin m) w' := by
  cases ht : d.there
  · exact turnTo_none h k ht _ _
  · rcases hm with rfl | rfl
    · exact turnTo_read h k ht
    · exact turnTo_write h k ht

theorem begin_ok (h : IAt w B dn sv d) (k : d.Ok) (m : Int) (hm : m = 1 ∨ m = 2) : Calls Try.prog 31 #[.pointer (some ⟨B, 0, none⟩), .int .i64 (goV m)] w fun e w' => e = .returned (.tuple #[]) ∧ DOk w B sv (if d.meant = true then d.begin m else d.fail 4) w' := by
  have HT : Hid _ := turnTo_ok h k m hm
  have HF : Hid _ := fail_ok h 4 (.inl rfl)
  have c6 := h.c6
  have e6 := iand64 k.r6
  unfold Id.meant
  generalize goV m = g at *
  clear h k
  cases q : (d.r6 / 64 % 2 == 1)
  · rw [q] at e6
    rw [if_neg (by decide)]
    clear q
    go_enter Try.func31, Try.ntmps31
    go_wp2_with fail
    refine Calls.mono HF.out ?_; rintro e w2 ⟨rfl, h2⟩
    have H2 : Hid (DOk w B sv (d.fail 4) w2) := h2
    clear h2
    go_wp2
    refine bodyPost_ret (results_none rfl _ _ _) rfl ?_
    exact ⟨rfl, H2.out⟩
  · rw [q] at e6
    rw [if_pos rfl]
    clear q
    go_enter Try.func31, Try.ntmps31
    go_wp2_with fail
    refine Calls.mono HT.out ?_; rintro e w2 ⟨rfl, h2⟩
    have H2 : Hid (DOk w B sv (d.begin m) w2) := h2
    clear h2
    go_wp2
    go_end0
    exact ⟨rfl, H2.out⟩

theorem next_place (d : Id) : ({ d with r3 := (d.place + 1) % 268435456 % 256, r4 := (d.place + 1) % 268435456 / 256 % 256, r5 := (d.place + 1) % 268435456 / 65536 % 256, r6 := d.r6 - d.r6 % 16 + (d.place + 1) % 268435456 / 16777216, r2 := (d.r2 - 1) % 256 } : Id) = d.next := by
  have e1 : (d.place + 1) % 268435456 % 256 = (d.place + 1) % 256 := by omega
  have e2 : (d.place + 1) % 268435456 / 256 % 256 = (d.place + 1) / 256 % 256 := by omega
  have e3 : (d.place + 1) % 268435456 / 65536 % 256 = (d.place + 1) / 65536 % 256 := by omega
  have e4 : (d.place + 1) % 268435456 / 16777216 = (d.place + 1) / 16777216 % 16 := by omega
  unfold Id.next
  rw [e1, e2, e3, e4]

/-- The count is one less. -/
theorem count_less (h : IAt w B dn sv { d with r3 := (d.place + 1) % 268435456 % 256, r4 := (d.place + 1) % 268435456 / 256 % 256, r5 := (d.place + 1) % 268435456 / 65536 % 256, r6 := d.r6 - d.r6 % 16 + (d.place + 1) % 268435456 / 16777216 }) : IAt (w.setCell ⟨B, 32771, none⟩ (.int .u8 ((d.r2 - 1) % 256))).drew B dn sv d.next := by
  have r := h.raw.setR 2 (by decide) 32771 rfl ((d.r2 - 1) % 256)
  rw [← next_place d]
  refine IAt.keep ?_ (Kp.refl _ _).drew
  exact r.id _ rfl rfl rfl (reg_2 (d := { d with r3 := (d.place + 1) % 268435456 % 256, r4 := (d.place + 1) % 268435456 / 256 % 256, r5 := (d.place + 1) % 268435456 / 65536 % 256, r6 := d.r6 - d.r6 % 16 + (d.place + 1) % 268435456 / 16777216 }) _).symm rfl rfl rfl h.fl

theorem goOn_ok (h : IAt w B dn sv d) (k : d.Ok) (hm : d.mode = 1 ∨ d.mode = 2) : Calls Try.prog 42 #[.pointer (some ⟨B, 0, none⟩)] w fun e w' => e = .returned (.tuple #[]) ∧ DOk w B sv d.one w' := by
  have HP : Hid _ := place_any h k
  have hC : Hid (IAt w B dn sv d) := h
  have hK : Hid d.Ok := k
  have hM : Hid (d.mode = 1 ∨ d.mode = 2) := hm
  have p := k.place
  have e28 := iand28 (d.place + 1)
  clear h k hm
  go_enter Try.func42, Try.ntmps42
  go_wp2_with fail
  refine Calls.mono HP.out ?_; rintro e w1 ⟨rfl, k1⟩
  have HS : Hid _ := setPlace_ok (hC.out.keep k1) hK.out ((d.place + 1) % 268435456) (by omega) (by omega)
  have K1 : Hid (Kp noB w w1) := k1
  clear k1 HP
  go_wp2_with fail
  refine Calls.mono HS.out ?_; rintro e w2 ⟨rfl, h2, k2⟩
  have c2 : w2.cell? ⟨B, 32771, none⟩ = some (.int .u8 d.r2) := h2.c2
  have z2 := h2.fz 32771
  have h3 := count_less h2
  have k3 : Kp (isB B) w (w2.setCell ⟨B, 32771, none⟩ (.int .u8 ((d.r2 - 1) % 256))).drew := (K1.out.any.trans (k2.trans (kpB B _ _ _))).drew
  have H3 : Hid (IAt (w2.setCell ⟨B, 32771, none⟩ (.int .u8 ((d.r2 - 1) % 256))).drew B dn sv d.next ∧ Kp (isB B) w (w2.setCell ⟨B, 32771, none⟩ (.int .u8 ((d.r2 - 1) % 256))).drew) := ⟨h3, k3⟩
  clear h3 k3 h2 k2 e28 HS K1 p
  go_wp2
  go_region
  revert H3
  generalize (w2.setCell ⟨B, 32771, none⟩ (.int .u8 ((d.r2 - 1) % 256))).drew = w3
  intro H3
  obtain ⟨h3, k3⟩ := H3.out
  have c2' : w3.cell? ⟨B, 32771, none⟩ = some (.int .u8 d.next.r2) := h3.c2
  have cg : w3.cell? ⟨B, 33291, none⟩ = some (.int .i64 (goV d.mode)) := h3.cgo
  have z3 := h3.fz 33291
  have nm : d.next.mode = d.mode := rfl
  clear c2 z2
  by_cases q : d.next.r2 = 0
  · have e : d.one = { d.next with mode := 0 } := by unfold Id.one; rw [if_pos q]
    have H : Hid (DOk w B sv d.one (w3.setCell ⟨B, 33291, none⟩ (.int .i64 0))) := by
      rw [e]
      exact ⟨dn, (h3.raw.setgo 0).id _ rfl rfl rfl rfl rfl rfl rfl h3.fl, Dn.none rfl, k3.trans (kpB B _ _ _)⟩
    rw [q] at c2'
    clear h3 k3 H3 nm q e hC hK hM
    go_wp2
    refine bodyPost_ret (results_none rfl _ _ _) rfl ?_
    exact ⟨rfl, H.out⟩
  · have e : d.one = d.next.begin d.mode := by unfold Id.one; rw [if_neg q]
    have q' : (d.next.r2 == 0) = false := by simpa using q
    have HT : Hid _ := turnTo_ok h3 hK.out.next d.mode hM.out
    have K3 : Hid (Kp (isB B) w w3) := k3
    have E : Hid (d.one = d.next.begin d.mode) := e
    clear h3 k3 H3 nm q e hC hK hM
    generalize goV d.mode = g at *
    go_wp2_with fail
    refine Calls.mono HT.out ?_; rintro e w4 ⟨rfl, dn4, h4, d4, k4⟩
    have H : Hid (DOk w B sv d.one w4) := by
      rw [E.out]
      exact ⟨dn4, h4, d4, K3.out.trans k4⟩
    clear h4 k4 d4
    go_wp2
    go_end0
    exact ⟨rfl, H.out⟩

theorem endRead_ec (h : IAt w B dn sv d) (hm : d.mode = 3) : Calls Try.prog 39 #[.pointer (some ⟨B, 0, none⟩)] w fun e w' => e = .returned (.tuple #[]) ∧ DOk w B sv { d with mode := 0 } w' := by
  have cg := h.cgo
  have z1 := h.fz 33291
  rw [hm, show goV 3 = 2 from rfl] at cg
  have H : Hid (DOk w B sv { d with mode := 0 } (w.setCell ⟨B, 33291, none⟩ (.int .i64 0))) := ⟨dn, (h.raw.setgo 0).id _ rfl rfl rfl rfl rfl rfl rfl h.fl, Dn.none rfl, kpB B _ _ _⟩
  clear h hm
  go_enter Try.func39, Try.ntmps39
  go_wp2
  refine bodyPost_ret (results_none rfl _ _ _) rfl ?_
  exact ⟨rfl, H.out⟩

theorem endRead_read (h : IAt w B dn sv d) (k : d.Ok) (hm : d.mode = 1) : Calls Try.prog 39 #[.pointer (some ⟨B, 0, none⟩)] w fun e w' => e = .returned (.tuple #[]) ∧ DOk w B sv d.one w' := by
  have cg := h.cgo
  rw [hm, show goV 1 = 1 from rfl] at cg
  have HG : Hid _ := goOn_ok h k (.inl hm)
  clear h hm k
  go_enter Try.func39, Try.ntmps39
  go_wp2_with fail
  refine Calls.mono HG.out ?_; rintro e w4 ⟨rfl, h4⟩
  have H : Hid (DOk w B sv d.one w4) := h4
  clear h4
  go_wp2
  go_end0
  exact ⟨rfl, H.out⟩

theorem setControl_ok (h : IAt w B dn sv d) (hd : Dn d dn) (b : Int) (hb : byt b) : Calls Try.prog 23 #[.pointer (some ⟨B, 0, none⟩), .int .u8 b] w fun e w' => e = .returned (.tuple #[]) ∧ DOk w B sv (d.ctl b) w' := by
  have e4 := iand4 hb
  have hC : Hid (IAt w B dn sv d) := h
  unfold Id.ctl
  by_cases q : b / 4 % 2 = 1
  · have q' : (b / 4 % 2 == 1) = true := by simpa using q
    rw [q'] at e4
    rw [if_pos q]
    have HS : Hid _ := start_ok h
    clear h q q'
    go_enter Try.func23, Try.ntmps23
    go_wp2_with fail
    refine Calls.mono HS.out ?_; rintro e w1 ⟨rfl, dn1, h1, d1, k1⟩
    have c8 := h1.c8
    have z8 := h1.fz 32777
    have H : Hid (DOk w B sv ({ d with c := b } : Id).fresh (w1.setCell ⟨B, 32777, none⟩ (.int .u8 b))) :=
      ⟨dn1, (h1.raw.setR 8 (by decide) 32777 rfl b).id _ rfl rfl rfl (reg_8 (d := ({ d with c := 0 } : Id).fresh) b).symm rfl rfl rfl h1.fl, Dn.none rfl, k1.trans (kpB B _ _ _)⟩
    clear h1 k1 d1 HS
    go_wp2
    go_end0
    exact ⟨rfl, H.out⟩
  · have q' : (b / 4 % 2 == 1) = false := by simpa using q
    rw [q'] at e4
    rw [if_neg q]
    have c8 := h.c8
    have z8 := h.fz 32777
    have H : Hid (DOk w B sv { d with c := b } (w.setCell ⟨B, 32777, none⟩ (.int .u8 b))) :=
      ⟨dn, (h.raw.setR 8 (by decide) 32777 rfl b).id _ rfl rfl rfl (reg_8 (d := d) b).symm rfl rfl rfl h.fl, hd, kpB B _ _ _⟩
    clear h q q' hd
    go_enter Try.func23, Try.ntmps23
    go_wp2
    go_end0
    exact ⟨rfl, H.out⟩

/-- What 'check' answers. -/
def chkV (x : Option Addr) (reg size : Int) : Int := if x = none ∨ reg < 0 ∨ 9 ≤ reg then 1 else if reg = 0 ∧ size ≠ 1 ∧ size ≠ 2 ∧ size ≠ 4 then 2 else 0

theorem check_any (w : World) (x : Option Addr) (reg size : Int) : Calls Try.prog 20 #[.pointer x, .int .i64 reg, .int .i64 size] w fun e w' => e = .returned (.int .i64 (chkV x reg size)) ∧ w' = w := by
  unfold chkV
  cases x with
  | none =>
    rw [if_pos (.inl rfl)]
    go_enter Try.func20, Try.ntmps20
    go_wp2
    go_ret
    exact ⟨rfl, rfl⟩
  | some a =>
    by_cases g : reg < 0
    · rw [if_pos (.inr (.inl g))]
      have d0 : decide (reg < 0) = true := by simp; omega
      go_enter Try.func20, Try.ntmps20
      go_wp2
      go_ret
      exact ⟨rfl, rfl⟩
    · have d0 : decide (reg < 0) = false := by simp; omega
      by_cases g2 : 9 ≤ reg
      · rw [if_pos (.inr (.inr g2))]
        have d1 : decide (reg ≥ 9) = true := by simp; omega
        go_enter Try.func20, Try.ntmps20
        go_wp2
        go_ret
        exact ⟨rfl, rfl⟩
      · have d1 : decide (reg ≥ 9) = false := by simp; omega
        rw [if_neg (by rintro (q | q | q); cases q; exact g q; exact g2 q)]
        by_cases r : reg = 0
        · subst r
          by_cases s1 : size = 1
          · subst s1
            rw [if_neg (by simp)]
            go_enter Try.func20, Try.ntmps20
            go_wp2
            go_ret
            exact ⟨rfl, rfl⟩
          · have s1' : (size == 1) = false := by simpa using s1
            by_cases s2 : size = 2
            · subst s2
              rw [if_neg (by simp)]
              go_enter Try.func20, Try.ntmps20
              go_wp2
              go_ret
              exact ⟨rfl, rfl⟩
            · have s2' : (size == 2) = false := by simpa using s2
              by_cases s4 : size = 4
              · subst s4
                rw [if_neg (by simp)]
                go_enter Try.func20, Try.ntmps20
                go_wp2
                go_ret
                exact ⟨rfl, rfl⟩
              · have s4' : (size == 4) = false := by simpa using s4
                have t1 : (size != 1) = true := by simpa using s1
                have t2 : (size != 2) = true := by simpa using s2
                have t4 : (size != 4) = true := by simpa using s4
                rw [if_pos ⟨rfl, s1, s2, s4⟩]
                clear s1 s2 s4
                go_enter Try.func20, Try.ntmps20
                go_wp2
                go_ret
                exact ⟨rfl, rfl⟩
        · have r' : (reg == 0) = false := by simpa using r
          rw [if_neg (fun q => r q.1)]
          go_enter Try.func20, Try.ntmps20
          go_wp2
          go_ret
          exact ⟨rfl, rfl⟩
end
end Go.Proofs.Ytddalplpmgmplaa
