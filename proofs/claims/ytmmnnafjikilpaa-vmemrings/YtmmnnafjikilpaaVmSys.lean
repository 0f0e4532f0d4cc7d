/- Where a value lies that the processor itself asks for, and a byte of code. -/
import Derived.Test.YtmmnnafjikilpaaVmSeg
namespace Go.Proofs.Ytmmnnafjikilpaa
open Go.ChangeShapes Go.WideShapes Go.ChangeAt Go.RowKit Go.Maps
set_option linter.unusedVariables false
set_option maxRecDepth 20000

theorem ofPro_size (w : World) (V K B pl tn C : Nat) (M : Mem) (h : VmAt w V K B pl tn M) (l z : Int) (wr : Bool) (hz : okS z = false) :
    Calls Try.prog 40 #[.pointer (some ⟨V, 0, none⟩), .pointer (some ⟨C, 0, none⟩), .int .u32 l, .int .i64 z, .bool wr] w (fun e w' => e = .panicked (pan (ftV 13)) ∧ Kp noB w w') := by
  unfold pan ftV Ft.val
  have kA := Kp.alloc noB w (.cells #[.int .u32 0, .int .u32 0, .int .i64 0, .int .i64 0] 86)
  have h0 := (h.kp0 kA).c0
  have cN := need_ok _ V B C h0
  have cS := vIsSize_any (w.alloc (.cells #[.int .u32 0, .int .u32 0, .int .i64 0, .int .i64 0] 86)) z
  rw [hz] at cS
  clear hz
  go_enter Try.func40, Try.ntmps40
  go_wp2_with (first | (go_at_call 50; refine cN.mono ?_; rintro e w' ⟨rfl, hw⟩; replace hw := hw.symm; subst hw) | (go_at_call 51; refine cS.mono ?_; rintro e w' ⟨rfl, hw⟩; replace hw := hw.symm; subst hw) | (go_at_call 52; refine (refused_any _ _).mono ?_; rintro e w2 ⟨rfl, k2⟩))
  exact ⟨rfl, rfl, kA.trans k2⟩

theorem ofPro_go (w : World) (V K B pl tn C : Nat) (M : Mem) (h : VmAt w V K B pl tn M) (c : Cp) (hc : CpAt w C c) (hC : ¬ modVm K B M.n C) (l : Int) (n : Nat) (wr : Bool) (l0 : 0 ≤ l) (l1 : l < 4294967296) (hn : n = 1 ∨ n = 2 ∨ n = 4) (htn : tn < 18446744073709551613) :
    Calls Try.prog 40 #[.pointer (some ⟨V, 0, none⟩), .pointer (some ⟨C, 0, none⟩), .int .u32 l, .int .i64 n, .bool wr] w (fun e w' => e = QE (findQ M c.pg c.cr3 l n wr false c.wp) ∧ VmP w V K B pl tn (findQ M c.pg c.cr3 l n wr false c.wp).m 2 w') := by
  have kA := Kp.alloc noB w (.cells #[.int .u32 0, .int .u32 0, .int .i64 0, .int .i64 0] 86)
  have rX : RowS (w.alloc (.cells #[.int .u32 0, .int .u32 0, .int .i64 0, .int .i64 0] 86)) w.heap.size 0 0 0 0 := (MapKept.heap_alloc w _).1
  have HLT : Hid (V < w.heap.size ∧ ∀ j, modVm K B M.n j → j < w.heap.size) := ⟨h.lt, fun j hj => h.in_lt hj⟩
  replace h := h.kp0 kA
  replace hc := hc.kp0 kA
  have h0 := h.c0
  have cN := need_ok _ V B C h0
  have cS := vIsSize_any (w.alloc (.cells #[.int .u32 0, .int .u32 0, .int .i64 0, .int .i64 0] 86)) n
  have hz : okS n = true := by unfold okS; exact decide_eq_true (by omega)
  rw [hz] at cS
  clear hz
  have cW := own_way _ C c wr hc
  have qn := findQ_n M c.pg c.cr3 l n wr false c.wp
  have HF : Hid (∀ W, Kp noB (w.alloc (.cells #[.int .u32 0, .int .u32 0, .int .i64 0, .int .i64 0] 86)) W → Calls Try.prog 55 #[.pointer (some ⟨V, 0, none⟩), .pointer (some ⟨C, 0, none⟩), .int .u32 l, .int .i64 n, .agg #[.bool wr, .bool false, .bool c.wp]] W (fun e w' => e = QE (findQ M c.pg c.cr3 l n wr false c.wp) ∧ VmP W V K B pl tn (findQ M c.pg c.cr3 l n wr false c.wp).m 2 w')) := fun W k => vfind_any W V K B pl tn C M (h.kp0 k) c (hc.kp0 k) hC _ n wr false c.wp l0 l1 (by omega) (by omega) htn
  obtain ⟨q, hqe⟩ : ∃ q, findQ M c.pg c.cr3 l n wr false c.wp = q := ⟨_, rfl⟩
  rw [hqe] at HF qn
  have HQ : Hid _ := hqe
  clear hqe
  obtain ⟨qf, qm, sa, sb, sh, sn⟩ := q
  simp only at HF qn
  have nX : ¬ modVm K B qm.n w.heap.size := fun f => by rw [qn] at f; have := HLT.out.2 _ f; omega
  cases qf with
  | some f =>
    unfold QE at HF
    simp only at HF
    go_enter Try.func40, Try.ntmps40
    go_wp2_with (first | (go_at_call 50; refine cN.mono ?_; rintro e w' ⟨rfl, hw⟩; replace hw := hw.symm; subst hw) | (go_at_call 51; refine cS.mono ?_; rintro e w' ⟨rfl, hw⟩; replace hw := hw.symm; subst hw) | (go_at_call 63; refine cW.mono ?_; rintro e w4 ⟨rfl, k4⟩) | (go_at_call 55; refine Calls.mono (HF.out _ k4) ?_; rintro e w5 ⟨rfl, v5⟩))
    obtain ⟨⟨tn5, ht5, at5⟩, k5⟩ := v5
    refine ⟨rfl, by rw [HQ.out]; rfl, ?_⟩
    rw [HQ.out]
    exact ⟨⟨tn5, ht5, at5⟩, ((kA.trans k4).mono (fun _ _ f => f.elim)).trans k5⟩
  | none =>
    unfold QE Sp.val at HF
    simp only at HF
    go_enter Try.func40, Try.ntmps40
    go_wp2_with (first | (go_at_call 50; refine cN.mono ?_; rintro e w' ⟨rfl, hw⟩; replace hw := hw.symm; subst hw) | (go_at_call 51; refine cS.mono ?_; rintro e w' ⟨rfl, hw⟩; replace hw := hw.symm; subst hw) | (go_at_call 63; refine cW.mono ?_; rintro e w4 ⟨rfl, k4⟩) | (go_at_call 55; refine Calls.mono (HF.out _ k4) ?_; rintro e w5 ⟨rfl, v5⟩; have rz := (rX.kp k4 (fun f => f)).kp v5.2 nX; obtain ⟨z0, z1, z2, z3, u0, u1, u2, u3⟩ : _ ∧ _ ∧ _ ∧ _ ∧ _ ∧ _ ∧ _ ∧ _ := ⟨rz.c0, rz.c1, rz.c2, rz.c3, rz.fz 0, rz.fz 1, rz.fz 2, rz.fz 3⟩))
    obtain ⟨⟨tn5, ht5, at5⟩, k5⟩ := v5
    have rF := rz.four sa sb sh sn
    have kF := kp_four w5 w.heap.size (.int .u32 sa) (.int .u32 sb) (.int .i64 sh) (.int .i64 sn)
    have vF := at5.kp kF (fun j hj e => by
      subst e
      rcases hj with e | e
      · have := HLT.out.1; omega
      · exact nX e)
    have k7 : Kp (modVm K B qm.n) w _ := (((kA.trans k4).mono (fun _ _ f => f.elim)).trans k5).over kF (fun j hj e => absurd hj (by omega))
    refine bodyPost_ret (v := .agg #[.int .u32 sa, .int .u32 sb, .int .i64 sh, .int .i64 sn]) (by simp [results, Try.results40, go_sem, rF.c0, rF.c1, rF.c2, rF.c3]) rfl ⟨by rw [HQ.out]; rfl, ?_⟩
    rw [HQ.out]
    exact ⟨⟨tn5, ht5, vF⟩, k7⟩

theorem ofPro_any (w : World) (V K B pl tn C : Nat) (M : Mem) (h : VmAt w V K B pl tn M) (c : Cp) (hc : CpAt w C c) (hC : ¬ modVm K B M.n C) (l z : Int) (wr : Bool) (l0 : 0 ≤ l) (l1 : l < 4294967296) (htn : tn < 18446744073709551613) :
    Calls Try.prog 40 #[.pointer (some ⟨V, 0, none⟩), .pointer (some ⟨C, 0, none⟩), .int .u32 l, .int .i64 z, .bool wr] w (fun e w' => e = QE (sysQ M c l z wr) ∧ VmP w V K B pl tn (sysQ M c l z wr).m 2 w') := by
  unfold sysQ
  cases hz : okS z with
  | false =>
    rw [if_pos rfl]
    refine (ofPro_size w V K B pl tn C M h l z wr hz).mono ?_
    rintro e w' ⟨rfl, q⟩
    exact ⟨rfl, h.stay q 2⟩
  | true =>
    rw [if_neg (by decide)]
    have hz' : z = 1 ∨ z = 2 ∨ z = 4 := of_decide_eq_true hz
    obtain ⟨n, rfl⟩ : ∃ n : Nat, z = n := ⟨z.toNat, by omega⟩
    simp only [Int.toNat_natCast]
    exact ofPro_go w V K B pl tn C M h c hc hC l n wr l0 l1 (by omega) htn

theorem ofCod_no (w : World) (V K B pl tn C : Nat) (M : Mem) (h : VmAt w V K B pl tn M) (c : Cp) (hc : CpAt w C c) (off : Int) (hr : (c.seg 1).l < off) :
    Calls Try.prog 43 #[.pointer (some ⟨V, 0, none⟩), .pointer (some ⟨C, 0, none⟩), .int .u32 off] w (fun e w' => e = .panicked (pan (ftV 13)) ∧ Kp noB w w') := by
  unfold pan ftV Ft.val
  have kA := Kp.alloc noB w (.cells #[.int .u32 0, .int .u32 0, .int .i64 0, .int .i64 0] 86)
  have h0 := (h.kp0 kA).c0
  have cN := need_ok _ V B C h0
  have s := (hc.kp0 kA).sg 1 (by decide)
  have a2 := s.a2; have a3 := s.a3; have a4 := s.a4; have a5 := s.a5; have a6 := s.a6; have a7 := s.a7; have a8 := s.a8
  go_enter Try.func43, Try.ntmps43
  go_wp2_with (first | (go_at_call 50; refine cN.mono ?_; rintro e w' ⟨rfl, hw⟩; replace hw := hw.symm; subst hw) | (go_at_call 52; refine (refused_any _ _).mono ?_; rintro e w2 ⟨rfl, k2⟩))
  exact ⟨rfl, rfl, (kA.trans (Kp.alloc noB _ _)).trans k2⟩

/-- Its pages have a fault. -/
theorem ofCod_pf (w : World) (V K B pl tn C : Nat) (M : Mem) (h : VmAt w V K B pl tn M) (c : Cp) (hc : CpAt w C c) (off : Int) (o0 : 0 ≤ off) (o1 : off < 4294967296) (hC : ¬ modVm K B M.n C) (htn : tn < 18446744073709551613) (hr : off ≤ (c.seg 1).l) (f : Ft) (hq : (findQ M c.pg c.cr3 (linB (c.seg 1).b off) 1 false c.us c.wp).f = some f) :
    Calls Try.prog 43 #[.pointer (some ⟨V, 0, none⟩), .pointer (some ⟨C, 0, none⟩), .int .u32 off] w (fun e w' => e = .panicked (pan f) ∧ VmP w V K B pl tn (findQ M c.pg c.cr3 (linB (c.seg 1).b off) 1 false c.us c.wp).m 2 w') := by
  have kA := Kp.alloc noB w (.cells #[.int .u32 0, .int .u32 0, .int .i64 0, .int .i64 0] 86)
  have h0 := (h.kp0 kA).c0
  have cN := need_ok _ V B C h0
  have s := (hc.kp0 kA).sg 1 (by decide)
  have so := hc.ok.sg 1 (by decide)
  have t0 := so.t0; have t1 := so.t1; have l0 := so.l0; have l1 := so.l1; have b0 := so.b0; have b1 := so.b1
  have a2 := s.a2; have a3 := s.a3; have a4 := s.a4; have a5 := s.a5; have a6 := s.a6; have a7 := s.a7; have a8 := s.a8
  have hd : ¬ (c.seg 1).l < off := by omega
  clear hr
  obtain ⟨X, hX⟩ : ∃ X, w.heap.size = X := ⟨_, rfl⟩
  have HLT0 : V < X ∧ ∀ j, modVm K B M.n j → j < X := ⟨by rw [← hX]; exact h.lt, fun j hj => by rw [← hX]; exact h.in_lt hj⟩
  have kB := Kp.alloc noB (w.alloc (.cells #[.int .u32 0, .int .u32 0, .int .i64 0, .int .i64 0] 86)) (.cells #[.int .u32 (c.seg 1).b, .int .u32 (c.seg 1).l, .int .i64 (c.seg 1).t, .bool (c.seg 1).s, .int .i64 (c.seg 1).d, .bool (c.seg 1).p, .bool (c.seg 1).g] 31)
  have rX : RowS ((w.alloc (.cells #[.int .u32 0, .int .u32 0, .int .i64 0, .int .i64 0] 86)).alloc (.cells #[.int .u32 (c.seg 1).b, .int .u32 (c.seg 1).l, .int .i64 (c.seg 1).t, .bool (c.seg 1).s, .int .i64 (c.seg 1).d, .bool (c.seg 1).p, .bool (c.seg 1).g] 31)) X 0 0 0 0 := by
    rw [← hX]
    exact RowS.kp (h := 0) (n := 0) (MapKept.heap_alloc w _).1 kB (fun f => f)
  have rY : ((w.alloc (.cells #[.int .u32 0, .int .u32 0, .int .i64 0, .int .i64 0] 86)).alloc (.cells #[.int .u32 (c.seg 1).b, .int .u32 (c.seg 1).l, .int .i64 (c.seg 1).t, .bool (c.seg 1).s, .int .i64 (c.seg 1).d, .bool (c.seg 1).p, .bool (c.seg 1).g] 31)).heap[X + 1]? = some (.cells #[.int .u32 (c.seg 1).b, .int .u32 (c.seg 1).l, .int .i64 (c.seg 1).t, .bool (c.seg 1).s, .int .i64 (c.seg 1).d, .bool (c.seg 1).p, .bool (c.seg 1).g] 31 (0, 0)) := by
    have := (MapKept.heap_alloc (w.alloc (.cells #[.int .u32 0, .int .u32 0, .int .i64 0, .int .i64 0] 86)) (.cells #[.int .u32 (c.seg 1).b, .int .u32 (c.seg 1).l, .int .i64 (c.seg 1).t, .bool (c.seg 1).s, .int .i64 (c.seg 1).d, .bool (c.seg 1).p, .bool (c.seg 1).g] 31)).1
    simp only [World.size_alloc, hX] at this
    exact this
  go_enter Try.func43, Try.ntmps43
  go_upto_region 5 with (first | (go_at_call 50; refine cN.mono ?_; rintro e w' ⟨rfl, hw⟩; replace hw := hw.symm; subst hw))
  obtain ⟨w3, hw3⟩ : ∃ W, W = ((w.alloc (.cells #[.int .u32 0, .int .u32 0, .int .i64 0, .int .i64 0] 86)).alloc (.cells #[.int .u32 (c.seg 1).b, .int .u32 (c.seg 1).l, .int .i64 (c.seg 1).t, .bool (c.seg 1).s, .int .i64 (c.seg 1).d, .bool (c.seg 1).p, .bool (c.seg 1).g] 31)) := ⟨_, rfl⟩
  rw [← hw3] at kB rX rY ⊢
  have y2 : w3.cell? ⟨X + 1, 0, none⟩ = some (.int .u32 (c.seg 1).b) := by rw [cell_at rY]; rfl
  have k4 := kA.trans kB
  replace h := h.kp0 k4
  replace hc := hc.kp0 k4
  have HXw : Hid (w.heap.size = X) := hX
  have HLT : Hid (V < X ∧ ∀ j, modVm K B M.n j → j < X) := HLT0
  clear hw3 rY kB kA a2 a3 a4 a5 a6 a7 a8 s so cN h0 HLT0 hX hd
  have hl0 : 0 ≤ linB (c.seg 1).b off ∧ linB (c.seg 1).b off < 4294967296 := by unfold linB; omega
  have HP : Hid (∀ W, Kp noB w3.drew W → Calls Try.prog 56 #[.pointer (some ⟨C, 0, none⟩), .bool false] W fun e w' => e = .returned (.agg #[.bool false, .bool c.us, .bool c.wp]) ∧ Kp noB w3.drew w') := fun W k => (program_way W C c false ((hc.kp0 (Kp.refl noB w3).drew).kp0 k)).mono (fun e w' ⟨h1, h2⟩ => ⟨h1, k.trans h2⟩)
  have HF : Hid (∀ W, Kp noB w3.drew W → Calls Try.prog 55 #[.pointer (some ⟨V, 0, none⟩), .pointer (some ⟨C, 0, none⟩), .int .u32 (((c.seg 1).b + off) % 4294967296), .int .i64 1, .agg #[.bool false, .bool c.us, .bool c.wp]] W (fun e w' => e = QE (findQ M c.pg c.cr3 (linB (c.seg 1).b off) 1 false c.us c.wp) ∧ VmP W V K B pl tn (findQ M c.pg c.cr3 (linB (c.seg 1).b off) 1 false c.us c.wp).m 2 w')) := fun W k => vfind_any W V K B pl tn C M ((h.kp0 (Kp.refl noB w3).drew).kp0 k) c ((hc.kp0 (Kp.refl noB w3).drew).kp0 k) hC _ 1 false c.us c.wp hl0.1 hl0.2 (by omega) (by omega) htn
  have e1 : QE (findQ M c.pg c.cr3 (linB (c.seg 1).b off) 1 false c.us c.wp) = .panicked (pan f) := by unfold QE; rw [hq]
  rw [e1] at HF
  obtain ⟨q, hqe⟩ : ∃ q, (findQ M c.pg c.cr3 (linB (c.seg 1).b off) 1 false c.us c.wp) = q := ⟨_, rfl⟩
  rw [hqe] at HF
  have HQ : Hid _ := hqe
  clear hqe e1 hq
  refine OrdP.region_vals (τ := Unit) (fun ch w' => ch = pan f ∧ VmP w3.drew V K B pl tn q.m 2 w') (fun _ => [.pointer (some ⟨V, 0, none⟩), .pointer (some ⟨C, 0, none⟩), .pointer (some ⟨X + 1, 0, none⟩), .int .u32 (c.seg 1).b, .int .u32 off, .int .u32 (((c.seg 1).b + off) % 4294967296), .pointer (some ⟨C, 0, none⟩), .agg #[.bool false, .bool c.us, .bool c.wp], undef, undef]) (fun _ listed W' => Kp noB w3.drew W' ∧ listed.getD 8 false = false) () ?_ (by kernel_rfl) (by kernel_rfl) (by kernel_rfl) (by kernel_rfl) (fun _ => rfl) (fun t => by simp only [OrdG.puts, Act.put, List.setIfInBounds_toArray, List.set_cons_zero, List.set_cons_succ]; rfl) (fun _ => by kernel_rfl) ⟨Kp.refl _ _, rfl⟩ ?_ ?_
  · rintro ch a' w' hd ⟨rfl, ⟨tn', ht, v⟩, k⟩
    refine ⟨hd, rfl, ?_⟩
    rw [HQ.out]
    exact ⟨⟨tn', ht, v⟩, (k4.mono (fun _ _ f => f.elim)).trans ⟨k.os, k.tape, k.output, k.size, k.block⟩⟩
  · refine ⟨?_, ?_, ?_, ?_, ?_, ?_, ?_, ?_, ?_, ?_, trivial⟩
    all_goals (intro t listed W' hz hSh hl hI hb K hK hK0; obtain ⟨kI, h7⟩ := hI; have y3 := cell_kp (w := w3.drew) y2 kI (fun f => f))
    case refine_8 =>
      go_simp
      refine Calls.mono (HP.out _ kI) ?_
      rintro e w4 ⟨rfl, r⟩
      exact hK0 _ ⟨r, OrdP.keep h7 (by decide)⟩
    case refine_9 =>
      go_simp
      refine Calls.mono (HF.out _ kI) ?_
      rintro e w4 ⟨rfl, ⟨tn', ht, v⟩, k⟩
      exact ⟨rfl, ⟨tn', ht, v⟩, (kI.mono (fun _ _ f => f.elim)).trans k⟩
    case refine_10 => exact absurd (OrdG.on_of (i := 8) hb (by kernel_rfl)) (by rw [h7]; decide)
    all_goals (go_simp; exact hK0 _ ⟨kI, OrdP.keep h7 (by decide)⟩)
  · rintro t listed w' hal ⟨_, h7⟩
    have := hal 8 (by decide)
    rw [h7] at this
    cases this

/-- Its pages are found. -/
theorem ofCod_find (w : World) (V K B pl tn C : Nat) (M : Mem) (h : VmAt w V K B pl tn M) (c : Cp) (hc : CpAt w C c) (off : Int) (o0 : 0 ≤ off) (o1 : off < 4294967296) (hC : ¬ modVm K B M.n C) (htn : tn < 18446744073709551613) (hr : off ≤ (c.seg 1).l) (hq : (findQ M c.pg c.cr3 (linB (c.seg 1).b off) 1 false c.us c.wp).f = none) :
    Calls Try.prog 43 #[.pointer (some ⟨V, 0, none⟩), .pointer (some ⟨C, 0, none⟩), .int .u32 off] w (fun e w' => e = .returned (findQ M c.pg c.cr3 (linB (c.seg 1).b off) 1 false c.us c.wp).s.val ∧ VmP w V K B pl tn (findQ M c.pg c.cr3 (linB (c.seg 1).b off) 1 false c.us c.wp).m 2 w') := by
  have kA := Kp.alloc noB w (.cells #[.int .u32 0, .int .u32 0, .int .i64 0, .int .i64 0] 86)
  have h0 := (h.kp0 kA).c0
  have cN := need_ok _ V B C h0
  have s := (hc.kp0 kA).sg 1 (by decide)
  have so := hc.ok.sg 1 (by decide)
  have t0 := so.t0; have t1 := so.t1; have l0 := so.l0; have l1 := so.l1; have b0 := so.b0; have b1 := so.b1
  have a2 := s.a2; have a3 := s.a3; have a4 := s.a4; have a5 := s.a5; have a6 := s.a6; have a7 := s.a7; have a8 := s.a8
  have hd : ¬ (c.seg 1).l < off := by omega
  clear hr
  obtain ⟨X, hX⟩ : ∃ X, w.heap.size = X := ⟨_, rfl⟩
  have HLT0 : V < X ∧ ∀ j, modVm K B M.n j → j < X := ⟨by rw [← hX]; exact h.lt, fun j hj => by rw [← hX]; exact h.in_lt hj⟩
  have kB := Kp.alloc noB (w.alloc (.cells #[.int .u32 0, .int .u32 0, .int .i64 0, .int .i64 0] 86)) (.cells #[.int .u32 (c.seg 1).b, .int .u32 (c.seg 1).l, .int .i64 (c.seg 1).t, .bool (c.seg 1).s, .int .i64 (c.seg 1).d, .bool (c.seg 1).p, .bool (c.seg 1).g] 31)
  have rX : RowS ((w.alloc (.cells #[.int .u32 0, .int .u32 0, .int .i64 0, .int .i64 0] 86)).alloc (.cells #[.int .u32 (c.seg 1).b, .int .u32 (c.seg 1).l, .int .i64 (c.seg 1).t, .bool (c.seg 1).s, .int .i64 (c.seg 1).d, .bool (c.seg 1).p, .bool (c.seg 1).g] 31)) X 0 0 0 0 := by
    rw [← hX]
    exact RowS.kp (h := 0) (n := 0) (MapKept.heap_alloc w _).1 kB (fun f => f)
  have rY : ((w.alloc (.cells #[.int .u32 0, .int .u32 0, .int .i64 0, .int .i64 0] 86)).alloc (.cells #[.int .u32 (c.seg 1).b, .int .u32 (c.seg 1).l, .int .i64 (c.seg 1).t, .bool (c.seg 1).s, .int .i64 (c.seg 1).d, .bool (c.seg 1).p, .bool (c.seg 1).g] 31)).heap[X + 1]? = some (.cells #[.int .u32 (c.seg 1).b, .int .u32 (c.seg 1).l, .int .i64 (c.seg 1).t, .bool (c.seg 1).s, .int .i64 (c.seg 1).d, .bool (c.seg 1).p, .bool (c.seg 1).g] 31 (0, 0)) := by
    have := (MapKept.heap_alloc (w.alloc (.cells #[.int .u32 0, .int .u32 0, .int .i64 0, .int .i64 0] 86)) (.cells #[.int .u32 (c.seg 1).b, .int .u32 (c.seg 1).l, .int .i64 (c.seg 1).t, .bool (c.seg 1).s, .int .i64 (c.seg 1).d, .bool (c.seg 1).p, .bool (c.seg 1).g] 31)).1
    simp only [World.size_alloc, hX] at this
    exact this
  go_enter Try.func43, Try.ntmps43
  go_upto_region 5 with (first | (go_at_call 50; refine cN.mono ?_; rintro e w' ⟨rfl, hw⟩; replace hw := hw.symm; subst hw))
  obtain ⟨w3, hw3⟩ : ∃ W, W = ((w.alloc (.cells #[.int .u32 0, .int .u32 0, .int .i64 0, .int .i64 0] 86)).alloc (.cells #[.int .u32 (c.seg 1).b, .int .u32 (c.seg 1).l, .int .i64 (c.seg 1).t, .bool (c.seg 1).s, .int .i64 (c.seg 1).d, .bool (c.seg 1).p, .bool (c.seg 1).g] 31)) := ⟨_, rfl⟩
  rw [← hw3] at kB rX rY ⊢
  have y2 : w3.cell? ⟨X + 1, 0, none⟩ = some (.int .u32 (c.seg 1).b) := by rw [cell_at rY]; rfl
  have k4 := kA.trans kB
  replace h := h.kp0 k4
  replace hc := hc.kp0 k4
  have HXw : Hid (w.heap.size = X) := hX
  have HLT : Hid (V < X ∧ ∀ j, modVm K B M.n j → j < X) := HLT0
  clear hw3 rY kB kA a2 a3 a4 a5 a6 a7 a8 s so cN h0 HLT0 hX hd
  have hl0 : 0 ≤ linB (c.seg 1).b off ∧ linB (c.seg 1).b off < 4294967296 := by unfold linB; omega
  have HP : Hid (∀ W, Kp noB w3.drew W → Calls Try.prog 56 #[.pointer (some ⟨C, 0, none⟩), .bool false] W fun e w' => e = .returned (.agg #[.bool false, .bool c.us, .bool c.wp]) ∧ Kp noB w3.drew w') := fun W k => (program_way W C c false ((hc.kp0 (Kp.refl noB w3).drew).kp0 k)).mono (fun e w' ⟨h1, h2⟩ => ⟨h1, k.trans h2⟩)
  have HF : Hid (∀ W, Kp noB w3.drew W → Calls Try.prog 55 #[.pointer (some ⟨V, 0, none⟩), .pointer (some ⟨C, 0, none⟩), .int .u32 (((c.seg 1).b + off) % 4294967296), .int .i64 1, .agg #[.bool false, .bool c.us, .bool c.wp]] W (fun e w' => e = QE (findQ M c.pg c.cr3 (linB (c.seg 1).b off) 1 false c.us c.wp) ∧ VmP W V K B pl tn (findQ M c.pg c.cr3 (linB (c.seg 1).b off) 1 false c.us c.wp).m 2 w')) := fun W k => vfind_any W V K B pl tn C M ((h.kp0 (Kp.refl noB w3).drew).kp0 k) c ((hc.kp0 (Kp.refl noB w3).drew).kp0 k) hC _ 1 false c.us c.wp hl0.1 hl0.2 (by omega) (by omega) htn
  have e1 : QE (findQ M c.pg c.cr3 (linB (c.seg 1).b off) 1 false c.us c.wp) = .returned (findQ M c.pg c.cr3 (linB (c.seg 1).b off) 1 false c.us c.wp).s.val := by unfold QE; rw [hq]
  rw [e1] at HF
  have qn := findQ_n M c.pg c.cr3 (linB (c.seg 1).b off) 1 false c.us c.wp
  obtain ⟨q, hqe⟩ : ∃ q, (findQ M c.pg c.cr3 (linB (c.seg 1).b off) 1 false c.us c.wp) = q := ⟨_, rfl⟩
  rw [hqe] at HF qn
  have HQ : Hid _ := hqe
  clear hqe e1 hq
  obtain ⟨qf, qm, sa, sb, sh, sn⟩ := q
  unfold Sp.val at HF
  simp only at HF qn
  have nX : ¬ modVm K B qm.n X := fun f => by rw [qn] at f; have := HLT.out.2 _ f; omega
  have nY : ¬ modVm K B qm.n (X + 1) := fun f => by rw [qn] at f; have := HLT.out.2 _ f; omega
  have HS0 : Hid (w3.drew.cell? ⟨X + 1, 0, none⟩ = some (.int .u32 (c.seg 1).b)) := y2
  have HK0 : Hid (Kp noB w3.drew w3.drew) := Kp.refl _ _
  have HSK : Hid (∀ W, Kp noB w3.drew W → W.cell? ⟨X + 1, 0, none⟩ = some (.int .u32 (c.seg 1).b)) := fun W k => cell_kp (w := w3.drew) y2 k (fun f => f)
  have HSV : Hid (∀ W W', Kp noB w3.drew W → VmP W V K B pl tn qm 2 W' → W'.cell? ⟨X + 1, 0, none⟩ = some (.int .u32 (c.seg 1).b)) := fun W W' k v => cell_kp (HSK.out _ k) v.2 nY
  have HSF : Hid (∀ (W : World) (a b c' d : Value), W.cell? ⟨X + 1, 0, none⟩ = some (.int .u32 (c.seg 1).b) → ((((W.setCell ⟨X, 0, none⟩ a).setCell ⟨X, 1, none⟩ b).setCell ⟨X, 2, none⟩ c').setCell ⟨X, 3, none⟩ d).cell? ⟨X + 1, 0, none⟩ = some (.int .u32 (c.seg 1).b)) := fun W a b c' d h => cell_kp h (kp_four W X a b c' d) (by omega)
  have HRX : Hid (∀ W W', Kp noB w3.drew W → VmP W V K B pl tn qm 2 W' → RowS W' X 0 0 0 0) := fun W W' k v => by
    have r : RowS w3.drew X 0 0 0 0 := rX
    exact (r.kp k (fun f => f)).kp v.2 nX
  go_region_held3 (fun W => W.cell? ⟨X + 1, 0, none⟩ = some (.int .u32 (c.seg 1).b))
    (first | with_reducible exact HS0.out | with_reducible exact HSK.out _ k5 | with_reducible exact HSV.out _ _ k5 v6 | with_reducible exact HSF.out _ _ _ _ _ (HSV.out _ _ k5 v6))
    (first | (go_at_call 56; refine Calls.mono (HP.out _ HK0.out) ?_; rintro e w5 ⟨rfl, k5⟩) | (go_at_call 55; refine Calls.mono (HF.out _ k5) ?_; rintro e w6 ⟨rfl, v6⟩; have rz := HRX.out _ _ k5 v6; obtain ⟨z0, z1, z2, z3, u0, u1, u2, u3⟩ : _ ∧ _ ∧ _ ∧ _ ∧ _ ∧ _ ∧ _ ∧ _ := ⟨rz.c0, rz.c1, rz.c2, rz.c3, rz.fz 0, rz.fz 1, rz.fz 2, rz.fz 3⟩))
  have rF := rz.four sa sb sh sn
  have kF := kp_four w6 X (.int .u32 sa) (.int .u32 sb) (.int .i64 sh) (.int .i64 sn)
  obtain ⟨⟨tn6, ht6, at6⟩, k6⟩ := v6
  have vF := at6.kp kF (fun j hj e => by
    subst e
    rcases hj with e | e
    · have := HLT.out.1; omega
    · exact nX e)
  have k7 : Kp (modVm K B qm.n) w _ := ((k4.mono (fun _ _ f => f.elim)).trans ((k5.undrew.mono (fun _ _ f => f.elim)).trans k6)).over kF (fun j hj e => absurd hj (by have := HXw.out; omega))
  clear HSV HSF HSK HRX HF HP rz at6 k6 k5 z0 z1 z2 z3 u0 u1 u2 u3 kF HS0
  go_wp2
  refine bodyPost_ret (v := .agg #[.int .u32 sa, .int .u32 sb, .int .i64 sh, .int .i64 sn]) (by simp [results, Try.results43, go_sem, rF.c0, rF.c1, rF.c2, rF.c3]) rfl ⟨by rw [HQ.out]; rfl, ?_⟩
  rw [HQ.out]
  exact ⟨⟨tn6, ht6, vF⟩, k7⟩


theorem ofCod_any (w : World) (V K B pl tn C : Nat) (M : Mem) (h : VmAt w V K B pl tn M) (c : Cp) (hc : CpAt w C c) (hC : ¬ modVm K B M.n C) (off : Int) (o0 : 0 ≤ off) (o1 : off < 4294967296) (htn : tn < 18446744073709551613) :
    Calls Try.prog 43 #[.pointer (some ⟨V, 0, none⟩), .pointer (some ⟨C, 0, none⟩), .int .u32 off] w (fun e w' => e = QE (codQ M c off) ∧ VmP w V K B pl tn (codQ M c off).m 2 w') := by
  unfold codQ
  by_cases hl : (c.seg 1).l < off
  · rw [if_pos hl]
    refine (ofCod_no w V K B pl tn C M h c hc off hl).mono ?_
    rintro e w' ⟨rfl, q⟩
    exact ⟨rfl, h.stay q 2⟩
  · rw [if_neg hl]
    cases hq : (findQ M c.pg c.cr3 (linB (c.seg 1).b off) 1 false c.us c.wp).f with
    | none =>
      refine (ofCod_find w V K B pl tn C M h c hc off o0 o1 hC htn (by omega) hq).mono ?_
      rintro e w' ⟨rfl, q⟩
      exact ⟨by unfold QE; rw [hq], q⟩
    | some f =>
      refine (ofCod_pf w V K B pl tn C M h c hc off o0 o1 hC htn (by omega) f hq).mono ?_
      rintro e w' ⟨rfl, q⟩
      exact ⟨by unfold QE; rw [hq], q⟩
end Go.Proofs.Ytmmnnafjikilpaa
