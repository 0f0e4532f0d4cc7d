/- Where a value of a segment lies. -/
import Derived.Test.YtmmnnafjikilpaaVmFind
namespace Go.Proofs.Ytmmnnafjikilpaa
open Go.ChangeShapes Go.WideShapes Go.ChangeAt Go.RowKit Go.Maps
set_option linter.unusedVariables false
set_option maxRecDepth 20000

theorem inSeg_size (w : World) (V K B pl tn C : Nat) (M : Mem) (h : VmAt w V K B pl tn M) (k off z : Int) (wr : Bool) (hk : okS z = false ∨ k < 0 ∨ 6 ≤ k) :
    Calls Try.prog 33 #[.pointer (some ⟨V, 0, none⟩), .pointer (some ⟨C, 0, none⟩), .int .i64 k, .int .u32 off, .int .i64 z, .bool wr] w (fun e w' => e = .panicked (pan (ftV 13)) ∧ Kp noB w w') := by
  unfold pan ftV Ft.val
  have kA := Kp.alloc noB w (.cells #[.int .u32 0, .int .u32 0, .int .i64 0, .int .i64 0] 86)
  have h0 := (h.kp0 kA).c0
  have cN := need_ok _ V B C h0
  cases hz : okS z
  · have cS := vIsSize_any (w.alloc (.cells #[.int .u32 0, .int .u32 0, .int .i64 0, .int .i64 0] 86)) z
    rw [hz] at cS
    clear hz hk
    go_enter Try.func33, Try.ntmps33
    go_wp2_with (first | (go_at_call 50; refine cN.mono ?_; rintro e w' ⟨rfl, hw⟩; replace hw := hw.symm; subst hw) | (go_at_call 51; refine cS.mono ?_; rintro e w' ⟨rfl, hw⟩; replace hw := hw.symm; subst hw) | (go_at_call 52; refine (refused_any _ _).mono ?_; rintro e w2 ⟨rfl, k2⟩))
    exact ⟨rfl, rfl, kA.trans k2⟩
  · rw [hz] at hk
    have cS := vIsSize_any (w.alloc (.cells #[.int .u32 0, .int .u32 0, .int .i64 0, .int .i64 0] 86)) z
    rw [hz] at cS
    clear hz
    by_cases h0 : k < 0
    · clear hk
      have hd : decide (k < 0) = true := decide_eq_true h0
      go_enter Try.func33, Try.ntmps33
      go_wp2_with (first | (go_at_call 50; refine cN.mono ?_; rintro e w' ⟨rfl, hw⟩; replace hw := hw.symm; subst hw) | (go_at_call 51; refine cS.mono ?_; rintro e w' ⟨rfl, hw⟩; replace hw := hw.symm; subst hw) | (go_at_call 52; refine (refused_any _ _).mono ?_; rintro e w2 ⟨rfl, k2⟩))
      exact ⟨rfl, rfl, kA.trans k2⟩
    · have h6 : 6 ≤ k := by rcases hk with f | f | f <;> first | cases f | omega
      clear hk
      have hd : decide (k < 0) = false := decide_eq_false h0
      have hd6 : decide (6 ≤ k) = true := decide_eq_true h6
      go_enter Try.func33, Try.ntmps33
      go_wp2_with (first | (go_at_call 50; refine cN.mono ?_; rintro e w' ⟨rfl, hw⟩; replace hw := hw.symm; subst hw) | (go_at_call 51; refine cS.mono ?_; rintro e w' ⟨rfl, hw⟩; replace hw := hw.symm; subst hw) | (go_at_call 52; refine (refused_any _ _).mono ?_; rintro e w2 ⟨rfl, k2⟩))
      exact ⟨rfl, rfl, kA.trans k2⟩

theorem Kp.undrew {S : Nat → Prop} {w w' : World} (k : Kp S w.drew w') : Kp S w w' := ⟨k.os, k.tape, k.output, k.size, k.block⟩
theorem kp_grown {w w' : World} (g : Sg.Grown w w') : Kp noB w w' := ⟨g.1.1, g.2.2.2, g.1.2.1, g.2.2.1, fun k hk _ => Grown.block g.to hk⟩

/-- The segment is null. -/
theorem inSeg_null (w : World) (V K B pl tn C : Nat) (M : Mem) (h : VmAt w V K B pl tn M) (c : Cp) (hc : CpAt w C c) (i : Nat) (hi : i < 6) (off : Int) (n : Nat) (wr : Bool) (o0 : 0 ≤ off) (o1 : off < 4294967296) (hn : n = 1 ∨ n = 2 ∨ n = 4) (hl : (c.seg i).nl = true) :
    Calls Try.prog 33 #[.pointer (some ⟨V, 0, none⟩), .pointer (some ⟨C, 0, none⟩), .int .i64 i, .int .u32 off, .int .i64 n, .bool wr] w (fun e w' => e = .panicked (pan (ftV (vecB i))) ∧ Kp noB w w') := by
  unfold pan ftV Ft.val
  have kA := Kp.alloc noB w (.cells #[.int .u32 0, .int .u32 0, .int .i64 0, .int .i64 0] 86)
  have h0 := (h.kp0 kA).c0
  have cN := need_ok _ V B C h0
  have cS := vIsSize_any (w.alloc (.cells #[.int .u32 0, .int .u32 0, .int .i64 0, .int .i64 0] 86)) n
  have hz : okS n = true := by unfold okS; exact decide_eq_true (by omega)
  rw [hz] at cS
  have s := (hc.kp0 kA).sg i hi
  have so := hc.ok.sg i hi
  have t0 := so.t0; have t1 := so.t1; have l0 := so.l0; have l1 := so.l1; have b0 := so.b0; have b1 := so.b1
  have a0 := s.a0; have a1 := s.a1; have a2 := s.a2; have a3 := s.a3; have a4 := s.a4; have a5 := s.a5; have a6 := s.a6; have a7 := s.a7; have a8 := s.a8
  have hd : decide (i < 0) = false := rfl
  have hd6 : decide (6 ≤ i) = false := decide_eq_false (by omega)
  have hi' : (0 : Int) ≤ i ∧ (i : Int) < 6 := by omega
  rw [hl] at a1
  go_enter Try.func33, Try.ntmps33
  go_wp2_with (first | (go_at_call 50; refine cN.mono ?_; rintro e w' ⟨rfl, hw⟩; replace hw := hw.symm; subst hw) | (go_at_call 51; refine cS.mono ?_; rintro e w' ⟨rfl, hw⟩; replace hw := hw.symm; subst hw) | (go_at_call 54; refine (vectorOf_any _ _).mono ?_; rintro e w' ⟨rfl, hw⟩; replace hw := hw.symm; subst hw) | (go_at_call 52; refine (refused_any _ _).mono ?_; rintro e w2 ⟨rfl, k2⟩))
  exact ⟨rfl, rfl, (kA.trans (Kp.alloc noB _ _)).trans k2⟩

/-- It does not let it. -/
theorem inSeg_lets (w : World) (V K B pl tn C : Nat) (M : Mem) (h : VmAt w V K B pl tn M) (c : Cp) (hc : CpAt w C c) (i : Nat) (hi : i < 6) (off : Int) (n : Nat) (wr : Bool) (o0 : 0 ≤ off) (o1 : off < 4294967296) (hn : n = 1 ∨ n = 2 ∨ n = 4) (hl : (c.seg i).nl = false) (hr : Sg.reachB (c.seg i).l (c.seg i).t (c.seg i).s (c.seg i).p (c.seg i).g off n wr = false) :
    Calls Try.prog 33 #[.pointer (some ⟨V, 0, none⟩), .pointer (some ⟨C, 0, none⟩), .int .i64 i, .int .u32 off, .int .i64 n, .bool wr] w (fun e w' => e = .panicked (pan (ftV (vecB i))) ∧ Kp noB w w') := by
  unfold pan ftV Ft.val
  have kA := Kp.alloc noB w (.cells #[.int .u32 0, .int .u32 0, .int .i64 0, .int .i64 0] 86)
  have h0 := (h.kp0 kA).c0
  have cN := need_ok _ V B C h0
  have cS := vIsSize_any (w.alloc (.cells #[.int .u32 0, .int .u32 0, .int .i64 0, .int .i64 0] 86)) n
  have hz : okS n = true := by unfold okS; exact decide_eq_true (by omega)
  rw [hz] at cS
  have s := (hc.kp0 kA).sg i hi
  have so := hc.ok.sg i hi
  have t0 := so.t0; have t1 := so.t1; have l0 := so.l0; have l1 := so.l1; have b0 := so.b0; have b1 := so.b1
  have a0 := s.a0; have a1 := s.a1; have a2 := s.a2; have a3 := s.a3; have a4 := s.a4; have a5 := s.a5; have a6 := s.a6; have a7 := s.a7; have a8 := s.a8
  have hd : decide (i < 0) = false := rfl
  have hd6 : decide (6 ≤ i) = false := decide_eq_false (by omega)
  have hi' : (0 : Int) ≤ i ∧ (i : Int) < 6 := by omega
  rw [hl] at a1
  have cR := Sg.reach_any (c.seg i).b (c.seg i).l (c.seg i).t (c.seg i).s (c.seg i).d (c.seg i).p (c.seg i).g off n wr ((w.alloc (.cells #[.int .u32 0, .int .u32 0, .int .i64 0, .int .i64 0] 86)).alloc (.cells #[.int .u16 (c.seg i).sel, .bool false, .int .u32 (c.seg i).b, .int .u32 (c.seg i).l, .int .i64 (c.seg i).t, .bool (c.seg i).s, .int .i64 (c.seg i).d, .bool (c.seg i).p, .bool (c.seg i).g] 33)) t0 t1 o0 o1 l0 l1
  rw [hr] at cR
  clear hr
  go_enter Try.func33, Try.ntmps33
  go_wp2_with (first | (go_at_call 50; refine cN.mono ?_; rintro e w' ⟨rfl, hw⟩; replace hw := hw.symm; subst hw) | (go_at_call 51; refine cS.mono ?_; rintro e w' ⟨rfl, hw⟩; replace hw := hw.symm; subst hw) | (go_at_call 53; refine cR.mono ?_; rintro e w3 ⟨rfl, k3⟩) | (go_at_call 54; refine (vectorOf_any _ _).mono ?_; rintro e w' ⟨rfl, hw⟩; replace hw := hw.symm; subst hw) | (go_at_call 52; refine (refused_any _ _).mono ?_; rintro e w2 ⟨rfl, k2⟩))
  exact ⟨rfl, rfl, ((kA.trans (Kp.alloc noB _ _)).trans (kp_grown k3)).trans k2⟩

theorem findQ_n (M : Mem) (pg : Bool) (c l : Int) (n : Nat) (wr us wp : Bool) : (findQ M pg c l n wr us wp).m.n = M.n := by
  unfold findQ
  split
  · rfl
  split
  · rfl
  split
  · exact (fMem_same M c l wr us wp).1
  split
  · exact (fMem_same M c l wr us wp).1
  · exact (fMem_same _ _ _ _ _ _).1.trans (fMem_same M c l wr us wp).1

/-- Its pages have a fault. -/
theorem inSeg_pf (w : World) (V K B pl tn C : Nat) (M : Mem) (h : VmAt w V K B pl tn M) (c : Cp) (hc : CpAt w C c) (i : Nat) (hi : i < 6) (off : Int) (n : Nat) (wr : Bool) (o0 : 0 ≤ off) (o1 : off < 4294967296) (hn : n = 1 ∨ n = 2 ∨ n = 4) (hC : ¬ modVm K B M.n C) (htn : tn < 18446744073709551613) (hl : (c.seg i).nl = false) (hr : Sg.reachB (c.seg i).l (c.seg i).t (c.seg i).s (c.seg i).p (c.seg i).g off n wr = true) (f : Ft) (hq : (findQ M c.pg c.cr3 (linB (c.seg i).b off) n wr c.us c.wp).f = some f) :
    Calls Try.prog 33 #[.pointer (some ⟨V, 0, none⟩), .pointer (some ⟨C, 0, none⟩), .int .i64 i, .int .u32 off, .int .i64 n, .bool wr] w (fun e w' => e = .panicked (pan f) ∧ VmP w V K B pl tn (findQ M c.pg c.cr3 (linB (c.seg i).b off) n wr c.us c.wp).m 2 w') := by
  have kA := Kp.alloc noB w (.cells #[.int .u32 0, .int .u32 0, .int .i64 0, .int .i64 0] 86)
  have h0 := (h.kp0 kA).c0
  have cN := need_ok _ V B C h0
  have cS := vIsSize_any (w.alloc (.cells #[.int .u32 0, .int .u32 0, .int .i64 0, .int .i64 0] 86)) n
  have hz : okS n = true := by unfold okS; exact decide_eq_true (by omega)
  rw [hz] at cS
  have s := (hc.kp0 kA).sg i hi
  have so := hc.ok.sg i hi
  have t0 := so.t0; have t1 := so.t1; have l0 := so.l0; have l1 := so.l1; have b0 := so.b0; have b1 := so.b1
  have a0 := s.a0; have a1 := s.a1; have a2 := s.a2; have a3 := s.a3; have a4 := s.a4; have a5 := s.a5; have a6 := s.a6; have a7 := s.a7; have a8 := s.a8
  have hd : decide (i < 0) = false := rfl
  have hd6 : decide (6 ≤ i) = false := decide_eq_false (by omega)
  have hi' : (0 : Int) ≤ i ∧ (i : Int) < 6 := by omega
  rw [hl] at a1
  have cR := Sg.reach_any (c.seg i).b (c.seg i).l (c.seg i).t (c.seg i).s (c.seg i).d (c.seg i).p (c.seg i).g off n wr ((w.alloc (.cells #[.int .u32 0, .int .u32 0, .int .i64 0, .int .i64 0] 86)).alloc (.cells #[.int .u16 (c.seg i).sel, .bool false, .int .u32 (c.seg i).b, .int .u32 (c.seg i).l, .int .i64 (c.seg i).t, .bool (c.seg i).s, .int .i64 (c.seg i).d, .bool (c.seg i).p, .bool (c.seg i).g] 33)) t0 t1 o0 o1 l0 l1
  rw [hr] at cR
  clear hr
  obtain ⟨X, hX⟩ : ∃ X, w.heap.size = X := ⟨_, rfl⟩
  have HLT0 : V < X ∧ ∀ j, modVm K B M.n j → j < X := ⟨by rw [← hX]; exact h.lt, fun j hj => by rw [← hX]; exact h.in_lt hj⟩
  have kB := Kp.alloc noB (w.alloc (.cells #[.int .u32 0, .int .u32 0, .int .i64 0, .int .i64 0] 86)) (.cells #[.int .u16 (c.seg i).sel, .bool false, .int .u32 (c.seg i).b, .int .u32 (c.seg i).l, .int .i64 (c.seg i).t, .bool (c.seg i).s, .int .i64 (c.seg i).d, .bool (c.seg i).p, .bool (c.seg i).g] 33)
  have rX : RowS ((w.alloc (.cells #[.int .u32 0, .int .u32 0, .int .i64 0, .int .i64 0] 86)).alloc (.cells #[.int .u16 (c.seg i).sel, .bool false, .int .u32 (c.seg i).b, .int .u32 (c.seg i).l, .int .i64 (c.seg i).t, .bool (c.seg i).s, .int .i64 (c.seg i).d, .bool (c.seg i).p, .bool (c.seg i).g] 33)) X 0 0 0 0 := by
    rw [← hX]
    exact RowS.kp (h := 0) (n := 0) (MapKept.heap_alloc w _).1 kB (fun f => f)
  have rY : ((w.alloc (.cells #[.int .u32 0, .int .u32 0, .int .i64 0, .int .i64 0] 86)).alloc (.cells #[.int .u16 (c.seg i).sel, .bool false, .int .u32 (c.seg i).b, .int .u32 (c.seg i).l, .int .i64 (c.seg i).t, .bool (c.seg i).s, .int .i64 (c.seg i).d, .bool (c.seg i).p, .bool (c.seg i).g] 33)).heap[X + 1]? = some (.cells #[.int .u16 (c.seg i).sel, .bool false, .int .u32 (c.seg i).b, .int .u32 (c.seg i).l, .int .i64 (c.seg i).t, .bool (c.seg i).s, .int .i64 (c.seg i).d, .bool (c.seg i).p, .bool (c.seg i).g] 33 (0, 0)) := by
    have := (MapKept.heap_alloc (w.alloc (.cells #[.int .u32 0, .int .u32 0, .int .i64 0, .int .i64 0] 86)) (.cells #[.int .u16 (c.seg i).sel, .bool false, .int .u32 (c.seg i).b, .int .u32 (c.seg i).l, .int .i64 (c.seg i).t, .bool (c.seg i).s, .int .i64 (c.seg i).d, .bool (c.seg i).p, .bool (c.seg i).g] 33)).1
    simp only [World.size_alloc, hX] at this
    exact this
  go_enter Try.func33, Try.ntmps33
  go_wp2_with (first | (go_at_call 50; refine cN.mono ?_; rintro e w' ⟨rfl, hw⟩; replace hw := hw.symm; subst hw) | (go_at_call 51; refine cS.mono ?_; rintro e w' ⟨rfl, hw⟩; replace hw := hw.symm; subst hw) | (go_at_call 53; refine cR.mono ?_; rintro e w3 ⟨rfl, k3⟩))
  replace k3 := kp_grown k3
  replace rX := rX.kp k3 (fun f => f)
  have y2 : w3.cell? ⟨X + 1, 2, none⟩ = some (.int .u32 (c.seg i).b) := by
    rw [World.cell?_of_block (k3.block (X + 1) (by simp [hX]) (fun f => f)), cell_at rY]; rfl
  have k4 := (kA.trans kB).trans k3
  replace h := h.kp0 k4
  replace hc := hc.kp0 k4
  have HXw : Hid (w.heap.size = X) := hX
  have HLT : Hid (V < X ∧ ∀ j, modVm K B M.n j → j < X) := HLT0
  clear cR rY kB kA k3 a0 a1 a2 a3 a4 a5 a6 a7 a8 s so cN cS h0 HLT0 hX
  have hl0 : 0 ≤ linB (c.seg i).b off ∧ linB (c.seg i).b off < 4294967296 := by unfold linB; omega
  have HP : Hid (∀ W, Kp noB w3.drew W → Calls Try.prog 56 #[.pointer (some ⟨C, 0, none⟩), .bool wr] W fun e w' => e = .returned (.agg #[.bool wr, .bool c.us, .bool c.wp]) ∧ Kp noB w3.drew w') := fun W k => (program_way W C c wr ((hc.kp0 (Kp.refl noB w3).drew).kp0 k)).mono (fun e w' ⟨h1, h2⟩ => ⟨h1, k.trans h2⟩)
  have HF : Hid (∀ W, Kp noB w3.drew W → Calls Try.prog 55 #[.pointer (some ⟨V, 0, none⟩), .pointer (some ⟨C, 0, none⟩), .int .u32 (((c.seg i).b + off) % 4294967296), .int .i64 n, .agg #[.bool wr, .bool c.us, .bool c.wp]] W (fun e w' => e = QE (findQ M c.pg c.cr3 (linB (c.seg i).b off) n wr c.us c.wp) ∧ VmP W V K B pl tn (findQ M c.pg c.cr3 (linB (c.seg i).b off) n wr c.us c.wp).m 2 w')) := fun W k => vfind_any W V K B pl tn C M ((h.kp0 (Kp.refl noB w3).drew).kp0 k) c ((hc.kp0 (Kp.refl noB w3).drew).kp0 k) hC _ n wr c.us c.wp hl0.1 hl0.2 (by omega) (by omega) htn
  have e1 : QE (findQ M c.pg c.cr3 (linB (c.seg i).b off) n wr c.us c.wp) = .panicked (pan f) := by unfold QE; rw [hq]
  rw [e1] at HF
  obtain ⟨q, hqe⟩ : ∃ q, (findQ M c.pg c.cr3 (linB (c.seg i).b off) n wr c.us c.wp) = q := ⟨_, rfl⟩
  rw [hqe] at HF
  have HQ : Hid _ := hqe
  clear hqe e1 hq
  refine OrdP.region_vals (τ := Unit) (fun ch w' => ch = pan f ∧ VmP w3.drew V K B pl tn q.m 2 w') (fun _ => [.pointer (some ⟨V, 0, none⟩), .pointer (some ⟨C, 0, none⟩), .pointer (some ⟨X + 1, 2, none⟩), .pointer (some ⟨X + 1, 2, none⟩), .int .u32 (c.seg i).b, .int .u32 off, .int .u32 (((c.seg i).b + off) % 4294967296), .int .i64 n, .pointer (some ⟨C, 0, none⟩), .bool wr, .agg #[.bool wr, .bool c.us, .bool c.wp], undef, undef]) (fun _ listed W' => Kp noB w3.drew W' ∧ listed.getD 11 false = false) () ?_ (by kernel_rfl) (by kernel_rfl) (by kernel_rfl) (by kernel_rfl) (fun _ => rfl) (fun t => by simp only [OrdG.puts, Act.put, List.setIfInBounds_toArray, List.set_cons_zero, List.set_cons_succ]; rfl) (fun _ => by kernel_rfl) ⟨Kp.refl _ _, rfl⟩ ?_ ?_
  · rintro ch a' w' hd ⟨rfl, ⟨tn', ht, v⟩, k⟩
    refine ⟨hd, rfl, ?_⟩
    rw [HQ.out]
    exact ⟨⟨tn', ht, v⟩, (k4.mono (fun _ _ f => f.elim)).trans ⟨k.os, k.tape, k.output, k.size, k.block⟩⟩
  · refine ⟨?_, ?_, ?_, ?_, ?_, ?_, ?_, ?_, ?_, ?_, ?_, ?_, ?_, trivial⟩
    all_goals (intro t listed W' hz hSh hl hI hb K hK hK0; obtain ⟨kI, h7⟩ := hI; have y3 := cell_kp (w := w3.drew) y2 kI (fun f => f))
    case refine_11 =>
      go_simp
      refine Calls.mono (HP.out _ kI) ?_
      rintro e w4 ⟨rfl, r⟩
      exact hK0 _ ⟨r, OrdP.keep h7 (by decide)⟩
    case refine_12 =>
      go_simp
      refine Calls.mono (HF.out _ kI) ?_
      rintro e w4 ⟨rfl, ⟨tn', ht, v⟩, k⟩
      exact ⟨rfl, ⟨tn', ht, v⟩, (kI.mono (fun _ _ f => f.elim)).trans k⟩
    case refine_13 => exact absurd (OrdG.on_of (i := 11) hb (by kernel_rfl)) (by rw [h7]; decide)
    all_goals (go_simp; exact hK0 _ ⟨kI, OrdP.keep h7 (by decide)⟩)
  · rintro t listed w' hal ⟨_, h7⟩
    have := hal 11 (by decide)
    rw [h7] at this
    cases this

/-- Its pages are found. -/
theorem inSeg_find (w : World) (V K B pl tn C : Nat) (M : Mem) (h : VmAt w V K B pl tn M) (c : Cp) (hc : CpAt w C c) (i : Nat) (hi : i < 6) (off : Int) (n : Nat) (wr : Bool) (o0 : 0 ≤ off) (o1 : off < 4294967296) (hn : n = 1 ∨ n = 2 ∨ n = 4) (hC : ¬ modVm K B M.n C) (htn : tn < 18446744073709551613) (hl : (c.seg i).nl = false) (hr : Sg.reachB (c.seg i).l (c.seg i).t (c.seg i).s (c.seg i).p (c.seg i).g off n wr = true) (hq : (findQ M c.pg c.cr3 (linB (c.seg i).b off) n wr c.us c.wp).f = none) :
    Calls Try.prog 33 #[.pointer (some ⟨V, 0, none⟩), .pointer (some ⟨C, 0, none⟩), .int .i64 i, .int .u32 off, .int .i64 n, .bool wr] w (fun e w' => e = .returned (findQ M c.pg c.cr3 (linB (c.seg i).b off) n wr c.us c.wp).s.val ∧ VmP w V K B pl tn (findQ M c.pg c.cr3 (linB (c.seg i).b off) n wr c.us c.wp).m 2 w') := by
  have kA := Kp.alloc noB w (.cells #[.int .u32 0, .int .u32 0, .int .i64 0, .int .i64 0] 86)
  have h0 := (h.kp0 kA).c0
  have cN := need_ok _ V B C h0
  have cS := vIsSize_any (w.alloc (.cells #[.int .u32 0, .int .u32 0, .int .i64 0, .int .i64 0] 86)) n
  have hz : okS n = true := by unfold okS; exact decide_eq_true (by omega)
  rw [hz] at cS
  have s := (hc.kp0 kA).sg i hi
  have so := hc.ok.sg i hi
  have t0 := so.t0; have t1 := so.t1; have l0 := so.l0; have l1 := so.l1; have b0 := so.b0; have b1 := so.b1
  have a0 := s.a0; have a1 := s.a1; have a2 := s.a2; have a3 := s.a3; have a4 := s.a4; have a5 := s.a5; have a6 := s.a6; have a7 := s.a7; have a8 := s.a8
  have hd : decide (i < 0) = false := rfl
  have hd6 : decide (6 ≤ i) = false := decide_eq_false (by omega)
  have hi' : (0 : Int) ≤ i ∧ (i : Int) < 6 := by omega
  rw [hl] at a1
  have cR := Sg.reach_any (c.seg i).b (c.seg i).l (c.seg i).t (c.seg i).s (c.seg i).d (c.seg i).p (c.seg i).g off n wr ((w.alloc (.cells #[.int .u32 0, .int .u32 0, .int .i64 0, .int .i64 0] 86)).alloc (.cells #[.int .u16 (c.seg i).sel, .bool false, .int .u32 (c.seg i).b, .int .u32 (c.seg i).l, .int .i64 (c.seg i).t, .bool (c.seg i).s, .int .i64 (c.seg i).d, .bool (c.seg i).p, .bool (c.seg i).g] 33)) t0 t1 o0 o1 l0 l1
  rw [hr] at cR
  clear hr
  obtain ⟨X, hX⟩ : ∃ X, w.heap.size = X := ⟨_, rfl⟩
  have HLT0 : V < X ∧ ∀ j, modVm K B M.n j → j < X := ⟨by rw [← hX]; exact h.lt, fun j hj => by rw [← hX]; exact h.in_lt hj⟩
  have kB := Kp.alloc noB (w.alloc (.cells #[.int .u32 0, .int .u32 0, .int .i64 0, .int .i64 0] 86)) (.cells #[.int .u16 (c.seg i).sel, .bool false, .int .u32 (c.seg i).b, .int .u32 (c.seg i).l, .int .i64 (c.seg i).t, .bool (c.seg i).s, .int .i64 (c.seg i).d, .bool (c.seg i).p, .bool (c.seg i).g] 33)
  have rX : RowS ((w.alloc (.cells #[.int .u32 0, .int .u32 0, .int .i64 0, .int .i64 0] 86)).alloc (.cells #[.int .u16 (c.seg i).sel, .bool false, .int .u32 (c.seg i).b, .int .u32 (c.seg i).l, .int .i64 (c.seg i).t, .bool (c.seg i).s, .int .i64 (c.seg i).d, .bool (c.seg i).p, .bool (c.seg i).g] 33)) X 0 0 0 0 := by
    rw [← hX]
    exact RowS.kp (h := 0) (n := 0) (MapKept.heap_alloc w _).1 kB (fun f => f)
  have rY : ((w.alloc (.cells #[.int .u32 0, .int .u32 0, .int .i64 0, .int .i64 0] 86)).alloc (.cells #[.int .u16 (c.seg i).sel, .bool false, .int .u32 (c.seg i).b, .int .u32 (c.seg i).l, .int .i64 (c.seg i).t, .bool (c.seg i).s, .int .i64 (c.seg i).d, .bool (c.seg i).p, .bool (c.seg i).g] 33)).heap[X + 1]? = some (.cells #[.int .u16 (c.seg i).sel, .bool false, .int .u32 (c.seg i).b, .int .u32 (c.seg i).l, .int .i64 (c.seg i).t, .bool (c.seg i).s, .int .i64 (c.seg i).d, .bool (c.seg i).p, .bool (c.seg i).g] 33 (0, 0)) := by
    have := (MapKept.heap_alloc (w.alloc (.cells #[.int .u32 0, .int .u32 0, .int .i64 0, .int .i64 0] 86)) (.cells #[.int .u16 (c.seg i).sel, .bool false, .int .u32 (c.seg i).b, .int .u32 (c.seg i).l, .int .i64 (c.seg i).t, .bool (c.seg i).s, .int .i64 (c.seg i).d, .bool (c.seg i).p, .bool (c.seg i).g] 33)).1
    simp only [World.size_alloc, hX] at this
    exact this
  go_enter Try.func33, Try.ntmps33
  go_wp2_with (first | (go_at_call 50; refine cN.mono ?_; rintro e w' ⟨rfl, hw⟩; replace hw := hw.symm; subst hw) | (go_at_call 51; refine cS.mono ?_; rintro e w' ⟨rfl, hw⟩; replace hw := hw.symm; subst hw) | (go_at_call 53; refine cR.mono ?_; rintro e w3 ⟨rfl, k3⟩))
  replace k3 := kp_grown k3
  replace rX := rX.kp k3 (fun f => f)
  have y2 : w3.cell? ⟨X + 1, 2, none⟩ = some (.int .u32 (c.seg i).b) := by
    rw [World.cell?_of_block (k3.block (X + 1) (by simp [hX]) (fun f => f)), cell_at rY]; rfl
  have k4 := (kA.trans kB).trans k3
  replace h := h.kp0 k4
  replace hc := hc.kp0 k4
  have HXw : Hid (w.heap.size = X) := hX
  have HLT : Hid (V < X ∧ ∀ j, modVm K B M.n j → j < X) := HLT0
  clear cR rY kB kA k3 a0 a1 a2 a3 a4 a5 a6 a7 a8 s so cN cS h0 HLT0 hX
  have hl0 : 0 ≤ linB (c.seg i).b off ∧ linB (c.seg i).b off < 4294967296 := by unfold linB; omega
  have HP : Hid (∀ W, Kp noB w3.drew W → Calls Try.prog 56 #[.pointer (some ⟨C, 0, none⟩), .bool wr] W fun e w' => e = .returned (.agg #[.bool wr, .bool c.us, .bool c.wp]) ∧ Kp noB w3.drew w') := fun W k => (program_way W C c wr ((hc.kp0 (Kp.refl noB w3).drew).kp0 k)).mono (fun e w' ⟨h1, h2⟩ => ⟨h1, k.trans h2⟩)
  have HF : Hid (∀ W, Kp noB w3.drew W → Calls Try.prog 55 #[.pointer (some ⟨V, 0, none⟩), .pointer (some ⟨C, 0, none⟩), .int .u32 (((c.seg i).b + off) % 4294967296), .int .i64 n, .agg #[.bool wr, .bool c.us, .bool c.wp]] W (fun e w' => e = QE (findQ M c.pg c.cr3 (linB (c.seg i).b off) n wr c.us c.wp) ∧ VmP W V K B pl tn (findQ M c.pg c.cr3 (linB (c.seg i).b off) n wr c.us c.wp).m 2 w')) := fun W k => vfind_any W V K B pl tn C M ((h.kp0 (Kp.refl noB w3).drew).kp0 k) c ((hc.kp0 (Kp.refl noB w3).drew).kp0 k) hC _ n wr c.us c.wp hl0.1 hl0.2 (by omega) (by omega) htn
  have e1 : QE (findQ M c.pg c.cr3 (linB (c.seg i).b off) n wr c.us c.wp) = .returned (findQ M c.pg c.cr3 (linB (c.seg i).b off) n wr c.us c.wp).s.val := by unfold QE; rw [hq]
  rw [e1] at HF
  have qn := findQ_n M c.pg c.cr3 (linB (c.seg i).b off) n wr c.us c.wp
  obtain ⟨q, hqe⟩ : ∃ q, (findQ M c.pg c.cr3 (linB (c.seg i).b off) n wr c.us c.wp) = q := ⟨_, rfl⟩
  rw [hqe] at HF qn
  have HQ : Hid _ := hqe
  clear hqe e1 hq
  obtain ⟨qf, qm, sa, sb, sh, sn⟩ := q
  unfold Sp.val at HF
  simp only at HF qn
  have nX : ¬ modVm K B qm.n X := fun f => by rw [qn] at f; have := HLT.out.2 _ f; omega
  have nY : ¬ modVm K B qm.n (X + 1) := fun f => by rw [qn] at f; have := HLT.out.2 _ f; omega
  have HS0 : Hid (w3.drew.cell? ⟨X + 1, 2, none⟩ = some (.int .u32 (c.seg i).b)) := y2
  have HK0 : Hid (Kp noB w3.drew w3.drew) := Kp.refl _ _
  have HSK : Hid (∀ W, Kp noB w3.drew W → W.cell? ⟨X + 1, 2, none⟩ = some (.int .u32 (c.seg i).b)) := fun W k => cell_kp (w := w3.drew) y2 k (fun f => f)
  have HSV : Hid (∀ W W', Kp noB w3.drew W → VmP W V K B pl tn qm 2 W' → W'.cell? ⟨X + 1, 2, none⟩ = some (.int .u32 (c.seg i).b)) := fun W W' k v => cell_kp (HSK.out _ k) v.2 nY
  have HSF : Hid (∀ (W : World) (a b c' d : Value), W.cell? ⟨X + 1, 2, none⟩ = some (.int .u32 (c.seg i).b) → ((((W.setCell ⟨X, 0, none⟩ a).setCell ⟨X, 1, none⟩ b).setCell ⟨X, 2, none⟩ c').setCell ⟨X, 3, none⟩ d).cell? ⟨X + 1, 2, none⟩ = some (.int .u32 (c.seg i).b)) := fun W a b c' d h => cell_kp h (kp_four W X a b c' d) (by omega)
  have HRX : Hid (∀ W W', Kp noB w3.drew W → VmP W V K B pl tn qm 2 W' → RowS W' X 0 0 0 0) := fun W W' k v => by
    have r : RowS w3.drew X 0 0 0 0 := rX
    exact (r.kp k (fun f => f)).kp v.2 nX
  go_region_held3 (fun W => W.cell? ⟨X + 1, 2, none⟩ = some (.int .u32 (c.seg i).b))
    (first | with_reducible exact HS0.out | with_reducible exact HSK.out _ k5 | with_reducible exact HSV.out _ _ k5 v6 | with_reducible exact HSF.out _ _ _ _ _ (HSV.out _ _ k5 v6))
    (first | (go_at_call 56; refine Calls.mono (HP.out _ HK0.out) ?_; rintro e w5 ⟨rfl, k5⟩) | (go_at_call 55; refine Calls.mono (HF.out _ k5) ?_; rintro e w6 ⟨rfl, v6⟩; have rz := HRX.out _ _ k5 v6; obtain ⟨z0, z1, z2, z3, u0, u1, u2, u3⟩ : _ ∧ _ ∧ _ ∧ _ ∧ _ ∧ _ ∧ _ ∧ _ := ⟨rz.c0, rz.c1, rz.c2, rz.c3, rz.fz 0, rz.fz 1, rz.fz 2, rz.fz 3⟩))
  have rF := rz.four sa sb sh sn
  have kF := kp_four w6 X (.int .u32 sa) (.int .u32 sb) (.int .i64 sh) (.int .i64 sn)
  obtain ⟨⟨tn6, ht6, at6⟩, k6⟩ := v6
  have vF := at6.kp kF (fun j hj e => by
    subst e
    rcases hj with e | e
    · have := HLT.out.1; omega
    · exact nX e)
  have k7 : Kp (modVm K B qm.n) w _ := ((k4.mono (fun _ _ f => f.elim)).trans ((k5.undrew.mono (fun _ _ f => f.elim)).trans k6)).over kF (fun j hj e => absurd hj (by have := HXw.out; omega))
  clear HSV HSF HSK HRX HF HP rz at6 k6 k5 z0 z1 z2 z3 u0 u1 u2 u3 kF HS0
  go_wp2
  refine bodyPost_ret (v := .agg #[.int .u32 sa, .int .u32 sb, .int .i64 sh, .int .i64 sn]) (by simp [results, Try.results33, go_sem, rF.c0, rF.c1, rF.c2, rF.c3]) rfl ⟨by rw [HQ.out]; rfl, ?_⟩
  rw [HQ.out]
  exact ⟨⟨tn6, ht6, vF⟩, k7⟩

theorem inSeg_any (w : World) (V K B pl tn C : Nat) (M : Mem) (h : VmAt w V K B pl tn M) (c : Cp) (hc : CpAt w C c) (hC : ¬ modVm K B M.n C) (k off z : Int) (wr : Bool) (o0 : 0 ≤ off) (o1 : off < 4294967296) (htn : tn < 18446744073709551613) :
    Calls Try.prog 33 #[.pointer (some ⟨V, 0, none⟩), .pointer (some ⟨C, 0, none⟩), .int .i64 k, .int .u32 off, .int .i64 z, .bool wr] w (fun e w' => e = QE (segQ M c k off z wr) ∧ VmP w V K B pl tn (segQ M c k off z wr).m 2 w') := by
  unfold segQ
  by_cases hk : okS z = false ∨ k < 0 ∨ 6 ≤ k
  · rw [if_pos hk]
    refine (inSeg_size w V K B pl tn C M h k off z wr hk).mono ?_
    rintro e w' ⟨rfl, q⟩
    exact ⟨rfl, h.stay q 2⟩
  · rw [if_neg hk]
    have hz : okS z = true := by cases hz : okS z <;> simp_all
    have hz' : z = 1 ∨ z = 2 ∨ z = 4 := of_decide_eq_true hz
    have hk0 : ¬ k < 0 := fun f => hk (.inr (.inl f))
    have hk6 : ¬ 6 ≤ k := fun f => hk (.inr (.inr f))
    obtain ⟨n, rfl⟩ : ∃ n : Nat, z = n := ⟨z.toNat, by omega⟩
    obtain ⟨i, rfl⟩ : ∃ i : Nat, k = i := ⟨k.toNat, by omega⟩
    have hn : n = 1 ∨ n = 2 ∨ n = 4 := by omega
    have hi : i < 6 := by omega
    simp only [Int.toNat_natCast]
    cases hl : (c.seg i).nl with
    | true =>
      rw [if_pos (.inl rfl)]
      refine (inSeg_null w V K B pl tn C M h c hc i hi off n wr o0 o1 hn hl).mono ?_
      rintro e w' ⟨rfl, q⟩
      exact ⟨rfl, h.stay q 2⟩
    | false =>
      cases hr : Sg.reachB (c.seg i).l (c.seg i).t (c.seg i).s (c.seg i).p (c.seg i).g off n wr with
      | false =>
        rw [if_pos (.inr rfl)]
        refine (inSeg_lets w V K B pl tn C M h c hc i hi off n wr o0 o1 hn hl hr).mono ?_
        rintro e w' ⟨rfl, q⟩
        exact ⟨rfl, h.stay q 2⟩
      | true =>
        rw [if_neg (by simp)]
        cases hq : (findQ M c.pg c.cr3 (linB (c.seg i).b off) n wr c.us c.wp).f with
        | none =>
          refine (inSeg_find w V K B pl tn C M h c hc i hi off n wr o0 o1 hn hC htn hl hr hq).mono ?_
          rintro e w' ⟨rfl, q⟩
          exact ⟨by unfold QE; rw [hq], q⟩
        | some f =>
          refine (inSeg_pf w V K B pl tn C M h c hc i hi off n wr o0 o1 hn hC htn hl hr f hq).mono ?_
          rintro e w' ⟨rfl, q⟩
          exact ⟨by unfold QE; rw [hq], q⟩
end Go.Proofs.Ytmmnnafjikilpaa
