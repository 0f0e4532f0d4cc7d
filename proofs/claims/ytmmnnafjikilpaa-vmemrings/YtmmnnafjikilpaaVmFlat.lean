/- A flat processor. -/
import Derived.Test.YtmmnnafjikilpaaVmCpu
namespace Go.Proofs.Ytmmnnafjikilpaa
open Go.ChangeShapes Go.WideShapes Go.ChangeAt Go.RowKit Go.Maps
set_option linter.unusedVariables false
set_option maxRecDepth 20000

def datS (s d : Int) : SgR := ⟨IntKind.u16.wrap (16 + s), false, 0, 4294967295, 2, false, d, true, true⟩
def codS (s d : Int) : SgR := ⟨IntKind.u16.wrap (8 + s), false, 0, 4294967295, 10, false, d, true, true⟩
def flatP (s d cr0 cr3 : Int) : Cp := ⟨fun i => if i = 1 then codS s d else datS s d, cr0, cr3⟩

theorem SgC.past {cs : Array Value} {o k : Nat} {r : SgR} {v : Value} (h : SgC cs o r) (hk : k < o ∨ o + 9 ≤ k) : SgC (cs.setIfInBounds k v) o r := by
  obtain ⟨b0, b1, b2, b3, b4, b5, b6, b7, b8⟩ := h
  constructor
  all_goals rw [Array.getElem?_setIfInBounds_ne (by omega)]; assumption

theorem flat_cells {cs : Array Value} {s d : Int} (wf : WfC cs) (hsg : ∀ j, j < 6 → SgC cs (10 + j * 9) (datS s d)) (h66 : cs[66]? = some (.int .u32 0)) : CpC (((set9 cs 19 (codS s d)).setIfInBounds 64 (.int .u32 1)).setIfInBounds 9 (.int .u32 2)) (flatP s d 1 0) := by
  have sz : (set9 cs 19 (codS s d)).size = 83 := (set9_wf wf _ _).s
  refine ⟨fun i hi => ?_, ?_, ?_⟩
  · by_cases e : i = 1
    · subst e
      have h1 : SgC (set9 cs 19 (codS s d)) (10 + 1 * 9) (codS s d) := set9_at (o := 19) _ (by rw [wf.s]; omega)
      have h2 : (flatP s d 1 0).seg 1 = codS s d := rfl
      rw [h2]
      exact (h1.past (.inr (by omega))).past (.inl (by omega))
    · have h2 : (flatP s d 1 0).seg i = datS s d := by unfold flatP; simp only [e, if_false]
      rw [h2]
      have h1 : SgC (set9 cs 19 (codS s d)) (10 + i * 9) (datS s d) := (hsg i hi).ne (by omega)
      exact (h1.past (.inr (by omega))).past (.inl (by omega))
  · have h1 : ((set9 cs 19 (codS s d)).setIfInBounds 64 (.int .u32 1))[64]? = some (.int .u32 1) := Array.getElem?_setIfInBounds_self_of_lt (by rw [sz]; omega)
    rw [Array.getElem?_setIfInBounds_ne (by omega)]
    exact h1
  · rw [Array.getElem?_setIfInBounds_ne (by omega), Array.getElem?_setIfInBounds_ne (by omega), set9_ne _ (by omega)]
    exact h66

def FlQ (w : World) (X : Nat) (s d : Int) (k : Nat) (s7 : Value) (wr : World) : Prop :=
  ∃ (i : Nat) (cs : Array Value), s7 = .int .i64 i ∧ i ≤ 6 ∧ 6 - i ≤ k ∧ PAt wr X cs ∧ (∀ j, j < i → SgC cs (10 + j * 9) (datS s d)) ∧ cs[64]? = some (.int .u32 0) ∧ cs[66]? = some (.int .u32 0) ∧ Kp (fun j => j = X) w wr

set_option maxHeartbeats 2000000 in
theorem flat_any (w : World) (r : Int) (r0 : -9223372036854775808 ≤ r) (r1 : r ≤ 9223372036854775807) : Calls Try.prog 17 #[.int .i64 r] w fun e w' => ∃ cs, e = .returned (.agg cs) ∧ WfC cs ∧ CpC cs (flatP (IntKind.u16.wrap (r.tmod 4)) (r.tmod 4) 1 0) ∧ Kp noB w w' := by
  obtain ⟨T, n, Z, h⟩ := vlP
  obtain ⟨vl, vs, va, vb⟩ := h.ops
  have g1 := h.agg; have g2 := h.size; have g3 := h.zero
  obtain ⟨d, hd⟩ : ∃ d, d = r.tmod 4 := ⟨_, rfl⟩
  obtain ⟨s, hs⟩ : ∃ s, s = IntKind.u16.wrap d := ⟨_, rfl⟩
  rw [← hd, ← hs]
  obtain ⟨W0, hW0⟩ : ∃ W, W = ((((w.alloc (.cells Z T)).alloc (.cells Z T)).alloc (.cells #[.int .u32 0, .int .u32 4294967295, .int .i64 10, .bool false, .int .i64 d, .bool true, .bool true] 31)).alloc (.cells #[.int .u32 0, .int .u32 4294967295, .int .i64 2, .bool false, .int .i64 d, .bool true, .bool true] 31)) := ⟨_, rfl⟩
  obtain ⟨A, hA⟩ : ∃ A, w.heap.size = A := ⟨_, rfl⟩
  have kA := Kp.alloc noB w (.cells Z T)
  have kB := Kp.alloc noB (w.alloc (.cells Z T)) (.cells Z T)
  have kC := Kp.alloc noB ((w.alloc (.cells Z T)).alloc (.cells Z T)) (.cells #[.int .u32 0, .int .u32 4294967295, .int .i64 10, .bool false, .int .i64 d, .bool true, .bool true] 31)
  have kD := Kp.alloc noB (((w.alloc (.cells Z T)).alloc (.cells Z T)).alloc (.cells #[.int .u32 0, .int .u32 4294967295, .int .i64 10, .bool false, .int .i64 d, .bool true, .bool true] 31)) (.cells #[.int .u32 0, .int .u32 4294967295, .int .i64 2, .bool false, .int .i64 d, .bool true, .bool true] 31)
  have k0 : Kp noB w W0 := by rw [hW0]; exact ((kA.trans kB).trans kC).trans kD
  have pA : PAt W0 A Z := by rw [hW0, ← hA]; exact (((h.at h.wf w).kp kB (fun f => f)).kp kC (fun f => f)).kp kD (fun f => f)
  have pX : PAt W0 (A + 1) Z := by
    have := h.at h.wf (w.alloc (.cells Z T))
    rw [show (w.alloc (.cells Z T)).heap.size = A + 1 by simp [hA]] at this
    rw [hW0]
    exact (this.kp kC (fun f => f)).kp kD (fun f => f)
  have rC : W0.heap[A + 2]? = some (.cells #[.int .u32 0, .int .u32 4294967295, .int .i64 10, .bool false, .int .i64 d, .bool true, .bool true] 31 (0, 0)) := by
    have := (MapKept.heap_alloc ((w.alloc (.cells Z T)).alloc (.cells Z T)) (.cells #[.int .u32 0, .int .u32 4294967295, .int .i64 10, .bool false, .int .i64 d, .bool true, .bool true] 31)).1
    rw [show ((w.alloc (.cells Z T)).alloc (.cells Z T)).heap.size = A + 2 by simp [hA]] at this
    rw [hW0]
    exact (kD.block _ (by simp [hA]) (fun f => f)).trans this
  have rD : W0.heap[A + 3]? = some (.cells #[.int .u32 0, .int .u32 4294967295, .int .i64 2, .bool false, .int .i64 d, .bool true, .bool true] 31 (0, 0)) := by
    have := (MapKept.heap_alloc (((w.alloc (.cells Z T)).alloc (.cells Z T)).alloc (.cells #[.int .u32 0, .int .u32 4294967295, .int .i64 10, .bool false, .int .i64 d, .bool true, .bool true] 31)) (.cells #[.int .u32 0, .int .u32 4294967295, .int .i64 2, .bool false, .int .i64 d, .bool true, .bool true] 31)).1
    rw [show (((w.alloc (.cells Z T)).alloc (.cells Z T)).alloc (.cells #[.int .u32 0, .int .u32 4294967295, .int .i64 10, .bool false, .int .i64 d, .bool true, .bool true] 31)).heap.size = A + 3 by simp [hA]] at this
    rw [hW0]
    exact this
  have HD : Hid (∀ W, Kp (fun j => j = A + 1) W0 W → W.cell? ⟨A + 3, 0, none⟩ = some (.int .u32 0) ∧ W.cell? ⟨A + 3, 1, none⟩ = some (.int .u32 4294967295) ∧ W.cell? ⟨A + 3, 2, none⟩ = some (.int .i64 2) ∧ W.cell? ⟨A + 3, 3, none⟩ = some (.bool false) ∧ W.cell? ⟨A + 3, 4, none⟩ = some (.int .i64 d) ∧ W.cell? ⟨A + 3, 5, none⟩ = some (.bool true) ∧ W.cell? ⟨A + 3, 6, none⟩ = some (.bool true)) := fun W k => by
    have r := (k.block (A + 3) (Array.getElem?_eq_some_iff.1 rD).1 (by omega)).trans rD
    refine ⟨?_, ?_, ?_, ?_, ?_, ?_, ?_⟩ <;> (rw [cell_at r]; rfl)
  have HCd : Hid (∀ W, Kp (fun j => j = A + 1) W0 W → W.cell? ⟨A + 2, 0, none⟩ = some (.int .u32 0) ∧ W.cell? ⟨A + 2, 1, none⟩ = some (.int .u32 4294967295) ∧ W.cell? ⟨A + 2, 2, none⟩ = some (.int .i64 10) ∧ W.cell? ⟨A + 2, 3, none⟩ = some (.bool false) ∧ W.cell? ⟨A + 2, 4, none⟩ = some (.int .i64 d) ∧ W.cell? ⟨A + 2, 5, none⟩ = some (.bool true) ∧ W.cell? ⟨A + 2, 6, none⟩ = some (.bool true)) := fun W k => by
    have r := (k.block (A + 2) (Array.getElem?_eq_some_iff.1 rC).1 (by omega)).trans rC
    refine ⟨?_, ?_, ?_, ?_, ?_, ?_, ?_⟩ <;> (rw [cell_at r]; rfl)
  have HV : Hid (VlP T n Z) := h
  have HSo : Hid (∀ (W : World) (cs : Array Value), PAt W (A + 1) cs → ∀ k, k < 83 → ∃ v, W.cell? ⟨A + 1, k, none⟩ = some v) := fun W cs p k hk => p.some hk
  clear kA kB kC kD rC rD
  go_enter Try.func17, Try.ntmps17
  simp only [vl, vs, va, vb] at *
  go_wp2_with fail
  simp only [← hd, ← hs]
  rw [← hW0]
  have HSs : Hid (s = IntKind.u16.wrap d) := hs
  have HAw : Hid (w.heap.size = A) := hA
  clear hW0 hA hd hs
  go_loopg [7] 6 (FlQ W0 (A + 1) s d)
  case atStart => exact ⟨0, Z, rfl, by omega, by omega, pX, fun j hj => absurd hj (by omega), HV.out.z64, HV.out.z66, Kp.refl _ _⟩
  case round =>
    obtain ⟨i, cs, rfl, hi, hik, pr, hsg, h64, h66, kk⟩ := hrel
    by_cases hlt : i < 6
    · have hz : (i : Int) < 6 := by omega
      have hz' : (0 : Int) ≤ i ∧ (i : Int) < 6 := by omega
      obtain ⟨e0, e1, e2, e3, e4, e5, e6⟩ := HD.out wr kk
      have P9 := pr.set9 (10 + i * 9) (datS s d)
      have k9 := kk.trans (kp_setW9 wr (A + 1) (10 + i * 9) (datS s d))
      have f9 := pr.fz
      obtain ⟨u0, t0⟩ := HSo.out wr cs pr (10 + i * 9) (by omega)
      obtain ⟨u1, t1⟩ := HSo.out wr cs pr (10 + i * 9 + 1) (by omega)
      obtain ⟨u2, t2⟩ := HSo.out wr cs pr (10 + i * 9 + 2) (by omega)
      obtain ⟨u3, t3⟩ := HSo.out wr cs pr (10 + i * 9 + 3) (by omega)
      obtain ⟨u4, t4⟩ := HSo.out wr cs pr (10 + i * 9 + 4) (by omega)
      obtain ⟨u5, t5⟩ := HSo.out wr cs pr (10 + i * 9 + 5) (by omega)
      obtain ⟨u6, t6⟩ := HSo.out wr cs pr (10 + i * 9 + 6) (by omega)
      obtain ⟨u7, t7⟩ := HSo.out wr cs pr (10 + i * 9 + 7) (by omega)
      obtain ⟨u8, t8⟩ := HSo.out wr cs pr (10 + i * 9 + 8) (by omega)
      obtain ⟨j, hj⟩ : ∃ j, j = i + 1 := ⟨_, rfl⟩
      have HJ : Hid (j = i + 1) := hj
      have HK : Hid (6 - i ≤ gk) := hik
      have HSG : Hid (∀ m, m < i + 1 → SgC (set9 cs (10 + i * 9) (datS s d)) (10 + m * 9) (datS s d)) := fun m hm => by
        by_cases e : m = i
        · subst e; exact set9_at _ (by rw [pr.2.s]; omega)
        · exact (hsg m (by omega)).ne (by omega)
      have H64 : Hid ((set9 cs (10 + i * 9) (datS s d))[64]? = some (.int .u32 0)) := by rw [set9_ne _ (by omega)]; exact h64
      have H66 : Hid ((set9 cs (10 + i * 9) (datS s d))[66]? = some (.int .u32 0)) := by rw [set9_ne _ (by omega)]; exact h66
      have HP9 : Hid _ := P9
      have HK9 : Hid _ := k9
      clear hik hj hsg h64 h66 P9 k9 pr
      go_wp2_with fail
      go_roundg (6 - j)
      case measure => have := HJ.out; have := HK.out; omega
      case rel =>
        exact ⟨j, set9 cs (10 + i * 9) (datS s d), by rw [HJ.out]; rfl, by have := HJ.out; omega, Nat.le_refl _, HP9.out, fun m hm => HSG.out m (by rw [HJ.out] at hm; exact hm), H64.out, H66.out, HK9.out⟩
    · obtain rfl : i = 6 := by omega
      clear hi hik hlt
      obtain ⟨e0, e1, e2, e3, e4, e5, e6⟩ := HCd.out wr kk
      have P9 := pr.set9 19 (codS s d)
      have k9 := kk.trans (kp_setW9 wr (A + 1) 19 (codS s d))
      have f9 := pr.fz
      obtain ⟨u0, t0⟩ := HSo.out wr cs pr 19 (by omega)
      obtain ⟨u1, t1⟩ := HSo.out wr cs pr 20 (by omega)
      obtain ⟨u2, t2⟩ := HSo.out wr cs pr 21 (by omega)
      obtain ⟨u3, t3⟩ := HSo.out wr cs pr 22 (by omega)
      obtain ⟨u4, t4⟩ := HSo.out wr cs pr 23 (by omega)
      obtain ⟨u5, t5⟩ := HSo.out wr cs pr 24 (by omega)
      obtain ⟨u6, t6⟩ := HSo.out wr cs pr 25 (by omega)
      obtain ⟨u7, t7⟩ := HSo.out wr cs pr 26 (by omega)
      obtain ⟨u8, t8⟩ := HSo.out wr cs pr 27 (by omega)
      obtain ⟨u9, t9⟩ := HSo.out wr cs pr 64 (by omega)
      obtain ⟨v9, x9⟩ := HSo.out wr cs pr 9 (by omega)
      have PF := (P9.set 64 (v := .int .u32 1) rfl).set 9 (v := .int .u32 2) rfl
      have kF := (k9.trans (Kp.setCell (S := fun j => j = A + 1) _ (p := ⟨A + 1, 64, none⟩) rfl (.int .u32 1))).trans (Kp.setCell (S := fun j => j = A + 1) _ (p := ⟨A + 1, 9, none⟩) rfl (.int .u32 2))
      have hF := flat_cells pr.2 hsg h66
      have HL : Hid (∀ W cs, PAt W (A + 1) cs → (loadCellsFrom ⟨A + 1, 0, none⟩ 0 n #[]).run Try.prog W = .ok cs W) := fun W cs p => HV.out.get p
      have pA2 := pA.kp kF (by omega)
      have kG : Kp noB w _ := (k0.trans (Kp.refl _ _)).over kF (fun j hj e => absurd hj (by have := HAw.out; omega))
      obtain ⟨cF, hcF⟩ : ∃ c, c = (((set9 cs 19 (codS s d)).setIfInBounds 64 (.int .u32 1)).setIfInBounds 9 (.int .u32 2)) := ⟨_, rfl⟩
      have hWF : WfC cF := by rw [hcF]; exact PF.2
      rw [← hcF] at hF PF
      obtain ⟨WF, hWFe⟩ : ∃ W, W = ((setW9 wr (A + 1) 19 (codS s d)).setCell ⟨A + 1, 64, none⟩ (.int .u32 1)).setCell ⟨A + 1, 9, none⟩ (.int .u32 2) := ⟨_, rfl⟩
      rw [← hWFe] at PF kF pA2 kG
      clear hcF P9 k9 pA pX HD HCd HSo hsg h64 h66 pr kk
      unfold setW9 codS at hWFe
      simp only at hWFe
      have hld := HL.out WF cF PF
      have hst := VlP.put pA2 hWF
      have hld2 := HV.out.get (pA2.put hWF)
      have hsz : cF.size = n := by rw [hWF.s, HV.out.s]
      have kH : Kp noB w (WF.setRow A cF) := kG.over (Kp.setRow (S := fun j => j = A) WF rfl cF) (fun j hj e => absurd hj (by have := HAw.out; omega))
      go_upto_region 12 with fail
      rw [← hWFe]
      clear hWFe
      go_wp2
      refine bodyPost_ret (v := .agg cF) ?_ rfl ⟨cF, rfl, hWF, hF, kH⟩
      simp [results, Try.results17, go_sem, ← HV.out.t, g1, g2, hld2]
end Go.Proofs.Ytmmnnafjikilpaa
