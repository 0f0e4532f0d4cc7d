/- One page of a value: its place, or its fault. -/
import Derived.Test.YtmmnnafjikilpaaVmNeed
import Derived.Test.YtmmnnafjikilpaaTlFind
namespace Go.Proofs.Ytmmnnafjikilpaa
open Go.ChangeShapes Go.WideShapes Go.ChangeAt Go.RowKit Go.Maps
set_option linter.unusedVariables false

def VmP (w : World) (V K B pl tn : Nat) (M : Mem) (n : Nat) (w' : World) : Prop := (∃ tn', tn' ≤ tn + n ∧ VmAt w' V K B pl tn' M) ∧ Kp (modVm K B M.n) w w'

theorem VmAt.to {w w' : World} {V K B pl tn : Nat} {M M' : Mem} (h : VmAt w V K B pl tn M) (k : Kp (modVm K B M.n) w w') {tn' : Nat} {D : DataW Unit} (t : TlbD w' K B pl tn' D) (r : RamAt w' B M') (hn : M'.n = M.n) (hc : M'.closed = M.closed) : VmAt w' V K B pl tn' M' where
  c := (k.block V h.lt h.apV).trans h.c
  tl := ⟨D, t⟩
  ram := r
  cl := hc.trans h.cl
  apT := by rw [hn]; exact h.apT
  apV := by rw [hn]; exact h.apV

theorem vFind_ok (M : Mem) (c l : Int) (wr us wp : Bool) (c0 : 0 ≤ c) (c1 : c < 4294967296) (l0 : 0 ≤ l) (l1 : l < 4294967296) :
    ∃ (f p q : Int) (x y : Bool), (fOk M c l wr us wp = true → f = fFr M c l) ∧ ∀ (w : World) (V K B pl tn : Nat), VmAt w V K B pl tn M → tn < 18446744073709551614 → Calls Try.prog 71 #[.pointer (some ⟨K + 1, 0, none⟩), .int .u32 c, .int .u32 l, .agg #[.bool wr, .bool us, .bool wp]] w (fun e w' => e = .returned (.tuple #[.agg #[.int .u32 f, .int .u32 p, .int .u32 q, .bool x, .bool y], .int .i64 (fCode M c l wr us wp), .int .i64 0]) ∧ VmP w V K B pl tn (fMem M c l wr us wp) 1 w') := by
  obtain ⟨f, p, q, x, y, hwk⟩ := fWalk_is0 M c l wr us wp
  refine ⟨f, p, q, x, y, fun ho => ?_, fun w V K B pl tn h htn => ?_⟩
  · unfold fWalk at hwk
    rw [if_pos ho] at hwk
    unfold walkV at hwk
    simp at hwk
    exact hwk.1.symm
  · obtain ⟨D, t⟩ := h.tl
    have cF := tlFind_ok w K B pl tn D M t h.ram h.cl c l wr us wp c0 c1 l0 l1 htn h.apT
    unfold TfPost at cF
    rw [hwk] at cF
    unfold walkV wayV at cF
    refine cF.mono ?_
    rintro e w' ⟨rfl, r', ⟨D', tn', t', ht⟩, k⟩
    have sm := fMem_same M c l wr us wp
    refine ⟨rfl, ⟨tn', ht, h.to k t' r' sm.1 sm.2.2⟩, ?_⟩
    rw [sm.1]
    exact k

theorem fMem_no {M : Mem} {c l : Int} {wr us wp : Bool} (h : fOk M c l wr us wp = false) : fMem M c l wr us wp = M := by unfold fMem; rw [h]; rfl
theorem fCode_neg {M : Mem} {c l : Int} {wr us wp : Bool} (h : fOk M c l wr us wp = true) : fCode M c l wr us wp = -1 := by
  have := code_ok (M := M) (c := c) (l := l) (wr := wr) (us := us) (wp := wp)
  rw [h] at this
  simpa using this
theorem fCode_pos {M : Mem} {c l : Int} {wr us wp : Bool} (h : fOk M c l wr us wp = false) : 0 ≤ fCode M c l wr us wp := by
  have := code_ok (M := M) (c := c) (l := l) (wr := wr) (us := us) (wp := wp)
  rw [h] at this
  have := fCode_bd0 M c l wr us wp
  have : fCode M c l wr us wp ≠ -1 := by intro e; simp_all
  omega

theorem fr_or {x l : Int} (x0 : 0 ≤ x) (x1 : x < 4294967296) (l0 : 0 ≤ l) : bits .or .u32 (x - x % 4096) (l % 4096) = x - x % 4096 + l % 4096 := by
  have h := or_add (a := l % 4096) (b := x / 4096) 12 (by omega) (by omega) (by rw [pw12]; omega) (by omega) (by rw [pw12]; omega)
  rw [pw12] at h
  have e : x / 4096 * 4096 = x - x % 4096 := by omega
  rw [e] at h
  rw [Int.add_comm, ← h]
  exact tb_ext (or_bd (by omega) (by omega) (by omega) (by omega)).1 (or_bd (by omega) (by omega) (by omega) (by omega)).1 fun i => by
    rw [tb_or (by omega) (by omega) (by omega) (by omega), tb_or (by omega) (by omega) (by omega) (by omega), Bool.or_comm]

/-- Where the page is asked for, and what is told is laid aside. -/
abbrev PlS (V K X : Nat) (wr us wp : Bool) (W : World) : Prop := W.cell? ⟨V, 1, none⟩ = some (.pointer (some ⟨K + 1, 0, none⟩)) ∧ W.cell? ⟨X, 0, none⟩ = some (.bool wr) ∧ W.cell? ⟨X, 1, none⟩ = some (.bool us) ∧ W.cell? ⟨X, 2, none⟩ = some (.bool wp)
theorem PlS.kp {V K X : Nat} {wr us wp : Bool} {S : Nat → Prop} {W W' : World} (h : PlS V K X wr us wp W) (k : Kp S W W') (h1 : ¬ S V) (h2 : ¬ S X) : PlS V K X wr us wp W' := ⟨cell_kp h.1 k h1, cell_kp h.2.1 k h2, cell_kp h.2.2.1 k h2, cell_kp h.2.2.2 k h2⟩

/-- How a page's asking ends. -/
def plE (M : Mem) (c l : Int) (wr us wp : Bool) : Ending := if fOk M c l wr us wp = true then .returned (.int .u32 (plF M c l wr us wp)) else .panicked (pan ⟨14, fCode M c l wr us wp, l⟩)

set_option maxHeartbeats 4000000 in
theorem vPlace_any (w : World) (V K B pl tn : Nat) (M : Mem) (h : VmAt w V K B pl tn M) (c l : Int) (wr us wp : Bool) (c0 : 0 ≤ c) (c1 : c < 4294967296) (l0 : 0 ≤ l) (l1 : l < 4294967296) (htn : tn < 18446744073709551614) :
    Calls Try.prog 69 #[.pointer (some ⟨V, 0, none⟩), .int .u32 c, .int .u32 l, .agg #[.bool wr, .bool us, .bool wp]] w (fun e w' => e = plE M c l wr us wp ∧ VmP w V K B pl tn (fMem M c l wr us wp) 1 w') := by
  obtain ⟨X, hX⟩ : ∃ X, w.heap.size = X := ⟨_, rfl⟩
  obtain ⟨W0, hW0⟩ : ∃ W, W = w.alloc (.cells #[.bool wr, .bool us, .bool wp] 117) := ⟨_, rfl⟩
  have k0 : Kp noB w W0 := by rw [hW0]; exact Kp.alloc _ _ _
  have rB : RowB W0 X wr us wp := by rw [hW0, ← hX]; exact (MapKept.heap_alloc w _).1
  have h0 := h.kp0 k0
  have hVX : V < X := by rw [← hX]; exact h.lt
  have nX : ¬ modVm K B (fMem M c l wr us wp).n X := fun f => by rw [(fMem_same M c l wr us wp).1] at f; have := h.in_lt f; omega
  have nN : ¬ modVm K B (fMem M c l wr us wp).n W0.heap.size := fun f => by rw [(fMem_same M c l wr us wp).1] at f; have := h0.in_lt f; omega
  have nV : ¬ modVm K B (fMem M c l wr us wp).n V := by rw [(fMem_same M c l wr us wp).1]; exact h.apV
  obtain ⟨f, p, q, x, y, hf, hC⟩ := vFind_ok M c l wr us wp c0 c1 l0 l1
  obtain ⟨M', hM'⟩ : ∃ M', M' = fMem M c l wr us wp := ⟨_, rfl⟩
  obtain ⟨cd, hcd⟩ : ∃ cd, cd = fCode M c l wr us wp := ⟨_, rfl⟩
  rw [← hcd, ← hM'] at hC
  rw [← hM'] at nX nV nN ⊢
  have HC : Hid (∀ W, VmAt W V K B pl tn M → Calls Try.prog 71 #[.pointer (some ⟨K + 1, 0, none⟩), .int .u32 c, .int .u32 l, .agg #[.bool wr, .bool us, .bool wp]] W (fun e w' => e = .returned (.tuple #[.agg #[.int .u32 f, .int .u32 p, .int .u32 q, .bool x, .bool y], .int .i64 cd, .int .i64 0]) ∧ VmP W V K B pl tn M' 1 w')) := fun W hW => hC W V K B pl tn hW htn
  have r0 := fTwo_bd h.ram.rdB c l
  have HE : Hid ((cd = -1 ∧ plE M c l wr us wp = .returned (.int .u32 (bits .or .u32 f (l % 4096)))) ∨ (0 ≤ cd ∧ plE M c l wr us wp = .panicked (pan ⟨14, cd, l⟩))) := by
    unfold plE
    cases ho : fOk M c l wr us wp
    · right
      exact ⟨by rw [hcd]; exact fCode_pos ho, by rw [hcd]; rfl⟩
    · left
      refine ⟨by rw [hcd]; exact fCode_neg ho, ?_⟩
      rw [hf ho]
      show _ = Ending.returned (.int .u32 (bits .or .u32 (fTwo M c l - fTwo M c l % 4096) (l % 4096)))
      rw [fr_or r0.1 r0.2 l0]
      rfl
  clear hC hf h r0 hcd
  have HS0 : Hid (PlS V K X wr us wp W0.drew) := ⟨h0.c1, rB.c0, rB.c1, rB.c2⟩
  have HSK : Hid (∀ W W', PlS V K X wr us wp W → Kp (modVm K B M'.n) W W' → PlS V K X wr us wp W') := fun W W' p k => p.kp k nV nX
  have HSA : Hid (∀ W (O : Obj), PlS V K X wr us wp W → PlS V K X wr us wp (W.alloc O)) := fun W O p => p.kp (Kp.alloc noB W O) (fun f => f) (fun f => f)
  have HSD : Hid (PlS V K X wr us wp (W0.alloc (.cells #[.int .u32 0, .int .u32 0, .int .u32 0, .bool false, .bool false] 142)).drew) := HSA.out _ _ HS0.out
  have HSF : Hid (∀ W, PlS V K X wr us wp W → PlS V K X wr us wp (((((W.setCell ⟨W0.heap.size, 0, none⟩ (.int .u32 f)).setCell ⟨W0.heap.size, 1, none⟩ (.int .u32 p)).setCell ⟨W0.heap.size, 2, none⟩ (.int .u32 q)).setCell ⟨W0.heap.size, 3, none⟩ (.bool x)).setCell ⟨W0.heap.size, 4, none⟩ (.bool y))) := fun W z => z.kp (Kp.five_in W _ _ _ _ _ _) (by have := rB.lt; omega) (by have := rB.lt; omega)
  have h0D : VmAt W0.drew V K B pl tn M := h0.kp0 (Kp.refl noB W0).drew
  have h0A : VmAt (W0.alloc (.cells #[.int .u32 0, .int .u32 0, .int .u32 0, .bool false, .bool false] 142)).drew V K B pl tn M := h0.kp0 (Kp.alloc noB W0 _).drew
  have HRZ : Hid (∀ W', Kp (modVm K B M'.n) (W0.alloc (.cells #[.int .u32 0, .int .u32 0, .int .u32 0, .bool false, .bool false] 142)).drew W' → RowK W' W0.heap.size 0 0 0 false false) := fun W' k => by
    have r : RowK (W0.alloc (.cells #[.int .u32 0, .int .u32 0, .int .u32 0, .bool false, .bool false] 142)).drew W0.heap.size 0 0 0 false false := (MapKept.heap_alloc W0 (.cells #[.int .u32 0, .int .u32 0, .int .u32 0, .bool false, .bool false] 142)).1
    exact r.kp k nN
  have HRF : Hid (∀ W', RowK W' W0.heap.size 0 0 0 false false → (W'.cell? ⟨W0.heap.size, 0, none⟩ = some (.int .u32 0) ∧ W'.cell? ⟨W0.heap.size, 1, none⟩ = some (.int .u32 0) ∧ W'.cell? ⟨W0.heap.size, 2, none⟩ = some (.int .u32 0) ∧ W'.cell? ⟨W0.heap.size, 3, none⟩ = some (.bool false) ∧ W'.cell? ⟨W0.heap.size, 4, none⟩ = some (.bool false) ∧ W'.frozen? ⟨W0.heap.size, 0, none⟩ = false ∧ W'.frozen? ⟨W0.heap.size, 1, none⟩ = false ∧ W'.frozen? ⟨W0.heap.size, 2, none⟩ = false ∧ W'.frozen? ⟨W0.heap.size, 3, none⟩ = false ∧ W'.frozen? ⟨W0.heap.size, 4, none⟩ = false)) := fun W' r => ⟨r.c0, r.c1, r.c2, r.c3, r.c4, r.fz 0, r.fz 1, r.fz 2, r.fz 3, r.fz 4⟩
  have hA : Hid (∀ W, VmAt W V K B pl tn M → VmAt W.drew V K B pl tn M) := fun W p => p.kp0 (Kp.refl noB W).drew
  have hB : Hid (∀ W O, VmAt W V K B pl tn M → VmAt (W.alloc O) V K B pl tn M) := fun W O p => p.kp0 (Kp.alloc noB W O)
  go_enter Try.func69, Try.ntmps69
  go_upto_region 1 with fail
  rw [← hW0]
  clear hW0 hX
  go_region_held3 (fun W => (W.cell? ⟨V, 1, none⟩ = some (.pointer (some ⟨K + 1, 0, none⟩)) ∧ W.cell? ⟨X, 0, none⟩ = some (.bool wr) ∧ W.cell? ⟨X, 1, none⟩ = some (.bool us) ∧ W.cell? ⟨X, 2, none⟩ = some (.bool wp)))
    (first | with_reducible exact HS0.out | with_reducible exact HSD.out | with_reducible exact HSK.out _ _ HS0.out k4 | with_reducible exact HSK.out _ _ HSD.out k4 | with_reducible exact HSA.out _ _ (HSK.out _ _ HS0.out k4) | with_reducible exact HSF.out _ (HSK.out _ _ HSD.out k4))
    (first | (go_at_call 71; refine (HC.out _ (by assumption)).mono ?_; rintro e w4 ⟨rfl, hr4, k4⟩; (first | ((with_reducible have rz := HRZ.out _ k4); obtain ⟨z0, z1, z2, z3, z4, y0, y1, y2, y3, y4⟩ := HRF.out _ rz) | skip)))
  · have kA := (Kp.alloc noB w4 (.cells #[.int .u32 f, .int .u32 p, .int .u32 q, .bool x, .bool y] 142))
    have rW : RowK (w4.alloc (.cells #[.int .u32 f, .int .u32 p, .int .u32 q, .bool x, .bool y] 142)) w4.heap.size f p q x y := (MapKept.heap_alloc w4 _).1
    have k5 : Kp (modVm K B M'.n) w (w4.alloc (.cells #[.int .u32 f, .int .u32 p, .int .u32 q, .bool x, .bool y] 142)) := ((k0.mono (fun _ _ f => f.elim)).trans ⟨k4.os, k4.tape, k4.output, k4.size, k4.block⟩).trans (kA.mono (fun _ _ f => f.elim))
    obtain ⟨tn4, ht4, v4⟩ := hr4
    replace v4 := v4.kp0 kA
    obtain ⟨V5, hgen⟩ : ∃ W, W = (w4.alloc (.cells #[.int .u32 f, .int .u32 p, .int .u32 q, .bool x, .bool y] 142)) := ⟨_, rfl⟩
    rw [← hgen] at rW k5 v4 ⊢
    clear hgen kA k4 HS0 HSK HSA HSD HSF h0D h0A HRZ HRF hA hB HC h0 k0 rB
    have d0 := rW.c0
    rcases HE.out with ⟨rfl, he⟩ | ⟨hc, he⟩
    · have HE1 : Hid _ := he
      clear HE he
      go_wp2
      go_ret
      exact ⟨HE1.out.symm, ⟨tn4, ht4, v4⟩, k5⟩
    · have HE1 : Hid _ := he
      clear HE he
      go_wp2
      exact ⟨rfl, HE1.out.symm, ⟨tn4, ht4, v4⟩, k5⟩
  · have rW := ((((rz.s0 f).s1 p).s2 q).s3 x).s4 y
    have nV' : ∀ j, inVm V K B M'.n j → j ≠ W0.heap.size := fun j hj e => by
      subst e
      rcases hj with e | e
      · have := h0.lt; omega
      · exact nN e
    have k5 : Kp (modVm K B M'.n) w (((((w4.setCell ⟨W0.heap.size, 0, none⟩ (.int .u32 f)).setCell ⟨W0.heap.size, 1, none⟩ (.int .u32 p)).setCell ⟨W0.heap.size, 2, none⟩ (.int .u32 q)).setCell ⟨W0.heap.size, 3, none⟩ (.bool x)).setCell ⟨W0.heap.size, 4, none⟩ (.bool y)) :=
      Kp.five ((k0.mono (fun _ _ f => f.elim)).trans (((Kp.alloc noB W0 (.cells #[.int .u32 0, .int .u32 0, .int .u32 0, .bool false, .bool false] 142)).mono (fun _ _ f => f.elim)).trans ⟨k4.os, k4.tape, k4.output, k4.size, k4.block⟩)) (by have := k0.size; omega) _ _ _ _ _
    obtain ⟨tn4, ht4, v4⟩ := hr4
    replace v4 := v4.kp (Kp.five_in w4 W0.heap.size (.int .u32 f) (.int .u32 p) (.int .u32 q) (.bool x) (.bool y)) nV'
    obtain ⟨V5, hgen⟩ : ∃ W, W = (((((w4.setCell ⟨W0.heap.size, 0, none⟩ (.int .u32 f)).setCell ⟨W0.heap.size, 1, none⟩ (.int .u32 p)).setCell ⟨W0.heap.size, 2, none⟩ (.int .u32 q)).setCell ⟨W0.heap.size, 3, none⟩ (.bool x)).setCell ⟨W0.heap.size, 4, none⟩ (.bool y)) := ⟨_, rfl⟩
    rw [← hgen] at rW k5 v4 ⊢
    clear hgen k4 HS0 HSK HSA HSD HSF h0D h0A HRZ HRF hA hB HC h0 k0 rB z0 z1 z2 z3 z4 y0 y1 y2 y3 y4 rz
    have d0 := rW.c0
    rcases HE.out with ⟨rfl, he⟩ | ⟨hc, he⟩
    · have HE1 : Hid _ := he
      clear HE he
      go_wp2
      go_ret
      exact ⟨HE1.out.symm, ⟨tn4, ht4, v4⟩, k5⟩
    · have HE1 : Hid _ := he
      clear HE he
      go_wp2
      exact ⟨rfl, HE1.out.symm, ⟨tn4, ht4, v4⟩, k5⟩
end Go.Proofs.Ytmmnnafjikilpaa
