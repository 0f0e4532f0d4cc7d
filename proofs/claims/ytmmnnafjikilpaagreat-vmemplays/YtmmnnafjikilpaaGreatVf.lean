/- Texts on vmem, joined: TlFind. -/
import Derived.Test.YtmmnnafjikilpaaGreatVe
import Derived.Test.YtmmnnafjikilpaaGreatVg
/- The contract of Find: whatever is kept, it answers as a walk does, and leaves what a walk leaves. -/
namespace Go.Proofs.YtmmnnafjikilpaaGreat
open Go.ChangeShapes Go.WideShapes Go.ChangeAt Go.RowKit Go.Maps
set_option linter.unusedVariables false

theorem found_good {M : Mem} (h : RdB M) (hc : M.closed = false) {c l : Int} (c0 : 0 ≤ c) (c1 : c < 4294967296) (l0 : 0 ≤ l) (l1 : l < 4294967296) {wr us wp : Bool} {f p q : Int} {x y : Bool} (hwk : fWalk M c l wr us wp = walkV f p q x y) (hcd : fCode M c l wr us wp = -1) (tn : Int) :
    Good (c - c % 4096) (l - l % 4096) ⟨f, p, q, x, y, (fMem M c l wr us wp).read p 4, (fMem M c l wr us wp).read q 4, tn⟩ ∧ (0 ≤ p ∧ p < 4294967296 ∧ 0 ≤ q ∧ q < 4294967296) := by
  have ho : fOk M c l wr us wp = true := by rw [← code_ok, hcd]; rfl
  have pb := pdeA_bd c0 c1 l0 l1
  have qb := fPte_bd h c l l0 l1
  unfold fWalk at hwk
  rw [if_pos ho] at hwk
  unfold walkV at hwk
  simp at hwk
  obtain ⟨rfl, rfl, rfl, rfl, rfl⟩ := hwk
  exact ⟨entOf_good h hc c0 c1 l0 l1 ho tn, pb.1, pb.2, qb.1, qb.2⟩

theorem fCode_bd0 (M : Mem) (c l : Int) (wr us wp : Bool) : -1 ≤ fCode M c l wr us wp ∧ fCode M c l wr us wp ≤ 7 := by
  have := codeW_bd wr us
  unfold fCode
  split
  · split <;> omega
  · omega

theorem fWalk_is0 (M : Mem) (c l : Int) (wr us wp : Bool) : ∃ (f p q : Int) (a b : Bool), fWalk M c l wr us wp = walkV f p q a b := by
  unfold fWalk
  split
  · exact ⟨_, _, _, _, _, rfl⟩
  · exact ⟨_, _, _, _, _, rfl⟩

def TfPost (w : World) (K B pl tn : Nat) (M : Mem) (c l : Int) (wr us wp : Bool) (e : Ending) (w' : World) : Prop :=
  e = .returned (.tuple #[fWalk M c l wr us wp, .int .i64 (fCode M c l wr us wp), .int .i64 0]) ∧ RamAt w' B (fMem M c l wr us wp) ∧ (∃ D' tn', TlbD w' K B pl tn' D' ∧ tn' ≤ tn + 1) ∧ Kp (fun j => inRam B M.n j ∨ inTlb K j) w w'

set_option maxRecDepth 100000 in
set_option maxHeartbeats 20000000 in
theorem tlFind_ok (w : World) (K B pl tn : Nat) (D : DataW Unit) (M : Mem) (h : TlbD w K B pl tn D) (hr : RamAt w B M) (hMc : M.closed = false) (c l : Int) (wr us wp : Bool) (c0 : 0 ≤ c) (c1 : c < 4294967296) (l0 : 0 ≤ l) (l1 : l < 4294967296)
    (htn : tn < 18446744073709551614) (hBK : ∀ j, inTlb K j → ¬ inRam B M.n j) :
    Calls Tryz.prog 94 #[.pointer (some ⟨K + 1, 0, none⟩), .int .u32 c, .int .u32 l, wayV wr us wp] w (TfPost w K B pl tn M c l wr us wp) := by
  unfold wayV
  have n1 := not4095 c0 c1
  have n2 := not4095 l0 l1
  obtain ⟨X, hX⟩ : ∃ X, w.heap.size = X := ⟨_, rfl⟩
  have HX : Hid (w.heap.size = X) := hX
  obtain ⟨W0, hW0⟩ : ∃ W, W = ((w.alloc (.cells #[.bool wr, .bool us, .bool wp] 132)).alloc (.cells #[.int .u32 0, .int .u32 0, .int .u32 0, .bool false, .bool false] 145)).alloc (.cells #[.int .u32 (c - c % 4096), .int .u32 (l - l % 4096)] 149) := ⟨_, rfl⟩
  have k0 : Kp noB w W0 := by rw [hW0]; exact ((Kp.alloc _ _ _).trans (Kp.alloc _ _ _)).trans (Kp.alloc _ _ _)
  have hs0 : W0.heap.size = X + 3 := by rw [hW0]; simp [hX]
  have rB : RowB W0 X wr us wp := by
    rw [hW0]
    have e0 := (MapKept.heap_alloc w (.cells #[.bool wr, .bool us, .bool wp] 132)).1
    rw [hX] at e0
    exact (Below.heap_alloc _ _ _ (by simp; omega)).trans ((Below.heap_alloc _ _ _ (by simp; omega)).trans e0)
  have rK : RowK W0 (X + 1) 0 0 0 false false := by
    rw [hW0]
    have e0 := (MapKept.heap_alloc (w.alloc (.cells #[.bool wr, .bool us, .bool wp] 132)) (.cells #[.int .u32 0, .int .u32 0, .int .u32 0, .bool false, .bool false] 145)).1
    have e1 : (w.alloc (.cells #[.bool wr, .bool us, .bool wp] 132)).heap.size = X + 1 := by simp [hX]
    rw [e1] at e0
    exact (Below.heap_alloc _ _ _ (by simp; omega)).trans e0
  have rY : RowKy W0 (X + 2) (c - c % 4096) (l - l % 4096) := by
    rw [hW0]
    have e0 := (MapKept.heap_alloc ((w.alloc (.cells #[.bool wr, .bool us, .bool wp] 132)).alloc (.cells #[.int .u32 0, .int .u32 0, .int .u32 0, .bool false, .bool false] 145)) (.cells #[.int .u32 (c - c % 4096), .int .u32 (l - l % 4096)] 149)).1
    have e1 : ((w.alloc (.cells #[.bool wr, .bool us, .bool wp] 132)).alloc (.cells #[.int .u32 0, .int .u32 0, .int .u32 0, .bool false, .bool false] 145)).heap.size = X + 2 := by simp [hX]
    rw [e1] at e0
    exact e0
  have h0 : RamAt W0 B M := hr.kp k0 (fun _ _ f => f)
  have t0 : TlbD W0 K B pl tn D := h.kp k0 (fun _ _ f => f)
  have hKX : K + 1 < X := by rw [← hX]; exact h.lt
  have HRX : Hid (B + 4 + M.n ≤ X) := by rw [← hX]; exact hr.lt
  clear hr h
  go_enter Tryz.func94, Tryz.ntmps94
  go_upto_region 4 with fail
  rw [← hW0]
  clear hW0
  have hb : 0 ≤ (c - c % 4096) ∧ (c - c % 4096) < 4294967296 ∧ 0 ≤ (l - l % 4096) ∧ (l - l % 4096) < 4294967296 := by omega
  have c2 := t0.c2
  have d0 := rY.c0; have d1 := rY.c1
  obtain ⟨e, hlka, hgood⟩ := t0.look hb
  have HGd : Hid (Maps.has D (kl (c - c % 4096) (l - l % 4096)) = true → Good (c - c % 4096) (l - l % 4096) e ∧ 0 ≤ e.tn ∧ e.tn ≤ tn) := hgood
  obtain ⟨fr', p', q', bw', bu', o', t', en'⟩ := e
  obtain ⟨hs, hhs⟩ : ∃ s, s = Maps.has D (kl (c - c % 4096) (l - l % 4096)) := ⟨_, rfl⟩
  rw [← hhs] at hlka HGd
  clear hhs hgood
  unfold keyV Ent.val at hlka
  simp only at hlka
  have tZ := t0.alloc (.cells #[.int .u32 0, .int .u32 0, .int .u32 0, .bool false, .bool false, .int .u32 0, .int .u32 0, .int .u64 0] 168)
  have rZ := rY.kp (Kp.alloc noB W0 (.cells #[.int .u32 0, .int .u32 0, .int .u32 0, .bool false, .bool false, .int .u32 0, .int .u32 0, .int .u64 0] 168)) (fun f => f)
  have c2Z := tZ.c2
  have d0Z := rZ.c0; have d1Z := rZ.c1
  have hlk := hlka W0.drew tn (t0.kept (fun _ _ => rfl))
  have hlk2 := hlka (W0.alloc (.cells #[.int .u32 0, .int .u32 0, .int .u32 0, .bool false, .bool false, .int .u32 0, .int .u32 0, .int .u64 0] 168)).drew tn (tZ.kept (fun _ _ => rfl))
  clear tZ rZ hlka
  go_region
  all_goals
    obtain ⟨W2, hW2⟩ : ∃ W, W = (W0.alloc (.cells #[.int .u32 fr', .int .u32 p', .int .u32 q', .bool bw', .bool bu', .int .u32 o', .int .u32 t', .int .u64 en'] 168)).drew := ⟨_, rfl⟩
    rw [← hW2]
    have k2 : Kp noB W0 W2 := by rw [hW2]; exact (Kp.alloc _ _ _).drew
    have rF : W2.heap[X + 3]? = some (.cells #[.int .u32 fr', .int .u32 p', .int .u32 q', .bool bw', .bool bu', .int .u32 o', .int .u32 t', .int .u64 en'] 168 (0, 0)) := by
      rw [hW2, ← hs0]
      exact (MapKept.heap_alloc W0 _).1
    replace t0 := t0.kp k2 (fun _ _ f => f)
    replace h0 := h0.kp k2 (fun _ _ f => f)
    replace rY := rY.kp k2 (fun f => f)
    replace rK := rK.kp k2 (fun f => f)
    replace rB := rB.kp k2 (fun f => f)
    replace k0 := k0.trans k2
    clear hW2 k2 c2 d0 d1 c2Z d0Z d1Z hlk hlk2 hs0 n1 n2
    have hcase : hs = false ∨ (hs = true ∧ (o' == M.read p' 4) = false) ∨ (hs = true ∧ (o' == M.read p' 4) = true ∧ (t' == M.read q' 4) = false) ∨ (hs = true ∧ (o' == M.read p' 4) = true ∧ (t' == M.read q' 4) = true ∧ servesB ⟨fr', p', q', bw', bu', o', t', en'⟩ wr us = true) ∨ (hs = true ∧ (o' == M.read p' 4) = true ∧ (t' == M.read q' 4) = true ∧ servesB ⟨fr', p', q', bw', bu', o', t', en'⟩ wr us = false) := by
      cases hs
      · exact .inl rfl
      · cases (o' == M.read p' 4)
        · exact .inr (.inl ⟨rfl, rfl⟩)
        · cases (t' == M.read q' 4)
          · exact .inr (.inr (.inl ⟨rfl, rfl, rfl⟩))
          · cases servesB ⟨fr', p', q', bw', bu', o', t', en'⟩ wr us
            · exact .inr (.inr (.inr (.inr ⟨rfl, rfl, rfl, rfl⟩)))
            · exact .inr (.inr (.inr (.inl ⟨rfl, rfl, rfl, rfl⟩)))
    rcases hcase with rfl | ⟨rfl, e1⟩ | ⟨rfl, e1, e2⟩ | ⟨rfl, e1, e2, esv⟩ | ⟨rfl, e1, e2, esv⟩
    · -- nothing is kept
      rename TlbD W2 K B pl tn D => t1
      replace k0 : Kp (fun j => inRam B M.n j ∨ inTlb K j) w W2 := k0.mono (fun _ _ f => f.elim)
      clear HGd rF
      have hVX : X + 2 < W2.heap.size := rY.lt
      have hVR : B + 4 + M.n ≤ W2.heap.size := h0.lt
      have hVK : K + 1 < W2.heap.size := t1.lt
      obtain ⟨f, p, q, x, y, hwk⟩ := fWalk_is0 M c l wr us wp
      have HG : Hid (fCode M c l wr us wp = -1 → Good (c - c % 4096) (l - l % 4096) ⟨f, p, q, x, y, (fMem M c l wr us wp).read p 4, (fMem M c l wr us wp).read q 4, ((tn + 1 : Nat) : Int)⟩ ∧ (0 ≤ p ∧ p < 4294967296 ∧ 0 ≤ q ∧ q < 4294967296)) := fun e => found_good h0.rdB hMc c0 c1 l0 l1 hwk e _
      have HC : Hid (∀ W, RamAt W B M → Calls Tryz.prog 97 #[.pointer (some ⟨B + 3, 0, none⟩), .int .u32 c, .int .u32 l, .agg #[.bool wr, .bool us, .bool wp]] W (fun e w' => e = .returned (.tuple #[.agg #[.int .u32 f, .int .u32 p, .int .u32 q, .bool x, .bool y], .int .i64 (fCode M c l wr us wp), .int .i64 0]) ∧ RamAt w' B (fMem M c l wr us wp) ∧ Kp (inRam B M.n) W w')) := fun W hW => by
        have := find_ok W B M hW c l wr us wp c0 c1 l0 l1
        unfold FdPost at this
        rw [hwk] at this
        exact this
      have HWk : Hid (fWalk M c l wr us wp = walkV f p q x y) := hwk
      have hsm := (fMem_same M c l wr us wp).1
      have hcb := fCode_bd0 M c l wr us wp
      obtain ⟨M', hM'⟩ : ∃ M', M' = fMem M c l wr us wp := ⟨_, rfl⟩
      obtain ⟨cd, hcd⟩ : ∃ cd, cd = fCode M c l wr us wp := ⟨_, rfl⟩
      have HMm : Hid (fMem M c l wr us wp = M') := hM'.symm
      have HCd : Hid (fCode M c l wr us wp = cd) := hcd.symm
      rw [← hM'] at HC HG hsm
      rw [← hcd] at HC HG hcb
      have hM1 : M'.n = M.n := hsm
      obtain ⟨cb0, cb1⟩ := hcb
      clear hwk hsm hM' hcd
      have nK1 : ¬ inRam B M.n (K + 1) := hBK _ (.inr rfl)
      have nXr : ¬ inRam B M.n X := fun f => by have := f.2; have := HRX.out; omega
      have nNew : ¬ inRam B M.n W2.heap.size := fun f => by have := f.2; omega
      have s8 : (W2.cell? ⟨K + 1, 0, none⟩ = some (.pointer (some ⟨B + 3, 0, none⟩)) ∧ W2.cell? ⟨X, 0, none⟩ = some (.bool wr) ∧ W2.cell? ⟨X, 1, none⟩ = some (.bool us) ∧ W2.cell? ⟨X, 2, none⟩ = some (.bool wp)) := ⟨t1.c0, rB.c0, rB.c1, rB.c2⟩
      have HSG : Hid (∀ (T : Nat → Prop) (W W' : World), Kp T W W' → ¬ T (K + 1) → ¬ T X → (W.cell? ⟨K + 1, 0, none⟩ = some (.pointer (some ⟨B + 3, 0, none⟩)) ∧ W.cell? ⟨X, 0, none⟩ = some (.bool wr) ∧ W.cell? ⟨X, 1, none⟩ = some (.bool us) ∧ W.cell? ⟨X, 2, none⟩ = some (.bool wp)) → (W'.cell? ⟨K + 1, 0, none⟩ = some (.pointer (some ⟨B + 3, 0, none⟩)) ∧ W'.cell? ⟨X, 0, none⟩ = some (.bool wr) ∧ W'.cell? ⟨X, 1, none⟩ = some (.bool us) ∧ W'.cell? ⟨X, 2, none⟩ = some (.bool wp))) := fun T W W' k h1 h2 ⟨a0, a1, a2, a3⟩ => ⟨cell_kp a0 k h1, cell_kp a1 k h2, cell_kp a2 k h2, cell_kp a3 k h2⟩
      have HS0 : Hid (W2.drew.cell? ⟨K + 1, 0, none⟩ = some (.pointer (some ⟨B + 3, 0, none⟩)) ∧ W2.drew.cell? ⟨X, 0, none⟩ = some (.bool wr) ∧ W2.drew.cell? ⟨X, 1, none⟩ = some (.bool us) ∧ W2.drew.cell? ⟨X, 2, none⟩ = some (.bool wp)) := s8
      have HSD : Hid ((W2.alloc (.cells #[.int .u32 0, .int .u32 0, .int .u32 0, .bool false, .bool false] 145)).drew.cell? ⟨K + 1, 0, none⟩ = some (.pointer (some ⟨B + 3, 0, none⟩)) ∧ (W2.alloc (.cells #[.int .u32 0, .int .u32 0, .int .u32 0, .bool false, .bool false] 145)).drew.cell? ⟨X, 0, none⟩ = some (.bool wr) ∧ (W2.alloc (.cells #[.int .u32 0, .int .u32 0, .int .u32 0, .bool false, .bool false] 145)).drew.cell? ⟨X, 1, none⟩ = some (.bool us) ∧ (W2.alloc (.cells #[.int .u32 0, .int .u32 0, .int .u32 0, .bool false, .bool false] 145)).drew.cell? ⟨X, 2, none⟩ = some (.bool wp)) := HSG.out noB W2 _ ((Kp.alloc noB W2 (.cells #[.int .u32 0, .int .u32 0, .int .u32 0, .bool false, .bool false] 145)).drew) (fun f => f) (fun f => f) s8
      have HSK : Hid (∀ W W', Kp (inRam B M.n) W W' → (W.cell? ⟨K + 1, 0, none⟩ = some (.pointer (some ⟨B + 3, 0, none⟩)) ∧ W.cell? ⟨X, 0, none⟩ = some (.bool wr) ∧ W.cell? ⟨X, 1, none⟩ = some (.bool us) ∧ W.cell? ⟨X, 2, none⟩ = some (.bool wp)) → (W'.cell? ⟨K + 1, 0, none⟩ = some (.pointer (some ⟨B + 3, 0, none⟩)) ∧ W'.cell? ⟨X, 0, none⟩ = some (.bool wr) ∧ W'.cell? ⟨X, 1, none⟩ = some (.bool us) ∧ W'.cell? ⟨X, 2, none⟩ = some (.bool wp))) := fun W W' k => HSG.out _ W W' k nK1 nXr
      have HSA : Hid (∀ (W : World) (O : Obj), (W.cell? ⟨K + 1, 0, none⟩ = some (.pointer (some ⟨B + 3, 0, none⟩)) ∧ W.cell? ⟨X, 0, none⟩ = some (.bool wr) ∧ W.cell? ⟨X, 1, none⟩ = some (.bool us) ∧ W.cell? ⟨X, 2, none⟩ = some (.bool wp)) → ((W.alloc O).cell? ⟨K + 1, 0, none⟩ = some (.pointer (some ⟨B + 3, 0, none⟩)) ∧ (W.alloc O).cell? ⟨X, 0, none⟩ = some (.bool wr) ∧ (W.alloc O).cell? ⟨X, 1, none⟩ = some (.bool us) ∧ (W.alloc O).cell? ⟨X, 2, none⟩ = some (.bool wp))) := fun W O => HSG.out noB W _ (Kp.alloc noB W O) (fun f => f) (fun f => f)
      have HSF : Hid (∀ (W : World), (W.cell? ⟨K + 1, 0, none⟩ = some (.pointer (some ⟨B + 3, 0, none⟩)) ∧ W.cell? ⟨X, 0, none⟩ = some (.bool wr) ∧ W.cell? ⟨X, 1, none⟩ = some (.bool us) ∧ W.cell? ⟨X, 2, none⟩ = some (.bool wp)) → ((((((W.setCell ⟨W2.heap.size, 0, none⟩ (.int .u32 f)).setCell ⟨W2.heap.size, 1, none⟩ (.int .u32 p)).setCell ⟨W2.heap.size, 2, none⟩ (.int .u32 q)).setCell ⟨W2.heap.size, 3, none⟩ (.bool x)).setCell ⟨W2.heap.size, 4, none⟩ (.bool y)).cell? ⟨K + 1, 0, none⟩ = some (.pointer (some ⟨B + 3, 0, none⟩)) ∧ (((((W.setCell ⟨W2.heap.size, 0, none⟩ (.int .u32 f)).setCell ⟨W2.heap.size, 1, none⟩ (.int .u32 p)).setCell ⟨W2.heap.size, 2, none⟩ (.int .u32 q)).setCell ⟨W2.heap.size, 3, none⟩ (.bool x)).setCell ⟨W2.heap.size, 4, none⟩ (.bool y)).cell? ⟨X, 0, none⟩ = some (.bool wr) ∧ (((((W.setCell ⟨W2.heap.size, 0, none⟩ (.int .u32 f)).setCell ⟨W2.heap.size, 1, none⟩ (.int .u32 p)).setCell ⟨W2.heap.size, 2, none⟩ (.int .u32 q)).setCell ⟨W2.heap.size, 3, none⟩ (.bool x)).setCell ⟨W2.heap.size, 4, none⟩ (.bool y)).cell? ⟨X, 1, none⟩ = some (.bool us) ∧ (((((W.setCell ⟨W2.heap.size, 0, none⟩ (.int .u32 f)).setCell ⟨W2.heap.size, 1, none⟩ (.int .u32 p)).setCell ⟨W2.heap.size, 2, none⟩ (.int .u32 q)).setCell ⟨W2.heap.size, 3, none⟩ (.bool x)).setCell ⟨W2.heap.size, 4, none⟩ (.bool y)).cell? ⟨X, 2, none⟩ = some (.bool wp))) := fun W => HSG.out _ W _ (Kp.five_in W W2.heap.size _ _ _ _ _) (by omega) (by omega)
      have ha1 : RamAt W2.drew B M := h0.kept (fun _ _ => rfl)
      have ha2 : RamAt (W2.alloc (.cells #[.int .u32 0, .int .u32 0, .int .u32 0, .bool false, .bool false] 145)).drew B M := h0.kp ((Kp.alloc noB W2 (.cells #[.int .u32 0, .int .u32 0, .int .u32 0, .bool false, .bool false] 145)).drew) (fun _ _ f => f)
      have HRZ : Hid (∀ W', Kp (inRam B M.n) (W2.alloc (.cells #[.int .u32 0, .int .u32 0, .int .u32 0, .bool false, .bool false] 145)).drew W' → RowK W' W2.heap.size 0 0 0 false false) := fun W' k => by
        have r : RowK (W2.alloc (.cells #[.int .u32 0, .int .u32 0, .int .u32 0, .bool false, .bool false] 145)).drew W2.heap.size 0 0 0 false false := (MapKept.heap_alloc W2 (.cells #[.int .u32 0, .int .u32 0, .int .u32 0, .bool false, .bool false] 145)).1
        exact r.kp k nNew
      have HRF : Hid (∀ W', RowK W' W2.heap.size 0 0 0 false false → (W'.cell? ⟨W2.heap.size, 0, none⟩ = some (.int .u32 0) ∧ W'.cell? ⟨W2.heap.size, 1, none⟩ = some (.int .u32 0) ∧ W'.cell? ⟨W2.heap.size, 2, none⟩ = some (.int .u32 0) ∧ W'.cell? ⟨W2.heap.size, 3, none⟩ = some (.bool false) ∧ W'.cell? ⟨W2.heap.size, 4, none⟩ = some (.bool false) ∧ W'.frozen? ⟨W2.heap.size, 0, none⟩ = false ∧ W'.frozen? ⟨W2.heap.size, 1, none⟩ = false ∧ W'.frozen? ⟨W2.heap.size, 2, none⟩ = false ∧ W'.frozen? ⟨W2.heap.size, 3, none⟩ = false ∧ W'.frozen? ⟨W2.heap.size, 4, none⟩ = false)) := fun W' r => ⟨r.c0, r.c1, r.c2, r.c3, r.c4, r.fz 0, r.fz 1, r.fz 2, r.fz 3, r.fz 4⟩
      clear s8
      go_upto_region 10 with fail
      go_region_held3 (fun W => (W.cell? ⟨K + 1, 0, none⟩ = some (.pointer (some ⟨B + 3, 0, none⟩)) ∧ W.cell? ⟨X, 0, none⟩ = some (.bool wr) ∧ W.cell? ⟨X, 1, none⟩ = some (.bool us) ∧ W.cell? ⟨X, 2, none⟩ = some (.bool wp)))
        (first | with_reducible exact HS0.out | with_reducible exact HSD.out | with_reducible exact HSK.out _ _ k4 HS0.out | with_reducible exact HSK.out _ _ k4 HSD.out | with_reducible exact HSA.out _ _ (HSK.out _ _ k4 HS0.out) | with_reducible exact HSF.out _ (HSK.out _ _ k4 HSD.out))
        (first
          | (go_at_call 97; refine (HC.out _ (by assumption)).mono ?_; rintro e w4 ⟨rfl, hr4, k4⟩; (first | ((with_reducible have rz := HRZ.out _ k4); obtain ⟨z0, z1, z2, z3, z4, y0, y1, y2, y3, y4⟩ := HRF.out _ rz) | skip)))
      · have k4' : Kp (inRam B M.n) W2 w4 := ⟨k4.os, k4.tape, k4.output, k4.size, k4.block⟩
        have kA := Kp.alloc noB w4 (.cells #[.int .u32 f, .int .u32 p, .int .u32 q, .bool x, .bool y] 145)
        have rW : RowK (w4.alloc (.cells #[.int .u32 f, .int .u32 p, .int .u32 q, .bool x, .bool y] 145)) w4.heap.size f p q x y := (MapKept.heap_alloc w4 _).1
        have hY : W2.heap.size ≤ w4.heap.size := k4'.size
        replace k4' : Kp (inRam B M.n) W2 (w4.alloc (.cells #[.int .u32 f, .int .u32 p, .int .u32 q, .bool x, .bool y] 145)) := k4'.over kA (fun _ _ f => f.elim)
        have h5 : RamAt (w4.alloc (.cells #[.int .u32 f, .int .u32 p, .int .u32 q, .bool x, .bool y] 145)) B M' := hr4.kp kA (fun _ _ f => f)
        have t5 := t1.kp k4' (fun j hj => hBK j hj)
        replace rY := rY.kp k4' (fun f => by have := f.2; have := HRX.out; omega)
        replace rK := rK.kp k4' (fun f => by have := f.2; have := HRX.out; omega)
        have k5 := k0.trans (k4'.mono (fun _ _ f => .inl f))
        clear HS0 HSD HSK HSA HSF HRZ HRF ha1 ha2 k4' k4 kA t1 h0 rB k0 hr4 HC HSG
        obtain ⟨Y, hYe⟩ : ∃ Y, Y = w4.heap.size := ⟨_, rfl⟩
        obtain ⟨V5, hgen⟩ : ∃ W, W = (w4.alloc (.cells #[.int .u32 f, .int .u32 p, .int .u32 q, .bool x, .bool y] 145)) := ⟨_, rfl⟩
        rw [← hgen] at rW h5 t5 rY rK k5 ⊢
        rw [← hYe] at rW hY ⊢
        have hYX : X + 2 < Y := by omega
        clear hYe hgen nNew hVX hVR hVK hY
        have d0 := rW.c0; have d1 := rW.c1; have d2 := rW.c2; have d3 := rW.c3; have d4 := rW.c4
        by_cases hcd : cd = -1
        · have hcb : (cd == -1) = true := by rw [hcd]; rfl
          obtain ⟨hg, g0, g1, g2, g3⟩ := HG.out hcd
          clear hcd
          have cK := keep_ok V5 K B pl tn D M' t5 h5 (c - c % 4096) (l - l % 4096) f p q x y hb g0 g1 g2 g3 htn hg (by rw [hM1]; exact hBK)
          unfold keyV walkV at cK
          have y0 := rY.c0; have y1 := rY.c1
          clear HG
          go_wp2_with fail
          refine cK.mono ?_; rintro e w6 ⟨rfl, ⟨D6, tn6, t6, ht6⟩, k6⟩
          have nY : ¬ inTlb K Y := fun f => by rcases f with e | e <;> omega
          have nX1 : ¬ inTlb K (X + 1) := fun f => by rcases f with e | e <;> omega
          replace rW := rW.kp k6 nY
          replace rK := rK.kp k6 nX1
          replace h5 := h5.kp k6 (fun j hj f => hBK j f (by rw [hM1] at hj; exact hj))
          replace k5 := k5.trans (k6.mono (fun _ _ f => .inr f))
          clear cK k6 nY nX1 t5 y0 y1 d0 d1 d2 d3 d4
          have d0 := rW.c0; have d1 := rW.c1; have d2 := rW.c2; have d3 := rW.c3; have d4 := rW.c4
          have z0 := rK.c0; have z1 := rK.c1; have z2 := rK.c2; have z3 := rK.c3; have z4 := rK.c4
          have f0 := rK.fz 0; have f1 := rK.fz 1; have f2 := rK.fz 2; have f3 := rK.fz 3; have f4 := rK.fz 4
          have v0 := rK.s0 f
          have v1 := v0.s1 p
          have v2 := v1.s2 q
          have v3 := v2.s3 x
          have v4 := v3.s4 y
          go_wp2
          refine bodyPost_ret (v := .tuple #[.agg #[.int .u32 f, .int .u32 p, .int .u32 q, .bool x, .bool y], .int .i64 cd, .int .i64 0]) ?_ rfl ⟨by rw [HWk.out, HCd.out]; rfl, ?_, ⟨D6, tn6, ?_, ht6⟩, ?_⟩
          · simp [results, Tryz.results94, go_sem, v0.c0, v1.c1, v2.c2, v3.c3, v4.c4]
          · rw [HMm.out]; exact h5.kp (Kp.five_in _ (X + 1) _ _ _ _ _) (fun j hj e => by have := HRX.out; rw [hM1] at hj; have := hj.2; omega)
          · exact t6.kp (Kp.five_in _ (X + 1) _ _ _ _ _) (fun j hj e => by rcases hj with f | f <;> omega)
          · exact k5.five (by have := HX.out; omega) _ _ _ _ _
        · have hcb : (cd == -1) = false := by simpa using hcd
          have z0 := rK.c0; have z1 := rK.c1; have z2 := rK.c2; have z3 := rK.c3; have z4 := rK.c4
          have f0 := rK.fz 0; have f1 := rK.fz 1; have f2 := rK.fz 2; have f3 := rK.fz 3; have f4 := rK.fz 4
          have v0 := rK.s0 f
          have v1 := v0.s1 p
          have v2 := v1.s2 q
          have v3 := v2.s3 x
          have v4 := v3.s4 y
          clear HG
          go_wp2
          refine bodyPost_ret (v := .tuple #[.agg #[.int .u32 f, .int .u32 p, .int .u32 q, .bool x, .bool y], .int .i64 cd, .int .i64 0]) ?_ rfl ⟨by rw [HWk.out, HCd.out]; rfl, ?_, ⟨D, tn, ?_, by omega⟩, ?_⟩
          · simp [results, Tryz.results94, go_sem, v0.c0, v1.c1, v2.c2, v3.c3, v4.c4]
          · rw [HMm.out]; exact h5.kp (Kp.five_in _ (X + 1) _ _ _ _ _) (fun j hj e => by have := HRX.out; rw [hM1] at hj; have := hj.2; omega)
          · exact t5.kp (Kp.five_in _ (X + 1) _ _ _ _ _) (fun j hj e => by rcases hj with f | f <;> omega)
          · exact k5.five (by have := HX.out; omega) _ _ _ _ _
      · have k4' : Kp (inRam B M.n) (W2.alloc (.cells #[.int .u32 0, .int .u32 0, .int .u32 0, .bool false, .bool false] 145)) w4 := ⟨k4.os, k4.tape, k4.output, k4.size, k4.block⟩
        have kA : Kp (inRam B M.n) W2 (W2.alloc (.cells #[.int .u32 0, .int .u32 0, .int .u32 0, .bool false, .bool false] 145)) := Kp.alloc _ W2 _
        replace k4' := kA.trans k4'
        have rW : RowK (((((w4.setCell ⟨W2.heap.size, 0, none⟩ (.int .u32 f)).setCell ⟨W2.heap.size, 1, none⟩ (.int .u32 p)).setCell ⟨W2.heap.size, 2, none⟩ (.int .u32 q)).setCell ⟨W2.heap.size, 3, none⟩ (.bool x)).setCell ⟨W2.heap.size, 4, none⟩ (.bool y)) W2.heap.size f p q x y := ((((rz.s0 f).s1 p).s2 q).s3 x).s4 y
        have kF := Kp.five_in w4 W2.heap.size (.int .u32 f) (.int .u32 p) (.int .u32 q) (.bool x) (.bool y)
        have h5 : RamAt (((((w4.setCell ⟨W2.heap.size, 0, none⟩ (.int .u32 f)).setCell ⟨W2.heap.size, 1, none⟩ (.int .u32 p)).setCell ⟨W2.heap.size, 2, none⟩ (.int .u32 q)).setCell ⟨W2.heap.size, 3, none⟩ (.bool x)).setCell ⟨W2.heap.size, 4, none⟩ (.bool y)) B M' := hr4.kp kF (fun j hj e => nNew (by rw [← hM1, ← e]; exact hj))
        have t5 := (t1.kp k4' (fun j hj => hBK j hj)).kp kF (fun j hj e => by rcases hj with g | g <;> omega)
        replace rY := (rY.kp k4' (fun f => by have := f.2; have := HRX.out; omega)).kp kF (by omega)
        replace rK := (rK.kp k4' (fun f => by have := f.2; have := HRX.out; omega)).kp kF (by omega)
        have k5 : Kp (fun j => inRam B M.n j ∨ inTlb K j) w (((((w4.setCell ⟨W2.heap.size, 0, none⟩ (.int .u32 f)).setCell ⟨W2.heap.size, 1, none⟩ (.int .u32 p)).setCell ⟨W2.heap.size, 2, none⟩ (.int .u32 q)).setCell ⟨W2.heap.size, 3, none⟩ (.bool x)).setCell ⟨W2.heap.size, 4, none⟩ (.bool y)) := (k0.trans (k4'.mono (fun _ _ f => .inl f))).five (by have := HX.out; omega) _ _ _ _ _
        clear HS0 HSD HSK HSA HSF HRZ HRF ha1 ha2 k4' k4 kA kF t1 h0 rB k0 hr4 HC HSG rz z0 z1 z2 z3 z4 y0 y1 y2 y3 y4
        obtain ⟨Y, hYe⟩ : ∃ Y, Y = W2.heap.size := ⟨_, rfl⟩
        obtain ⟨V5, hgen⟩ : ∃ W, W = (((((w4.setCell ⟨W2.heap.size, 0, none⟩ (.int .u32 f)).setCell ⟨W2.heap.size, 1, none⟩ (.int .u32 p)).setCell ⟨W2.heap.size, 2, none⟩ (.int .u32 q)).setCell ⟨W2.heap.size, 3, none⟩ (.bool x)).setCell ⟨W2.heap.size, 4, none⟩ (.bool y)) := ⟨_, rfl⟩
        rw [← hgen] at rW h5 t5 rY rK k5 ⊢
        rw [← hYe] at rW ⊢
        have hYX : X + 2 < Y := by omega
        clear hYe hgen nNew hVX hVR hVK
        have d0 := rW.c0; have d1 := rW.c1; have d2 := rW.c2; have d3 := rW.c3; have d4 := rW.c4
        by_cases hcd : cd = -1
        · have hcb : (cd == -1) = true := by rw [hcd]; rfl
          obtain ⟨hg, g0, g1, g2, g3⟩ := HG.out hcd
          clear hcd
          have cK := keep_ok V5 K B pl tn D M' t5 h5 (c - c % 4096) (l - l % 4096) f p q x y hb g0 g1 g2 g3 htn hg (by rw [hM1]; exact hBK)
          unfold keyV walkV at cK
          have y0 := rY.c0; have y1 := rY.c1
          clear HG
          go_wp2_with fail
          refine cK.mono ?_; rintro e w6 ⟨rfl, ⟨D6, tn6, t6, ht6⟩, k6⟩
          have nY : ¬ inTlb K Y := fun f => by rcases f with e | e <;> omega
          have nX1 : ¬ inTlb K (X + 1) := fun f => by rcases f with e | e <;> omega
          replace rW := rW.kp k6 nY
          replace rK := rK.kp k6 nX1
          replace h5 := h5.kp k6 (fun j hj f => hBK j f (by rw [hM1] at hj; exact hj))
          replace k5 := k5.trans (k6.mono (fun _ _ f => .inr f))
          clear cK k6 nY nX1 t5 y0 y1 d0 d1 d2 d3 d4
          have d0 := rW.c0; have d1 := rW.c1; have d2 := rW.c2; have d3 := rW.c3; have d4 := rW.c4
          have z0 := rK.c0; have z1 := rK.c1; have z2 := rK.c2; have z3 := rK.c3; have z4 := rK.c4
          have f0 := rK.fz 0; have f1 := rK.fz 1; have f2 := rK.fz 2; have f3 := rK.fz 3; have f4 := rK.fz 4
          have v0 := rK.s0 f
          have v1 := v0.s1 p
          have v2 := v1.s2 q
          have v3 := v2.s3 x
          have v4 := v3.s4 y
          go_wp2
          refine bodyPost_ret (v := .tuple #[.agg #[.int .u32 f, .int .u32 p, .int .u32 q, .bool x, .bool y], .int .i64 cd, .int .i64 0]) ?_ rfl ⟨by rw [HWk.out, HCd.out]; rfl, ?_, ⟨D6, tn6, ?_, ht6⟩, ?_⟩
          · simp [results, Tryz.results94, go_sem, v0.c0, v1.c1, v2.c2, v3.c3, v4.c4]
          · rw [HMm.out]; exact h5.kp (Kp.five_in _ (X + 1) _ _ _ _ _) (fun j hj e => by have := HRX.out; rw [hM1] at hj; have := hj.2; omega)
          · exact t6.kp (Kp.five_in _ (X + 1) _ _ _ _ _) (fun j hj e => by rcases hj with f | f <;> omega)
          · exact k5.five (by have := HX.out; omega) _ _ _ _ _
        · have hcb : (cd == -1) = false := by simpa using hcd
          have z0 := rK.c0; have z1 := rK.c1; have z2 := rK.c2; have z3 := rK.c3; have z4 := rK.c4
          have f0 := rK.fz 0; have f1 := rK.fz 1; have f2 := rK.fz 2; have f3 := rK.fz 3; have f4 := rK.fz 4
          have v0 := rK.s0 f
          have v1 := v0.s1 p
          have v2 := v1.s2 q
          have v3 := v2.s3 x
          have v4 := v3.s4 y
          clear HG
          go_wp2
          refine bodyPost_ret (v := .tuple #[.agg #[.int .u32 f, .int .u32 p, .int .u32 q, .bool x, .bool y], .int .i64 cd, .int .i64 0]) ?_ rfl ⟨by rw [HWk.out, HCd.out]; rfl, ?_, ⟨D, tn, ?_, by omega⟩, ?_⟩
          · simp [results, Tryz.results94, go_sem, v0.c0, v1.c1, v2.c2, v3.c3, v4.c4]
          · rw [HMm.out]; exact h5.kp (Kp.five_in _ (X + 1) _ _ _ _ _) (fun j hj e => by have := HRX.out; rw [hM1] at hj; have := hj.2; omega)
          · exact t5.kp (Kp.five_in _ (X + 1) _ _ _ _ _) (fun j hj e => by rcases hj with f | f <;> omega)
          · exact k5.five (by have := HX.out; omega) _ _ _ _ _
    · -- the first word is another
      have hgd := (HGd.out rfl).1
      obtain ⟨⟨o0, o1, u0, u1⟩, -, gp, gq, -, -, -⟩ := id hgd
      simp only at o0 o1 u0 u1 gp gq
      have pb := pdeA_bd hb.1 hb.2.1 hb.2.2.1 hb.2.2.2
      have qb := pteA_bd o0 o1 hb.2.2.1 hb.2.2.2
      rw [← gp] at pb
      rw [← gq] at qb
      have HGG : Hid (Good (c - c % 4096) (l - l % 4096) ⟨fr', p', q', bw', bu', o', t', en'⟩) := hgd
      clear HGd hgd gp gq
      have HRd : Hid (∀ W, TlbD W K B pl tn D → RamAt W B M → Calls Tryz.prog 95 #[.pointer (some ⟨K + 1, 0, none⟩), .agg #[.int .u32 fr', .int .u32 p', .int .u32 q', .bool bw', .bool bu']] W fun e w' => e = .returned (.agg #[.int .u32 (M.read p' 4), .int .u32 (M.read q' 4)]) ∧ Kp noB W w') := fun W hW hW' => tlRead_ok W K B pl tn D M hW hW' fr' p' q' bw' bu' pb.1 pb.2 qb.1 qb.2
      obtain ⟨m1, hm1⟩ : ∃ m, m = M.read p' 4 := ⟨_, rfl⟩
      obtain ⟨m2, hm2⟩ : ∃ m, m = M.read q' 4 := ⟨_, rfl⟩
      rw [← hm1, ← hm2] at HRd
      rw [← hm1] at e1
      have HM12 : Hid (M.read p' 4 = m1 ∧ M.read q' 4 = m2) := ⟨hm1.symm, hm2.symm⟩
      clear hm1 hm2
      have tD : TlbD W2.drew K B pl tn D := t0.kept (fun _ _ => rfl)
      have hD0 : RamAt W2.drew B M := h0.kept (fun _ _ => rfl)
      have HS0 : Hid (W2.drew.cell? ⟨X + 3, 0, none⟩ = some (.int .u32 fr') ∧ W2.drew.cell? ⟨X + 3, 1, none⟩ = some (.int .u32 p') ∧ W2.drew.cell? ⟨X + 3, 2, none⟩ = some (.int .u32 q') ∧ W2.drew.cell? ⟨X + 3, 3, none⟩ = some (.bool bw') ∧ W2.drew.cell? ⟨X + 3, 4, none⟩ = some (.bool bu') ∧ W2.drew.cell? ⟨X + 3, 5, none⟩ = some (.int .u32 o') ∧ W2.drew.cell? ⟨X + 3, 6, none⟩ = some (.int .u32 t')) := ⟨by rw [cell_at (w := W2.drew) rF]; rfl, by rw [cell_at (w := W2.drew) rF]; rfl, by rw [cell_at (w := W2.drew) rF]; rfl, by rw [cell_at (w := W2.drew) rF]; rfl, by rw [cell_at (w := W2.drew) rF]; rfl, by rw [cell_at (w := W2.drew) rF]; rfl, by rw [cell_at (w := W2.drew) rF]; rfl⟩
      have HSK : Hid (∀ W', Kp noB W2.drew W' → (W'.cell? ⟨X + 3, 0, none⟩ = some (.int .u32 fr') ∧ W'.cell? ⟨X + 3, 1, none⟩ = some (.int .u32 p') ∧ W'.cell? ⟨X + 3, 2, none⟩ = some (.int .u32 q') ∧ W'.cell? ⟨X + 3, 3, none⟩ = some (.bool bw') ∧ W'.cell? ⟨X + 3, 4, none⟩ = some (.bool bu') ∧ W'.cell? ⟨X + 3, 5, none⟩ = some (.int .u32 o') ∧ W'.cell? ⟨X + 3, 6, none⟩ = some (.int .u32 t'))) := fun W' k => by
        have u : W'.heap[X + 3]? = _ := (k.block (X + 3) (Array.getElem?_eq_some_iff.1 rF).1 (fun f => f)).trans rF
        exact ⟨by rw [cell_at u]; rfl, by rw [cell_at u]; rfl, by rw [cell_at u]; rfl, by rw [cell_at u]; rfl, by rw [cell_at u]; rfl, by rw [cell_at u]; rfl, by rw [cell_at u]; rfl⟩
      go_upto_region 6 with fail
      go_region_held3 (fun W => (W.cell? ⟨X + 3, 0, none⟩ = some (.int .u32 fr') ∧ W.cell? ⟨X + 3, 1, none⟩ = some (.int .u32 p') ∧ W.cell? ⟨X + 3, 2, none⟩ = some (.int .u32 q') ∧ W.cell? ⟨X + 3, 3, none⟩ = some (.bool bw') ∧ W.cell? ⟨X + 3, 4, none⟩ = some (.bool bu') ∧ W.cell? ⟨X + 3, 5, none⟩ = some (.int .u32 o') ∧ W.cell? ⟨X + 3, 6, none⟩ = some (.int .u32 t')))
        (first | with_reducible exact HS0.out | with_reducible exact HSK.out _ k3)
        (first | (go_at_call 95; refine (HRd.out _ (by assumption) (by assumption)).mono ?_; rintro e w3 ⟨rfl, k3⟩))
      replace k3 : Kp noB W2 w3 := ⟨k3.os, k3.tape, k3.output, k3.size, k3.block⟩
      replace rF : w3.heap[X + 3]? = _ := (k3.block (X + 3) (Array.getElem?_eq_some_iff.1 rF).1 (fun f => f)).trans rF
      replace t0 := t0.kp k3 (fun _ _ f => f)
      replace h0 := h0.kp k3 (fun _ _ f => f)
      replace rY := rY.kp k3 (fun f => f)
      replace rK := rK.kp k3 (fun f => f)
      replace rB := rB.kp k3 (fun f => f)
      replace k0 := k0.trans k3
      clear k3 HS0 HSK tD hD0 HRd
      clear rF HGG HM12
      have c2 := t0.c2
      have d0 := rY.c0; have d1 := rY.c1
      obtain ⟨w5, hdel, t1, k5⟩ := (show TlbD w3.drew K B pl tn D from t0.kept (fun _ _ => rfl)).drop hb 0
      unfold keyV at hdel
      go_upto_region 7 with fail
      go_region
      replace k5 : Kp (fun j => j = K) w3 w5 := (Kp.refl _ w3).drew.trans k5
      replace h0 := h0.kp k5 (fun j hj e => hBK K (.inl rfl) (by rw [← e]; exact hj))
      replace rY := rY.kp k5 (by omega)
      replace rK := rK.kp k5 (by omega)
      replace rB := rB.kp k5 (by omega)
      replace k0 : Kp (fun j => inRam B M.n j ∨ inTlb K j) w w5 := (k0.mono (fun _ _ f => f.elim)).trans (k5.mono (fun _ _ e => .inr (.inl e)))
      clear k5 hdel c2 d0 d1 t0
      generalize D.del (kl (c - c % 4096) (l - l % 4096)) = D1 at *
      have hVX : X + 2 < w5.heap.size := rY.lt
      have hVR : B + 4 + M.n ≤ w5.heap.size := h0.lt
      have hVK : K + 1 < w5.heap.size := t1.lt
      obtain ⟨f, p, q, x, y, hwk⟩ := fWalk_is0 M c l wr us wp
      have HG : Hid (fCode M c l wr us wp = -1 → Good (c - c % 4096) (l - l % 4096) ⟨f, p, q, x, y, (fMem M c l wr us wp).read p 4, (fMem M c l wr us wp).read q 4, ((tn + 1 : Nat) : Int)⟩ ∧ (0 ≤ p ∧ p < 4294967296 ∧ 0 ≤ q ∧ q < 4294967296)) := fun e => found_good h0.rdB hMc c0 c1 l0 l1 hwk e _
      have HC : Hid (∀ W, RamAt W B M → Calls Tryz.prog 97 #[.pointer (some ⟨B + 3, 0, none⟩), .int .u32 c, .int .u32 l, .agg #[.bool wr, .bool us, .bool wp]] W (fun e w' => e = .returned (.tuple #[.agg #[.int .u32 f, .int .u32 p, .int .u32 q, .bool x, .bool y], .int .i64 (fCode M c l wr us wp), .int .i64 0]) ∧ RamAt w' B (fMem M c l wr us wp) ∧ Kp (inRam B M.n) W w')) := fun W hW => by
        have := find_ok W B M hW c l wr us wp c0 c1 l0 l1
        unfold FdPost at this
        rw [hwk] at this
        exact this
      have HWk : Hid (fWalk M c l wr us wp = walkV f p q x y) := hwk
      have hsm := (fMem_same M c l wr us wp).1
      have hcb := fCode_bd0 M c l wr us wp
      obtain ⟨M', hM'⟩ : ∃ M', M' = fMem M c l wr us wp := ⟨_, rfl⟩
      obtain ⟨cd, hcd⟩ : ∃ cd, cd = fCode M c l wr us wp := ⟨_, rfl⟩
      have HMm : Hid (fMem M c l wr us wp = M') := hM'.symm
      have HCd : Hid (fCode M c l wr us wp = cd) := hcd.symm
      rw [← hM'] at HC HG hsm
      rw [← hcd] at HC HG hcb
      have hM1 : M'.n = M.n := hsm
      obtain ⟨cb0, cb1⟩ := hcb
      clear hwk hsm hM' hcd
      have nK1 : ¬ inRam B M.n (K + 1) := hBK _ (.inr rfl)
      have nXr : ¬ inRam B M.n X := fun f => by have := f.2; have := HRX.out; omega
      have nNew : ¬ inRam B M.n w5.heap.size := fun f => by have := f.2; omega
      have s8 : (w5.cell? ⟨K + 1, 0, none⟩ = some (.pointer (some ⟨B + 3, 0, none⟩)) ∧ w5.cell? ⟨X, 0, none⟩ = some (.bool wr) ∧ w5.cell? ⟨X, 1, none⟩ = some (.bool us) ∧ w5.cell? ⟨X, 2, none⟩ = some (.bool wp)) := ⟨t1.c0, rB.c0, rB.c1, rB.c2⟩
      have HSG : Hid (∀ (T : Nat → Prop) (W W' : World), Kp T W W' → ¬ T (K + 1) → ¬ T X → (W.cell? ⟨K + 1, 0, none⟩ = some (.pointer (some ⟨B + 3, 0, none⟩)) ∧ W.cell? ⟨X, 0, none⟩ = some (.bool wr) ∧ W.cell? ⟨X, 1, none⟩ = some (.bool us) ∧ W.cell? ⟨X, 2, none⟩ = some (.bool wp)) → (W'.cell? ⟨K + 1, 0, none⟩ = some (.pointer (some ⟨B + 3, 0, none⟩)) ∧ W'.cell? ⟨X, 0, none⟩ = some (.bool wr) ∧ W'.cell? ⟨X, 1, none⟩ = some (.bool us) ∧ W'.cell? ⟨X, 2, none⟩ = some (.bool wp))) := fun T W W' k h1 h2 ⟨a0, a1, a2, a3⟩ => ⟨cell_kp a0 k h1, cell_kp a1 k h2, cell_kp a2 k h2, cell_kp a3 k h2⟩
      have HS0 : Hid (w5.drew.cell? ⟨K + 1, 0, none⟩ = some (.pointer (some ⟨B + 3, 0, none⟩)) ∧ w5.drew.cell? ⟨X, 0, none⟩ = some (.bool wr) ∧ w5.drew.cell? ⟨X, 1, none⟩ = some (.bool us) ∧ w5.drew.cell? ⟨X, 2, none⟩ = some (.bool wp)) := s8
      have HSD : Hid ((w5.alloc (.cells #[.int .u32 0, .int .u32 0, .int .u32 0, .bool false, .bool false] 145)).drew.cell? ⟨K + 1, 0, none⟩ = some (.pointer (some ⟨B + 3, 0, none⟩)) ∧ (w5.alloc (.cells #[.int .u32 0, .int .u32 0, .int .u32 0, .bool false, .bool false] 145)).drew.cell? ⟨X, 0, none⟩ = some (.bool wr) ∧ (w5.alloc (.cells #[.int .u32 0, .int .u32 0, .int .u32 0, .bool false, .bool false] 145)).drew.cell? ⟨X, 1, none⟩ = some (.bool us) ∧ (w5.alloc (.cells #[.int .u32 0, .int .u32 0, .int .u32 0, .bool false, .bool false] 145)).drew.cell? ⟨X, 2, none⟩ = some (.bool wp)) := HSG.out noB w5 _ ((Kp.alloc noB w5 (.cells #[.int .u32 0, .int .u32 0, .int .u32 0, .bool false, .bool false] 145)).drew) (fun f => f) (fun f => f) s8
      have HSK : Hid (∀ W W', Kp (inRam B M.n) W W' → (W.cell? ⟨K + 1, 0, none⟩ = some (.pointer (some ⟨B + 3, 0, none⟩)) ∧ W.cell? ⟨X, 0, none⟩ = some (.bool wr) ∧ W.cell? ⟨X, 1, none⟩ = some (.bool us) ∧ W.cell? ⟨X, 2, none⟩ = some (.bool wp)) → (W'.cell? ⟨K + 1, 0, none⟩ = some (.pointer (some ⟨B + 3, 0, none⟩)) ∧ W'.cell? ⟨X, 0, none⟩ = some (.bool wr) ∧ W'.cell? ⟨X, 1, none⟩ = some (.bool us) ∧ W'.cell? ⟨X, 2, none⟩ = some (.bool wp))) := fun W W' k => HSG.out _ W W' k nK1 nXr
      have HSA : Hid (∀ (W : World) (O : Obj), (W.cell? ⟨K + 1, 0, none⟩ = some (.pointer (some ⟨B + 3, 0, none⟩)) ∧ W.cell? ⟨X, 0, none⟩ = some (.bool wr) ∧ W.cell? ⟨X, 1, none⟩ = some (.bool us) ∧ W.cell? ⟨X, 2, none⟩ = some (.bool wp)) → ((W.alloc O).cell? ⟨K + 1, 0, none⟩ = some (.pointer (some ⟨B + 3, 0, none⟩)) ∧ (W.alloc O).cell? ⟨X, 0, none⟩ = some (.bool wr) ∧ (W.alloc O).cell? ⟨X, 1, none⟩ = some (.bool us) ∧ (W.alloc O).cell? ⟨X, 2, none⟩ = some (.bool wp))) := fun W O => HSG.out noB W _ (Kp.alloc noB W O) (fun f => f) (fun f => f)
      have HSF : Hid (∀ (W : World), (W.cell? ⟨K + 1, 0, none⟩ = some (.pointer (some ⟨B + 3, 0, none⟩)) ∧ W.cell? ⟨X, 0, none⟩ = some (.bool wr) ∧ W.cell? ⟨X, 1, none⟩ = some (.bool us) ∧ W.cell? ⟨X, 2, none⟩ = some (.bool wp)) → ((((((W.setCell ⟨w5.heap.size, 0, none⟩ (.int .u32 f)).setCell ⟨w5.heap.size, 1, none⟩ (.int .u32 p)).setCell ⟨w5.heap.size, 2, none⟩ (.int .u32 q)).setCell ⟨w5.heap.size, 3, none⟩ (.bool x)).setCell ⟨w5.heap.size, 4, none⟩ (.bool y)).cell? ⟨K + 1, 0, none⟩ = some (.pointer (some ⟨B + 3, 0, none⟩)) ∧ (((((W.setCell ⟨w5.heap.size, 0, none⟩ (.int .u32 f)).setCell ⟨w5.heap.size, 1, none⟩ (.int .u32 p)).setCell ⟨w5.heap.size, 2, none⟩ (.int .u32 q)).setCell ⟨w5.heap.size, 3, none⟩ (.bool x)).setCell ⟨w5.heap.size, 4, none⟩ (.bool y)).cell? ⟨X, 0, none⟩ = some (.bool wr) ∧ (((((W.setCell ⟨w5.heap.size, 0, none⟩ (.int .u32 f)).setCell ⟨w5.heap.size, 1, none⟩ (.int .u32 p)).setCell ⟨w5.heap.size, 2, none⟩ (.int .u32 q)).setCell ⟨w5.heap.size, 3, none⟩ (.bool x)).setCell ⟨w5.heap.size, 4, none⟩ (.bool y)).cell? ⟨X, 1, none⟩ = some (.bool us) ∧ (((((W.setCell ⟨w5.heap.size, 0, none⟩ (.int .u32 f)).setCell ⟨w5.heap.size, 1, none⟩ (.int .u32 p)).setCell ⟨w5.heap.size, 2, none⟩ (.int .u32 q)).setCell ⟨w5.heap.size, 3, none⟩ (.bool x)).setCell ⟨w5.heap.size, 4, none⟩ (.bool y)).cell? ⟨X, 2, none⟩ = some (.bool wp))) := fun W => HSG.out _ W _ (Kp.five_in W w5.heap.size _ _ _ _ _) (by omega) (by omega)
      have ha1 : RamAt w5.drew B M := h0.kept (fun _ _ => rfl)
      have ha2 : RamAt (w5.alloc (.cells #[.int .u32 0, .int .u32 0, .int .u32 0, .bool false, .bool false] 145)).drew B M := h0.kp ((Kp.alloc noB w5 (.cells #[.int .u32 0, .int .u32 0, .int .u32 0, .bool false, .bool false] 145)).drew) (fun _ _ f => f)
      have HRZ : Hid (∀ W', Kp (inRam B M.n) (w5.alloc (.cells #[.int .u32 0, .int .u32 0, .int .u32 0, .bool false, .bool false] 145)).drew W' → RowK W' w5.heap.size 0 0 0 false false) := fun W' k => by
        have r : RowK (w5.alloc (.cells #[.int .u32 0, .int .u32 0, .int .u32 0, .bool false, .bool false] 145)).drew w5.heap.size 0 0 0 false false := (MapKept.heap_alloc w5 (.cells #[.int .u32 0, .int .u32 0, .int .u32 0, .bool false, .bool false] 145)).1
        exact r.kp k nNew
      have HRF : Hid (∀ W', RowK W' w5.heap.size 0 0 0 false false → (W'.cell? ⟨w5.heap.size, 0, none⟩ = some (.int .u32 0) ∧ W'.cell? ⟨w5.heap.size, 1, none⟩ = some (.int .u32 0) ∧ W'.cell? ⟨w5.heap.size, 2, none⟩ = some (.int .u32 0) ∧ W'.cell? ⟨w5.heap.size, 3, none⟩ = some (.bool false) ∧ W'.cell? ⟨w5.heap.size, 4, none⟩ = some (.bool false) ∧ W'.frozen? ⟨w5.heap.size, 0, none⟩ = false ∧ W'.frozen? ⟨w5.heap.size, 1, none⟩ = false ∧ W'.frozen? ⟨w5.heap.size, 2, none⟩ = false ∧ W'.frozen? ⟨w5.heap.size, 3, none⟩ = false ∧ W'.frozen? ⟨w5.heap.size, 4, none⟩ = false)) := fun W' r => ⟨r.c0, r.c1, r.c2, r.c3, r.c4, r.fz 0, r.fz 1, r.fz 2, r.fz 3, r.fz 4⟩
      clear s8
      go_upto_region 10 with fail
      go_region_held3 (fun W => (W.cell? ⟨K + 1, 0, none⟩ = some (.pointer (some ⟨B + 3, 0, none⟩)) ∧ W.cell? ⟨X, 0, none⟩ = some (.bool wr) ∧ W.cell? ⟨X, 1, none⟩ = some (.bool us) ∧ W.cell? ⟨X, 2, none⟩ = some (.bool wp)))
        (first | with_reducible exact HS0.out | with_reducible exact HSD.out | with_reducible exact HSK.out _ _ k4 HS0.out | with_reducible exact HSK.out _ _ k4 HSD.out | with_reducible exact HSA.out _ _ (HSK.out _ _ k4 HS0.out) | with_reducible exact HSF.out _ (HSK.out _ _ k4 HSD.out))
        (first
          | (go_at_call 97; refine (HC.out _ (by assumption)).mono ?_; rintro e w4 ⟨rfl, hr4, k4⟩; (first | ((with_reducible have rz := HRZ.out _ k4); obtain ⟨z0, z1, z2, z3, z4, y0, y1, y2, y3, y4⟩ := HRF.out _ rz) | skip)))
      · have k4' : Kp (inRam B M.n) w5 w4 := ⟨k4.os, k4.tape, k4.output, k4.size, k4.block⟩
        have kA := Kp.alloc noB w4 (.cells #[.int .u32 f, .int .u32 p, .int .u32 q, .bool x, .bool y] 145)
        have rW : RowK (w4.alloc (.cells #[.int .u32 f, .int .u32 p, .int .u32 q, .bool x, .bool y] 145)) w4.heap.size f p q x y := (MapKept.heap_alloc w4 _).1
        have hY : w5.heap.size ≤ w4.heap.size := k4'.size
        replace k4' : Kp (inRam B M.n) w5 (w4.alloc (.cells #[.int .u32 f, .int .u32 p, .int .u32 q, .bool x, .bool y] 145)) := k4'.over kA (fun _ _ f => f.elim)
        have h5 : RamAt (w4.alloc (.cells #[.int .u32 f, .int .u32 p, .int .u32 q, .bool x, .bool y] 145)) B M' := hr4.kp kA (fun _ _ f => f)
        have t5 := t1.kp k4' (fun j hj => hBK j hj)
        replace rY := rY.kp k4' (fun f => by have := f.2; have := HRX.out; omega)
        replace rK := rK.kp k4' (fun f => by have := f.2; have := HRX.out; omega)
        have k5 := k0.trans (k4'.mono (fun _ _ f => .inl f))
        clear HS0 HSD HSK HSA HSF HRZ HRF ha1 ha2 k4' k4 kA t1 h0 rB k0 hr4 HC HSG
        obtain ⟨Y, hYe⟩ : ∃ Y, Y = w4.heap.size := ⟨_, rfl⟩
        obtain ⟨V5, hgen⟩ : ∃ W, W = (w4.alloc (.cells #[.int .u32 f, .int .u32 p, .int .u32 q, .bool x, .bool y] 145)) := ⟨_, rfl⟩
        rw [← hgen] at rW h5 t5 rY rK k5 ⊢
        rw [← hYe] at rW hY ⊢
        have hYX : X + 2 < Y := by omega
        clear hYe hgen nNew hVX hVR hVK hY
        have d0 := rW.c0; have d1 := rW.c1; have d2 := rW.c2; have d3 := rW.c3; have d4 := rW.c4
        by_cases hcd : cd = -1
        · have hcb : (cd == -1) = true := by rw [hcd]; rfl
          obtain ⟨hg, g0, g1, g2, g3⟩ := HG.out hcd
          clear hcd
          have cK := keep_ok V5 K B pl tn D1 M' t5 h5 (c - c % 4096) (l - l % 4096) f p q x y hb g0 g1 g2 g3 htn hg (by rw [hM1]; exact hBK)
          unfold keyV walkV at cK
          have y0 := rY.c0; have y1 := rY.c1
          clear HG
          go_wp2_with fail
          refine cK.mono ?_; rintro e w6 ⟨rfl, ⟨D6, tn6, t6, ht6⟩, k6⟩
          have nY : ¬ inTlb K Y := fun f => by rcases f with e | e <;> omega
          have nX1 : ¬ inTlb K (X + 1) := fun f => by rcases f with e | e <;> omega
          replace rW := rW.kp k6 nY
          replace rK := rK.kp k6 nX1
          replace h5 := h5.kp k6 (fun j hj f => hBK j f (by rw [hM1] at hj; exact hj))
          replace k5 := k5.trans (k6.mono (fun _ _ f => .inr f))
          clear cK k6 nY nX1 t5 y0 y1 d0 d1 d2 d3 d4
          have d0 := rW.c0; have d1 := rW.c1; have d2 := rW.c2; have d3 := rW.c3; have d4 := rW.c4
          have z0 := rK.c0; have z1 := rK.c1; have z2 := rK.c2; have z3 := rK.c3; have z4 := rK.c4
          have f0 := rK.fz 0; have f1 := rK.fz 1; have f2 := rK.fz 2; have f3 := rK.fz 3; have f4 := rK.fz 4
          have v0 := rK.s0 f
          have v1 := v0.s1 p
          have v2 := v1.s2 q
          have v3 := v2.s3 x
          have v4 := v3.s4 y
          go_wp2
          refine bodyPost_ret (v := .tuple #[.agg #[.int .u32 f, .int .u32 p, .int .u32 q, .bool x, .bool y], .int .i64 cd, .int .i64 0]) ?_ rfl ⟨by rw [HWk.out, HCd.out]; rfl, ?_, ⟨D6, tn6, ?_, ht6⟩, ?_⟩
          · simp [results, Tryz.results94, go_sem, v0.c0, v1.c1, v2.c2, v3.c3, v4.c4]
          · rw [HMm.out]; exact h5.kp (Kp.five_in _ (X + 1) _ _ _ _ _) (fun j hj e => by have := HRX.out; rw [hM1] at hj; have := hj.2; omega)
          · exact t6.kp (Kp.five_in _ (X + 1) _ _ _ _ _) (fun j hj e => by rcases hj with f | f <;> omega)
          · exact k5.five (by have := HX.out; omega) _ _ _ _ _
        · have hcb : (cd == -1) = false := by simpa using hcd
          have z0 := rK.c0; have z1 := rK.c1; have z2 := rK.c2; have z3 := rK.c3; have z4 := rK.c4
          have f0 := rK.fz 0; have f1 := rK.fz 1; have f2 := rK.fz 2; have f3 := rK.fz 3; have f4 := rK.fz 4
          have v0 := rK.s0 f
          have v1 := v0.s1 p
          have v2 := v1.s2 q
          have v3 := v2.s3 x
          have v4 := v3.s4 y
          clear HG
          go_wp2
          refine bodyPost_ret (v := .tuple #[.agg #[.int .u32 f, .int .u32 p, .int .u32 q, .bool x, .bool y], .int .i64 cd, .int .i64 0]) ?_ rfl ⟨by rw [HWk.out, HCd.out]; rfl, ?_, ⟨D1, tn, ?_, by omega⟩, ?_⟩
          · simp [results, Tryz.results94, go_sem, v0.c0, v1.c1, v2.c2, v3.c3, v4.c4]
          · rw [HMm.out]; exact h5.kp (Kp.five_in _ (X + 1) _ _ _ _ _) (fun j hj e => by have := HRX.out; rw [hM1] at hj; have := hj.2; omega)
          · exact t5.kp (Kp.five_in _ (X + 1) _ _ _ _ _) (fun j hj e => by rcases hj with f | f <;> omega)
          · exact k5.five (by have := HX.out; omega) _ _ _ _ _
      · have k4' : Kp (inRam B M.n) (w5.alloc (.cells #[.int .u32 0, .int .u32 0, .int .u32 0, .bool false, .bool false] 145)) w4 := ⟨k4.os, k4.tape, k4.output, k4.size, k4.block⟩
        have kA : Kp (inRam B M.n) w5 (w5.alloc (.cells #[.int .u32 0, .int .u32 0, .int .u32 0, .bool false, .bool false] 145)) := Kp.alloc _ w5 _
        replace k4' := kA.trans k4'
        have rW : RowK (((((w4.setCell ⟨w5.heap.size, 0, none⟩ (.int .u32 f)).setCell ⟨w5.heap.size, 1, none⟩ (.int .u32 p)).setCell ⟨w5.heap.size, 2, none⟩ (.int .u32 q)).setCell ⟨w5.heap.size, 3, none⟩ (.bool x)).setCell ⟨w5.heap.size, 4, none⟩ (.bool y)) w5.heap.size f p q x y := ((((rz.s0 f).s1 p).s2 q).s3 x).s4 y
        have kF := Kp.five_in w4 w5.heap.size (.int .u32 f) (.int .u32 p) (.int .u32 q) (.bool x) (.bool y)
        have h5 : RamAt (((((w4.setCell ⟨w5.heap.size, 0, none⟩ (.int .u32 f)).setCell ⟨w5.heap.size, 1, none⟩ (.int .u32 p)).setCell ⟨w5.heap.size, 2, none⟩ (.int .u32 q)).setCell ⟨w5.heap.size, 3, none⟩ (.bool x)).setCell ⟨w5.heap.size, 4, none⟩ (.bool y)) B M' := hr4.kp kF (fun j hj e => nNew (by rw [← hM1, ← e]; exact hj))
        have t5 := (t1.kp k4' (fun j hj => hBK j hj)).kp kF (fun j hj e => by rcases hj with g | g <;> omega)
        replace rY := (rY.kp k4' (fun f => by have := f.2; have := HRX.out; omega)).kp kF (by omega)
        replace rK := (rK.kp k4' (fun f => by have := f.2; have := HRX.out; omega)).kp kF (by omega)
        have k5 : Kp (fun j => inRam B M.n j ∨ inTlb K j) w (((((w4.setCell ⟨w5.heap.size, 0, none⟩ (.int .u32 f)).setCell ⟨w5.heap.size, 1, none⟩ (.int .u32 p)).setCell ⟨w5.heap.size, 2, none⟩ (.int .u32 q)).setCell ⟨w5.heap.size, 3, none⟩ (.bool x)).setCell ⟨w5.heap.size, 4, none⟩ (.bool y)) := (k0.trans (k4'.mono (fun _ _ f => .inl f))).five (by have := HX.out; omega) _ _ _ _ _
        clear HS0 HSD HSK HSA HSF HRZ HRF ha1 ha2 k4' k4 kA kF t1 h0 rB k0 hr4 HC HSG rz z0 z1 z2 z3 z4 y0 y1 y2 y3 y4
        obtain ⟨Y, hYe⟩ : ∃ Y, Y = w5.heap.size := ⟨_, rfl⟩
        obtain ⟨V5, hgen⟩ : ∃ W, W = (((((w4.setCell ⟨w5.heap.size, 0, none⟩ (.int .u32 f)).setCell ⟨w5.heap.size, 1, none⟩ (.int .u32 p)).setCell ⟨w5.heap.size, 2, none⟩ (.int .u32 q)).setCell ⟨w5.heap.size, 3, none⟩ (.bool x)).setCell ⟨w5.heap.size, 4, none⟩ (.bool y)) := ⟨_, rfl⟩
        rw [← hgen] at rW h5 t5 rY rK k5 ⊢
        rw [← hYe] at rW ⊢
        have hYX : X + 2 < Y := by omega
        clear hYe hgen nNew hVX hVR hVK
        have d0 := rW.c0; have d1 := rW.c1; have d2 := rW.c2; have d3 := rW.c3; have d4 := rW.c4
        by_cases hcd : cd = -1
        · have hcb : (cd == -1) = true := by rw [hcd]; rfl
          obtain ⟨hg, g0, g1, g2, g3⟩ := HG.out hcd
          clear hcd
          have cK := keep_ok V5 K B pl tn D1 M' t5 h5 (c - c % 4096) (l - l % 4096) f p q x y hb g0 g1 g2 g3 htn hg (by rw [hM1]; exact hBK)
          unfold keyV walkV at cK
          have y0 := rY.c0; have y1 := rY.c1
          clear HG
          go_wp2_with fail
          refine cK.mono ?_; rintro e w6 ⟨rfl, ⟨D6, tn6, t6, ht6⟩, k6⟩
          have nY : ¬ inTlb K Y := fun f => by rcases f with e | e <;> omega
          have nX1 : ¬ inTlb K (X + 1) := fun f => by rcases f with e | e <;> omega
          replace rW := rW.kp k6 nY
          replace rK := rK.kp k6 nX1
          replace h5 := h5.kp k6 (fun j hj f => hBK j f (by rw [hM1] at hj; exact hj))
          replace k5 := k5.trans (k6.mono (fun _ _ f => .inr f))
          clear cK k6 nY nX1 t5 y0 y1 d0 d1 d2 d3 d4
          have d0 := rW.c0; have d1 := rW.c1; have d2 := rW.c2; have d3 := rW.c3; have d4 := rW.c4
          have z0 := rK.c0; have z1 := rK.c1; have z2 := rK.c2; have z3 := rK.c3; have z4 := rK.c4
          have f0 := rK.fz 0; have f1 := rK.fz 1; have f2 := rK.fz 2; have f3 := rK.fz 3; have f4 := rK.fz 4
          have v0 := rK.s0 f
          have v1 := v0.s1 p
          have v2 := v1.s2 q
          have v3 := v2.s3 x
          have v4 := v3.s4 y
          go_wp2
          refine bodyPost_ret (v := .tuple #[.agg #[.int .u32 f, .int .u32 p, .int .u32 q, .bool x, .bool y], .int .i64 cd, .int .i64 0]) ?_ rfl ⟨by rw [HWk.out, HCd.out]; rfl, ?_, ⟨D6, tn6, ?_, ht6⟩, ?_⟩
          · simp [results, Tryz.results94, go_sem, v0.c0, v1.c1, v2.c2, v3.c3, v4.c4]
          · rw [HMm.out]; exact h5.kp (Kp.five_in _ (X + 1) _ _ _ _ _) (fun j hj e => by have := HRX.out; rw [hM1] at hj; have := hj.2; omega)
          · exact t6.kp (Kp.five_in _ (X + 1) _ _ _ _ _) (fun j hj e => by rcases hj with f | f <;> omega)
          · exact k5.five (by have := HX.out; omega) _ _ _ _ _
        · have hcb : (cd == -1) = false := by simpa using hcd
          have z0 := rK.c0; have z1 := rK.c1; have z2 := rK.c2; have z3 := rK.c3; have z4 := rK.c4
          have f0 := rK.fz 0; have f1 := rK.fz 1; have f2 := rK.fz 2; have f3 := rK.fz 3; have f4 := rK.fz 4
          have v0 := rK.s0 f
          have v1 := v0.s1 p
          have v2 := v1.s2 q
          have v3 := v2.s3 x
          have v4 := v3.s4 y
          clear HG
          go_wp2
          refine bodyPost_ret (v := .tuple #[.agg #[.int .u32 f, .int .u32 p, .int .u32 q, .bool x, .bool y], .int .i64 cd, .int .i64 0]) ?_ rfl ⟨by rw [HWk.out, HCd.out]; rfl, ?_, ⟨D1, tn, ?_, by omega⟩, ?_⟩
          · simp [results, Tryz.results94, go_sem, v0.c0, v1.c1, v2.c2, v3.c3, v4.c4]
          · rw [HMm.out]; exact h5.kp (Kp.five_in _ (X + 1) _ _ _ _ _) (fun j hj e => by have := HRX.out; rw [hM1] at hj; have := hj.2; omega)
          · exact t5.kp (Kp.five_in _ (X + 1) _ _ _ _ _) (fun j hj e => by rcases hj with f | f <;> omega)
          · exact k5.five (by have := HX.out; omega) _ _ _ _ _
    · -- the second word is another
      have hgd := (HGd.out rfl).1
      obtain ⟨⟨o0, o1, u0, u1⟩, -, gp, gq, -, -, -⟩ := id hgd
      simp only at o0 o1 u0 u1 gp gq
      have pb := pdeA_bd hb.1 hb.2.1 hb.2.2.1 hb.2.2.2
      have qb := pteA_bd o0 o1 hb.2.2.1 hb.2.2.2
      rw [← gp] at pb
      rw [← gq] at qb
      have HGG : Hid (Good (c - c % 4096) (l - l % 4096) ⟨fr', p', q', bw', bu', o', t', en'⟩) := hgd
      clear HGd hgd gp gq
      have HRd : Hid (∀ W, TlbD W K B pl tn D → RamAt W B M → Calls Tryz.prog 95 #[.pointer (some ⟨K + 1, 0, none⟩), .agg #[.int .u32 fr', .int .u32 p', .int .u32 q', .bool bw', .bool bu']] W fun e w' => e = .returned (.agg #[.int .u32 (M.read p' 4), .int .u32 (M.read q' 4)]) ∧ Kp noB W w') := fun W hW hW' => tlRead_ok W K B pl tn D M hW hW' fr' p' q' bw' bu' pb.1 pb.2 qb.1 qb.2
      obtain ⟨m1, hm1⟩ : ∃ m, m = M.read p' 4 := ⟨_, rfl⟩
      obtain ⟨m2, hm2⟩ : ∃ m, m = M.read q' 4 := ⟨_, rfl⟩
      rw [← hm1, ← hm2] at HRd
      rw [← hm1] at e1
      rw [← hm2] at e2
      have HM12 : Hid (M.read p' 4 = m1 ∧ M.read q' 4 = m2) := ⟨hm1.symm, hm2.symm⟩
      clear hm1 hm2
      have tD : TlbD W2.drew K B pl tn D := t0.kept (fun _ _ => rfl)
      have hD0 : RamAt W2.drew B M := h0.kept (fun _ _ => rfl)
      have HS0 : Hid (W2.drew.cell? ⟨X + 3, 0, none⟩ = some (.int .u32 fr') ∧ W2.drew.cell? ⟨X + 3, 1, none⟩ = some (.int .u32 p') ∧ W2.drew.cell? ⟨X + 3, 2, none⟩ = some (.int .u32 q') ∧ W2.drew.cell? ⟨X + 3, 3, none⟩ = some (.bool bw') ∧ W2.drew.cell? ⟨X + 3, 4, none⟩ = some (.bool bu') ∧ W2.drew.cell? ⟨X + 3, 5, none⟩ = some (.int .u32 o') ∧ W2.drew.cell? ⟨X + 3, 6, none⟩ = some (.int .u32 t')) := ⟨by rw [cell_at (w := W2.drew) rF]; rfl, by rw [cell_at (w := W2.drew) rF]; rfl, by rw [cell_at (w := W2.drew) rF]; rfl, by rw [cell_at (w := W2.drew) rF]; rfl, by rw [cell_at (w := W2.drew) rF]; rfl, by rw [cell_at (w := W2.drew) rF]; rfl, by rw [cell_at (w := W2.drew) rF]; rfl⟩
      have HSK : Hid (∀ W', Kp noB W2.drew W' → (W'.cell? ⟨X + 3, 0, none⟩ = some (.int .u32 fr') ∧ W'.cell? ⟨X + 3, 1, none⟩ = some (.int .u32 p') ∧ W'.cell? ⟨X + 3, 2, none⟩ = some (.int .u32 q') ∧ W'.cell? ⟨X + 3, 3, none⟩ = some (.bool bw') ∧ W'.cell? ⟨X + 3, 4, none⟩ = some (.bool bu') ∧ W'.cell? ⟨X + 3, 5, none⟩ = some (.int .u32 o') ∧ W'.cell? ⟨X + 3, 6, none⟩ = some (.int .u32 t'))) := fun W' k => by
        have u : W'.heap[X + 3]? = _ := (k.block (X + 3) (Array.getElem?_eq_some_iff.1 rF).1 (fun f => f)).trans rF
        exact ⟨by rw [cell_at u]; rfl, by rw [cell_at u]; rfl, by rw [cell_at u]; rfl, by rw [cell_at u]; rfl, by rw [cell_at u]; rfl, by rw [cell_at u]; rfl, by rw [cell_at u]; rfl⟩
      go_upto_region 6 with fail
      go_region_held3 (fun W => (W.cell? ⟨X + 3, 0, none⟩ = some (.int .u32 fr') ∧ W.cell? ⟨X + 3, 1, none⟩ = some (.int .u32 p') ∧ W.cell? ⟨X + 3, 2, none⟩ = some (.int .u32 q') ∧ W.cell? ⟨X + 3, 3, none⟩ = some (.bool bw') ∧ W.cell? ⟨X + 3, 4, none⟩ = some (.bool bu') ∧ W.cell? ⟨X + 3, 5, none⟩ = some (.int .u32 o') ∧ W.cell? ⟨X + 3, 6, none⟩ = some (.int .u32 t')))
        (first | with_reducible exact HS0.out | with_reducible exact HSK.out _ k3)
        (first | (go_at_call 95; refine (HRd.out _ (by assumption) (by assumption)).mono ?_; rintro e w3 ⟨rfl, k3⟩))
      replace k3 : Kp noB W2 w3 := ⟨k3.os, k3.tape, k3.output, k3.size, k3.block⟩
      replace rF : w3.heap[X + 3]? = _ := (k3.block (X + 3) (Array.getElem?_eq_some_iff.1 rF).1 (fun f => f)).trans rF
      replace t0 := t0.kp k3 (fun _ _ f => f)
      replace h0 := h0.kp k3 (fun _ _ f => f)
      replace rY := rY.kp k3 (fun f => f)
      replace rK := rK.kp k3 (fun f => f)
      replace rB := rB.kp k3 (fun f => f)
      replace k0 := k0.trans k3
      clear k3 HS0 HSK tD hD0 HRd
      clear rF HGG HM12
      have c2 := t0.c2
      have d0 := rY.c0; have d1 := rY.c1
      obtain ⟨w5, hdel, t1, k5⟩ := (show TlbD w3.drew K B pl tn D from t0.kept (fun _ _ => rfl)).drop hb 0
      unfold keyV at hdel
      go_upto_region 7 with fail
      go_region
      replace k5 : Kp (fun j => j = K) w3 w5 := (Kp.refl _ w3).drew.trans k5
      replace h0 := h0.kp k5 (fun j hj e => hBK K (.inl rfl) (by rw [← e]; exact hj))
      replace rY := rY.kp k5 (by omega)
      replace rK := rK.kp k5 (by omega)
      replace rB := rB.kp k5 (by omega)
      replace k0 : Kp (fun j => inRam B M.n j ∨ inTlb K j) w w5 := (k0.mono (fun _ _ f => f.elim)).trans (k5.mono (fun _ _ e => .inr (.inl e)))
      clear k5 hdel c2 d0 d1 t0
      generalize D.del (kl (c - c % 4096) (l - l % 4096)) = D1 at *
      have hVX : X + 2 < w5.heap.size := rY.lt
      have hVR : B + 4 + M.n ≤ w5.heap.size := h0.lt
      have hVK : K + 1 < w5.heap.size := t1.lt
      obtain ⟨f, p, q, x, y, hwk⟩ := fWalk_is0 M c l wr us wp
      have HG : Hid (fCode M c l wr us wp = -1 → Good (c - c % 4096) (l - l % 4096) ⟨f, p, q, x, y, (fMem M c l wr us wp).read p 4, (fMem M c l wr us wp).read q 4, ((tn + 1 : Nat) : Int)⟩ ∧ (0 ≤ p ∧ p < 4294967296 ∧ 0 ≤ q ∧ q < 4294967296)) := fun e => found_good h0.rdB hMc c0 c1 l0 l1 hwk e _
      have HC : Hid (∀ W, RamAt W B M → Calls Tryz.prog 97 #[.pointer (some ⟨B + 3, 0, none⟩), .int .u32 c, .int .u32 l, .agg #[.bool wr, .bool us, .bool wp]] W (fun e w' => e = .returned (.tuple #[.agg #[.int .u32 f, .int .u32 p, .int .u32 q, .bool x, .bool y], .int .i64 (fCode M c l wr us wp), .int .i64 0]) ∧ RamAt w' B (fMem M c l wr us wp) ∧ Kp (inRam B M.n) W w')) := fun W hW => by
        have := find_ok W B M hW c l wr us wp c0 c1 l0 l1
        unfold FdPost at this
        rw [hwk] at this
        exact this
      have HWk : Hid (fWalk M c l wr us wp = walkV f p q x y) := hwk
      have hsm := (fMem_same M c l wr us wp).1
      have hcb := fCode_bd0 M c l wr us wp
      obtain ⟨M', hM'⟩ : ∃ M', M' = fMem M c l wr us wp := ⟨_, rfl⟩
      obtain ⟨cd, hcd⟩ : ∃ cd, cd = fCode M c l wr us wp := ⟨_, rfl⟩
      have HMm : Hid (fMem M c l wr us wp = M') := hM'.symm
      have HCd : Hid (fCode M c l wr us wp = cd) := hcd.symm
      rw [← hM'] at HC HG hsm
      rw [← hcd] at HC HG hcb
      have hM1 : M'.n = M.n := hsm
      obtain ⟨cb0, cb1⟩ := hcb
      clear hwk hsm hM' hcd
      have nK1 : ¬ inRam B M.n (K + 1) := hBK _ (.inr rfl)
      have nXr : ¬ inRam B M.n X := fun f => by have := f.2; have := HRX.out; omega
      have nNew : ¬ inRam B M.n w5.heap.size := fun f => by have := f.2; omega
      have s8 : (w5.cell? ⟨K + 1, 0, none⟩ = some (.pointer (some ⟨B + 3, 0, none⟩)) ∧ w5.cell? ⟨X, 0, none⟩ = some (.bool wr) ∧ w5.cell? ⟨X, 1, none⟩ = some (.bool us) ∧ w5.cell? ⟨X, 2, none⟩ = some (.bool wp)) := ⟨t1.c0, rB.c0, rB.c1, rB.c2⟩
      have HSG : Hid (∀ (T : Nat → Prop) (W W' : World), Kp T W W' → ¬ T (K + 1) → ¬ T X → (W.cell? ⟨K + 1, 0, none⟩ = some (.pointer (some ⟨B + 3, 0, none⟩)) ∧ W.cell? ⟨X, 0, none⟩ = some (.bool wr) ∧ W.cell? ⟨X, 1, none⟩ = some (.bool us) ∧ W.cell? ⟨X, 2, none⟩ = some (.bool wp)) → (W'.cell? ⟨K + 1, 0, none⟩ = some (.pointer (some ⟨B + 3, 0, none⟩)) ∧ W'.cell? ⟨X, 0, none⟩ = some (.bool wr) ∧ W'.cell? ⟨X, 1, none⟩ = some (.bool us) ∧ W'.cell? ⟨X, 2, none⟩ = some (.bool wp))) := fun T W W' k h1 h2 ⟨a0, a1, a2, a3⟩ => ⟨cell_kp a0 k h1, cell_kp a1 k h2, cell_kp a2 k h2, cell_kp a3 k h2⟩
      have HS0 : Hid (w5.drew.cell? ⟨K + 1, 0, none⟩ = some (.pointer (some ⟨B + 3, 0, none⟩)) ∧ w5.drew.cell? ⟨X, 0, none⟩ = some (.bool wr) ∧ w5.drew.cell? ⟨X, 1, none⟩ = some (.bool us) ∧ w5.drew.cell? ⟨X, 2, none⟩ = some (.bool wp)) := s8
      have HSD : Hid ((w5.alloc (.cells #[.int .u32 0, .int .u32 0, .int .u32 0, .bool false, .bool false] 145)).drew.cell? ⟨K + 1, 0, none⟩ = some (.pointer (some ⟨B + 3, 0, none⟩)) ∧ (w5.alloc (.cells #[.int .u32 0, .int .u32 0, .int .u32 0, .bool false, .bool false] 145)).drew.cell? ⟨X, 0, none⟩ = some (.bool wr) ∧ (w5.alloc (.cells #[.int .u32 0, .int .u32 0, .int .u32 0, .bool false, .bool false] 145)).drew.cell? ⟨X, 1, none⟩ = some (.bool us) ∧ (w5.alloc (.cells #[.int .u32 0, .int .u32 0, .int .u32 0, .bool false, .bool false] 145)).drew.cell? ⟨X, 2, none⟩ = some (.bool wp)) := HSG.out noB w5 _ ((Kp.alloc noB w5 (.cells #[.int .u32 0, .int .u32 0, .int .u32 0, .bool false, .bool false] 145)).drew) (fun f => f) (fun f => f) s8
      have HSK : Hid (∀ W W', Kp (inRam B M.n) W W' → (W.cell? ⟨K + 1, 0, none⟩ = some (.pointer (some ⟨B + 3, 0, none⟩)) ∧ W.cell? ⟨X, 0, none⟩ = some (.bool wr) ∧ W.cell? ⟨X, 1, none⟩ = some (.bool us) ∧ W.cell? ⟨X, 2, none⟩ = some (.bool wp)) → (W'.cell? ⟨K + 1, 0, none⟩ = some (.pointer (some ⟨B + 3, 0, none⟩)) ∧ W'.cell? ⟨X, 0, none⟩ = some (.bool wr) ∧ W'.cell? ⟨X, 1, none⟩ = some (.bool us) ∧ W'.cell? ⟨X, 2, none⟩ = some (.bool wp))) := fun W W' k => HSG.out _ W W' k nK1 nXr
      have HSA : Hid (∀ (W : World) (O : Obj), (W.cell? ⟨K + 1, 0, none⟩ = some (.pointer (some ⟨B + 3, 0, none⟩)) ∧ W.cell? ⟨X, 0, none⟩ = some (.bool wr) ∧ W.cell? ⟨X, 1, none⟩ = some (.bool us) ∧ W.cell? ⟨X, 2, none⟩ = some (.bool wp)) → ((W.alloc O).cell? ⟨K + 1, 0, none⟩ = some (.pointer (some ⟨B + 3, 0, none⟩)) ∧ (W.alloc O).cell? ⟨X, 0, none⟩ = some (.bool wr) ∧ (W.alloc O).cell? ⟨X, 1, none⟩ = some (.bool us) ∧ (W.alloc O).cell? ⟨X, 2, none⟩ = some (.bool wp))) := fun W O => HSG.out noB W _ (Kp.alloc noB W O) (fun f => f) (fun f => f)
      have HSF : Hid (∀ (W : World), (W.cell? ⟨K + 1, 0, none⟩ = some (.pointer (some ⟨B + 3, 0, none⟩)) ∧ W.cell? ⟨X, 0, none⟩ = some (.bool wr) ∧ W.cell? ⟨X, 1, none⟩ = some (.bool us) ∧ W.cell? ⟨X, 2, none⟩ = some (.bool wp)) → ((((((W.setCell ⟨w5.heap.size, 0, none⟩ (.int .u32 f)).setCell ⟨w5.heap.size, 1, none⟩ (.int .u32 p)).setCell ⟨w5.heap.size, 2, none⟩ (.int .u32 q)).setCell ⟨w5.heap.size, 3, none⟩ (.bool x)).setCell ⟨w5.heap.size, 4, none⟩ (.bool y)).cell? ⟨K + 1, 0, none⟩ = some (.pointer (some ⟨B + 3, 0, none⟩)) ∧ (((((W.setCell ⟨w5.heap.size, 0, none⟩ (.int .u32 f)).setCell ⟨w5.heap.size, 1, none⟩ (.int .u32 p)).setCell ⟨w5.heap.size, 2, none⟩ (.int .u32 q)).setCell ⟨w5.heap.size, 3, none⟩ (.bool x)).setCell ⟨w5.heap.size, 4, none⟩ (.bool y)).cell? ⟨X, 0, none⟩ = some (.bool wr) ∧ (((((W.setCell ⟨w5.heap.size, 0, none⟩ (.int .u32 f)).setCell ⟨w5.heap.size, 1, none⟩ (.int .u32 p)).setCell ⟨w5.heap.size, 2, none⟩ (.int .u32 q)).setCell ⟨w5.heap.size, 3, none⟩ (.bool x)).setCell ⟨w5.heap.size, 4, none⟩ (.bool y)).cell? ⟨X, 1, none⟩ = some (.bool us) ∧ (((((W.setCell ⟨w5.heap.size, 0, none⟩ (.int .u32 f)).setCell ⟨w5.heap.size, 1, none⟩ (.int .u32 p)).setCell ⟨w5.heap.size, 2, none⟩ (.int .u32 q)).setCell ⟨w5.heap.size, 3, none⟩ (.bool x)).setCell ⟨w5.heap.size, 4, none⟩ (.bool y)).cell? ⟨X, 2, none⟩ = some (.bool wp))) := fun W => HSG.out _ W _ (Kp.five_in W w5.heap.size _ _ _ _ _) (by omega) (by omega)
      have ha1 : RamAt w5.drew B M := h0.kept (fun _ _ => rfl)
      have ha2 : RamAt (w5.alloc (.cells #[.int .u32 0, .int .u32 0, .int .u32 0, .bool false, .bool false] 145)).drew B M := h0.kp ((Kp.alloc noB w5 (.cells #[.int .u32 0, .int .u32 0, .int .u32 0, .bool false, .bool false] 145)).drew) (fun _ _ f => f)
      have HRZ : Hid (∀ W', Kp (inRam B M.n) (w5.alloc (.cells #[.int .u32 0, .int .u32 0, .int .u32 0, .bool false, .bool false] 145)).drew W' → RowK W' w5.heap.size 0 0 0 false false) := fun W' k => by
        have r : RowK (w5.alloc (.cells #[.int .u32 0, .int .u32 0, .int .u32 0, .bool false, .bool false] 145)).drew w5.heap.size 0 0 0 false false := (MapKept.heap_alloc w5 (.cells #[.int .u32 0, .int .u32 0, .int .u32 0, .bool false, .bool false] 145)).1
        exact r.kp k nNew
      have HRF : Hid (∀ W', RowK W' w5.heap.size 0 0 0 false false → (W'.cell? ⟨w5.heap.size, 0, none⟩ = some (.int .u32 0) ∧ W'.cell? ⟨w5.heap.size, 1, none⟩ = some (.int .u32 0) ∧ W'.cell? ⟨w5.heap.size, 2, none⟩ = some (.int .u32 0) ∧ W'.cell? ⟨w5.heap.size, 3, none⟩ = some (.bool false) ∧ W'.cell? ⟨w5.heap.size, 4, none⟩ = some (.bool false) ∧ W'.frozen? ⟨w5.heap.size, 0, none⟩ = false ∧ W'.frozen? ⟨w5.heap.size, 1, none⟩ = false ∧ W'.frozen? ⟨w5.heap.size, 2, none⟩ = false ∧ W'.frozen? ⟨w5.heap.size, 3, none⟩ = false ∧ W'.frozen? ⟨w5.heap.size, 4, none⟩ = false)) := fun W' r => ⟨r.c0, r.c1, r.c2, r.c3, r.c4, r.fz 0, r.fz 1, r.fz 2, r.fz 3, r.fz 4⟩
      clear s8
      go_upto_region 10 with fail
      go_region_held3 (fun W => (W.cell? ⟨K + 1, 0, none⟩ = some (.pointer (some ⟨B + 3, 0, none⟩)) ∧ W.cell? ⟨X, 0, none⟩ = some (.bool wr) ∧ W.cell? ⟨X, 1, none⟩ = some (.bool us) ∧ W.cell? ⟨X, 2, none⟩ = some (.bool wp)))
        (first | with_reducible exact HS0.out | with_reducible exact HSD.out | with_reducible exact HSK.out _ _ k4 HS0.out | with_reducible exact HSK.out _ _ k4 HSD.out | with_reducible exact HSA.out _ _ (HSK.out _ _ k4 HS0.out) | with_reducible exact HSF.out _ (HSK.out _ _ k4 HSD.out))
        (first
          | (go_at_call 97; refine (HC.out _ (by assumption)).mono ?_; rintro e w4 ⟨rfl, hr4, k4⟩; (first | ((with_reducible have rz := HRZ.out _ k4); obtain ⟨z0, z1, z2, z3, z4, y0, y1, y2, y3, y4⟩ := HRF.out _ rz) | skip)))
      · have k4' : Kp (inRam B M.n) w5 w4 := ⟨k4.os, k4.tape, k4.output, k4.size, k4.block⟩
        have kA := Kp.alloc noB w4 (.cells #[.int .u32 f, .int .u32 p, .int .u32 q, .bool x, .bool y] 145)
        have rW : RowK (w4.alloc (.cells #[.int .u32 f, .int .u32 p, .int .u32 q, .bool x, .bool y] 145)) w4.heap.size f p q x y := (MapKept.heap_alloc w4 _).1
        have hY : w5.heap.size ≤ w4.heap.size := k4'.size
        replace k4' : Kp (inRam B M.n) w5 (w4.alloc (.cells #[.int .u32 f, .int .u32 p, .int .u32 q, .bool x, .bool y] 145)) := k4'.over kA (fun _ _ f => f.elim)
        have h5 : RamAt (w4.alloc (.cells #[.int .u32 f, .int .u32 p, .int .u32 q, .bool x, .bool y] 145)) B M' := hr4.kp kA (fun _ _ f => f)
        have t5 := t1.kp k4' (fun j hj => hBK j hj)
        replace rY := rY.kp k4' (fun f => by have := f.2; have := HRX.out; omega)
        replace rK := rK.kp k4' (fun f => by have := f.2; have := HRX.out; omega)
        have k5 := k0.trans (k4'.mono (fun _ _ f => .inl f))
        clear HS0 HSD HSK HSA HSF HRZ HRF ha1 ha2 k4' k4 kA t1 h0 rB k0 hr4 HC HSG
        obtain ⟨Y, hYe⟩ : ∃ Y, Y = w4.heap.size := ⟨_, rfl⟩
        obtain ⟨V5, hgen⟩ : ∃ W, W = (w4.alloc (.cells #[.int .u32 f, .int .u32 p, .int .u32 q, .bool x, .bool y] 145)) := ⟨_, rfl⟩
        rw [← hgen] at rW h5 t5 rY rK k5 ⊢
        rw [← hYe] at rW hY ⊢
        have hYX : X + 2 < Y := by omega
        clear hYe hgen nNew hVX hVR hVK hY
        have d0 := rW.c0; have d1 := rW.c1; have d2 := rW.c2; have d3 := rW.c3; have d4 := rW.c4
        by_cases hcd : cd = -1
        · have hcb : (cd == -1) = true := by rw [hcd]; rfl
          obtain ⟨hg, g0, g1, g2, g3⟩ := HG.out hcd
          clear hcd
          have cK := keep_ok V5 K B pl tn D1 M' t5 h5 (c - c % 4096) (l - l % 4096) f p q x y hb g0 g1 g2 g3 htn hg (by rw [hM1]; exact hBK)
          unfold keyV walkV at cK
          have y0 := rY.c0; have y1 := rY.c1
          clear HG
          go_wp2_with fail
          refine cK.mono ?_; rintro e w6 ⟨rfl, ⟨D6, tn6, t6, ht6⟩, k6⟩
          have nY : ¬ inTlb K Y := fun f => by rcases f with e | e <;> omega
          have nX1 : ¬ inTlb K (X + 1) := fun f => by rcases f with e | e <;> omega
          replace rW := rW.kp k6 nY
          replace rK := rK.kp k6 nX1
          replace h5 := h5.kp k6 (fun j hj f => hBK j f (by rw [hM1] at hj; exact hj))
          replace k5 := k5.trans (k6.mono (fun _ _ f => .inr f))
          clear cK k6 nY nX1 t5 y0 y1 d0 d1 d2 d3 d4
          have d0 := rW.c0; have d1 := rW.c1; have d2 := rW.c2; have d3 := rW.c3; have d4 := rW.c4
          have z0 := rK.c0; have z1 := rK.c1; have z2 := rK.c2; have z3 := rK.c3; have z4 := rK.c4
          have f0 := rK.fz 0; have f1 := rK.fz 1; have f2 := rK.fz 2; have f3 := rK.fz 3; have f4 := rK.fz 4
          have v0 := rK.s0 f
          have v1 := v0.s1 p
          have v2 := v1.s2 q
          have v3 := v2.s3 x
          have v4 := v3.s4 y
          go_wp2
          refine bodyPost_ret (v := .tuple #[.agg #[.int .u32 f, .int .u32 p, .int .u32 q, .bool x, .bool y], .int .i64 cd, .int .i64 0]) ?_ rfl ⟨by rw [HWk.out, HCd.out]; rfl, ?_, ⟨D6, tn6, ?_, ht6⟩, ?_⟩
          · simp [results, Tryz.results94, go_sem, v0.c0, v1.c1, v2.c2, v3.c3, v4.c4]
          · rw [HMm.out]; exact h5.kp (Kp.five_in _ (X + 1) _ _ _ _ _) (fun j hj e => by have := HRX.out; rw [hM1] at hj; have := hj.2; omega)
          · exact t6.kp (Kp.five_in _ (X + 1) _ _ _ _ _) (fun j hj e => by rcases hj with f | f <;> omega)
          · exact k5.five (by have := HX.out; omega) _ _ _ _ _
        · have hcb : (cd == -1) = false := by simpa using hcd
          have z0 := rK.c0; have z1 := rK.c1; have z2 := rK.c2; have z3 := rK.c3; have z4 := rK.c4
          have f0 := rK.fz 0; have f1 := rK.fz 1; have f2 := rK.fz 2; have f3 := rK.fz 3; have f4 := rK.fz 4
          have v0 := rK.s0 f
          have v1 := v0.s1 p
          have v2 := v1.s2 q
          have v3 := v2.s3 x
          have v4 := v3.s4 y
          clear HG
          go_wp2
          refine bodyPost_ret (v := .tuple #[.agg #[.int .u32 f, .int .u32 p, .int .u32 q, .bool x, .bool y], .int .i64 cd, .int .i64 0]) ?_ rfl ⟨by rw [HWk.out, HCd.out]; rfl, ?_, ⟨D1, tn, ?_, by omega⟩, ?_⟩
          · simp [results, Tryz.results94, go_sem, v0.c0, v1.c1, v2.c2, v3.c3, v4.c4]
          · rw [HMm.out]; exact h5.kp (Kp.five_in _ (X + 1) _ _ _ _ _) (fun j hj e => by have := HRX.out; rw [hM1] at hj; have := hj.2; omega)
          · exact t5.kp (Kp.five_in _ (X + 1) _ _ _ _ _) (fun j hj e => by rcases hj with f | f <;> omega)
          · exact k5.five (by have := HX.out; omega) _ _ _ _ _
      · have k4' : Kp (inRam B M.n) (w5.alloc (.cells #[.int .u32 0, .int .u32 0, .int .u32 0, .bool false, .bool false] 145)) w4 := ⟨k4.os, k4.tape, k4.output, k4.size, k4.block⟩
        have kA : Kp (inRam B M.n) w5 (w5.alloc (.cells #[.int .u32 0, .int .u32 0, .int .u32 0, .bool false, .bool false] 145)) := Kp.alloc _ w5 _
        replace k4' := kA.trans k4'
        have rW : RowK (((((w4.setCell ⟨w5.heap.size, 0, none⟩ (.int .u32 f)).setCell ⟨w5.heap.size, 1, none⟩ (.int .u32 p)).setCell ⟨w5.heap.size, 2, none⟩ (.int .u32 q)).setCell ⟨w5.heap.size, 3, none⟩ (.bool x)).setCell ⟨w5.heap.size, 4, none⟩ (.bool y)) w5.heap.size f p q x y := ((((rz.s0 f).s1 p).s2 q).s3 x).s4 y
        have kF := Kp.five_in w4 w5.heap.size (.int .u32 f) (.int .u32 p) (.int .u32 q) (.bool x) (.bool y)
        have h5 : RamAt (((((w4.setCell ⟨w5.heap.size, 0, none⟩ (.int .u32 f)).setCell ⟨w5.heap.size, 1, none⟩ (.int .u32 p)).setCell ⟨w5.heap.size, 2, none⟩ (.int .u32 q)).setCell ⟨w5.heap.size, 3, none⟩ (.bool x)).setCell ⟨w5.heap.size, 4, none⟩ (.bool y)) B M' := hr4.kp kF (fun j hj e => nNew (by rw [← hM1, ← e]; exact hj))
        have t5 := (t1.kp k4' (fun j hj => hBK j hj)).kp kF (fun j hj e => by rcases hj with g | g <;> omega)
        replace rY := (rY.kp k4' (fun f => by have := f.2; have := HRX.out; omega)).kp kF (by omega)
        replace rK := (rK.kp k4' (fun f => by have := f.2; have := HRX.out; omega)).kp kF (by omega)
        have k5 : Kp (fun j => inRam B M.n j ∨ inTlb K j) w (((((w4.setCell ⟨w5.heap.size, 0, none⟩ (.int .u32 f)).setCell ⟨w5.heap.size, 1, none⟩ (.int .u32 p)).setCell ⟨w5.heap.size, 2, none⟩ (.int .u32 q)).setCell ⟨w5.heap.size, 3, none⟩ (.bool x)).setCell ⟨w5.heap.size, 4, none⟩ (.bool y)) := (k0.trans (k4'.mono (fun _ _ f => .inl f))).five (by have := HX.out; omega) _ _ _ _ _
        clear HS0 HSD HSK HSA HSF HRZ HRF ha1 ha2 k4' k4 kA kF t1 h0 rB k0 hr4 HC HSG rz z0 z1 z2 z3 z4 y0 y1 y2 y3 y4
        obtain ⟨Y, hYe⟩ : ∃ Y, Y = w5.heap.size := ⟨_, rfl⟩
        obtain ⟨V5, hgen⟩ : ∃ W, W = (((((w4.setCell ⟨w5.heap.size, 0, none⟩ (.int .u32 f)).setCell ⟨w5.heap.size, 1, none⟩ (.int .u32 p)).setCell ⟨w5.heap.size, 2, none⟩ (.int .u32 q)).setCell ⟨w5.heap.size, 3, none⟩ (.bool x)).setCell ⟨w5.heap.size, 4, none⟩ (.bool y)) := ⟨_, rfl⟩
        rw [← hgen] at rW h5 t5 rY rK k5 ⊢
        rw [← hYe] at rW ⊢
        have hYX : X + 2 < Y := by omega
        clear hYe hgen nNew hVX hVR hVK
        have d0 := rW.c0; have d1 := rW.c1; have d2 := rW.c2; have d3 := rW.c3; have d4 := rW.c4
        by_cases hcd : cd = -1
        · have hcb : (cd == -1) = true := by rw [hcd]; rfl
          obtain ⟨hg, g0, g1, g2, g3⟩ := HG.out hcd
          clear hcd
          have cK := keep_ok V5 K B pl tn D1 M' t5 h5 (c - c % 4096) (l - l % 4096) f p q x y hb g0 g1 g2 g3 htn hg (by rw [hM1]; exact hBK)
          unfold keyV walkV at cK
          have y0 := rY.c0; have y1 := rY.c1
          clear HG
          go_wp2_with fail
          refine cK.mono ?_; rintro e w6 ⟨rfl, ⟨D6, tn6, t6, ht6⟩, k6⟩
          have nY : ¬ inTlb K Y := fun f => by rcases f with e | e <;> omega
          have nX1 : ¬ inTlb K (X + 1) := fun f => by rcases f with e | e <;> omega
          replace rW := rW.kp k6 nY
          replace rK := rK.kp k6 nX1
          replace h5 := h5.kp k6 (fun j hj f => hBK j f (by rw [hM1] at hj; exact hj))
          replace k5 := k5.trans (k6.mono (fun _ _ f => .inr f))
          clear cK k6 nY nX1 t5 y0 y1 d0 d1 d2 d3 d4
          have d0 := rW.c0; have d1 := rW.c1; have d2 := rW.c2; have d3 := rW.c3; have d4 := rW.c4
          have z0 := rK.c0; have z1 := rK.c1; have z2 := rK.c2; have z3 := rK.c3; have z4 := rK.c4
          have f0 := rK.fz 0; have f1 := rK.fz 1; have f2 := rK.fz 2; have f3 := rK.fz 3; have f4 := rK.fz 4
          have v0 := rK.s0 f
          have v1 := v0.s1 p
          have v2 := v1.s2 q
          have v3 := v2.s3 x
          have v4 := v3.s4 y
          go_wp2
          refine bodyPost_ret (v := .tuple #[.agg #[.int .u32 f, .int .u32 p, .int .u32 q, .bool x, .bool y], .int .i64 cd, .int .i64 0]) ?_ rfl ⟨by rw [HWk.out, HCd.out]; rfl, ?_, ⟨D6, tn6, ?_, ht6⟩, ?_⟩
          · simp [results, Tryz.results94, go_sem, v0.c0, v1.c1, v2.c2, v3.c3, v4.c4]
          · rw [HMm.out]; exact h5.kp (Kp.five_in _ (X + 1) _ _ _ _ _) (fun j hj e => by have := HRX.out; rw [hM1] at hj; have := hj.2; omega)
          · exact t6.kp (Kp.five_in _ (X + 1) _ _ _ _ _) (fun j hj e => by rcases hj with f | f <;> omega)
          · exact k5.five (by have := HX.out; omega) _ _ _ _ _
        · have hcb : (cd == -1) = false := by simpa using hcd
          have z0 := rK.c0; have z1 := rK.c1; have z2 := rK.c2; have z3 := rK.c3; have z4 := rK.c4
          have f0 := rK.fz 0; have f1 := rK.fz 1; have f2 := rK.fz 2; have f3 := rK.fz 3; have f4 := rK.fz 4
          have v0 := rK.s0 f
          have v1 := v0.s1 p
          have v2 := v1.s2 q
          have v3 := v2.s3 x
          have v4 := v3.s4 y
          clear HG
          go_wp2
          refine bodyPost_ret (v := .tuple #[.agg #[.int .u32 f, .int .u32 p, .int .u32 q, .bool x, .bool y], .int .i64 cd, .int .i64 0]) ?_ rfl ⟨by rw [HWk.out, HCd.out]; rfl, ?_, ⟨D1, tn, ?_, by omega⟩, ?_⟩
          · simp [results, Tryz.results94, go_sem, v0.c0, v1.c1, v2.c2, v3.c3, v4.c4]
          · rw [HMm.out]; exact h5.kp (Kp.five_in _ (X + 1) _ _ _ _ _) (fun j hj e => by have := HRX.out; rw [hM1] at hj; have := hj.2; omega)
          · exact t5.kp (Kp.five_in _ (X + 1) _ _ _ _ _) (fun j hj e => by rcases hj with f | f <;> omega)
          · exact k5.five (by have := HX.out; omega) _ _ _ _ _
    · -- it serves
      have hgd := (HGd.out rfl).1
      obtain ⟨⟨o0, o1, u0, u1⟩, -, gp, gq, -, -, -⟩ := id hgd
      simp only at o0 o1 u0 u1 gp gq
      have pb := pdeA_bd hb.1 hb.2.1 hb.2.2.1 hb.2.2.2
      have qb := pteA_bd o0 o1 hb.2.2.1 hb.2.2.2
      rw [← gp] at pb
      rw [← gq] at qb
      have HGG : Hid (Good (c - c % 4096) (l - l % 4096) ⟨fr', p', q', bw', bu', o', t', en'⟩) := hgd
      clear HGd hgd gp gq
      have HRd : Hid (∀ W, TlbD W K B pl tn D → RamAt W B M → Calls Tryz.prog 95 #[.pointer (some ⟨K + 1, 0, none⟩), .agg #[.int .u32 fr', .int .u32 p', .int .u32 q', .bool bw', .bool bu']] W fun e w' => e = .returned (.agg #[.int .u32 (M.read p' 4), .int .u32 (M.read q' 4)]) ∧ Kp noB W w') := fun W hW hW' => tlRead_ok W K B pl tn D M hW hW' fr' p' q' bw' bu' pb.1 pb.2 qb.1 qb.2
      obtain ⟨m1, hm1⟩ : ∃ m, m = M.read p' 4 := ⟨_, rfl⟩
      obtain ⟨m2, hm2⟩ : ∃ m, m = M.read q' 4 := ⟨_, rfl⟩
      rw [← hm1, ← hm2] at HRd
      rw [← hm1] at e1
      rw [← hm2] at e2
      have HM12 : Hid (M.read p' 4 = m1 ∧ M.read q' 4 = m2) := ⟨hm1.symm, hm2.symm⟩
      clear hm1 hm2
      have tD : TlbD W2.drew K B pl tn D := t0.kept (fun _ _ => rfl)
      have hD0 : RamAt W2.drew B M := h0.kept (fun _ _ => rfl)
      have HS0 : Hid (W2.drew.cell? ⟨X + 3, 0, none⟩ = some (.int .u32 fr') ∧ W2.drew.cell? ⟨X + 3, 1, none⟩ = some (.int .u32 p') ∧ W2.drew.cell? ⟨X + 3, 2, none⟩ = some (.int .u32 q') ∧ W2.drew.cell? ⟨X + 3, 3, none⟩ = some (.bool bw') ∧ W2.drew.cell? ⟨X + 3, 4, none⟩ = some (.bool bu') ∧ W2.drew.cell? ⟨X + 3, 5, none⟩ = some (.int .u32 o') ∧ W2.drew.cell? ⟨X + 3, 6, none⟩ = some (.int .u32 t')) := ⟨by rw [cell_at (w := W2.drew) rF]; rfl, by rw [cell_at (w := W2.drew) rF]; rfl, by rw [cell_at (w := W2.drew) rF]; rfl, by rw [cell_at (w := W2.drew) rF]; rfl, by rw [cell_at (w := W2.drew) rF]; rfl, by rw [cell_at (w := W2.drew) rF]; rfl, by rw [cell_at (w := W2.drew) rF]; rfl⟩
      have HSK : Hid (∀ W', Kp noB W2.drew W' → (W'.cell? ⟨X + 3, 0, none⟩ = some (.int .u32 fr') ∧ W'.cell? ⟨X + 3, 1, none⟩ = some (.int .u32 p') ∧ W'.cell? ⟨X + 3, 2, none⟩ = some (.int .u32 q') ∧ W'.cell? ⟨X + 3, 3, none⟩ = some (.bool bw') ∧ W'.cell? ⟨X + 3, 4, none⟩ = some (.bool bu') ∧ W'.cell? ⟨X + 3, 5, none⟩ = some (.int .u32 o') ∧ W'.cell? ⟨X + 3, 6, none⟩ = some (.int .u32 t'))) := fun W' k => by
        have u : W'.heap[X + 3]? = _ := (k.block (X + 3) (Array.getElem?_eq_some_iff.1 rF).1 (fun f => f)).trans rF
        exact ⟨by rw [cell_at u]; rfl, by rw [cell_at u]; rfl, by rw [cell_at u]; rfl, by rw [cell_at u]; rfl, by rw [cell_at u]; rfl, by rw [cell_at u]; rfl, by rw [cell_at u]; rfl⟩
      go_upto_region 6 with fail
      go_region_held3 (fun W => (W.cell? ⟨X + 3, 0, none⟩ = some (.int .u32 fr') ∧ W.cell? ⟨X + 3, 1, none⟩ = some (.int .u32 p') ∧ W.cell? ⟨X + 3, 2, none⟩ = some (.int .u32 q') ∧ W.cell? ⟨X + 3, 3, none⟩ = some (.bool bw') ∧ W.cell? ⟨X + 3, 4, none⟩ = some (.bool bu') ∧ W.cell? ⟨X + 3, 5, none⟩ = some (.int .u32 o') ∧ W.cell? ⟨X + 3, 6, none⟩ = some (.int .u32 t')))
        (first | with_reducible exact HS0.out | with_reducible exact HSK.out _ k3)
        (first | (go_at_call 95; refine (HRd.out _ (by assumption) (by assumption)).mono ?_; rintro e w3 ⟨rfl, k3⟩))
      replace k3 : Kp noB W2 w3 := ⟨k3.os, k3.tape, k3.output, k3.size, k3.block⟩
      replace rF : w3.heap[X + 3]? = _ := (k3.block (X + 3) (Array.getElem?_eq_some_iff.1 rF).1 (fun f => f)).trans rF
      replace t0 := t0.kp k3 (fun _ _ f => f)
      replace h0 := h0.kp k3 (fun _ _ f => f)
      replace rY := rY.kp k3 (fun f => f)
      replace rK := rK.kp k3 (fun f => f)
      replace rB := rB.kp k3 (fun f => f)
      replace k0 := k0.trans k3
      clear k3 HS0 HSK tD hD0 HRd
      have g0 := cell_at (o := 0) rF; have g1 := cell_at (o := 1) rF; have g2 := cell_at (o := 2) rF; have g3 := cell_at (o := 3) rF; have g4 := cell_at (o := 4) rF; have g5 := cell_at (o := 5) rF; have g6 := cell_at (o := 6) rF; have g7 := cell_at (o := 7) rF
      simp only [List.getElem?_toArray, List.getElem?_cons_zero, List.getElem?_cons_succ] at g0 g1 g2 g3 g4 g5 g6 g7
      have b0 := rB.c0; have b1 := rB.c1; have b2 := rB.c2
      have cS := serves_any w3 ⟨fr', p', q', bw', bu', o', t', en'⟩ wr us wp o0 o1 u0 u1
      unfold Ent.val wayV at cS
      simp only at cS
      rw [esv] at cS
      go_wp2_with fail
      refine cS.mono ?_; rintro e w5 ⟨rfl, k5⟩
      replace rF : w5.heap[X + 3]? = _ := (k5.block (X + 3) (Array.getElem?_eq_some_iff.1 rF).1 (fun f => f)).trans rF
      replace t0 := t0.kp k5 (fun _ _ f => f)
      replace h0 := h0.kp k5 (fun _ _ f => f)
      replace rY := rY.kp k5 (fun f => f)
      replace rK := rK.kp k5 (fun f => f)
      replace rB := rB.kp k5 (fun f => f)
      replace k0 := k0.trans k5
      clear k5 cS g0 g1 g2 g3 g4 g5 g6 g7 b0 b1 b2
      have q1 : M.read p' 4 = o' := by rw [HM12.out.1]; exact (by simpa using e1 : o' = m1).symm
      have q2 : M.read q' 4 = t' := by rw [HM12.out.2]; exact (by simpa using e2 : t' = m2).symm
      obtain ⟨hw1, hw2, hw3⟩ := hit h0.rdB HGG.out (wp := wp) q1 q2 esv
      clear q1 q2 HGG esv e1 e2
      have g0 := cell_at (o := 0) rF; have g1 := cell_at (o := 1) rF; have g2 := cell_at (o := 2) rF; have g3 := cell_at (o := 3) rF; have g4 := cell_at (o := 4) rF
      simp only [List.getElem?_toArray, List.getElem?_cons_zero, List.getElem?_cons_succ] at g0 g1 g2 g3 g4
      have z0 := rK.c0; have z1 := rK.c1; have z2 := rK.c2; have z3 := rK.c3; have z4 := rK.c4
      have f0 := rK.fz 0; have f1 := rK.fz 1; have f2 := rK.fz 2; have f3 := rK.fz 3; have f4 := rK.fz 4
      have v0 := rK.s0 fr'
      have v1 := v0.s1 p'
      have v2 := v1.s2 q'
      have v3 := v2.s3 bw'
      have v4 := v3.s4 bu'
      have HW : Hid (fWalk M c l wr us wp = walkV fr' p' q' bw' bu' ∧ fCode M c l wr us wp = -1 ∧ fMem M c l wr us wp = M) := ⟨hw1, hw2, hw3⟩
      clear hw1 hw2 hw3
      go_wp2
      refine bodyPost_ret (v := .tuple #[.agg #[.int .u32 fr', .int .u32 p', .int .u32 q', .bool bw', .bool bu'], .int .i64 (-1), .int .i64 0]) ?_ rfl ⟨by rw [HW.out.1, HW.out.2.1]; rfl, ?_, ⟨D, tn, ?_, by omega⟩, ?_⟩
      · simp [results, Tryz.results94, go_sem, v0.c0, v1.c1, v2.c2, v3.c3, v4.c4]
      · rw [HW.out.2.2]; exact h0.kp (Kp.five_in _ (X + 1) _ _ _ _ _) (fun j hj e => by have := HRX.out; have := hj.2; omega)
      · exact t0.kp (Kp.five_in _ (X + 1) _ _ _ _ _) (fun j hj e => by rcases hj with f | f <;> omega)
      · exact (k0.mono (fun _ _ f => f.elim)).five (by have := HX.out; omega) _ _ _ _ _
    · -- it does not
      have hgd := (HGd.out rfl).1
      obtain ⟨⟨o0, o1, u0, u1⟩, -, gp, gq, -, -, -⟩ := id hgd
      simp only at o0 o1 u0 u1 gp gq
      have pb := pdeA_bd hb.1 hb.2.1 hb.2.2.1 hb.2.2.2
      have qb := pteA_bd o0 o1 hb.2.2.1 hb.2.2.2
      rw [← gp] at pb
      rw [← gq] at qb
      have HGG : Hid (Good (c - c % 4096) (l - l % 4096) ⟨fr', p', q', bw', bu', o', t', en'⟩) := hgd
      clear HGd hgd gp gq
      have HRd : Hid (∀ W, TlbD W K B pl tn D → RamAt W B M → Calls Tryz.prog 95 #[.pointer (some ⟨K + 1, 0, none⟩), .agg #[.int .u32 fr', .int .u32 p', .int .u32 q', .bool bw', .bool bu']] W fun e w' => e = .returned (.agg #[.int .u32 (M.read p' 4), .int .u32 (M.read q' 4)]) ∧ Kp noB W w') := fun W hW hW' => tlRead_ok W K B pl tn D M hW hW' fr' p' q' bw' bu' pb.1 pb.2 qb.1 qb.2
      obtain ⟨m1, hm1⟩ : ∃ m, m = M.read p' 4 := ⟨_, rfl⟩
      obtain ⟨m2, hm2⟩ : ∃ m, m = M.read q' 4 := ⟨_, rfl⟩
      rw [← hm1, ← hm2] at HRd
      rw [← hm1] at e1
      rw [← hm2] at e2
      have HM12 : Hid (M.read p' 4 = m1 ∧ M.read q' 4 = m2) := ⟨hm1.symm, hm2.symm⟩
      clear hm1 hm2
      have tD : TlbD W2.drew K B pl tn D := t0.kept (fun _ _ => rfl)
      have hD0 : RamAt W2.drew B M := h0.kept (fun _ _ => rfl)
      have HS0 : Hid (W2.drew.cell? ⟨X + 3, 0, none⟩ = some (.int .u32 fr') ∧ W2.drew.cell? ⟨X + 3, 1, none⟩ = some (.int .u32 p') ∧ W2.drew.cell? ⟨X + 3, 2, none⟩ = some (.int .u32 q') ∧ W2.drew.cell? ⟨X + 3, 3, none⟩ = some (.bool bw') ∧ W2.drew.cell? ⟨X + 3, 4, none⟩ = some (.bool bu') ∧ W2.drew.cell? ⟨X + 3, 5, none⟩ = some (.int .u32 o') ∧ W2.drew.cell? ⟨X + 3, 6, none⟩ = some (.int .u32 t')) := ⟨by rw [cell_at (w := W2.drew) rF]; rfl, by rw [cell_at (w := W2.drew) rF]; rfl, by rw [cell_at (w := W2.drew) rF]; rfl, by rw [cell_at (w := W2.drew) rF]; rfl, by rw [cell_at (w := W2.drew) rF]; rfl, by rw [cell_at (w := W2.drew) rF]; rfl, by rw [cell_at (w := W2.drew) rF]; rfl⟩
      have HSK : Hid (∀ W', Kp noB W2.drew W' → (W'.cell? ⟨X + 3, 0, none⟩ = some (.int .u32 fr') ∧ W'.cell? ⟨X + 3, 1, none⟩ = some (.int .u32 p') ∧ W'.cell? ⟨X + 3, 2, none⟩ = some (.int .u32 q') ∧ W'.cell? ⟨X + 3, 3, none⟩ = some (.bool bw') ∧ W'.cell? ⟨X + 3, 4, none⟩ = some (.bool bu') ∧ W'.cell? ⟨X + 3, 5, none⟩ = some (.int .u32 o') ∧ W'.cell? ⟨X + 3, 6, none⟩ = some (.int .u32 t'))) := fun W' k => by
        have u : W'.heap[X + 3]? = _ := (k.block (X + 3) (Array.getElem?_eq_some_iff.1 rF).1 (fun f => f)).trans rF
        exact ⟨by rw [cell_at u]; rfl, by rw [cell_at u]; rfl, by rw [cell_at u]; rfl, by rw [cell_at u]; rfl, by rw [cell_at u]; rfl, by rw [cell_at u]; rfl, by rw [cell_at u]; rfl⟩
      go_upto_region 6 with fail
      go_region_held3 (fun W => (W.cell? ⟨X + 3, 0, none⟩ = some (.int .u32 fr') ∧ W.cell? ⟨X + 3, 1, none⟩ = some (.int .u32 p') ∧ W.cell? ⟨X + 3, 2, none⟩ = some (.int .u32 q') ∧ W.cell? ⟨X + 3, 3, none⟩ = some (.bool bw') ∧ W.cell? ⟨X + 3, 4, none⟩ = some (.bool bu') ∧ W.cell? ⟨X + 3, 5, none⟩ = some (.int .u32 o') ∧ W.cell? ⟨X + 3, 6, none⟩ = some (.int .u32 t')))
        (first | with_reducible exact HS0.out | with_reducible exact HSK.out _ k3)
        (first | (go_at_call 95; refine (HRd.out _ (by assumption) (by assumption)).mono ?_; rintro e w3 ⟨rfl, k3⟩))
      replace k3 : Kp noB W2 w3 := ⟨k3.os, k3.tape, k3.output, k3.size, k3.block⟩
      replace rF : w3.heap[X + 3]? = _ := (k3.block (X + 3) (Array.getElem?_eq_some_iff.1 rF).1 (fun f => f)).trans rF
      replace t0 := t0.kp k3 (fun _ _ f => f)
      replace h0 := h0.kp k3 (fun _ _ f => f)
      replace rY := rY.kp k3 (fun f => f)
      replace rK := rK.kp k3 (fun f => f)
      replace rB := rB.kp k3 (fun f => f)
      replace k0 := k0.trans k3
      clear k3 HS0 HSK tD hD0 HRd
      have g0 := cell_at (o := 0) rF; have g1 := cell_at (o := 1) rF; have g2 := cell_at (o := 2) rF; have g3 := cell_at (o := 3) rF; have g4 := cell_at (o := 4) rF; have g5 := cell_at (o := 5) rF; have g6 := cell_at (o := 6) rF; have g7 := cell_at (o := 7) rF
      simp only [List.getElem?_toArray, List.getElem?_cons_zero, List.getElem?_cons_succ] at g0 g1 g2 g3 g4 g5 g6 g7
      have b0 := rB.c0; have b1 := rB.c1; have b2 := rB.c2
      have cS := serves_any w3 ⟨fr', p', q', bw', bu', o', t', en'⟩ wr us wp o0 o1 u0 u1
      unfold Ent.val wayV at cS
      simp only at cS
      rw [esv] at cS
      go_wp2_with fail
      refine cS.mono ?_; rintro e w5 ⟨rfl, k5⟩
      replace rF : w5.heap[X + 3]? = _ := (k5.block (X + 3) (Array.getElem?_eq_some_iff.1 rF).1 (fun f => f)).trans rF
      replace t0 := t0.kp k5 (fun _ _ f => f)
      replace h0 := h0.kp k5 (fun _ _ f => f)
      replace rY := rY.kp k5 (fun f => f)
      replace rK := rK.kp k5 (fun f => f)
      replace rB := rB.kp k5 (fun f => f)
      replace k0 := k0.trans k5
      clear k5 cS g0 g1 g2 g3 g4 g5 g6 g7 b0 b1 b2
      rename TlbD w5 K B pl tn D => t1
      replace k0 : Kp (fun j => inRam B M.n j ∨ inTlb K j) w w5 := k0.mono (fun _ _ f => f.elim)
      clear rF HGG esv e1 e2 HM12
      have hVX : X + 2 < w5.heap.size := rY.lt
      have hVR : B + 4 + M.n ≤ w5.heap.size := h0.lt
      have hVK : K + 1 < w5.heap.size := t1.lt
      obtain ⟨f, p, q, x, y, hwk⟩ := fWalk_is0 M c l wr us wp
      have HG : Hid (fCode M c l wr us wp = -1 → Good (c - c % 4096) (l - l % 4096) ⟨f, p, q, x, y, (fMem M c l wr us wp).read p 4, (fMem M c l wr us wp).read q 4, ((tn + 1 : Nat) : Int)⟩ ∧ (0 ≤ p ∧ p < 4294967296 ∧ 0 ≤ q ∧ q < 4294967296)) := fun e => found_good h0.rdB hMc c0 c1 l0 l1 hwk e _
      have HC : Hid (∀ W, RamAt W B M → Calls Tryz.prog 97 #[.pointer (some ⟨B + 3, 0, none⟩), .int .u32 c, .int .u32 l, .agg #[.bool wr, .bool us, .bool wp]] W (fun e w' => e = .returned (.tuple #[.agg #[.int .u32 f, .int .u32 p, .int .u32 q, .bool x, .bool y], .int .i64 (fCode M c l wr us wp), .int .i64 0]) ∧ RamAt w' B (fMem M c l wr us wp) ∧ Kp (inRam B M.n) W w')) := fun W hW => by
        have := find_ok W B M hW c l wr us wp c0 c1 l0 l1
        unfold FdPost at this
        rw [hwk] at this
        exact this
      have HWk : Hid (fWalk M c l wr us wp = walkV f p q x y) := hwk
      have hsm := (fMem_same M c l wr us wp).1
      have hcb := fCode_bd0 M c l wr us wp
      obtain ⟨M', hM'⟩ : ∃ M', M' = fMem M c l wr us wp := ⟨_, rfl⟩
      obtain ⟨cd, hcd⟩ : ∃ cd, cd = fCode M c l wr us wp := ⟨_, rfl⟩
      have HMm : Hid (fMem M c l wr us wp = M') := hM'.symm
      have HCd : Hid (fCode M c l wr us wp = cd) := hcd.symm
      rw [← hM'] at HC HG hsm
      rw [← hcd] at HC HG hcb
      have hM1 : M'.n = M.n := hsm
      obtain ⟨cb0, cb1⟩ := hcb
      clear hwk hsm hM' hcd
      have nK1 : ¬ inRam B M.n (K + 1) := hBK _ (.inr rfl)
      have nXr : ¬ inRam B M.n X := fun f => by have := f.2; have := HRX.out; omega
      have nNew : ¬ inRam B M.n w5.heap.size := fun f => by have := f.2; omega
      have s8 : (w5.cell? ⟨K + 1, 0, none⟩ = some (.pointer (some ⟨B + 3, 0, none⟩)) ∧ w5.cell? ⟨X, 0, none⟩ = some (.bool wr) ∧ w5.cell? ⟨X, 1, none⟩ = some (.bool us) ∧ w5.cell? ⟨X, 2, none⟩ = some (.bool wp)) := ⟨t1.c0, rB.c0, rB.c1, rB.c2⟩
      have HSG : Hid (∀ (T : Nat → Prop) (W W' : World), Kp T W W' → ¬ T (K + 1) → ¬ T X → (W.cell? ⟨K + 1, 0, none⟩ = some (.pointer (some ⟨B + 3, 0, none⟩)) ∧ W.cell? ⟨X, 0, none⟩ = some (.bool wr) ∧ W.cell? ⟨X, 1, none⟩ = some (.bool us) ∧ W.cell? ⟨X, 2, none⟩ = some (.bool wp)) → (W'.cell? ⟨K + 1, 0, none⟩ = some (.pointer (some ⟨B + 3, 0, none⟩)) ∧ W'.cell? ⟨X, 0, none⟩ = some (.bool wr) ∧ W'.cell? ⟨X, 1, none⟩ = some (.bool us) ∧ W'.cell? ⟨X, 2, none⟩ = some (.bool wp))) := fun T W W' k h1 h2 ⟨a0, a1, a2, a3⟩ => ⟨cell_kp a0 k h1, cell_kp a1 k h2, cell_kp a2 k h2, cell_kp a3 k h2⟩
      have HS0 : Hid (w5.drew.cell? ⟨K + 1, 0, none⟩ = some (.pointer (some ⟨B + 3, 0, none⟩)) ∧ w5.drew.cell? ⟨X, 0, none⟩ = some (.bool wr) ∧ w5.drew.cell? ⟨X, 1, none⟩ = some (.bool us) ∧ w5.drew.cell? ⟨X, 2, none⟩ = some (.bool wp)) := s8
      have HSD : Hid ((w5.alloc (.cells #[.int .u32 0, .int .u32 0, .int .u32 0, .bool false, .bool false] 145)).drew.cell? ⟨K + 1, 0, none⟩ = some (.pointer (some ⟨B + 3, 0, none⟩)) ∧ (w5.alloc (.cells #[.int .u32 0, .int .u32 0, .int .u32 0, .bool false, .bool false] 145)).drew.cell? ⟨X, 0, none⟩ = some (.bool wr) ∧ (w5.alloc (.cells #[.int .u32 0, .int .u32 0, .int .u32 0, .bool false, .bool false] 145)).drew.cell? ⟨X, 1, none⟩ = some (.bool us) ∧ (w5.alloc (.cells #[.int .u32 0, .int .u32 0, .int .u32 0, .bool false, .bool false] 145)).drew.cell? ⟨X, 2, none⟩ = some (.bool wp)) := HSG.out noB w5 _ ((Kp.alloc noB w5 (.cells #[.int .u32 0, .int .u32 0, .int .u32 0, .bool false, .bool false] 145)).drew) (fun f => f) (fun f => f) s8
      have HSK : Hid (∀ W W', Kp (inRam B M.n) W W' → (W.cell? ⟨K + 1, 0, none⟩ = some (.pointer (some ⟨B + 3, 0, none⟩)) ∧ W.cell? ⟨X, 0, none⟩ = some (.bool wr) ∧ W.cell? ⟨X, 1, none⟩ = some (.bool us) ∧ W.cell? ⟨X, 2, none⟩ = some (.bool wp)) → (W'.cell? ⟨K + 1, 0, none⟩ = some (.pointer (some ⟨B + 3, 0, none⟩)) ∧ W'.cell? ⟨X, 0, none⟩ = some (.bool wr) ∧ W'.cell? ⟨X, 1, none⟩ = some (.bool us) ∧ W'.cell? ⟨X, 2, none⟩ = some (.bool wp))) := fun W W' k => HSG.out _ W W' k nK1 nXr
      have HSA : Hid (∀ (W : World) (O : Obj), (W.cell? ⟨K + 1, 0, none⟩ = some (.pointer (some ⟨B + 3, 0, none⟩)) ∧ W.cell? ⟨X, 0, none⟩ = some (.bool wr) ∧ W.cell? ⟨X, 1, none⟩ = some (.bool us) ∧ W.cell? ⟨X, 2, none⟩ = some (.bool wp)) → ((W.alloc O).cell? ⟨K + 1, 0, none⟩ = some (.pointer (some ⟨B + 3, 0, none⟩)) ∧ (W.alloc O).cell? ⟨X, 0, none⟩ = some (.bool wr) ∧ (W.alloc O).cell? ⟨X, 1, none⟩ = some (.bool us) ∧ (W.alloc O).cell? ⟨X, 2, none⟩ = some (.bool wp))) := fun W O => HSG.out noB W _ (Kp.alloc noB W O) (fun f => f) (fun f => f)
      have HSF : Hid (∀ (W : World), (W.cell? ⟨K + 1, 0, none⟩ = some (.pointer (some ⟨B + 3, 0, none⟩)) ∧ W.cell? ⟨X, 0, none⟩ = some (.bool wr) ∧ W.cell? ⟨X, 1, none⟩ = some (.bool us) ∧ W.cell? ⟨X, 2, none⟩ = some (.bool wp)) → ((((((W.setCell ⟨w5.heap.size, 0, none⟩ (.int .u32 f)).setCell ⟨w5.heap.size, 1, none⟩ (.int .u32 p)).setCell ⟨w5.heap.size, 2, none⟩ (.int .u32 q)).setCell ⟨w5.heap.size, 3, none⟩ (.bool x)).setCell ⟨w5.heap.size, 4, none⟩ (.bool y)).cell? ⟨K + 1, 0, none⟩ = some (.pointer (some ⟨B + 3, 0, none⟩)) ∧ (((((W.setCell ⟨w5.heap.size, 0, none⟩ (.int .u32 f)).setCell ⟨w5.heap.size, 1, none⟩ (.int .u32 p)).setCell ⟨w5.heap.size, 2, none⟩ (.int .u32 q)).setCell ⟨w5.heap.size, 3, none⟩ (.bool x)).setCell ⟨w5.heap.size, 4, none⟩ (.bool y)).cell? ⟨X, 0, none⟩ = some (.bool wr) ∧ (((((W.setCell ⟨w5.heap.size, 0, none⟩ (.int .u32 f)).setCell ⟨w5.heap.size, 1, none⟩ (.int .u32 p)).setCell ⟨w5.heap.size, 2, none⟩ (.int .u32 q)).setCell ⟨w5.heap.size, 3, none⟩ (.bool x)).setCell ⟨w5.heap.size, 4, none⟩ (.bool y)).cell? ⟨X, 1, none⟩ = some (.bool us) ∧ (((((W.setCell ⟨w5.heap.size, 0, none⟩ (.int .u32 f)).setCell ⟨w5.heap.size, 1, none⟩ (.int .u32 p)).setCell ⟨w5.heap.size, 2, none⟩ (.int .u32 q)).setCell ⟨w5.heap.size, 3, none⟩ (.bool x)).setCell ⟨w5.heap.size, 4, none⟩ (.bool y)).cell? ⟨X, 2, none⟩ = some (.bool wp))) := fun W => HSG.out _ W _ (Kp.five_in W w5.heap.size _ _ _ _ _) (by omega) (by omega)
      have ha1 : RamAt w5.drew B M := h0.kept (fun _ _ => rfl)
      have ha2 : RamAt (w5.alloc (.cells #[.int .u32 0, .int .u32 0, .int .u32 0, .bool false, .bool false] 145)).drew B M := h0.kp ((Kp.alloc noB w5 (.cells #[.int .u32 0, .int .u32 0, .int .u32 0, .bool false, .bool false] 145)).drew) (fun _ _ f => f)
      have HRZ : Hid (∀ W', Kp (inRam B M.n) (w5.alloc (.cells #[.int .u32 0, .int .u32 0, .int .u32 0, .bool false, .bool false] 145)).drew W' → RowK W' w5.heap.size 0 0 0 false false) := fun W' k => by
        have r : RowK (w5.alloc (.cells #[.int .u32 0, .int .u32 0, .int .u32 0, .bool false, .bool false] 145)).drew w5.heap.size 0 0 0 false false := (MapKept.heap_alloc w5 (.cells #[.int .u32 0, .int .u32 0, .int .u32 0, .bool false, .bool false] 145)).1
        exact r.kp k nNew
      have HRF : Hid (∀ W', RowK W' w5.heap.size 0 0 0 false false → (W'.cell? ⟨w5.heap.size, 0, none⟩ = some (.int .u32 0) ∧ W'.cell? ⟨w5.heap.size, 1, none⟩ = some (.int .u32 0) ∧ W'.cell? ⟨w5.heap.size, 2, none⟩ = some (.int .u32 0) ∧ W'.cell? ⟨w5.heap.size, 3, none⟩ = some (.bool false) ∧ W'.cell? ⟨w5.heap.size, 4, none⟩ = some (.bool false) ∧ W'.frozen? ⟨w5.heap.size, 0, none⟩ = false ∧ W'.frozen? ⟨w5.heap.size, 1, none⟩ = false ∧ W'.frozen? ⟨w5.heap.size, 2, none⟩ = false ∧ W'.frozen? ⟨w5.heap.size, 3, none⟩ = false ∧ W'.frozen? ⟨w5.heap.size, 4, none⟩ = false)) := fun W' r => ⟨r.c0, r.c1, r.c2, r.c3, r.c4, r.fz 0, r.fz 1, r.fz 2, r.fz 3, r.fz 4⟩
      clear s8
      go_upto_region 10 with fail
      go_region_held3 (fun W => (W.cell? ⟨K + 1, 0, none⟩ = some (.pointer (some ⟨B + 3, 0, none⟩)) ∧ W.cell? ⟨X, 0, none⟩ = some (.bool wr) ∧ W.cell? ⟨X, 1, none⟩ = some (.bool us) ∧ W.cell? ⟨X, 2, none⟩ = some (.bool wp)))
        (first | with_reducible exact HS0.out | with_reducible exact HSD.out | with_reducible exact HSK.out _ _ k4 HS0.out | with_reducible exact HSK.out _ _ k4 HSD.out | with_reducible exact HSA.out _ _ (HSK.out _ _ k4 HS0.out) | with_reducible exact HSF.out _ (HSK.out _ _ k4 HSD.out))
        (first
          | (go_at_call 97; refine (HC.out _ (by assumption)).mono ?_; rintro e w4 ⟨rfl, hr4, k4⟩; (first | ((with_reducible have rz := HRZ.out _ k4); obtain ⟨z0, z1, z2, z3, z4, y0, y1, y2, y3, y4⟩ := HRF.out _ rz) | skip)))
      · have k4' : Kp (inRam B M.n) w5 w4 := ⟨k4.os, k4.tape, k4.output, k4.size, k4.block⟩
        have kA := Kp.alloc noB w4 (.cells #[.int .u32 f, .int .u32 p, .int .u32 q, .bool x, .bool y] 145)
        have rW : RowK (w4.alloc (.cells #[.int .u32 f, .int .u32 p, .int .u32 q, .bool x, .bool y] 145)) w4.heap.size f p q x y := (MapKept.heap_alloc w4 _).1
        have hY : w5.heap.size ≤ w4.heap.size := k4'.size
        replace k4' : Kp (inRam B M.n) w5 (w4.alloc (.cells #[.int .u32 f, .int .u32 p, .int .u32 q, .bool x, .bool y] 145)) := k4'.over kA (fun _ _ f => f.elim)
        have h5 : RamAt (w4.alloc (.cells #[.int .u32 f, .int .u32 p, .int .u32 q, .bool x, .bool y] 145)) B M' := hr4.kp kA (fun _ _ f => f)
        have t5 := t1.kp k4' (fun j hj => hBK j hj)
        replace rY := rY.kp k4' (fun f => by have := f.2; have := HRX.out; omega)
        replace rK := rK.kp k4' (fun f => by have := f.2; have := HRX.out; omega)
        have k5 := k0.trans (k4'.mono (fun _ _ f => .inl f))
        clear HS0 HSD HSK HSA HSF HRZ HRF ha1 ha2 k4' k4 kA t1 h0 rB k0 hr4 HC HSG
        obtain ⟨Y, hYe⟩ : ∃ Y, Y = w4.heap.size := ⟨_, rfl⟩
        obtain ⟨V5, hgen⟩ : ∃ W, W = (w4.alloc (.cells #[.int .u32 f, .int .u32 p, .int .u32 q, .bool x, .bool y] 145)) := ⟨_, rfl⟩
        rw [← hgen] at rW h5 t5 rY rK k5 ⊢
        rw [← hYe] at rW hY ⊢
        have hYX : X + 2 < Y := by omega
        clear hYe hgen nNew hVX hVR hVK hY
        have d0 := rW.c0; have d1 := rW.c1; have d2 := rW.c2; have d3 := rW.c3; have d4 := rW.c4
        by_cases hcd : cd = -1
        · have hcb : (cd == -1) = true := by rw [hcd]; rfl
          obtain ⟨hg, g0, g1, g2, g3⟩ := HG.out hcd
          clear hcd
          have cK := keep_ok V5 K B pl tn D M' t5 h5 (c - c % 4096) (l - l % 4096) f p q x y hb g0 g1 g2 g3 htn hg (by rw [hM1]; exact hBK)
          unfold keyV walkV at cK
          have y0 := rY.c0; have y1 := rY.c1
          clear HG
          go_wp2_with fail
          refine cK.mono ?_; rintro e w6 ⟨rfl, ⟨D6, tn6, t6, ht6⟩, k6⟩
          have nY : ¬ inTlb K Y := fun f => by rcases f with e | e <;> omega
          have nX1 : ¬ inTlb K (X + 1) := fun f => by rcases f with e | e <;> omega
          replace rW := rW.kp k6 nY
          replace rK := rK.kp k6 nX1
          replace h5 := h5.kp k6 (fun j hj f => hBK j f (by rw [hM1] at hj; exact hj))
          replace k5 := k5.trans (k6.mono (fun _ _ f => .inr f))
          clear cK k6 nY nX1 t5 y0 y1 d0 d1 d2 d3 d4
          have d0 := rW.c0; have d1 := rW.c1; have d2 := rW.c2; have d3 := rW.c3; have d4 := rW.c4
          have z0 := rK.c0; have z1 := rK.c1; have z2 := rK.c2; have z3 := rK.c3; have z4 := rK.c4
          have f0 := rK.fz 0; have f1 := rK.fz 1; have f2 := rK.fz 2; have f3 := rK.fz 3; have f4 := rK.fz 4
          have v0 := rK.s0 f
          have v1 := v0.s1 p
          have v2 := v1.s2 q
          have v3 := v2.s3 x
          have v4 := v3.s4 y
          go_wp2
          refine bodyPost_ret (v := .tuple #[.agg #[.int .u32 f, .int .u32 p, .int .u32 q, .bool x, .bool y], .int .i64 cd, .int .i64 0]) ?_ rfl ⟨by rw [HWk.out, HCd.out]; rfl, ?_, ⟨D6, tn6, ?_, ht6⟩, ?_⟩
          · simp [results, Tryz.results94, go_sem, v0.c0, v1.c1, v2.c2, v3.c3, v4.c4]
          · rw [HMm.out]; exact h5.kp (Kp.five_in _ (X + 1) _ _ _ _ _) (fun j hj e => by have := HRX.out; rw [hM1] at hj; have := hj.2; omega)
          · exact t6.kp (Kp.five_in _ (X + 1) _ _ _ _ _) (fun j hj e => by rcases hj with f | f <;> omega)
          · exact k5.five (by have := HX.out; omega) _ _ _ _ _
        · have hcb : (cd == -1) = false := by simpa using hcd
          have z0 := rK.c0; have z1 := rK.c1; have z2 := rK.c2; have z3 := rK.c3; have z4 := rK.c4
          have f0 := rK.fz 0; have f1 := rK.fz 1; have f2 := rK.fz 2; have f3 := rK.fz 3; have f4 := rK.fz 4
          have v0 := rK.s0 f
          have v1 := v0.s1 p
          have v2 := v1.s2 q
          have v3 := v2.s3 x
          have v4 := v3.s4 y
          clear HG
          go_wp2
          refine bodyPost_ret (v := .tuple #[.agg #[.int .u32 f, .int .u32 p, .int .u32 q, .bool x, .bool y], .int .i64 cd, .int .i64 0]) ?_ rfl ⟨by rw [HWk.out, HCd.out]; rfl, ?_, ⟨D, tn, ?_, by omega⟩, ?_⟩
          · simp [results, Tryz.results94, go_sem, v0.c0, v1.c1, v2.c2, v3.c3, v4.c4]
          · rw [HMm.out]; exact h5.kp (Kp.five_in _ (X + 1) _ _ _ _ _) (fun j hj e => by have := HRX.out; rw [hM1] at hj; have := hj.2; omega)
          · exact t5.kp (Kp.five_in _ (X + 1) _ _ _ _ _) (fun j hj e => by rcases hj with f | f <;> omega)
          · exact k5.five (by have := HX.out; omega) _ _ _ _ _
      · have k4' : Kp (inRam B M.n) (w5.alloc (.cells #[.int .u32 0, .int .u32 0, .int .u32 0, .bool false, .bool false] 145)) w4 := ⟨k4.os, k4.tape, k4.output, k4.size, k4.block⟩
        have kA : Kp (inRam B M.n) w5 (w5.alloc (.cells #[.int .u32 0, .int .u32 0, .int .u32 0, .bool false, .bool false] 145)) := Kp.alloc _ w5 _
        replace k4' := kA.trans k4'
        have rW : RowK (((((w4.setCell ⟨w5.heap.size, 0, none⟩ (.int .u32 f)).setCell ⟨w5.heap.size, 1, none⟩ (.int .u32 p)).setCell ⟨w5.heap.size, 2, none⟩ (.int .u32 q)).setCell ⟨w5.heap.size, 3, none⟩ (.bool x)).setCell ⟨w5.heap.size, 4, none⟩ (.bool y)) w5.heap.size f p q x y := ((((rz.s0 f).s1 p).s2 q).s3 x).s4 y
        have kF := Kp.five_in w4 w5.heap.size (.int .u32 f) (.int .u32 p) (.int .u32 q) (.bool x) (.bool y)
        have h5 : RamAt (((((w4.setCell ⟨w5.heap.size, 0, none⟩ (.int .u32 f)).setCell ⟨w5.heap.size, 1, none⟩ (.int .u32 p)).setCell ⟨w5.heap.size, 2, none⟩ (.int .u32 q)).setCell ⟨w5.heap.size, 3, none⟩ (.bool x)).setCell ⟨w5.heap.size, 4, none⟩ (.bool y)) B M' := hr4.kp kF (fun j hj e => nNew (by rw [← hM1, ← e]; exact hj))
        have t5 := (t1.kp k4' (fun j hj => hBK j hj)).kp kF (fun j hj e => by rcases hj with g | g <;> omega)
        replace rY := (rY.kp k4' (fun f => by have := f.2; have := HRX.out; omega)).kp kF (by omega)
        replace rK := (rK.kp k4' (fun f => by have := f.2; have := HRX.out; omega)).kp kF (by omega)
        have k5 : Kp (fun j => inRam B M.n j ∨ inTlb K j) w (((((w4.setCell ⟨w5.heap.size, 0, none⟩ (.int .u32 f)).setCell ⟨w5.heap.size, 1, none⟩ (.int .u32 p)).setCell ⟨w5.heap.size, 2, none⟩ (.int .u32 q)).setCell ⟨w5.heap.size, 3, none⟩ (.bool x)).setCell ⟨w5.heap.size, 4, none⟩ (.bool y)) := (k0.trans (k4'.mono (fun _ _ f => .inl f))).five (by have := HX.out; omega) _ _ _ _ _
        clear HS0 HSD HSK HSA HSF HRZ HRF ha1 ha2 k4' k4 kA kF t1 h0 rB k0 hr4 HC HSG rz z0 z1 z2 z3 z4 y0 y1 y2 y3 y4
        obtain ⟨Y, hYe⟩ : ∃ Y, Y = w5.heap.size := ⟨_, rfl⟩
        obtain ⟨V5, hgen⟩ : ∃ W, W = (((((w4.setCell ⟨w5.heap.size, 0, none⟩ (.int .u32 f)).setCell ⟨w5.heap.size, 1, none⟩ (.int .u32 p)).setCell ⟨w5.heap.size, 2, none⟩ (.int .u32 q)).setCell ⟨w5.heap.size, 3, none⟩ (.bool x)).setCell ⟨w5.heap.size, 4, none⟩ (.bool y)) := ⟨_, rfl⟩
        rw [← hgen] at rW h5 t5 rY rK k5 ⊢
        rw [← hYe] at rW ⊢
        have hYX : X + 2 < Y := by omega
        clear hYe hgen nNew hVX hVR hVK
        have d0 := rW.c0; have d1 := rW.c1; have d2 := rW.c2; have d3 := rW.c3; have d4 := rW.c4
        by_cases hcd : cd = -1
        · have hcb : (cd == -1) = true := by rw [hcd]; rfl
          obtain ⟨hg, g0, g1, g2, g3⟩ := HG.out hcd
          clear hcd
          have cK := keep_ok V5 K B pl tn D M' t5 h5 (c - c % 4096) (l - l % 4096) f p q x y hb g0 g1 g2 g3 htn hg (by rw [hM1]; exact hBK)
          unfold keyV walkV at cK
          have y0 := rY.c0; have y1 := rY.c1
          clear HG
          go_wp2_with fail
          refine cK.mono ?_; rintro e w6 ⟨rfl, ⟨D6, tn6, t6, ht6⟩, k6⟩
          have nY : ¬ inTlb K Y := fun f => by rcases f with e | e <;> omega
          have nX1 : ¬ inTlb K (X + 1) := fun f => by rcases f with e | e <;> omega
          replace rW := rW.kp k6 nY
          replace rK := rK.kp k6 nX1
          replace h5 := h5.kp k6 (fun j hj f => hBK j f (by rw [hM1] at hj; exact hj))
          replace k5 := k5.trans (k6.mono (fun _ _ f => .inr f))
          clear cK k6 nY nX1 t5 y0 y1 d0 d1 d2 d3 d4
          have d0 := rW.c0; have d1 := rW.c1; have d2 := rW.c2; have d3 := rW.c3; have d4 := rW.c4
          have z0 := rK.c0; have z1 := rK.c1; have z2 := rK.c2; have z3 := rK.c3; have z4 := rK.c4
          have f0 := rK.fz 0; have f1 := rK.fz 1; have f2 := rK.fz 2; have f3 := rK.fz 3; have f4 := rK.fz 4
          have v0 := rK.s0 f
          have v1 := v0.s1 p
          have v2 := v1.s2 q
          have v3 := v2.s3 x
          have v4 := v3.s4 y
          go_wp2
          refine bodyPost_ret (v := .tuple #[.agg #[.int .u32 f, .int .u32 p, .int .u32 q, .bool x, .bool y], .int .i64 cd, .int .i64 0]) ?_ rfl ⟨by rw [HWk.out, HCd.out]; rfl, ?_, ⟨D6, tn6, ?_, ht6⟩, ?_⟩
          · simp [results, Tryz.results94, go_sem, v0.c0, v1.c1, v2.c2, v3.c3, v4.c4]
          · rw [HMm.out]; exact h5.kp (Kp.five_in _ (X + 1) _ _ _ _ _) (fun j hj e => by have := HRX.out; rw [hM1] at hj; have := hj.2; omega)
          · exact t6.kp (Kp.five_in _ (X + 1) _ _ _ _ _) (fun j hj e => by rcases hj with f | f <;> omega)
          · exact k5.five (by have := HX.out; omega) _ _ _ _ _
        · have hcb : (cd == -1) = false := by simpa using hcd
          have z0 := rK.c0; have z1 := rK.c1; have z2 := rK.c2; have z3 := rK.c3; have z4 := rK.c4
          have f0 := rK.fz 0; have f1 := rK.fz 1; have f2 := rK.fz 2; have f3 := rK.fz 3; have f4 := rK.fz 4
          have v0 := rK.s0 f
          have v1 := v0.s1 p
          have v2 := v1.s2 q
          have v3 := v2.s3 x
          have v4 := v3.s4 y
          clear HG
          go_wp2
          refine bodyPost_ret (v := .tuple #[.agg #[.int .u32 f, .int .u32 p, .int .u32 q, .bool x, .bool y], .int .i64 cd, .int .i64 0]) ?_ rfl ⟨by rw [HWk.out, HCd.out]; rfl, ?_, ⟨D, tn, ?_, by omega⟩, ?_⟩
          · simp [results, Tryz.results94, go_sem, v0.c0, v1.c1, v2.c2, v3.c3, v4.c4]
          · rw [HMm.out]; exact h5.kp (Kp.five_in _ (X + 1) _ _ _ _ _) (fun j hj e => by have := HRX.out; rw [hM1] at hj; have := hj.2; omega)
          · exact t5.kp (Kp.five_in _ (X + 1) _ _ _ _ _) (fun j hj e => by rcases hj with f | f <;> omega)
          · exact k5.five (by have := HX.out; omega) _ _ _ _ _
end Go.Proofs.YtmmnnafjikilpaaGreat
