/- The contract of keep. -/
import Derived.Test.YtmmnnafjikilpaaTlRange
import Derived.BigQuiet
namespace Go.Proofs.Ytmmnnafjikilpaa
open Go.ChangeShapes Go.WideShapes Go.ChangeAt Go.RowKit Go.Maps
set_option linter.unusedVariables false

def entZ : Ent := ⟨0, 0, 0, false, false, 0, 0, 0⟩

set_option maxRecDepth 100000 in
set_option maxHeartbeats 4000000 in
theorem keep_ok (w : World) (K B pl tn : Nat) (D : DataW Unit) (M : Mem) (h : TlbD w K B pl tn D) (hr : RamAt w B M) (a b f p q : Int) (bw bu : Bool) (hb : 0 ≤ a ∧ a < 4294967296 ∧ 0 ≤ b ∧ b < 4294967296)
    (p0 : 0 ≤ p) (p1 : p < 4294967296) (q0 : 0 ≤ q) (q1 : q < 4294967296) (htn : tn < 18446744073709551614) (hg : Good a b ⟨f, p, q, bw, bu, M.read p 4, M.read q 4, ((tn + 1 : Nat) : Int)⟩) (hBK : ∀ j, inTlb K j → ¬ inRam B M.n j) :
    Calls Try.prog 75 #[.pointer (some ⟨K + 1, 0, none⟩), keyV a b, walkV f p q bw bu] w fun e w' => e = .returned (.tuple #[]) ∧ (∃ D' tn', TlbD w' K B pl tn' D' ∧ tn' ≤ tn + 1) ∧ Kp (inTlb K) w w' := by
  unfold keyV walkV
  obtain ⟨X, hX⟩ : ∃ X, w.heap.size = X := ⟨_, rfl⟩
  have HX : Hid (w.heap.size = X) := hX
  obtain ⟨W0, hW0⟩ : ∃ W, W = (w.alloc (.cells #[.int .u32 a, .int .u32 b] 127)).alloc (.cells #[.int .u32 f, .int .u32 p, .int .u32 q, .bool bw, .bool bu] 142) := ⟨_, rfl⟩
  have k0 : Kp noB w W0 := by rw [hW0]; exact (Kp.alloc _ _ _).trans (Kp.alloc _ _ _)
  have hs0 : W0.heap.size = X + 2 := by rw [hW0]; simp [hX]
  have rY : RowKy W0 X a b := by
    rw [hW0]
    have e0 := (MapKept.heap_alloc w (.cells #[.int .u32 a, .int .u32 b] 127)).1
    rw [hX] at e0
    exact (Below.heap_alloc _ _ _ (by simp; omega)).trans e0
  have rK : RowK W0 (X + 1) f p q bw bu := by
    rw [hW0]
    have e0 := (MapKept.heap_alloc (w.alloc (.cells #[.int .u32 a, .int .u32 b] 127)) (.cells #[.int .u32 f, .int .u32 p, .int .u32 q, .bool bw, .bool bu] 142)).1
    have e1 : (w.alloc (.cells #[.int .u32 a, .int .u32 b] 127)).heap.size = X + 1 := by simp [hX]
    rw [e1] at e0
    exact e0
  have h0 : RamAt W0 B M := hr.kp k0 (fun _ _ f => f)
  have t0 : TlbD W0 K B pl tn D := h.kp k0 (fun _ _ f => f)
  have hKX : K + 1 < X := by rw [← hX]; exact h.lt
  clear hr h
  have c1 := t0.c1
  by_cases hp : pl = 0
  · subst hp
    go_enter Try.func75, Try.ntmps75
    go_upto_region 1 with fail
    rw [← hW0]
    clear hW0
    go_wp2
    exact bodyPost_ret (v := .tuple #[]) (by simp [results, Try.results75]) rfl ⟨rfl, ⟨D, tn, t0, by omega⟩, k0.mono (fun _ _ f => f.elim)⟩
  · have hp' : ((pl : Int) == 0) = false := by simp; omega
    go_enter Try.func75, Try.ntmps75
    go_upto_region 1 with fail
    rw [← hW0]
    clear hW0
    go_upto_region 2 with fail
    have c2 := t0.c2
    have d0 := rY.c0; have d1 := rY.c1
    obtain ⟨e, hlka, _⟩ := t0.look hb
    obtain ⟨fr', p', q', bw', bu', o', t', en'⟩ := e
    obtain ⟨hs, hhs⟩ : ∃ s, s = Maps.has D (kl a b) := ⟨_, rfl⟩
    rw [← hhs] at hlka
    have HHS : Hid (hs = Maps.has D (kl a b)) := hhs
    clear hhs
    unfold keyV Ent.val at hlka
    simp only at hlka
    have tZ := t0.alloc (.cells #[.int .u32 0, .int .u32 0, .int .u32 0, .bool false, .bool false, .int .u32 0, .int .u32 0, .int .u64 0] 148)
    have rZ := rY.kp (Kp.alloc noB W0 (.cells #[.int .u32 0, .int .u32 0, .int .u32 0, .bool false, .bool false, .int .u32 0, .int .u32 0, .int .u64 0] 148)) (fun f => f)
    have c2Z := tZ.c2
    have d0Z := rZ.c0; have d1Z := rZ.c1
    have hlk := hlka W0.drew tn (t0.kept (fun _ _ => rfl))
    have hlk2 := hlka (W0.alloc (.cells #[.int .u32 0, .int .u32 0, .int .u32 0, .bool false, .bool false, .int .u32 0, .int .u32 0, .int .u64 0] 148)).drew tn (tZ.kept (fun _ _ => rfl))
    clear tZ rZ hlka
    go_region
    all_goals
      obtain ⟨W2, hW2⟩ : ∃ W, W = (W0.alloc (.cells #[.int .u32 fr', .int .u32 p', .int .u32 q', .bool bw', .bool bu', .int .u32 o', .int .u32 t', .int .u64 en'] 148)).drew := ⟨_, rfl⟩
      rw [← hW2]
      have k2 : Kp noB W0 W2 := by rw [hW2]; exact (Kp.alloc _ _ _).drew
      replace t0 := t0.kp k2 (fun _ _ f => f)
      replace h0 := h0.kp k2 (fun _ _ f => f)
      replace rY := rY.kp k2 (fun f => f)
      replace rK := rK.kp k2 (fun f => f)
      replace k0 := k0.trans k2
      clear hW2 k2 c1 c2 d0 d1 c2Z d0Z d1Z hlk hlk2
      have c1 := t0.c1
      have c2 := t0.c2
      have hl := fun (n : Nat) => (show TlbD (W2.drewN n) K B pl tn D from t0.kept (fun _ _ => rfl)).m.len keptT
      clear hs0
      have hcase : (hs = false ∧ (pl : Int) ≤ (Maps.size D : Int)) ∨ (hs = false ∧ ¬ (pl : Int) ≤ (Maps.size D : Int)) ∨ hs = true := by
        cases hs
        · by_cases hle : (pl : Int) ≤ (Maps.size D : Int)
          · exact .inl ⟨rfl, hle⟩
          · exact .inr (.inl ⟨rfl, hle⟩)
        · exact .inr (.inr rfl)
      rcases hcase with ⟨rfl, hle⟩ | ⟨rfl, hle⟩ | rfl
      · -- all places are taken: the oldest goes
        have hd : decide ((pl : Int) ≤ (Maps.size D : Int)) = true := decide_eq_true hle
        go_upto_region 3 with fail
        go_quiet (fail)
        obtain ⟨W3, hW3⟩ : ∃ W, W = W2.drewN nq := ⟨_, rfl⟩
        rw [← hW3]
        have k3 : Kp noB W2 W3 := by rw [hW3]; exact (Kp.refl noB W2).drewN _
        replace t0 := t0.kp k3 (fun _ _ f => f)
        replace h0 := h0.kp k3 (fun _ _ f => f)
        replace rY := rY.kp k3 (fun f => f)
        replace rK := rK.kp k3 (fun f => f)
        replace k0 := k0.trans k3
        clear hW3 k3 c1 c2 hl
        have tD : TlbD W3.drew K B pl tn D := t0.kept (fun _ _ => rfl)
        have HO : Hid (∀ W, TlbD W K B pl tn D → Calls Try.prog 81 #[.pointer (some ⟨K + 1, 0, none⟩)] W fun e w' => ∃ a b : Int, e = .returned (keyV a b) ∧ Maps.has D (kl a b) = true ∧ (0 ≤ a ∧ a < 4294967296 ∧ 0 ≤ b ∧ b < 4294967296) ∧ Kp noB W w') := fun W hW => oldest_ok W K B pl tn D hW (by omega) (by omega)
        have HS0 : Hid (W3.drew.cell? ⟨K + 1, 2, none⟩ = some (.map (some K))) := tD.c2
        have HSK : Hid (∀ W', Kp noB W3.drew W' → W'.cell? ⟨K + 1, 2, none⟩ = some (.map (some K))) := fun W' k => (tD.kp k (fun _ _ f => f)).c2
        have HT : Hid (∀ W', Kp noB W3.drew W' → TlbD W' K B pl tn D) := fun W' k => tD.kp k (fun _ _ f => f)
        go_upto_region 4 with fail
        go_region_held3 (fun W => W.cell? ⟨K + 1, 2, none⟩ = some (.map (some K)))
          (first | with_reducible exact HS0.out | with_reducible exact HSK.out _ k3 | with_reducible exact t4.c2)
          (first | (go_at_call 81; refine (HO.out _ (by assumption)).mono ?_; rintro e w3 ⟨a2, b2, rfl, hh2, hb2, k3⟩; obtain ⟨w4, hdel, t4, k4⟩ := (HT.out _ k3).drop hb2 0; unfold keyV at hdel ⊢))
        replace k3 : Kp noB W3 w3 := ⟨k3.os, k3.tape, k3.output, k3.size, k3.block⟩
        have hsd := size_del (k := kl a2 b2) t0.tidy
        rw [if_pos hh2] at hsd
        have hroom : Maps.has (D.del (kl a2 b2)) (kl a b) = true ∨ Maps.size (D.del (kl a2 b2)) < pl := .inr (by have := t0.g.size; omega)
        have nXK : ¬ X = K := by omega
        have nXK' : ¬ X + 1 = K := by omega
        replace h0 := (h0.kp k3 (fun _ _ f => f)).kp k4 (fun j hj e => hBK K (.inl rfl) (by rw [← e]; exact hj))
        replace rY := (rY.kp k3 (fun f => f)).kp k4 nXK
        replace rK := (rK.kp k3 (fun f => f)).kp k4 nXK'
        replace k0 : Kp (inTlb K) w w4 := ((k0.trans k3).mono (fun _ _ f => f.elim)).trans (k4.mono (fun _ _ e => .inl e))
        clear hdel k4 k3 HT HSK HS0 HO tD t0 hsd hh2 hb2 nXK nXK'
        generalize D.del (kl a2 b2) = D1 at *
        rename TlbD w4 K B pl tn D1 => t1
        clear HHS hle
        have c3 := t1.c3
        have f3 := t1.fz 3
        go_upto_region 6 with fail
        have t2 := t1.turn
        have e1 : ((tn + 1 : Nat) : Int) = (tn : Int) + 1 := rfl
        have k2 : Kp (fun j => j = K + 1) w4 (w4.setCell ⟨K + 1, 3, none⟩ (.int .u64 ((tn : Int) + 1))) := Kp.setCell (S := fun j => j = K + 1) w4 (p := ⟨K + 1, 3, none⟩) rfl _
        rw [e1] at t2 hg
        obtain ⟨V, hV⟩ : ∃ V, V = w4.setCell ⟨K + 1, 3, none⟩ (.int .u64 ((tn : Int) + 1)) := ⟨_, rfl⟩
        rw [← hV] at t2 k2 ⊢
        replace h0 := h0.kp k2 (fun j hj e => hBK (K + 1) (.inr rfl) (by rw [← e]; exact hj))
        replace rY := rY.kp k2 (by omega)
        replace rK := rK.kp k2 (by omega)
        replace k0 := k0.trans (k2.mono (fun _ _ e => .inr e))
        clear hV k2 t1 c3 f3 e1
        have tD : TlbD V.drew K B pl (tn + 1) D1 := t2.kept (fun _ _ => rfl)
        have hD0 : RamAt V.drew B M := h0.kept (fun _ _ => rfl)
        have HR : Hid (∀ W, TlbD W K B pl (tn + 1) D1 → RamAt W B M → Calls Try.prog 72 #[.pointer (some ⟨K + 1, 0, none⟩), .agg #[.int .u32 f, .int .u32 p, .int .u32 q, .bool bw, .bool bu]] W fun e w' => e = .returned (.agg #[.int .u32 (M.read p 4), .int .u32 (M.read q 4)]) ∧ Kp noB W w') := fun W hW hW' => tlRead_ok W K B pl (tn + 1) D1 M hW hW' f p q bw bu p0 p1 q0 q1
        have HT : Hid (∀ W', Kp noB V.drew W' → TlbD W' K B pl (tn + 1) D1) := fun W' k => tD.kp k (fun _ _ f => f)
        have HS0 : Hid (V.drew.cell? ⟨K + 1, 2, none⟩ = some (.map (some K)) ∧ V.drew.cell? ⟨K + 1, 3, none⟩ = some (.int .u64 ((tn : Int) + 1)) ∧ V.drew.cell? ⟨X, 0, none⟩ = some (.int .u32 a) ∧ V.drew.cell? ⟨X, 1, none⟩ = some (.int .u32 b) ∧ V.drew.cell? ⟨X + 1, 0, none⟩ = some (.int .u32 f) ∧ V.drew.cell? ⟨X + 1, 1, none⟩ = some (.int .u32 p) ∧ V.drew.cell? ⟨X + 1, 2, none⟩ = some (.int .u32 q) ∧ V.drew.cell? ⟨X + 1, 3, none⟩ = some (.bool bw) ∧ V.drew.cell? ⟨X + 1, 4, none⟩ = some (.bool bu)) := ⟨t2.c2, t2.c3, rY.c0, rY.c1, rK.c0, rK.c1, rK.c2, rK.c3, rK.c4⟩
        have HSK : Hid (∀ W', Kp noB V.drew W' → (W'.cell? ⟨K + 1, 2, none⟩ = some (.map (some K)) ∧ W'.cell? ⟨K + 1, 3, none⟩ = some (.int .u64 ((tn : Int) + 1)) ∧ W'.cell? ⟨X, 0, none⟩ = some (.int .u32 a) ∧ W'.cell? ⟨X, 1, none⟩ = some (.int .u32 b) ∧ W'.cell? ⟨X + 1, 0, none⟩ = some (.int .u32 f) ∧ W'.cell? ⟨X + 1, 1, none⟩ = some (.int .u32 p) ∧ W'.cell? ⟨X + 1, 2, none⟩ = some (.int .u32 q) ∧ W'.cell? ⟨X + 1, 3, none⟩ = some (.bool bw) ∧ W'.cell? ⟨X + 1, 4, none⟩ = some (.bool bu))) := fun W' k => by
          have t := HT.out _ k
          have y := RowKy.kp (W := V.drew) rY k (fun f => f)
          have z := RowK.kp (W := V.drew) rK k (fun f => f)
          exact ⟨t.c2, t.c3, y.c0, y.c1, z.c0, z.c1, z.c2, z.c3, z.c4⟩
        have HSU : Hid (∀ W' W'', Kp noB V.drew W' → Kp (fun j => j = K) W' W'' → (W''.cell? ⟨K + 1, 2, none⟩ = some (.map (some K)) ∧ W''.cell? ⟨K + 1, 3, none⟩ = some (.int .u64 ((tn : Int) + 1)) ∧ W''.cell? ⟨X, 0, none⟩ = some (.int .u32 a) ∧ W''.cell? ⟨X, 1, none⟩ = some (.int .u32 b) ∧ W''.cell? ⟨X + 1, 0, none⟩ = some (.int .u32 f) ∧ W''.cell? ⟨X + 1, 1, none⟩ = some (.int .u32 p) ∧ W''.cell? ⟨X + 1, 2, none⟩ = some (.int .u32 q) ∧ W''.cell? ⟨X + 1, 3, none⟩ = some (.bool bw) ∧ W''.cell? ⟨X + 1, 4, none⟩ = some (.bool bu))) := fun W' W'' k k' => by
          have t := HT.out _ k
          have y := (RowKy.kp (W := V.drew) rY k (fun f => f)).kp k' (by omega)
          have z := (RowK.kp (W := V.drew) rK k (fun f => f)).kp k' (by omega)
          have u : W''.heap[K + 1]? = _ := (k'.block (K + 1) t.lt (by omega)).trans t.c
          exact ⟨by rw [cell_at u]; rfl, by rw [cell_at u]; rfl, y.c0, y.c1, z.c0, z.c1, z.c2, z.c3, z.c4⟩
        go_region_held3 (fun W => (W.cell? ⟨K + 1, 2, none⟩ = some (.map (some K)) ∧ W.cell? ⟨K + 1, 3, none⟩ = some (.int .u64 ((tn : Int) + 1)) ∧ W.cell? ⟨X, 0, none⟩ = some (.int .u32 a) ∧ W.cell? ⟨X, 1, none⟩ = some (.int .u32 b) ∧ W.cell? ⟨X + 1, 0, none⟩ = some (.int .u32 f) ∧ W.cell? ⟨X + 1, 1, none⟩ = some (.int .u32 p) ∧ W.cell? ⟨X + 1, 2, none⟩ = some (.int .u32 q) ∧ W.cell? ⟨X + 1, 3, none⟩ = some (.bool bw) ∧ W.cell? ⟨X + 1, 4, none⟩ = some (.bool bu)))
          (first | with_reducible exact HS0.out | with_reducible exact HSK.out _ k5 | with_reducible exact HSU.out _ _ k5 k6)
          (first | (go_at_call 72; refine (HR.out _ (by assumption) (by assumption)).mono ?_; rintro e w5 ⟨rfl, k5⟩; obtain ⟨w6, hup, t6, k6⟩ := (HT.out _ k5).store hb hg (show (0 : Int) ≤ (tn : Int) + 1 by omega) (show (tn : Int) + 1 ≤ ((tn + 1 : Nat) : Int) by omega) hroom; unfold keyV Ent.val at hup; simp only at hup))
        replace k5 : Kp noB V w5 := ⟨k5.os, k5.tape, k5.output, k5.size, k5.block⟩
        replace k0 := (k0.trans (k5.mono (fun _ _ f => f.elim))).trans (k6.mono (fun _ _ e => .inl e))
        clear HSU HSK HS0 HT HR hD0 tD hup
        go_wp2
        go_end0
        exact ⟨rfl, ⟨_, tn + 1, t6, Nat.le_refl _⟩, k0⟩
      · have hd : decide ((pl : Int) ≤ (Maps.size D : Int)) = false := decide_eq_false hle
        go_upto_region 3 with fail
        go_quiet (fail)
        obtain ⟨W3, hW3⟩ : ∃ W, W = W2.drewN nq := ⟨_, rfl⟩
        rw [← hW3]
        have k3 : Kp noB W2 W3 := by rw [hW3]; exact (Kp.refl noB W2).drewN _
        replace t0 := t0.kp k3 (fun _ _ f => f)
        replace h0 := h0.kp k3 (fun _ _ f => f)
        replace rY := rY.kp k3 (fun f => f)
        replace rK := rK.kp k3 (fun f => f)
        replace k0 := k0.trans k3
        clear hW3 k3 c1 c2 hl
        have hroom : Maps.has D (kl a b) = true ∨ Maps.size D < pl := .inr (by omega)
        replace k0 : Kp (inTlb K) w W3 := k0.mono (fun _ _ f => f.elim)
        rename TlbD W3 K B pl tn D => t1
        clear HHS hle
        have c3 := t1.c3
        have f3 := t1.fz 3
        go_upto_region 6 with fail
        have t2 := t1.turn
        have e1 : ((tn + 1 : Nat) : Int) = (tn : Int) + 1 := rfl
        have k2 : Kp (fun j => j = K + 1) W3 (W3.setCell ⟨K + 1, 3, none⟩ (.int .u64 ((tn : Int) + 1))) := Kp.setCell (S := fun j => j = K + 1) W3 (p := ⟨K + 1, 3, none⟩) rfl _
        rw [e1] at t2 hg
        obtain ⟨V, hV⟩ : ∃ V, V = W3.setCell ⟨K + 1, 3, none⟩ (.int .u64 ((tn : Int) + 1)) := ⟨_, rfl⟩
        rw [← hV] at t2 k2 ⊢
        replace h0 := h0.kp k2 (fun j hj e => hBK (K + 1) (.inr rfl) (by rw [← e]; exact hj))
        replace rY := rY.kp k2 (by omega)
        replace rK := rK.kp k2 (by omega)
        replace k0 := k0.trans (k2.mono (fun _ _ e => .inr e))
        clear hV k2 t1 c3 f3 e1
        have tD : TlbD V.drew K B pl (tn + 1) D := t2.kept (fun _ _ => rfl)
        have hD0 : RamAt V.drew B M := h0.kept (fun _ _ => rfl)
        have HR : Hid (∀ W, TlbD W K B pl (tn + 1) D → RamAt W B M → Calls Try.prog 72 #[.pointer (some ⟨K + 1, 0, none⟩), .agg #[.int .u32 f, .int .u32 p, .int .u32 q, .bool bw, .bool bu]] W fun e w' => e = .returned (.agg #[.int .u32 (M.read p 4), .int .u32 (M.read q 4)]) ∧ Kp noB W w') := fun W hW hW' => tlRead_ok W K B pl (tn + 1) D M hW hW' f p q bw bu p0 p1 q0 q1
        have HT : Hid (∀ W', Kp noB V.drew W' → TlbD W' K B pl (tn + 1) D) := fun W' k => tD.kp k (fun _ _ f => f)
        have HS0 : Hid (V.drew.cell? ⟨K + 1, 2, none⟩ = some (.map (some K)) ∧ V.drew.cell? ⟨K + 1, 3, none⟩ = some (.int .u64 ((tn : Int) + 1)) ∧ V.drew.cell? ⟨X, 0, none⟩ = some (.int .u32 a) ∧ V.drew.cell? ⟨X, 1, none⟩ = some (.int .u32 b) ∧ V.drew.cell? ⟨X + 1, 0, none⟩ = some (.int .u32 f) ∧ V.drew.cell? ⟨X + 1, 1, none⟩ = some (.int .u32 p) ∧ V.drew.cell? ⟨X + 1, 2, none⟩ = some (.int .u32 q) ∧ V.drew.cell? ⟨X + 1, 3, none⟩ = some (.bool bw) ∧ V.drew.cell? ⟨X + 1, 4, none⟩ = some (.bool bu)) := ⟨t2.c2, t2.c3, rY.c0, rY.c1, rK.c0, rK.c1, rK.c2, rK.c3, rK.c4⟩
        have HSK : Hid (∀ W', Kp noB V.drew W' → (W'.cell? ⟨K + 1, 2, none⟩ = some (.map (some K)) ∧ W'.cell? ⟨K + 1, 3, none⟩ = some (.int .u64 ((tn : Int) + 1)) ∧ W'.cell? ⟨X, 0, none⟩ = some (.int .u32 a) ∧ W'.cell? ⟨X, 1, none⟩ = some (.int .u32 b) ∧ W'.cell? ⟨X + 1, 0, none⟩ = some (.int .u32 f) ∧ W'.cell? ⟨X + 1, 1, none⟩ = some (.int .u32 p) ∧ W'.cell? ⟨X + 1, 2, none⟩ = some (.int .u32 q) ∧ W'.cell? ⟨X + 1, 3, none⟩ = some (.bool bw) ∧ W'.cell? ⟨X + 1, 4, none⟩ = some (.bool bu))) := fun W' k => by
          have t := HT.out _ k
          have y := RowKy.kp (W := V.drew) rY k (fun f => f)
          have z := RowK.kp (W := V.drew) rK k (fun f => f)
          exact ⟨t.c2, t.c3, y.c0, y.c1, z.c0, z.c1, z.c2, z.c3, z.c4⟩
        have HSU : Hid (∀ W' W'', Kp noB V.drew W' → Kp (fun j => j = K) W' W'' → (W''.cell? ⟨K + 1, 2, none⟩ = some (.map (some K)) ∧ W''.cell? ⟨K + 1, 3, none⟩ = some (.int .u64 ((tn : Int) + 1)) ∧ W''.cell? ⟨X, 0, none⟩ = some (.int .u32 a) ∧ W''.cell? ⟨X, 1, none⟩ = some (.int .u32 b) ∧ W''.cell? ⟨X + 1, 0, none⟩ = some (.int .u32 f) ∧ W''.cell? ⟨X + 1, 1, none⟩ = some (.int .u32 p) ∧ W''.cell? ⟨X + 1, 2, none⟩ = some (.int .u32 q) ∧ W''.cell? ⟨X + 1, 3, none⟩ = some (.bool bw) ∧ W''.cell? ⟨X + 1, 4, none⟩ = some (.bool bu))) := fun W' W'' k k' => by
          have t := HT.out _ k
          have y := (RowKy.kp (W := V.drew) rY k (fun f => f)).kp k' (by omega)
          have z := (RowK.kp (W := V.drew) rK k (fun f => f)).kp k' (by omega)
          have u : W''.heap[K + 1]? = _ := (k'.block (K + 1) t.lt (by omega)).trans t.c
          exact ⟨by rw [cell_at u]; rfl, by rw [cell_at u]; rfl, y.c0, y.c1, z.c0, z.c1, z.c2, z.c3, z.c4⟩
        go_region_held3 (fun W => (W.cell? ⟨K + 1, 2, none⟩ = some (.map (some K)) ∧ W.cell? ⟨K + 1, 3, none⟩ = some (.int .u64 ((tn : Int) + 1)) ∧ W.cell? ⟨X, 0, none⟩ = some (.int .u32 a) ∧ W.cell? ⟨X, 1, none⟩ = some (.int .u32 b) ∧ W.cell? ⟨X + 1, 0, none⟩ = some (.int .u32 f) ∧ W.cell? ⟨X + 1, 1, none⟩ = some (.int .u32 p) ∧ W.cell? ⟨X + 1, 2, none⟩ = some (.int .u32 q) ∧ W.cell? ⟨X + 1, 3, none⟩ = some (.bool bw) ∧ W.cell? ⟨X + 1, 4, none⟩ = some (.bool bu)))
          (first | with_reducible exact HS0.out | with_reducible exact HSK.out _ k5 | with_reducible exact HSU.out _ _ k5 k6)
          (first | (go_at_call 72; refine (HR.out _ (by assumption) (by assumption)).mono ?_; rintro e w5 ⟨rfl, k5⟩; obtain ⟨w6, hup, t6, k6⟩ := (HT.out _ k5).store hb hg (show (0 : Int) ≤ (tn : Int) + 1 by omega) (show (tn : Int) + 1 ≤ ((tn + 1 : Nat) : Int) by omega) hroom; unfold keyV Ent.val at hup; simp only at hup))
        replace k5 : Kp noB V w5 := ⟨k5.os, k5.tape, k5.output, k5.size, k5.block⟩
        replace k0 := (k0.trans (k5.mono (fun _ _ f => f.elim))).trans (k6.mono (fun _ _ e => .inl e))
        clear HSU HSK HS0 HT HR hD0 tD hup
        go_wp2
        go_end0
        exact ⟨rfl, ⟨_, tn + 1, t6, Nat.le_refl _⟩, k0⟩
      · have hle := trivial
        go_upto_region 3 with fail
        go_quiet (fail)
        obtain ⟨W3, hW3⟩ : ∃ W, W = W2.drewN nq := ⟨_, rfl⟩
        rw [← hW3]
        have k3 : Kp noB W2 W3 := by rw [hW3]; exact (Kp.refl noB W2).drewN _
        replace t0 := t0.kp k3 (fun _ _ f => f)
        replace h0 := h0.kp k3 (fun _ _ f => f)
        replace rY := rY.kp k3 (fun f => f)
        replace rK := rK.kp k3 (fun f => f)
        replace k0 := k0.trans k3
        clear hW3 k3 c1 c2 hl
        have hroom : Maps.has D (kl a b) = true ∨ Maps.size D < pl := .inl HHS.out.symm
        replace k0 : Kp (inTlb K) w W3 := k0.mono (fun _ _ f => f.elim)
        rename TlbD W3 K B pl tn D => t1
        clear HHS hle
        have c3 := t1.c3
        have f3 := t1.fz 3
        go_upto_region 6 with fail
        have t2 := t1.turn
        have e1 : ((tn + 1 : Nat) : Int) = (tn : Int) + 1 := rfl
        have k2 : Kp (fun j => j = K + 1) W3 (W3.setCell ⟨K + 1, 3, none⟩ (.int .u64 ((tn : Int) + 1))) := Kp.setCell (S := fun j => j = K + 1) W3 (p := ⟨K + 1, 3, none⟩) rfl _
        rw [e1] at t2 hg
        obtain ⟨V, hV⟩ : ∃ V, V = W3.setCell ⟨K + 1, 3, none⟩ (.int .u64 ((tn : Int) + 1)) := ⟨_, rfl⟩
        rw [← hV] at t2 k2 ⊢
        replace h0 := h0.kp k2 (fun j hj e => hBK (K + 1) (.inr rfl) (by rw [← e]; exact hj))
        replace rY := rY.kp k2 (by omega)
        replace rK := rK.kp k2 (by omega)
        replace k0 := k0.trans (k2.mono (fun _ _ e => .inr e))
        clear hV k2 t1 c3 f3 e1
        have tD : TlbD V.drew K B pl (tn + 1) D := t2.kept (fun _ _ => rfl)
        have hD0 : RamAt V.drew B M := h0.kept (fun _ _ => rfl)
        have HR : Hid (∀ W, TlbD W K B pl (tn + 1) D → RamAt W B M → Calls Try.prog 72 #[.pointer (some ⟨K + 1, 0, none⟩), .agg #[.int .u32 f, .int .u32 p, .int .u32 q, .bool bw, .bool bu]] W fun e w' => e = .returned (.agg #[.int .u32 (M.read p 4), .int .u32 (M.read q 4)]) ∧ Kp noB W w') := fun W hW hW' => tlRead_ok W K B pl (tn + 1) D M hW hW' f p q bw bu p0 p1 q0 q1
        have HT : Hid (∀ W', Kp noB V.drew W' → TlbD W' K B pl (tn + 1) D) := fun W' k => tD.kp k (fun _ _ f => f)
        have HS0 : Hid (V.drew.cell? ⟨K + 1, 2, none⟩ = some (.map (some K)) ∧ V.drew.cell? ⟨K + 1, 3, none⟩ = some (.int .u64 ((tn : Int) + 1)) ∧ V.drew.cell? ⟨X, 0, none⟩ = some (.int .u32 a) ∧ V.drew.cell? ⟨X, 1, none⟩ = some (.int .u32 b) ∧ V.drew.cell? ⟨X + 1, 0, none⟩ = some (.int .u32 f) ∧ V.drew.cell? ⟨X + 1, 1, none⟩ = some (.int .u32 p) ∧ V.drew.cell? ⟨X + 1, 2, none⟩ = some (.int .u32 q) ∧ V.drew.cell? ⟨X + 1, 3, none⟩ = some (.bool bw) ∧ V.drew.cell? ⟨X + 1, 4, none⟩ = some (.bool bu)) := ⟨t2.c2, t2.c3, rY.c0, rY.c1, rK.c0, rK.c1, rK.c2, rK.c3, rK.c4⟩
        have HSK : Hid (∀ W', Kp noB V.drew W' → (W'.cell? ⟨K + 1, 2, none⟩ = some (.map (some K)) ∧ W'.cell? ⟨K + 1, 3, none⟩ = some (.int .u64 ((tn : Int) + 1)) ∧ W'.cell? ⟨X, 0, none⟩ = some (.int .u32 a) ∧ W'.cell? ⟨X, 1, none⟩ = some (.int .u32 b) ∧ W'.cell? ⟨X + 1, 0, none⟩ = some (.int .u32 f) ∧ W'.cell? ⟨X + 1, 1, none⟩ = some (.int .u32 p) ∧ W'.cell? ⟨X + 1, 2, none⟩ = some (.int .u32 q) ∧ W'.cell? ⟨X + 1, 3, none⟩ = some (.bool bw) ∧ W'.cell? ⟨X + 1, 4, none⟩ = some (.bool bu))) := fun W' k => by
          have t := HT.out _ k
          have y := RowKy.kp (W := V.drew) rY k (fun f => f)
          have z := RowK.kp (W := V.drew) rK k (fun f => f)
          exact ⟨t.c2, t.c3, y.c0, y.c1, z.c0, z.c1, z.c2, z.c3, z.c4⟩
        have HSU : Hid (∀ W' W'', Kp noB V.drew W' → Kp (fun j => j = K) W' W'' → (W''.cell? ⟨K + 1, 2, none⟩ = some (.map (some K)) ∧ W''.cell? ⟨K + 1, 3, none⟩ = some (.int .u64 ((tn : Int) + 1)) ∧ W''.cell? ⟨X, 0, none⟩ = some (.int .u32 a) ∧ W''.cell? ⟨X, 1, none⟩ = some (.int .u32 b) ∧ W''.cell? ⟨X + 1, 0, none⟩ = some (.int .u32 f) ∧ W''.cell? ⟨X + 1, 1, none⟩ = some (.int .u32 p) ∧ W''.cell? ⟨X + 1, 2, none⟩ = some (.int .u32 q) ∧ W''.cell? ⟨X + 1, 3, none⟩ = some (.bool bw) ∧ W''.cell? ⟨X + 1, 4, none⟩ = some (.bool bu))) := fun W' W'' k k' => by
          have t := HT.out _ k
          have y := (RowKy.kp (W := V.drew) rY k (fun f => f)).kp k' (by omega)
          have z := (RowK.kp (W := V.drew) rK k (fun f => f)).kp k' (by omega)
          have u : W''.heap[K + 1]? = _ := (k'.block (K + 1) t.lt (by omega)).trans t.c
          exact ⟨by rw [cell_at u]; rfl, by rw [cell_at u]; rfl, y.c0, y.c1, z.c0, z.c1, z.c2, z.c3, z.c4⟩
        go_region_held3 (fun W => (W.cell? ⟨K + 1, 2, none⟩ = some (.map (some K)) ∧ W.cell? ⟨K + 1, 3, none⟩ = some (.int .u64 ((tn : Int) + 1)) ∧ W.cell? ⟨X, 0, none⟩ = some (.int .u32 a) ∧ W.cell? ⟨X, 1, none⟩ = some (.int .u32 b) ∧ W.cell? ⟨X + 1, 0, none⟩ = some (.int .u32 f) ∧ W.cell? ⟨X + 1, 1, none⟩ = some (.int .u32 p) ∧ W.cell? ⟨X + 1, 2, none⟩ = some (.int .u32 q) ∧ W.cell? ⟨X + 1, 3, none⟩ = some (.bool bw) ∧ W.cell? ⟨X + 1, 4, none⟩ = some (.bool bu)))
          (first | with_reducible exact HS0.out | with_reducible exact HSK.out _ k5 | with_reducible exact HSU.out _ _ k5 k6)
          (first | (go_at_call 72; refine (HR.out _ (by assumption) (by assumption)).mono ?_; rintro e w5 ⟨rfl, k5⟩; obtain ⟨w6, hup, t6, k6⟩ := (HT.out _ k5).store hb hg (show (0 : Int) ≤ (tn : Int) + 1 by omega) (show (tn : Int) + 1 ≤ ((tn + 1 : Nat) : Int) by omega) hroom; unfold keyV Ent.val at hup; simp only at hup))
        replace k5 : Kp noB V w5 := ⟨k5.os, k5.tape, k5.output, k5.size, k5.block⟩
        replace k0 := (k0.trans (k5.mono (fun _ _ f => f.elim))).trans (k6.mono (fun _ _ e => .inl e))
        clear HSU HSK HS0 HT HR hD0 tD hup
        go_wp2
        go_end0
        exact ⟨rfl, ⟨_, tn + 1, t6, Nat.le_refl _⟩, k0⟩
end Go.Proofs.Ytmmnnafjikilpaa
