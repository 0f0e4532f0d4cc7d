/- A value is written. -/
import Derived.Test.YtmmnnafjikilpaaVmRead
namespace Go.Proofs.Ytmmnnafjikilpaa
open Go.ChangeShapes Go.WideShapes Go.ChangeAt Go.RowKit Go.Maps
set_option linter.unusedVariables false
set_option maxRecDepth 20000

theorem wrK_same (M : Mem) (s : Sp) (v : Int) : ∀ k, (M.wrK s v k).n = M.n ∧ (M.wrK s v k).only = M.only ∧ (M.wrK s v k).closed = M.closed
  | 0 => ⟨rfl, rfl, rfl⟩
  | k + 1 => by
    have h := wrK_same M s v k
    have := lay_same false [(bytesV v).getD k 0] (M.wrK s v k) (s.at k)
    exact ⟨this.1.trans h.1, this.2.1.trans h.2.1, this.2.2.trans h.2.2⟩

theorem wrK_one (M : Mem) (s : Sp) (hs : s.Ok) (he : s.h = s.n) (v : Int) : ∀ k, k ≤ s.n → M.wrK s v k = M.lay false s.a ((bytesV v).take k)
  | 0, _ => rfl
  | k + 1, hk => by
    have h4 : s.n ≤ 4 := by rcases hs.n1 with e | e | e <;> omega
    rw [lay_step M s.a v k (by omega) hs.a0 hs.a1, ← wrK_one M s hs he v k (by omega)]
    show (M.wrK s v k).put false (s.at k) _ = _
    unfold Sp.at
    rw [if_pos (by omega)]

theorem VmAt.wrote {w w' : World} {V K B pl tn : Nat} {M M' : Mem} (h : VmAt w V K B pl tn M) (k : Kp (inRam B M.n) w w') (r : RamAt w' B M') (hn : M'.n = M.n) (hc : M'.closed = M.closed) : VmAt w' V K B pl tn M' := by
  obtain ⟨D, t⟩ := h.tl
  exact h.to (k.mono (fun _ _ f => .inl f)) (t.kp k (fun j hj => h.apT j hj)) r hn hc

theorem vwrite_one (w : World) (V K B pl tn : Nat) (M : Mem) (h : VmAt w V K B pl tn M) (s : Sp) (hs : s.Ok) (he : s.h = s.n) (v : Int) (v0 : 0 ≤ v) (v1 : v < 4294967296) :
    Calls Try.prog 36 #[.pointer (some ⟨V, 0, none⟩), s.val, .int .u32 v] w (fun e w' => e = .returned (.tuple #[]) ∧ VmP w V K B pl tn (M.wrS s v) 0 w') := by
  have sm := wrK_same M s v s.n
  have hw1 : M.wrS s v = M.lay false s.a ((bytesV v).take s.n) := wrK_one M s hs he v s.n (Nat.le_refl _)
  have HN : Hid ((M.wrS s v).n = M.n ∧ (M.wrS s v).only = M.only ∧ (M.wrS s v).closed = M.closed) := sm
  obtain ⟨M', hM'⟩ : ∃ M', M.wrS s v = M' := ⟨_, rfl⟩
  rw [hM'] at hw1 HN ⊢
  clear hM' sm
  obtain ⟨a, b, hh, n⟩ := s
  simp only at he hw1
  subst he
  have a0 := hs.a0; have a1 := hs.a1
  have hn := hs.n1
  simp only at a0 a1 hn
  clear hs
  unfold Sp.val
  simp only
  obtain ⟨W0, hW0⟩ : ∃ W, W = w.alloc (.cells #[.int .u32 a, .int .u32 b, .int .i64 hh, .int .i64 hh] 86) := ⟨_, rfl⟩
  obtain ⟨X, hX⟩ : ∃ X, w.heap.size = X := ⟨_, rfl⟩
  have k0 : Kp noB w W0 := by rw [hW0]; exact Kp.alloc _ _ _
  have rX : RowS W0 X a b hh hh := by rw [hW0, ← hX]; exact (MapKept.heap_alloc w _).1
  have h0 := h.kp0 k0
  have nX : ¬ inRam B M.n X := fun f => by have := h.in_lt (.inl f); omega
  have nV : ¬ inRam B M.n V := fun f => h.apV (.inl f)
  have c2 := rX.c2; have c3 := rX.c3
  have h0D : VmAt W0.drew V K B pl tn M := h0.kp0 (Kp.refl noB W0).drew
  have HS0 : Hid (SpS V B X ⟨a, b, hh, hh⟩ W0.drew) := ⟨h0.c0, rX.c0, rX.c1, rX.c2, rX.c3⟩
  have HSK : Hid (∀ W', Kp (inRam B M.n) W0.drew W' → SpS V B X ⟨a, b, hh, hh⟩ W') := fun W' k => SpS.kp (S := inRam B M.n) HS0.out k nV nX
  have HC : Hid _ := write_ok W0.drew B M h0D.ram a hh v a0 a1 v0 v1 (by unfold okS; exact decide_eq_true (by omega))
  rw [Int.toNat_natCast, ← hw1] at HC
  clear h hn hw1 h0
  go_enter Try.func36, Try.ntmps36
  rw [hW0] at c2 c3
  go_upto_region 2 with fail
  rw [← hW0]
  clear hW0 hX c2 c3
  go_region_held3 (fun W => W.cell? ⟨V, 0, none⟩ = some (.pointer (some ⟨B + 3, 0, none⟩)) ∧ W.cell? ⟨X, 0, none⟩ = some (.int .u32 a) ∧ W.cell? ⟨X, 1, none⟩ = some (.int .u32 b) ∧ W.cell? ⟨X, 2, none⟩ = some (.int .i64 hh) ∧ W.cell? ⟨X, 3, none⟩ = some (.int .i64 hh))
    (first | with_reducible exact HS0.out | with_reducible exact HSK.out _ k4)
    (first | (go_at_call 26; refine Calls.mono HC.out ?_; rintro e w4 ⟨rfl, r4, k4⟩))
  go_wp2
  have v4 := h0D.wrote k4 r4 HN.out.1 HN.out.2.2
  have k5 : Kp (modVm K B M'.n) w w4 := by rw [HN.out.1]; exact (k0.mono (fun _ _ f => f.elim)).trans (k4.undrew.mono (fun _ _ f => .inl f))
  first
    | (go_end0; exact ⟨rfl, ⟨tn, by omega, v4⟩, k5⟩)
    | exact bodyPost_ret (results_none rfl _ _ _) rfl ⟨rfl, ⟨tn, by omega, v4⟩, k5⟩

def WrQ (w : World) (V K B pl tn : Nat) (M0 : Mem) (MK : Nat → Mem) (n k : Nat) (s24 : Value) (wr : World) : Prop :=
  ∃ i : Nat, s24 = .int .i64 i ∧ i ≤ n ∧ n - i ≤ k ∧ VmAt wr V K B pl tn (MK i) ∧ Kp (inRam B M0.n) w wr

theorem byte_at (v : Int) (v0 : 0 ≤ v) (v1 : v < 4294967296) (i : Nat) (hi : i < 4) : (bytesV (v / 256 ^ i)).take 1 = [(bytesV v).getD i 0] := by
  rcases (by omega : i = 0 ∨ i = 1 ∨ i = 2 ∨ i = 3) with rfl | rfl | rfl | rfl
  · simp [bytesV]
  · rfl
  · rfl
  · show [v / 16777216 % 256] = [v / 16777216]
    rw [show v / 16777216 % 256 = v / 16777216 by omega]

set_option maxHeartbeats 1000000 in
theorem vwrite_two (w : World) (V K B pl tn : Nat) (M : Mem) (h : VmAt w V K B pl tn M) (s : Sp) (hs : s.Ok) (he : s.h < s.n) (v : Int) (v0 : 0 ≤ v) (v1 : v < 4294967296) :
    Calls Try.prog 36 #[.pointer (some ⟨V, 0, none⟩), s.val, .int .u32 v] w (fun e w' => e = .returned (.tuple #[]) ∧ VmP w V K B pl tn (M.wrS s v) 0 w') := by
  have hn := hs.n1
  have hh0 := hs.h0
  have HR : Hid (M.wrK s v s.n = M.wrS s v) := rfl
  have HA : Hid (∀ W (j : Nat), j < s.n → Calls Try.prog 61 #[.agg #[.int .u32 s.a, .int .u32 s.b, .int .i64 s.h, .int .i64 s.n], .int .i64 j] W fun e w' => e = .returned (.int .u32 (s.at j)) ∧ Kp noB W w') := fun W j hj => spAt_any W s hs j hj
  have HB : Hid (∀ j, 0 ≤ s.at j ∧ s.at j < 4294967296) := s.at_bd
  have HT : Hid (∀ i, M.wrK s v (i + 1) = (M.wrK s v i).lay false (s.at i) [(bytesV v).getD i 0]) := fun i => rfl
  have H0 : Hid (M.wrK s v 0 = M) := rfl
  have HN : Hid (∀ i, (M.wrK s v i).n = M.n ∧ (M.wrK s v i).closed = M.closed) := fun i => ⟨(wrK_same M s v i).1, (wrK_same M s v i).2.2⟩
  unfold Sp.val
  generalize M.wrK s v = MK at *
  generalize M.wrS s v = Ms at *
  generalize s.at = AT at *
  obtain ⟨a, b, hh, n⟩ := s
  simp only at *
  clear hs
  obtain ⟨W0, hW0⟩ : ∃ W, W = w.alloc (.cells #[.int .u32 a, .int .u32 b, .int .i64 hh, .int .i64 n] 86) := ⟨_, rfl⟩
  obtain ⟨X, hX⟩ : ∃ X, w.heap.size = X := ⟨_, rfl⟩
  have k0 : Kp noB w W0 := by rw [hW0]; exact Kp.alloc _ _ _
  have rX : RowS W0 X a b hh n := by rw [hW0, ← hX]; exact (MapKept.heap_alloc w _).1
  have h0 := h.kp0 k0
  have nX : ¬ inRam B M.n X := fun f => by have := h.in_lt (.inl f); omega
  have nV : ¬ inRam B M.n V := fun f => h.apV (.inl f)
  have c2 := rX.c2; have c3 := rX.c3
  have HS0 : Hid (SpS V B X ⟨a, b, hh, n⟩ W0) := ⟨h0.c0, rX.c0, rX.c1, rX.c2, rX.c3⟩
  have he2 : (hh == n) = false := by rw [beq_eq_false_iff_ne]; omega
  have he' : ((hh : Int) == (n : Int)) = false := by rw [beq_eq_false_iff_ne]; omega
  have hn4 : n = 2 ∨ n = 4 := by omega
  clear h hn rX
  go_enter Try.func36, Try.ntmps36
  rw [hW0] at c2 c3
  go_wp2_with fail
  rw [← hW0]
  clear hW0 hX c2 c3
  go_loopg [24] n (WrQ W0 V K B pl tn M MK n)
  case atStart => exact ⟨0, rfl, Nat.zero_le _, Nat.le_refl _, by rw [H0.out]; exact h0, Kp.refl _ _⟩
  case round =>
    obtain ⟨i, rfl, hi, hik, hv, kk⟩ := hrel
    by_cases hlt : i < n
    · have hz : (i : Int) < (n : Int) := by omega
      have HC1 : Hid _ := HA.out wr.drew i hlt
      have hd := hv.kp0 (Kp.refl noB wr).drew
      have HC2 : Hid (∀ W, Kp noB wr.drew W → Calls Try.prog 26 #[.pointer (some ⟨B + 3, 0, none⟩), .int .u32 (AT i), .int .i64 1, .int .u32 (v / 256 ^ i)] W fun e w' => e = .returned (.int .i64 0) ∧ VmAt w' V K B pl tn (MK (i + 1)) ∧ Kp (inRam B M.n) wr.drew w') := fun W k => by
        have hvW := hd.kp0 k
        have pv : 0 ≤ v / 256 ^ i ∧ v / 256 ^ i < 4294967296 := by
          rcases (by omega : i = 0 ∨ i = 1 ∨ i = 2 ∨ i = 3) with rfl | rfl | rfl | rfl <;> simp <;> omega
        have c := write_ok W B (MK i) hvW.ram (AT i) 1 (v / 256 ^ i) (HB.out i).1 (HB.out i).2 pv.1 pv.2 rfl
        rw [show ((1 : Int)).toNat = 1 from rfl, byte_at v v0 v1 i (by omega), ← HT.out i] at c
        refine c.mono (fun e w' ⟨h1, h2, h3⟩ => ⟨h1, hvW.wrote h3 h2 ((HN.out _).1.trans (HN.out i).1.symm) ((HN.out _).2.trans (HN.out i).2.symm), ?_⟩)
        rw [(HN.out i).1] at h3
        exact (k.mono (fun _ _ f => f.elim)).trans h3
      have HT0 : Hid (SpS V B X ⟨a, b, hh, n⟩ wr.drew) := SpS.kp (S := inRam B M.n) (W := W0) HS0.out kk.drew nV nX
      have HTK : Hid (∀ W', Kp noB wr.drew W' → SpS V B X ⟨a, b, hh, n⟩ W') := fun W' k => SpS.kp (S := noB) HT0.out k (fun f => f) (fun f => f)
      have HTW : Hid (∀ W', Kp (inRam B M.n) wr.drew W' → SpS V B X ⟨a, b, hh, n⟩ W') := fun W' k => SpS.kp (S := inRam B M.n) HT0.out k nV nX
      obtain ⟨j, hj⟩ : ∃ j, j = i + 1 := ⟨_, rfl⟩
      have HJ : Hid (j = i + 1) := hj
      have HKk : Hid (n - i ≤ gk) := hik
      clear hik hj hd hv
      generalize AT i = at' at *
      rcases (by omega : i = 0 ∨ i = 1 ∨ i = 2 ∨ i = 3) with rfl | rfl | rfl | rfl
      all_goals
        simp at HC2
        have e0 : IntKind.i64.wrap 0 = 0 := rfl
        have e1 : IntKind.i64.wrap 8 = 8 := rfl
        have e2 : IntKind.i64.wrap 16 = 16 := rfl
        have e3 : IntKind.i64.wrap 24 = 24 := rfl
        go_upto_region 6 with fail
        go_region_held3 (fun W => W.cell? ⟨V, 0, none⟩ = some (.pointer (some ⟨B + 3, 0, none⟩)) ∧ W.cell? ⟨X, 0, none⟩ = some (.int .u32 a) ∧ W.cell? ⟨X, 1, none⟩ = some (.int .u32 b) ∧ W.cell? ⟨X, 2, none⟩ = some (.int .i64 hh) ∧ W.cell? ⟨X, 3, none⟩ = some (.int .i64 n))
          (first | with_reducible exact HT0.out | with_reducible exact HTK.out _ k4 | with_reducible exact HTW.out _ k5)
          (first | (go_at_call 61; refine Calls.mono HC1.out ?_; rintro e w4 ⟨rfl, k4⟩) | (go_at_call 26; refine Calls.mono (HC2.out _ k4) ?_; rintro e w5 ⟨rfl, v5, k5⟩))
        go_wp2_with fail
        go_roundg (n - j)
        case measure => have := HJ.out; have := HKk.out; omega
        case rel => exact ⟨j, by rw [HJ.out]; rfl, by have := HJ.out; omega, Nat.le_refl _, by rw [HJ.out]; exact v5, kk.trans k5.undrew⟩
    · have hz : ¬ (i : Int) < (n : Int) := by omega
      obtain rfl : i = n := by omega
      rw [HR.out] at hv
      have k5 : Kp (modVm K B Ms.n) w wr := by
        rw [← HR.out, (HN.out _).1]
        exact (k0.mono (fun _ _ f => f.elim)).trans (kk.mono (fun _ _ f => .inl f))
      clear hik
      go_wp2
      first
        | (go_end0; exact ⟨rfl, ⟨tn, by omega, hv⟩, k5⟩)
        | exact bodyPost_ret (results_none rfl _ _ _) rfl ⟨rfl, ⟨tn, by omega, hv⟩, k5⟩

theorem vwrite_any (w : World) (V K B pl tn : Nat) (M : Mem) (h : VmAt w V K B pl tn M) (s : Sp) (hs : s.Ok) (v : Int) (v0 : 0 ≤ v) (v1 : v < 4294967296) :
    Calls Try.prog 36 #[.pointer (some ⟨V, 0, none⟩), s.val, .int .u32 v] w (fun e w' => e = .returned (.tuple #[]) ∧ VmP w V K B pl tn (M.wrS s v) 0 w') := by
  by_cases he : s.h = s.n
  · exact vwrite_one w V K B pl tn M h s hs he v v0 v1
  · exact vwrite_two w V K B pl tn M h s hs (by have := hs.h1; omega) v v0 v1
end Go.Proofs.Ytmmnnafjikilpaa
