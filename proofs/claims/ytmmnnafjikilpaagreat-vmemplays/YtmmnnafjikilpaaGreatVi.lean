/- Texts on vmem, joined: VmRead, VmWrite, VmFault, VmClo, VmCalls. -/
import Derived.Test.YtmmnnafjikilpaaGreatVh
import Derived.Test.YtmmnnafjikilpaaGreatVd
/- A value is read. -/
namespace Go.Proofs.YtmmnnafjikilpaaGreat
open Go.ChangeShapes Go.WideShapes Go.ChangeAt Go.RowKit Go.Maps
set_option linter.unusedVariables false
set_option maxRecDepth 20000

theorem Sp.at_bd (s : Sp) (j : Nat) : 0 ≤ s.at j ∧ s.at j < 4294967296 := by unfold Sp.at; split <;> omega

/-- The cells that are read: where memory is, and the place. -/
abbrev SpS (V B X : Nat) (s : Sp) (W : World) : Prop := W.cell? ⟨V, 0, none⟩ = some (.pointer (some ⟨B + 3, 0, none⟩)) ∧ W.cell? ⟨X, 0, none⟩ = some (.int .u32 s.a) ∧ W.cell? ⟨X, 1, none⟩ = some (.int .u32 s.b) ∧ W.cell? ⟨X, 2, none⟩ = some (.int .i64 s.h) ∧ W.cell? ⟨X, 3, none⟩ = some (.int .i64 s.n)
theorem SpS.kp {V B X : Nat} {s : Sp} {S : Nat → Prop} {W W' : World} (h : SpS V B X s W) (k : Kp S W W') (h1 : ¬ S V) (h2 : ¬ S X) : SpS V B X s W' := ⟨cell_kp h.1 k h1, cell_kp h.2.1 k h2, cell_kp h.2.2.1 k h2, cell_kp h.2.2.2.1 k h2, cell_kp h.2.2.2.2 k h2⟩

theorem rdS_one (M : Mem) (s : Sp) (hs : s.h = s.n) : M.rdS s = M.read s.a s.n := by
  unfold Mem.rdS Mem.read
  have e : ∀ j, M.spB s j = cellB M s.a s.n j := fun j => by
    unfold Mem.spB cellB Sp.at
    rw [hs]
    split
    · rfl
    · rfl
  rw [e, e, e, e]

/-- The first k bytes. -/
def Mem.rdK (M : Mem) (s : Sp) : Nat → Int
  | 0 => 0
  | k + 1 => M.rdK s k + M.rd (s.at k) * 256 ^ k

theorem rdK_all (M : Mem) (s : Sp) (hn : s.n = 1 ∨ s.n = 2 ∨ s.n = 4) : M.rdK s s.n = M.rdS s := by
  unfold Mem.rdS Mem.spB
  rcases hn with e | e | e <;> simp [e, Mem.rdK]

theorem rdK_bd {M : Mem} (hb : RdB M) (s : Sp) (i : Nat) (hi : i < 4) : 0 ≤ M.rdK s i ∧ M.rdK s i < 256 ^ i := by
  have b : ∀ j, 0 ≤ M.rd (s.at j) ∧ M.rd (s.at j) < 256 := fun j => hb _ (s.at_bd j).1 (s.at_bd j).2
  have r0 := b 0; have r1 := b 1; have r2 := b 2
  rcases (by omega : i = 0 ∨ i = 1 ∨ i = 2 ∨ i = 3) with rfl | rfl | rfl | rfl
  · show 0 ≤ (0 : Int) ∧ (0 : Int) < 1; omega
  · show 0 ≤ 0 + M.rd (s.at 0) * 1 ∧ 0 + M.rd (s.at 0) * 1 < 256; omega
  · show 0 ≤ 0 + M.rd (s.at 0) * 1 + M.rd (s.at 1) * 256 ∧ 0 + M.rd (s.at 0) * 1 + M.rd (s.at 1) * 256 < 65536; omega
  · show 0 ≤ 0 + M.rd (s.at 0) * 1 + M.rd (s.at 1) * 256 + M.rd (s.at 2) * 65536 ∧ 0 + M.rd (s.at 0) * 1 + M.rd (s.at 1) * 256 + M.rd (s.at 2) * 65536 < 16777216; omega

theorem read1 (M : Mem) (x : Int) (x0 : 0 ≤ x) (x1 : x < 4294967296) : M.read x 1 = M.rd x := by
  unfold Mem.read cellB
  have : x % 4294967296 = x := by omega
  simp [this]

theorem vread_one (w : World) (V K B pl tn : Nat) (M : Mem) (h : VmAt w V K B pl tn M) (s : Sp) (hs : s.Ok) (he : s.h = s.n) :
    Calls Tryz.prog 39 #[.pointer (some ⟨V, 0, none⟩), s.val] w (fun e w' => e = .returned (.int .u32 (M.rdS s)) ∧ Kp noB w w') := by
  rw [rdS_one M s he]
  obtain ⟨a, b, hh, n⟩ := s
  simp only at he
  subst he
  have a0 := hs.a0; have a1 := hs.a1
  have hn := hs.n1
  simp only at a0 a1 hn
  clear hs
  unfold Sp.val
  simp only
  obtain ⟨W0, hW0⟩ : ∃ W, W = w.alloc (.cells #[.int .u32 a, .int .u32 b, .int .i64 hh, .int .i64 hh] 93) := ⟨_, rfl⟩
  obtain ⟨X, hX⟩ : ∃ X, w.heap.size = X := ⟨_, rfl⟩
  have k0 : Kp noB w W0 := by rw [hW0]; exact Kp.alloc _ _ _
  have rX : RowS W0 X a b hh hh := by rw [hW0, ← hX]; exact (MapKept.heap_alloc w _).1
  have h0 := h.kp0 k0
  have c2 := rX.c2; have c3 := rX.c3
  have HS0 : Hid (SpS V B X ⟨a, b, hh, hh⟩ W0.drew) := ⟨h0.c0, rX.c0, rX.c1, rX.c2, rX.c3⟩
  have HSK : Hid (∀ W', Kp noB W0.drew W' → SpS V B X ⟨a, b, hh, hh⟩ W') := fun W' k => HS0.out.kp k (fun f => f) (fun f => f)
  have HC : Hid _ := read_ok W0.drew B M (h0.ram.kp (Kp.refl noB W0).drew (fun _ _ f => f)) a hh a0 a1 (by unfold okS; exact decide_eq_true (by omega))
  rw [Int.toNat_natCast] at HC
  clear h hn
  go_enter Tryz.func39, Tryz.ntmps39
  rw [hW0] at c2 c3
  go_upto_region 2 with fail
  rw [← hW0]
  clear hW0 hX c2 c3
  go_region_held3 (fun W => W.cell? ⟨V, 0, none⟩ = some (.pointer (some ⟨B + 3, 0, none⟩)) ∧ W.cell? ⟨X, 0, none⟩ = some (.int .u32 a) ∧ W.cell? ⟨X, 1, none⟩ = some (.int .u32 b) ∧ W.cell? ⟨X, 2, none⟩ = some (.int .i64 hh) ∧ W.cell? ⟨X, 3, none⟩ = some (.int .i64 hh))
    (first | with_reducible exact HS0.out | with_reducible exact HSK.out _ k4)
    (first | (go_at_call 69; refine Calls.mono HC.out ?_; rintro e w4 ⟨rfl, k4⟩))
  go_wp2
  go_ret
  exact ⟨rfl, k0.trans k4.undrew⟩

theorem or_step {a b : Int} (i : Nat) (hi : i < 4) (a0 : 0 ≤ a) (a1 : a < 256 ^ i) (b0 : 0 ≤ b) (b1 : b < 256) : bits .or .u32 a (b * 256 ^ i) = a + b * 256 ^ i := by
  have key : ∀ j : Nat, ((2 ^ j : Nat) : Int) = 256 ^ i → j ≤ 24 → bits .or .u32 a (b * 256 ^ i) = a + b * 256 ^ i := fun j e hj => by
    have := or_add (a := a) (b := b) j a0 b0 (by rw [e]; exact a1) (by rcases (by omega : i = 0 ∨ i = 1 ∨ i = 2 ∨ i = 3) with rfl | rfl | rfl | rfl <;> simp at a1 <;> omega) (by rw [e]; rcases (by omega : i = 0 ∨ i = 1 ∨ i = 2 ∨ i = 3) with rfl | rfl | rfl | rfl <;> simp <;> omega)
    rw [e] at this
    exact this
  rcases (by omega : i = 0 ∨ i = 1 ∨ i = 2 ∨ i = 3) with rfl | rfl | rfl | rfl
  · exact key 0 (by decide) (by decide)
  · exact key 8 (by decide) (by decide)
  · exact key 16 (by decide) (by decide)
  · exact key 24 (by decide) (by decide)

def RdQ (w : World) (RK : Nat → Int) (n k : Nat) (s7 s31 : Value) (wr : World) : Prop :=
  ∃ i : Nat, s31 = .int .i64 i ∧ s7 = .int .u32 (RK i) ∧ i ≤ n ∧ n - i ≤ k ∧ Kp noB w wr

set_option maxHeartbeats 1000000 in
theorem vread_two (w : World) (V K B pl tn : Nat) (M : Mem) (h : VmAt w V K B pl tn M) (s : Sp) (hs : s.Ok) (he : s.h < s.n) :
    Calls Tryz.prog 39 #[.pointer (some ⟨V, 0, none⟩), s.val] w (fun e w' => e = .returned (.int .u32 (M.rdS s)) ∧ Kp noB w w') := by
  have hn := hs.n1
  have hh0 := hs.h0
  have hb := h.ram.rdB
  have HR : Hid (M.rdK s s.n = M.rdS s) := rdK_all M s hn
  have HA : Hid (∀ W (j : Nat), j < s.n → Calls Tryz.prog 61 #[.agg #[.int .u32 s.a, .int .u32 s.b, .int .i64 s.h, .int .i64 s.n], .int .i64 j] W fun e w' => e = .returned (.int .u32 (s.at j)) ∧ Kp noB W w') := fun W j hj => spAt_any W s hs j hj
  have HB : Hid (∀ j, 0 ≤ s.at j ∧ s.at j < 4294967296) := s.at_bd
  have HD : Hid (∀ j, 0 ≤ M.rd (s.at j) ∧ M.rd (s.at j) < 256) := fun j => hb _ (s.at_bd j).1 (s.at_bd j).2
  have HK : Hid (∀ i, i < 4 → 0 ≤ M.rdK s i ∧ M.rdK s i < 256 ^ i) := fun i hi => rdK_bd hb s i hi
  have HT : Hid (∀ i, M.rdK s (i + 1) = M.rdK s i + M.rd (s.at i) * 256 ^ i) := fun i => rfl
  have H0 : Hid (M.rdK s 0 = 0) := rfl
  unfold Sp.val
  generalize M.rdK s = RK at *
  generalize M.rdS s = rs at *
  generalize s.at = AT at *
  obtain ⟨a, b, hh, n⟩ := s
  simp only at *
  clear hs hb
  obtain ⟨W0, hW0⟩ : ∃ W, W = w.alloc (.cells #[.int .u32 a, .int .u32 b, .int .i64 hh, .int .i64 n] 93) := ⟨_, rfl⟩
  obtain ⟨X, hX⟩ : ∃ X, w.heap.size = X := ⟨_, rfl⟩
  have k0 : Kp noB w W0 := by rw [hW0]; exact Kp.alloc _ _ _
  have rX : RowS W0 X a b hh n := by rw [hW0, ← hX]; exact (MapKept.heap_alloc w _).1
  have h0 := h.kp0 k0
  have c2 := rX.c2; have c3 := rX.c3
  have HS0 : Hid (SpS V B X ⟨a, b, hh, n⟩ W0) := ⟨h0.c0, rX.c0, rX.c1, rX.c2, rX.c3⟩
  have HM : Hid (RamAt W0 B M) := h0.ram
  have he2 : (hh == n) = false := by rw [beq_eq_false_iff_ne]; omega
  have he' : ((hh : Int) == (n : Int)) = false := by rw [beq_eq_false_iff_ne]; omega
  have hn4 : n = 2 ∨ n = 4 := by omega
  clear h hn rX h0
  go_enter Tryz.func39, Tryz.ntmps39
  rw [hW0] at c2 c3
  go_wp2_with fail
  rw [← hW0]
  clear hW0 hX c2 c3
  go_loopg [7, 31] n (RdQ W0 RK n)
  case atStart => exact ⟨0, rfl, by rw [H0.out], Nat.zero_le _, Nat.le_refl _, Kp.refl _ _⟩
  case round =>
    obtain ⟨i, rfl, rfl, hi, hik, kk⟩ := hrel
    by_cases hlt : i < n
    · have hz : (i : Int) < (n : Int) := by omega
      have HC1 : Hid _ := HA.out wr.drew i hlt
      have HC2 : Hid (∀ W, Kp noB wr.drew W → Calls Tryz.prog 69 #[.pointer (some ⟨B + 3, 0, none⟩), .int .u32 (AT i), .int .i64 1] W fun e w' => e = .returned (.tuple #[.int .u32 (M.rd (AT i)), .int .i64 0]) ∧ Kp noB wr.drew w') := fun W k => by
        have c := read_ok W B M (((HM.out.kp kk (fun _ _ f => f)).kp (Kp.refl noB wr).drew (fun _ _ f => f)).kp k (fun _ _ f => f)) (AT i) 1 (HB.out i).1 (HB.out i).2 rfl
        rw [show ((1 : Int)).toNat = 1 from rfl, read1 M _ (HB.out i).1 (HB.out i).2] at c
        exact c.mono (fun e w' ⟨h1, h2⟩ => ⟨h1, k.trans h2⟩)
      have HT0 : Hid (SpS V B X ⟨a, b, hh, n⟩ wr.drew) := SpS.kp (S := noB) (W := W0) HS0.out kk.drew (fun f => f) (fun f => f)
      have HTK : Hid (∀ W', Kp noB wr.drew W' → SpS V B X ⟨a, b, hh, n⟩ W') := fun W' k => SpS.kp (S := noB) HT0.out k (fun f => f) (fun f => f)
      obtain ⟨bv, hbv⟩ : ∃ bv, bv = M.rd (AT i) := ⟨_, rfl⟩
      obtain ⟨sv, hsv⟩ : ∃ sv, sv = RK i := ⟨_, rfl⟩
      have hor := or_step (a := sv) (b := bv) i (by omega) (by rw [hsv]; exact (HK.out i (by omega)).1) (by rw [hsv]; exact (HK.out i (by omega)).2) (by rw [hbv]; exact (HD.out i).1) (by rw [hbv]; exact (HD.out i).2)
      have hbb : 0 ≤ bv ∧ bv < 256 := by rw [hbv]; exact HD.out i
      have HS : Hid (RK (i + 1) = sv + bv * 256 ^ i) := by rw [hsv, hbv]; exact HT.out i
      rw [← hbv] at HC2
      rw [← hsv]
      obtain ⟨j, hj⟩ : ∃ j, j = i + 1 := ⟨_, rfl⟩
      have HJ : Hid (j = i + 1) := hj
      have HKk : Hid (n - i ≤ gk) := hik
      obtain ⟨b0, b1⟩ := hbb
      clear hik hj hbv hsv
      generalize AT i = at' at *
      go_upto_region 8 with fail
      go_region_held3 (fun W => W.cell? ⟨V, 0, none⟩ = some (.pointer (some ⟨B + 3, 0, none⟩)) ∧ W.cell? ⟨X, 0, none⟩ = some (.int .u32 a) ∧ W.cell? ⟨X, 1, none⟩ = some (.int .u32 b) ∧ W.cell? ⟨X, 2, none⟩ = some (.int .i64 hh) ∧ W.cell? ⟨X, 3, none⟩ = some (.int .i64 n))
        (first | with_reducible exact HT0.out | with_reducible exact HTK.out _ k4 | with_reducible exact HTK.out _ k5)
        (first | (go_at_call 61; refine Calls.mono HC1.out ?_; rintro e w4 ⟨rfl, k4⟩) | (go_at_call 69; refine Calls.mono (HC2.out _ k4) ?_; rintro e w5 ⟨rfl, k5⟩))
      clear HC1 HC2 HTK HT0
      rcases (by omega : i = 0 ∨ i = 1 ∨ i = 2 ∨ i = 3) with rfl | rfl | rfl | rfl
      all_goals
        simp at hor
        go_wp2_with fail
        go_roundg (n - j)
        case measure => have := HJ.out; have := HKk.out; omega
        case rel => exact ⟨j, by rw [HJ.out]; rfl, by rw [HJ.out, HS.out]; first | rfl | (congr 1; omega), by have := HJ.out; omega, Nat.le_refl _, kk.trans k5.undrew⟩
    · have hz : ¬ (i : Int) < (n : Int) := by omega
      obtain rfl : i = n := by omega
      rw [HR.out]
      clear hik
      go_wp2
      go_ret
      exact ⟨rfl, k0.trans kk⟩

theorem vread_any (w : World) (V K B pl tn : Nat) (M : Mem) (h : VmAt w V K B pl tn M) (s : Sp) (hs : s.Ok) :
    Calls Tryz.prog 39 #[.pointer (some ⟨V, 0, none⟩), s.val] w (fun e w' => e = .returned (.int .u32 (M.rdS s)) ∧ Kp noB w w') := by
  by_cases he : s.h = s.n
  · exact vread_one w V K B pl tn M h s hs he
  · exact vread_two w V K B pl tn M h s hs (by have := hs.h1; omega)
end Go.Proofs.YtmmnnafjikilpaaGreat

/- A value is written. -/
namespace Go.Proofs.YtmmnnafjikilpaaGreat
open Go.ChangeShapes Go.WideShapes Go.ChangeAt Go.RowKit Go.Maps
set_option linter.unusedVariables false
set_option maxRecDepth 20000

theorem wrK_same (M : Mem) (s : Sp) (v : Int) : ∀ k, (M.wrK s v k).n = M.n ∧ (M.wrK s v k).only = M.only ∧ (M.wrK s v k).closed = M.closed
  | 0 => ⟨rfl, rfl, rfl⟩
  | k + 1 => by
    have h := wrK_same M s v k
    have := lay_same false [(bytesV v).getD k 0] (M.wrK s v k) (s.at k)
    exact ⟨this.1.trans h.1, this.2.1.trans h.2.1, this.2.2.trans h.2.2⟩

theorem wrK_one (M : Mem) (s : Sp) (hs : s.Ok) (he : s.h = s.n) (v : Int) : ∀ k, k ≤ s.n → M.wrK s v k = M.lay false s.a ((bytesV v).take k)
  | 0, _ => rfl
  | k + 1, hk => by
    have h4 : s.n ≤ 4 := by rcases hs.n1 with e | e | e <;> omega
    rw [lay_step M s.a v k (by omega) hs.a0 hs.a1, ← wrK_one M s hs he v k (by omega)]
    show (M.wrK s v k).put false (s.at k) _ = _
    unfold Sp.at
    rw [if_pos (by omega)]

theorem VmAt.wrote {w w' : World} {V K B pl tn : Nat} {M M' : Mem} (h : VmAt w V K B pl tn M) (k : Kp (inRam B M.n) w w') (r : RamAt w' B M') (hn : M'.n = M.n) (hc : M'.closed = M.closed) : VmAt w' V K B pl tn M' := by
  obtain ⟨D, t⟩ := h.tl
  exact h.to (k.mono (fun _ _ f => .inl f)) (t.kp k (fun j hj => h.apT j hj)) r hn hc

theorem vwrite_one (w : World) (V K B pl tn : Nat) (M : Mem) (h : VmAt w V K B pl tn M) (s : Sp) (hs : s.Ok) (he : s.h = s.n) (v : Int) (v0 : 0 ≤ v) (v1 : v < 4294967296) :
    Calls Tryz.prog 36 #[.pointer (some ⟨V, 0, none⟩), s.val, .int .u32 v] w (fun e w' => e = .returned (.tuple #[]) ∧ VmP w V K B pl tn (M.wrS s v) 0 w') := by
  have sm := wrK_same M s v s.n
  have hw1 : M.wrS s v = M.lay false s.a ((bytesV v).take s.n) := wrK_one M s hs he v s.n (Nat.le_refl _)
  have HN : Hid ((M.wrS s v).n = M.n ∧ (M.wrS s v).only = M.only ∧ (M.wrS s v).closed = M.closed) := sm
  obtain ⟨M', hM'⟩ : ∃ M', M.wrS s v = M' := ⟨_, rfl⟩
  rw [hM'] at hw1 HN ⊢
  clear hM' sm
  obtain ⟨a, b, hh, n⟩ := s
  simp only at he hw1
  subst he
  have a0 := hs.a0; have a1 := hs.a1
  have hn := hs.n1
  simp only at a0 a1 hn
  clear hs
  unfold Sp.val
  simp only
  obtain ⟨W0, hW0⟩ : ∃ W, W = w.alloc (.cells #[.int .u32 a, .int .u32 b, .int .i64 hh, .int .i64 hh] 93) := ⟨_, rfl⟩
  obtain ⟨X, hX⟩ : ∃ X, w.heap.size = X := ⟨_, rfl⟩
  have k0 : Kp noB w W0 := by rw [hW0]; exact Kp.alloc _ _ _
  have rX : RowS W0 X a b hh hh := by rw [hW0, ← hX]; exact (MapKept.heap_alloc w _).1
  have h0 := h.kp0 k0
  have nX : ¬ inRam B M.n X := fun f => by have := h.in_lt (.inl f); omega
  have nV : ¬ inRam B M.n V := fun f => h.apV (.inl f)
  have c2 := rX.c2; have c3 := rX.c3
  have h0D : VmAt W0.drew V K B pl tn M := h0.kp0 (Kp.refl noB W0).drew
  have HS0 : Hid (SpS V B X ⟨a, b, hh, hh⟩ W0.drew) := ⟨h0.c0, rX.c0, rX.c1, rX.c2, rX.c3⟩
  have HSK : Hid (∀ W', Kp (inRam B M.n) W0.drew W' → SpS V B X ⟨a, b, hh, hh⟩ W') := fun W' k => SpS.kp (S := inRam B M.n) HS0.out k nV nX
  have HC : Hid _ := write_ok W0.drew B M h0D.ram a hh v a0 a1 v0 v1 (by unfold okS; exact decide_eq_true (by omega))
  rw [Int.toNat_natCast, ← hw1] at HC
  clear h hn hw1 h0
  go_enter Tryz.func36, Tryz.ntmps36
  rw [hW0] at c2 c3
  go_upto_region 2 with fail
  rw [← hW0]
  clear hW0 hX c2 c3
  go_region_held3 (fun W => W.cell? ⟨V, 0, none⟩ = some (.pointer (some ⟨B + 3, 0, none⟩)) ∧ W.cell? ⟨X, 0, none⟩ = some (.int .u32 a) ∧ W.cell? ⟨X, 1, none⟩ = some (.int .u32 b) ∧ W.cell? ⟨X, 2, none⟩ = some (.int .i64 hh) ∧ W.cell? ⟨X, 3, none⟩ = some (.int .i64 hh))
    (first | with_reducible exact HS0.out | with_reducible exact HSK.out _ k4)
    (first | (go_at_call 15; refine Calls.mono HC.out ?_; rintro e w4 ⟨rfl, r4, k4⟩))
  go_wp2
  have v4 := h0D.wrote k4 r4 HN.out.1 HN.out.2.2
  have k5 : Kp (modVm K B M'.n) w w4 := by rw [HN.out.1]; exact (k0.mono (fun _ _ f => f.elim)).trans (k4.undrew.mono (fun _ _ f => .inl f))
  first
    | (go_end0; exact ⟨rfl, ⟨tn, by omega, v4⟩, k5⟩)
    | exact bodyPost_ret (results_none rfl _ _ _) rfl ⟨rfl, ⟨tn, by omega, v4⟩, k5⟩

def WrQ (w : World) (V K B pl tn : Nat) (M0 : Mem) (MK : Nat → Mem) (n k : Nat) (s24 : Value) (wr : World) : Prop :=
  ∃ i : Nat, s24 = .int .i64 i ∧ i ≤ n ∧ n - i ≤ k ∧ VmAt wr V K B pl tn (MK i) ∧ Kp (inRam B M0.n) w wr

theorem byte_at (v : Int) (v0 : 0 ≤ v) (v1 : v < 4294967296) (i : Nat) (hi : i < 4) : (bytesV (v / 256 ^ i)).take 1 = [(bytesV v).getD i 0] := by
  rcases (by omega : i = 0 ∨ i = 1 ∨ i = 2 ∨ i = 3) with rfl | rfl | rfl | rfl
  · simp [bytesV]
  · rfl
  · rfl
  · show [v / 16777216 % 256] = [v / 16777216]
    rw [show v / 16777216 % 256 = v / 16777216 by omega]

set_option maxHeartbeats 1000000 in
theorem vwrite_two (w : World) (V K B pl tn : Nat) (M : Mem) (h : VmAt w V K B pl tn M) (s : Sp) (hs : s.Ok) (he : s.h < s.n) (v : Int) (v0 : 0 ≤ v) (v1 : v < 4294967296) :
    Calls Tryz.prog 36 #[.pointer (some ⟨V, 0, none⟩), s.val, .int .u32 v] w (fun e w' => e = .returned (.tuple #[]) ∧ VmP w V K B pl tn (M.wrS s v) 0 w') := by
  have hn := hs.n1
  have hh0 := hs.h0
  have HR : Hid (M.wrK s v s.n = M.wrS s v) := rfl
  have HA : Hid (∀ W (j : Nat), j < s.n → Calls Tryz.prog 61 #[.agg #[.int .u32 s.a, .int .u32 s.b, .int .i64 s.h, .int .i64 s.n], .int .i64 j] W fun e w' => e = .returned (.int .u32 (s.at j)) ∧ Kp noB W w') := fun W j hj => spAt_any W s hs j hj
  have HB : Hid (∀ j, 0 ≤ s.at j ∧ s.at j < 4294967296) := s.at_bd
  have HT : Hid (∀ i, M.wrK s v (i + 1) = (M.wrK s v i).lay false (s.at i) [(bytesV v).getD i 0]) := fun i => rfl
  have H0 : Hid (M.wrK s v 0 = M) := rfl
  have HN : Hid (∀ i, (M.wrK s v i).n = M.n ∧ (M.wrK s v i).closed = M.closed) := fun i => ⟨(wrK_same M s v i).1, (wrK_same M s v i).2.2⟩
  unfold Sp.val
  generalize M.wrK s v = MK at *
  generalize M.wrS s v = Ms at *
  generalize s.at = AT at *
  obtain ⟨a, b, hh, n⟩ := s
  simp only at *
  clear hs
  obtain ⟨W0, hW0⟩ : ∃ W, W = w.alloc (.cells #[.int .u32 a, .int .u32 b, .int .i64 hh, .int .i64 n] 93) := ⟨_, rfl⟩
  obtain ⟨X, hX⟩ : ∃ X, w.heap.size = X := ⟨_, rfl⟩
  have k0 : Kp noB w W0 := by rw [hW0]; exact Kp.alloc _ _ _
  have rX : RowS W0 X a b hh n := by rw [hW0, ← hX]; exact (MapKept.heap_alloc w _).1
  have h0 := h.kp0 k0
  have nX : ¬ inRam B M.n X := fun f => by have := h.in_lt (.inl f); omega
  have nV : ¬ inRam B M.n V := fun f => h.apV (.inl f)
  have c2 := rX.c2; have c3 := rX.c3
  have HS0 : Hid (SpS V B X ⟨a, b, hh, n⟩ W0) := ⟨h0.c0, rX.c0, rX.c1, rX.c2, rX.c3⟩
  have he2 : (hh == n) = false := by rw [beq_eq_false_iff_ne]; omega
  have he' : ((hh : Int) == (n : Int)) = false := by rw [beq_eq_false_iff_ne]; omega
  have hn4 : n = 2 ∨ n = 4 := by omega
  clear h hn rX
  go_enter Tryz.func36, Tryz.ntmps36
  rw [hW0] at c2 c3
  go_wp2_with fail
  rw [← hW0]
  clear hW0 hX c2 c3
  go_loopg [24] n (WrQ W0 V K B pl tn M MK n)
  case atStart => exact ⟨0, rfl, Nat.zero_le _, Nat.le_refl _, by rw [H0.out]; exact h0, Kp.refl _ _⟩
  case round =>
    obtain ⟨i, rfl, hi, hik, hv, kk⟩ := hrel
    by_cases hlt : i < n
    · have hz : (i : Int) < (n : Int) := by omega
      have HC1 : Hid _ := HA.out wr.drew i hlt
      have hd := hv.kp0 (Kp.refl noB wr).drew
      have HC2 : Hid (∀ W, Kp noB wr.drew W → Calls Tryz.prog 15 #[.pointer (some ⟨B + 3, 0, none⟩), .int .u32 (AT i), .int .i64 1, .int .u32 (v / 256 ^ i)] W fun e w' => e = .returned (.int .i64 0) ∧ VmAt w' V K B pl tn (MK (i + 1)) ∧ Kp (inRam B M.n) wr.drew w') := fun W k => by
        have hvW := hd.kp0 k
        have pv : 0 ≤ v / 256 ^ i ∧ v / 256 ^ i < 4294967296 := by
          rcases (by omega : i = 0 ∨ i = 1 ∨ i = 2 ∨ i = 3) with rfl | rfl | rfl | rfl <;> simp <;> omega
        have c := write_ok W B (MK i) hvW.ram (AT i) 1 (v / 256 ^ i) (HB.out i).1 (HB.out i).2 pv.1 pv.2 rfl
        rw [show ((1 : Int)).toNat = 1 from rfl, byte_at v v0 v1 i (by omega), ← HT.out i] at c
        refine c.mono (fun e w' ⟨h1, h2, h3⟩ => ⟨h1, hvW.wrote h3 h2 ((HN.out _).1.trans (HN.out i).1.symm) ((HN.out _).2.trans (HN.out i).2.symm), ?_⟩)
        rw [(HN.out i).1] at h3
        exact (k.mono (fun _ _ f => f.elim)).trans h3
      have HT0 : Hid (SpS V B X ⟨a, b, hh, n⟩ wr.drew) := SpS.kp (S := inRam B M.n) (W := W0) HS0.out kk.drew nV nX
      have HTK : Hid (∀ W', Kp noB wr.drew W' → SpS V B X ⟨a, b, hh, n⟩ W') := fun W' k => SpS.kp (S := noB) HT0.out k (fun f => f) (fun f => f)
      have HTW : Hid (∀ W', Kp (inRam B M.n) wr.drew W' → SpS V B X ⟨a, b, hh, n⟩ W') := fun W' k => SpS.kp (S := inRam B M.n) HT0.out k nV nX
      obtain ⟨j, hj⟩ : ∃ j, j = i + 1 := ⟨_, rfl⟩
      have HJ : Hid (j = i + 1) := hj
      have HKk : Hid (n - i ≤ gk) := hik
      clear hik hj hd hv
      generalize AT i = at' at *
      rcases (by omega : i = 0 ∨ i = 1 ∨ i = 2 ∨ i = 3) with rfl | rfl | rfl | rfl
      all_goals
        simp at HC2
        have e0 : IntKind.i64.wrap 0 = 0 := rfl
        have e1 : IntKind.i64.wrap 8 = 8 := rfl
        have e2 : IntKind.i64.wrap 16 = 16 := rfl
        have e3 : IntKind.i64.wrap 24 = 24 := rfl
        go_upto_region 6 with fail
        go_region_held3 (fun W => W.cell? ⟨V, 0, none⟩ = some (.pointer (some ⟨B + 3, 0, none⟩)) ∧ W.cell? ⟨X, 0, none⟩ = some (.int .u32 a) ∧ W.cell? ⟨X, 1, none⟩ = some (.int .u32 b) ∧ W.cell? ⟨X, 2, none⟩ = some (.int .i64 hh) ∧ W.cell? ⟨X, 3, none⟩ = some (.int .i64 n))
          (first | with_reducible exact HT0.out | with_reducible exact HTK.out _ k4 | with_reducible exact HTW.out _ k5)
          (first | (go_at_call 61; refine Calls.mono HC1.out ?_; rintro e w4 ⟨rfl, k4⟩) | (go_at_call 15; refine Calls.mono (HC2.out _ k4) ?_; rintro e w5 ⟨rfl, v5, k5⟩))
        go_wp2_with fail
        go_roundg (n - j)
        case measure => have := HJ.out; have := HKk.out; omega
        case rel => exact ⟨j, by rw [HJ.out]; rfl, by have := HJ.out; omega, Nat.le_refl _, by rw [HJ.out]; exact v5, kk.trans k5.undrew⟩
    · have hz : ¬ (i : Int) < (n : Int) := by omega
      obtain rfl : i = n := by omega
      rw [HR.out] at hv
      have k5 : Kp (modVm K B Ms.n) w wr := by
        rw [← HR.out, (HN.out _).1]
        exact (k0.mono (fun _ _ f => f.elim)).trans (kk.mono (fun _ _ f => .inl f))
      clear hik
      go_wp2
      first
        | (go_end0; exact ⟨rfl, ⟨tn, by omega, hv⟩, k5⟩)
        | exact bodyPost_ret (results_none rfl _ _ _) rfl ⟨rfl, ⟨tn, by omega, hv⟩, k5⟩

theorem vwrite_any (w : World) (V K B pl tn : Nat) (M : Mem) (h : VmAt w V K B pl tn M) (s : Sp) (hs : s.Ok) (v : Int) (v0 : 0 ≤ v) (v1 : v < 4294967296) :
    Calls Tryz.prog 36 #[.pointer (some ⟨V, 0, none⟩), s.val, .int .u32 v] w (fun e w' => e = .returned (.tuple #[]) ∧ VmP w V K B pl tn (M.wrS s v) 0 w') := by
  by_cases he : s.h = s.n
  · exact vwrite_one w V K B pl tn M h s hs he v v0 v1
  · exact vwrite_two w V K B pl tn M h s hs (by have := hs.h1; omega) v v0 v1
end Go.Proofs.YtmmnnafjikilpaaGreat

/- Faults: what deep code panics with is told. -/
namespace Go.Proofs.YtmmnnafjikilpaaGreat
open Go.ChangeShapes Go.WideShapes Go.ChangeAt Go.RowKit Go.Maps
set_option linter.unusedVariables false
set_option maxRecDepth 20000

def RowT (W : World) (X : Nat) (f : Ft) : Prop := W.heap[X]? = some (.cells #[.int .i64 f.vec, .int .i64 f.code, .int .u32 f.cr2] 54 (0, 0))
theorem RowT.lt {W : World} {X : Nat} {f : Ft} (r : RowT W X f) : X < W.heap.size := (Array.getElem?_eq_some_iff.1 r).1
theorem RowT.kp {S : Nat → Prop} {W W' : World} {X : Nat} {f : Ft} (r : RowT W X f) (k : Kp S W W') (hS : ¬ S X) : RowT W' X f := (k.block X r.lt hS).trans r
theorem RowT.c0 {W : World} {X : Nat} {f : Ft} (r : RowT W X f) : W.cell? ⟨X, 0, none⟩ = some (.int .i64 f.vec) := by rw [cell_at r]; rfl
theorem RowT.c1 {W : World} {X : Nat} {f : Ft} (r : RowT W X f) : W.cell? ⟨X, 1, none⟩ = some (.int .i64 f.code) := by rw [cell_at r]; rfl
theorem RowT.c2 {W : World} {X : Nat} {f : Ft} (r : RowT W X f) : W.cell? ⟨X, 2, none⟩ = some (.int .u32 f.cr2) := by rw [cell_at r]; rfl
theorem RowT.fz {W : World} {X : Nat} {f : Ft} (r : RowT W X f) (j : Nat) : W.frozen? ⟨X, j, none⟩ = false := frozen_at r
def setFt (W : World) (X : Nat) (f : Ft) : World := ((W.setCell ⟨X, 0, none⟩ (.int .i64 f.vec)).setCell ⟨X, 1, none⟩ (.int .i64 f.code)).setCell ⟨X, 2, none⟩ (.int .u32 f.cr2)
theorem RowT.set {W : World} {X : Nat} {f : Ft} (r : RowT W X f) (g : Ft) : RowT (setFt W X g) X g := heap_setCell_at (heap_setCell_at (heap_setCell_at r _) _) _
theorem kp_setFt (W : World) (X : Nat) (f : Ft) : Kp (fun j => j = X) W (setFt W X f) :=
  ((Kp.setCell (S := fun j => j = X) W (p := ⟨X, 0, none⟩) rfl _).trans (Kp.setCell (S := fun j => j = X) _ (p := ⟨X, 1, none⟩) rfl _)).trans (Kp.setCell (S := fun j => j = X) _ (p := ⟨X, 2, none⟩) rfl _)

theorem none_any (w : World) : Calls Tryz.prog 59 #[] w fun e w' => e = .returned (.agg #[.int .i64 (-1), .int .i64 (-1), .int .u32 0]) ∧ Kp noB w w' := by
  go_enter Tryz.func59, Tryz.ntmps59
  go_wp2
  refine bodyPost_ret (v := .agg #[.int .i64 (-1), .int .i64 (-1), .int .u32 0]) (by simp [results, Tryz.results59, go_sem]) rfl ⟨rfl, ?_⟩
  exact Kp.alloc noB w _

theorem catch_pan (X : Nat) (g f : Ft) (older : List PanicEntry) (w : World) (h : RowT w X g) :
    CallsD Tryz.prog 60 #[.pointer (some ⟨X, 0, none⟩)] (.panicking ({ v := .iface 54 f.val, recovered := false } :: older)) w fun e u' w' =>
      e = .returned (.tuple #[]) ∧ u' = .panicking ({ v := .iface 54 f.val, recovered := true } :: older) ∧ w' = setFt w X f := by
  have c0 := h.c0; have c1 := h.c1; have c2 := h.c2
  have f0 := h.fz 0; have f1 := h.fz 1; have f2 := h.fz 2
  unfold Ft.val setFt
  refine callsD_of_wpS Tryz.func60 rfl fun c₀ cs hu => ?_
  apply wpS_seq
  apply wpS_region
  simp [wpOpsS, go_sem, recoverD, hu, Tryz.ntmps60, Exit.thenS]
  obtain ⟨v, hv⟩ : ∃ v : Value, v = .agg #[.int .i64 f.vec, .int .i64 f.code, .int .u32 f.cr2] := ⟨_, rfl⟩
  rw [← hv]
  change Code.wpS _ _ _ { tmps := #[.pointer (some ⟨X, 0, none⟩), .iface 54 v, .iface 54 v, undef, undef, undef, undef], defers := [] } _ _
  refine wpS_of_wp ?_
  rw [hv]
  have hta : ∀ (x : Value) (w : World), (Instr.typeAssert (.iface 54 x) 20 54 false).run Tryz.prog w = .ok x w := fun _ _ => by kernel_rfl
  go_wp2
  simp [bodyPostS, results, Tryz.results60]

theorem catch_idle (X : Nat) (w : World) :
    CallsD Tryz.prog 60 #[.pointer (some ⟨X, 0, none⟩)] .returning w fun e u' w' => e = .returned (.tuple #[]) ∧ u' = .returning ∧ w' = w := by
  refine callsD_of_wpS Tryz.func60 rfl fun c₀ cs hu => ?_
  apply wpS_seq
  apply wpS_region
  simp [wpOpsS, go_sem, recoverD, hu, Tryz.ntmps60, Exit.thenS]
  change Code.wpS _ _ _ { tmps := #[.pointer (some ⟨X, 0, none⟩), .nilIface, .nilIface, undef, undef, undef, undef], defers := [] } _ _
  refine wpS_of_wp ?_
  go_wp2
  cases c₀
  simp_all [bodyPostS, results, Tryz.results60]

/-- What is done without a panic. -/
theorem faultOf_ok (w : World) (k : Nat) (cap : Array Value) (S : Nat → Prop) (P : World → Prop) (hS : ∀ j, S j → j < w.heap.size) (hP : ∀ W W', P W → Kp (fun j => w.heap.size ≤ j) W W' → P W')
    (hk : ∀ W, (callFunc k cap).run Tryz.prog W = .ok (.enter k cap) W)
    (H : Hid (∀ W, Kp noB w W → Calls Tryz.prog k cap W fun e w' => e = .returned (.tuple #[]) ∧ Kp S W w' ∧ P w')) :
    Calls Tryz.prog 34 #[.func (.func k) #[] cap] w fun e w' => e = .returned noFt.val ∧ Kp S w w' ∧ P w' := by
  have hmf : ∀ (fn : Fn) (first cap : Array Value) (w : World), (Instr.makeFunc fn first cap).run Tryz.prog w = .ok (.func fn first cap) w := fun _ _ _ _ => rfl
  obtain ⟨W0, hW0⟩ : ∃ W, W = w.alloc (.cells #[.int .i64 0, .int .i64 0, .int .u32 0] 54) := ⟨_, rfl⟩
  obtain ⟨X, hX⟩ : ∃ X, w.heap.size = X := ⟨_, rfl⟩
  have k0 : Kp noB w W0 := by rw [hW0]; exact Kp.alloc _ _ _
  have rX : RowT W0 X ⟨0, 0, 0⟩ := by rw [hW0, ← hX]; exact (MapKept.heap_alloc w _).1
  go_enter_defers Tryz.func34, Tryz.ntmps34
  go_wp2_with fail
  rw [← hW0]
  refine (none_any _).mono ?_; rintro e w2 ⟨rfl, k2⟩
  have r2 := rX.kp k2 (fun f => f)
  have c0 := r2.c0; have c1 := r2.c1; have c2 := r2.c2
  have f0 := r2.fz 0; have f1 := r2.fz 1; have f2 := r2.fz 2
  clear hW0
  go_wp2_with fail
  have k3 : Kp noB w (setFt w2 X noFt) := by
    have := k0.trans k2
    exact (((this.own' (i := 0) (by omega) _).own' (i := 1) (by omega) _).own' (i := 2) (by omega) _)
  have r3 := r2.set noFt
  change Calls Tryz.prog k cap (setFt w2 X noFt) _
  refine Calls.mono (H.out _ k3) ?_; rintro e w4 ⟨rfl, k4, p4⟩
  have nX : ¬ S X := fun f => by have := hS _ f; omega
  have r4 := r3.kp k4 nX
  clear c0 c1 c2 f0 f1 f2
  have c0 := r4.c0; have c1 := r4.c1; have c2 := r4.c2
  have f0 := r4.fz 0; have f1 := r4.fz 1; have f2 := r4.fz 2
  have r5 := r4.set noFt
  have p5 := hP _ _ p4 ((kp_setFt w4 X noFt).mono (fun j _ e => by omega))
  have k5 : Kp S w (setFt w4 X noFt) := ((k3.mono (fun _ _ f => f.elim)).trans k4).over (kp_setFt w4 X noFt) (fun j hj e => absurd hj (by omega))
  clear r2 r3 k2 k0 rX k3 k4 p4
  have e0 : noFt.vec = -1 := rfl
  have e1 : noFt.code = -1 := rfl
  have e2 : noFt.cr2 = 0 := rfl
  go_wp2
  refine leaves_cons (f := 60) (args := #[.pointer (some ⟨X, 0, none⟩)]) (by simp) (by simp [go_sem]) ?_
  refine (catch_idle X _).mono ?_
  rintro e u' w'' ⟨rfl, rfl, rfl⟩
  have d0 := r5.c0; have d1 := r5.c1; have d2 := r5.c2
  unfold setFt at d0 d1 d2 k5 p5
  simp only [e0, e1, e2] at d0 d1 d2 k5 p5
  simp [Leaves, settle, results, Tryz.results34, go_sem, d0, d1, d2]
  exact ⟨rfl, k5, p5⟩

/-- What is done ends in a panic. -/
theorem faultOf_no (w : World) (k : Nat) (cap : Array Value) (f : Ft) (S : Nat → Prop) (P : World → Prop) (hS : ∀ j, S j → j < w.heap.size) (hP : ∀ W W', P W → Kp (fun j => w.heap.size ≤ j) W W' → P W')
    (hk : ∀ W, (callFunc k cap).run Tryz.prog W = .ok (.enter k cap) W)
    (H : Hid (∀ W, Kp noB w W → Calls Tryz.prog k cap W fun e w' => e = .panicked (pan f) ∧ Kp S W w' ∧ P w')) :
    Calls Tryz.prog 34 #[.func (.func k) #[] cap] w fun e w' => e = .returned f.val ∧ Kp S w w' ∧ P w' := by
  have hmf : ∀ (fn : Fn) (first cap : Array Value) (w : World), (Instr.makeFunc fn first cap).run Tryz.prog w = .ok (.func fn first cap) w := fun _ _ _ _ => rfl
  obtain ⟨W0, hW0⟩ : ∃ W, W = w.alloc (.cells #[.int .i64 0, .int .i64 0, .int .u32 0] 54) := ⟨_, rfl⟩
  obtain ⟨X, hX⟩ : ∃ X, w.heap.size = X := ⟨_, rfl⟩
  have k0 : Kp noB w W0 := by rw [hW0]; exact Kp.alloc _ _ _
  have rX : RowT W0 X ⟨0, 0, 0⟩ := by rw [hW0, ← hX]; exact (MapKept.heap_alloc w _).1
  go_enter_defers Tryz.func34, Tryz.ntmps34
  go_wp2_with fail
  rw [← hW0]
  refine (none_any _).mono ?_; rintro e w2 ⟨rfl, k2⟩
  have r2 := rX.kp k2 (fun f => f)
  have c0 := r2.c0; have c1 := r2.c1; have c2 := r2.c2
  have f0 := r2.fz 0; have f1 := r2.fz 1; have f2 := r2.fz 2
  clear hW0
  go_wp2_with fail
  have k3 : Kp noB w (setFt w2 X noFt) := by
    have := k0.trans k2
    exact (((this.own' (i := 0) (by omega) _).own' (i := 1) (by omega) _).own' (i := 2) (by omega) _)
  have r3 := r2.set noFt
  change Calls Tryz.prog k cap (setFt w2 X noFt) _
  refine Calls.mono (H.out _ k3) ?_; rintro e w4 ⟨rfl, k4, p4⟩
  have nX : ¬ S X := fun f => by have := hS _ f; omega
  have r4 := r3.kp k4 nX
  have r5 := r4.set f
  have p5 := hP _ _ p4 ((kp_setFt w4 X f).mono (fun j _ e => by omega))
  have k5 : Kp S w (setFt w4 X f) := ((k3.mono (fun _ _ f => f.elim)).trans k4).over (kp_setFt w4 X f) (fun j hj e => absurd hj (by omega))
  refine leaves_cons (f := 60) (args := #[.pointer (some ⟨X, 0, none⟩)]) (by simp) (by simp [go_sem]) ?_
  refine (catch_pan X noFt f [] _ r4).mono ?_
  rintro e u' w'' ⟨rfl, rfl, rfl⟩
  have d0 := r5.c0; have d1 := r5.c1; have d2 := r5.c2
  simp [Leaves, settle, results, Tryz.results34, go_sem, d0, d1, d2]
  exact ⟨rfl, k5, p5⟩
end Go.Proofs.YtmmnnafjikilpaaGreat

/- What vmem's calls hand to faultOf. -/
namespace Go.Proofs.YtmmnnafjikilpaaGreat
open Go.ChangeShapes Go.WideShapes Go.ChangeAt Go.RowKit Go.Maps
set_option linter.unusedVariables false
set_option maxRecDepth 20000

def RowV (W : World) (X : Nat) (v : Int) : Prop := W.heap[X]? = some (.cells #[.int .u32 v] 24 (0, 0))
theorem RowV.lt {W : World} {X : Nat} {v : Int} (r : RowV W X v) : X < W.heap.size := (Array.getElem?_eq_some_iff.1 r).1
theorem RowV.kp {S : Nat → Prop} {W W' : World} {X : Nat} {v : Int} (r : RowV W X v) (k : Kp S W W') (hS : ¬ S X) : RowV W' X v := (k.block X r.lt hS).trans r
theorem RowV.c {W : World} {X : Nat} {v : Int} (r : RowV W X v) : W.cell? ⟨X, 0, none⟩ = some (.int .u32 v) := by rw [cell_at r]; rfl
theorem RowV.fz {W : World} {X : Nat} {v : Int} (r : RowV W X v) : W.frozen? ⟨X, 0, none⟩ = false := frozen_at r
theorem RowV.set {W : World} {X : Nat} {v : Int} (r : RowV W X v) (u : Int) : RowV (W.setCell ⟨X, 0, none⟩ (.int .u32 u)) X u := heap_setCell_at r _

abbrev BxLoad (X : Nat) (pm pc : Value) (k off z : Int) (W : World) : Prop := W.cell? ⟨X, 0, none⟩ = some (pm) ∧ W.cell? ⟨X + 1, 0, none⟩ = some (pc) ∧ W.cell? ⟨X + 2, 0, none⟩ = some (.int .i64 k) ∧ W.cell? ⟨X + 3, 0, none⟩ = some (.int .u32 off) ∧ W.cell? ⟨X + 4, 0, none⟩ = some (.int .i64 z)
theorem BxLoad.kp {X : Nat} {pm pc : Value} {k off z : Int} {S : Nat → Prop} {W W' : World} (h : BxLoad X pm pc k off z W) (kq : Kp S W W') (hS : ∀ j, S j → j < X ∨ X + 5 ≤ j) : BxLoad X pm pc k off z W' := by
  obtain ⟨h0, h1, h2, h3, h4⟩ := h
  exact ⟨cell_kp h0 kq (fun f => by have := hS _ f; omega), cell_kp h1 kq (fun f => by have := hS _ f; omega), cell_kp h2 kq (fun f => by have := hS _ f; omega), cell_kp h3 kq (fun f => by have := hS _ f; omega), cell_kp h4 kq (fun f => by have := hS _ f; omega)⟩

theorem load1_no (w : World) (X Y : Nat) (pm pc : Value) (k off z : Int) (f : Ft) (S : Nat → Prop) (P : World → Prop) (hb : BxLoad X pm pc k off z w)
    (H : Hid (∀ W, Kp noB w W → Calls Tryz.prog 37 #[pm, pc, .int .i64 k, .int .u32 off, .int .i64 z, .bool false] W fun e w' => e = .panicked (pan f) ∧ Kp S W w' ∧ P w')) :
    Calls Tryz.prog 38 #[.pointer (some ⟨X, 0, none⟩), .pointer (some ⟨X + 1, 0, none⟩), .pointer (some ⟨X + 2, 0, none⟩), .pointer (some ⟨X + 3, 0, none⟩), .pointer (some ⟨X + 4, 0, none⟩), .pointer (some ⟨Y, 0, none⟩)] w fun e w' => e = .panicked (pan f) ∧ Kp S w w' ∧ P w' := by
  have HC : Hid _ := H.out w.drew (Kp.refl noB w).drew
  obtain ⟨b0, b1, b2, b3, b4⟩ := hb
  go_enter Tryz.func38, Tryz.ntmps38
  refine OrdP.region_vals (τ := Unit) (fun ch w' => ch = pan f ∧ Kp S w.drew w' ∧ P w') (fun _ => [pm, pm, pc, .int .i64 k, .int .u32 off, .int .i64 z, undef, undef, undef]) (fun _ listed W' => W' = w.drew ∧ listed.getD 6 false = false) () ?_ (by kernel_rfl) (by kernel_rfl) (by kernel_rfl) (by kernel_rfl) (fun _ => rfl) (fun t => by simp only [OrdG.puts, Act.put, List.setIfInBounds_toArray, List.set_cons_zero, List.set_cons_succ]; rfl) (fun _ => by kernel_rfl) ⟨rfl, rfl⟩ ?_ ?_
  · rintro ch a' w' hd ⟨rfl, k, p⟩
    exact ⟨hd, rfl, k.undrew, p⟩
  · refine ⟨?_, ?_, ?_, ?_, ?_, ?_, ?_, ?_, ?_, trivial⟩
    all_goals (intro t listed W' hz hSh hl hI hb K hK hK0; obtain ⟨rfl, h7⟩ := hI)
    case refine_7 =>
      go_simp
      refine Calls.mono HC.out ?_
      rintro e w4 ⟨rfl, r⟩
      exact ⟨rfl, r⟩
    case refine_9 => exact absurd (OrdG.on_of (i := 6) hb (by kernel_rfl)) (by rw [h7]; decide)
    case refine_8 => exact absurd (OrdG.on_of (i := 6) hb (by kernel_rfl)) (by rw [h7]; decide)
    all_goals (go_simp; exact hK0 _ ⟨rfl, OrdP.keep h7 (by decide)⟩)
  · rintro t listed w' hal ⟨_, h7⟩
    have := hal 6 (by decide)
    rw [h7] at this
    cases this

theorem load1_ok (w : World) (X Y V K B pl tn : Nat) (pc : Value) (k off z : Int) (y0 : Int) (hY : RowV w Y y0) (hX : X + 5 ≤ Y) (q : Qy) (hq : q.s.Ok) (hb : BxLoad X (.pointer (some ⟨V, 0, none⟩)) pc k off z w) (hm : ∀ j, modVm K B q.m.n j → j < X) (hV : V < X)
    (H : Hid (∀ W, Kp noB w W → Calls Tryz.prog 37 #[.pointer (some ⟨V, 0, none⟩), pc, .int .i64 k, .int .u32 off, .int .i64 z, .bool false] W fun e w' => e = .returned q.s.val ∧ VmP W V K B pl tn q.m 2 w')) :
    Calls Tryz.prog 38 #[.pointer (some ⟨X, 0, none⟩), .pointer (some ⟨X + 1, 0, none⟩), .pointer (some ⟨X + 2, 0, none⟩), .pointer (some ⟨X + 3, 0, none⟩), .pointer (some ⟨X + 4, 0, none⟩), .pointer (some ⟨Y, 0, none⟩)] w fun e w' => e = .returned (.tuple #[]) ∧ Kp (fun j => modVm K B q.m.n j ∨ j = Y) w w' ∧ (∃ tn', tn' ≤ tn + 2 ∧ VmAt w' V K B pl tn' q.m) ∧ RowV w' Y (q.m.rdS q.s) := by
  have HC : Hid _ := H.out w.drew (Kp.refl noB w).drew
  have HB0 : Hid (BxLoad X (.pointer (some ⟨V, 0, none⟩)) pc k off z w.drew) := hb
  have HBV : Hid (∀ W', VmP w.drew V K B pl tn q.m 2 W' → BxLoad X (.pointer (some ⟨V, 0, none⟩)) pc k off z W') := fun W' v => BxLoad.kp (W := w.drew) HB0.out v.2 (fun j f => .inl (hm j f))

  have nY : ¬ modVm K B q.m.n Y := fun f => by have := hm _ f; omega
  have HRd : Hid (∀ W', VmP w.drew V K B pl tn q.m 2 W' → Calls Tryz.prog 39 #[.pointer (some ⟨V, 0, none⟩), q.s.val] W' fun e w' => e = .returned (.int .u32 (q.m.rdS q.s)) ∧ Kp noB W' w') := fun W' ⟨⟨tn', _, v⟩, _⟩ => vread_any W' V K B pl tn' q.m v q.s hq
  have HBR : Hid (∀ W W', VmP w.drew V K B pl tn q.m 2 W → Kp noB W W' → BxLoad X (.pointer (some ⟨V, 0, none⟩)) pc k off z W') := fun W W' v k => BxLoad.kp (HBV.out _ v) k (fun j f => f.elim)
  have HBS : Hid (∀ W W' (u : Value), VmP w.drew V K B pl tn q.m 2 W → Kp noB W W' → BxLoad X (.pointer (some ⟨V, 0, none⟩)) pc k off z (W'.setCell ⟨Y, 0, none⟩ u)) := fun W W' u v k => BxLoad.kp (HBR.out _ _ v k) (Kp.setCell (S := fun j => j = Y) W' (p := ⟨Y, 0, none⟩) rfl u) (fun j f => .inr (by omega))
  have HRY : Hid (∀ W W', VmP w.drew V K B pl tn q.m 2 W → Kp noB W W' → RowV W' Y y0) := fun W W' v k => by
    have r : RowV w.drew Y y0 := hY
    exact (r.kp v.2 nY).kp k (fun f => f)

  generalize q.s.val = sv at *
  go_enter Tryz.func38, Tryz.ntmps38
  go_region_held3 (fun W => W.cell? ⟨X, 0, none⟩ = some (.pointer (some ⟨V, 0, none⟩)) ∧ W.cell? ⟨X + 1, 0, none⟩ = some (pc) ∧ W.cell? ⟨X + 2, 0, none⟩ = some (.int .i64 k) ∧ W.cell? ⟨X + 3, 0, none⟩ = some (.int .u32 off) ∧ W.cell? ⟨X + 4, 0, none⟩ = some (.int .i64 z))
    (first | with_reducible exact HB0.out | with_reducible exact HBV.out _ v4 | with_reducible exact HBR.out _ _ v4 k5 | with_reducible exact HBS.out _ _ _ v4 k5)
    (first | (go_at_call 37; refine Calls.mono HC.out ?_; rintro e w4 ⟨rfl, v4⟩) | (go_at_call 39; refine Calls.mono (HRd.out _ v4) ?_; rintro e w5 ⟨rfl, k5⟩; have rz := HRY.out _ _ v4 k5; obtain ⟨z0, y0'⟩ := And.intro rz.c rz.fz))
  have r5 := rz.set (q.m.rdS q.s)
  obtain ⟨⟨tn4, ht4, at4⟩, k4⟩ := v4
  have vF := (at4.kp0 k5).kp (Kp.setCell (S := fun j => j = Y) w5 (p := ⟨Y, 0, none⟩) rfl (.int .u32 (q.m.rdS q.s))) (fun j hj e => by
    subst e
    rcases hj with e | e
    · omega
    · exact nY e)
  have kF : Kp (fun j => modVm K B q.m.n j ∨ j = Y) w _ := ((k4.undrew.mono (fun _ _ f => .inl f)).trans (k5.mono (fun _ _ f => f.elim))).trans (Kp.setCell (S := fun j => modVm K B q.m.n j ∨ j = Y) w5 (p := ⟨Y, 0, none⟩) (.inr rfl) (.int .u32 (q.m.rdS q.s)))
  go_wp2
  go_end0
  exact ⟨rfl, kF, ⟨tn4, ht4, vF⟩, r5⟩

abbrev BxStore (X : Nat) (pm pc : Value) (k off z v : Int) (W : World) : Prop := W.cell? ⟨X, 0, none⟩ = some (pm) ∧ W.cell? ⟨X + 1, 0, none⟩ = some (pc) ∧ W.cell? ⟨X + 2, 0, none⟩ = some (.int .i64 k) ∧ W.cell? ⟨X + 3, 0, none⟩ = some (.int .u32 off) ∧ W.cell? ⟨X + 4, 0, none⟩ = some (.int .i64 z) ∧ W.cell? ⟨X + 5, 0, none⟩ = some (.int .u32 v)
theorem BxStore.kp {X : Nat} {pm pc : Value} {k off z v : Int} {S : Nat → Prop} {W W' : World} (h : BxStore X pm pc k off z v W) (kq : Kp S W W') (hS : ∀ j, S j → j < X ∨ X + 6 ≤ j) : BxStore X pm pc k off z v W' := by
  obtain ⟨h0, h1, h2, h3, h4, h5⟩ := h
  exact ⟨cell_kp h0 kq (fun f => by have := hS _ f; omega), cell_kp h1 kq (fun f => by have := hS _ f; omega), cell_kp h2 kq (fun f => by have := hS _ f; omega), cell_kp h3 kq (fun f => by have := hS _ f; omega), cell_kp h4 kq (fun f => by have := hS _ f; omega), cell_kp h5 kq (fun f => by have := hS _ f; omega)⟩

theorem store1_no (w : World) (X : Nat) (pm pc : Value) (k off z v : Int) (f : Ft) (S : Nat → Prop) (P : World → Prop) (hb : BxStore X pm pc k off z v w)
    (H : Hid (∀ W, Kp noB w W → Calls Tryz.prog 37 #[pm, pc, .int .i64 k, .int .u32 off, .int .i64 z, .bool true] W fun e w' => e = .panicked (pan f) ∧ Kp S W w' ∧ P w')) :
    Calls Tryz.prog 35 #[.pointer (some ⟨X, 0, none⟩), .pointer (some ⟨X + 1, 0, none⟩), .pointer (some ⟨X + 2, 0, none⟩), .pointer (some ⟨X + 3, 0, none⟩), .pointer (some ⟨X + 4, 0, none⟩), .pointer (some ⟨X + 5, 0, none⟩)] w fun e w' => e = .panicked (pan f) ∧ Kp S w w' ∧ P w' := by
  have HC : Hid _ := H.out w.drew (Kp.refl noB w).drew
  obtain ⟨b0, b1, b2, b3, b4, b5⟩ := hb
  go_enter Tryz.func35, Tryz.ntmps35
  refine OrdP.region_vals (τ := Unit) (fun ch w' => ch = pan f ∧ Kp S w.drew w' ∧ P w') (fun _ => [pm, pm, pc, .int .i64 k, .int .u32 off, .int .i64 z, undef, .int .u32 v, undef]) (fun _ listed W' => W' = w.drew ∧ listed.getD 6 false = false) () ?_ (by kernel_rfl) (by kernel_rfl) (by kernel_rfl) (by kernel_rfl) (fun _ => rfl) (fun t => by simp only [OrdG.puts, Act.put, List.setIfInBounds_toArray, List.set_cons_zero, List.set_cons_succ]; rfl) (fun _ => by kernel_rfl) ⟨rfl, rfl⟩ ?_ ?_
  · rintro ch a' w' hd ⟨rfl, k, p⟩
    exact ⟨hd, rfl, k.undrew, p⟩
  · refine ⟨?_, ?_, ?_, ?_, ?_, ?_, ?_, ?_, ?_, trivial⟩
    all_goals (intro t listed W' hz hSh hl hI hb K hK hK0; obtain ⟨rfl, h7⟩ := hI)
    case refine_7 =>
      go_simp
      refine Calls.mono HC.out ?_
      rintro e w4 ⟨rfl, r⟩
      exact ⟨rfl, r⟩
    case refine_9 => exact absurd (OrdG.on_of (i := 6) hb (by kernel_rfl)) (by rw [h7]; decide)
    all_goals (go_simp; exact hK0 _ ⟨rfl, OrdP.keep h7 (by decide)⟩)
  · rintro t listed w' hal ⟨_, h7⟩
    have := hal 6 (by decide)
    rw [h7] at this
    cases this

theorem store1_ok (w : World) (X V K B pl tn : Nat) (pc : Value) (k off z v : Int) (v0 : 0 ≤ v) (v1 : v < 4294967296) (q : Qy) (hq : q.s.Ok) (hb : BxStore X (.pointer (some ⟨V, 0, none⟩)) pc k off z v w) (hm : ∀ j, modVm K B q.m.n j → j < X) (hV : V < X)
    (H : Hid (∀ W, Kp noB w W → Calls Tryz.prog 37 #[.pointer (some ⟨V, 0, none⟩), pc, .int .i64 k, .int .u32 off, .int .i64 z, .bool true] W fun e w' => e = .returned q.s.val ∧ VmP W V K B pl tn q.m 2 w')) :
    Calls Tryz.prog 35 #[.pointer (some ⟨X, 0, none⟩), .pointer (some ⟨X + 1, 0, none⟩), .pointer (some ⟨X + 2, 0, none⟩), .pointer (some ⟨X + 3, 0, none⟩), .pointer (some ⟨X + 4, 0, none⟩), .pointer (some ⟨X + 5, 0, none⟩)] w fun e w' => e = .returned (.tuple #[]) ∧ VmP w V K B pl tn (q.m.wrS q.s v) 2 w' := by
  have HC : Hid _ := H.out w.drew (Kp.refl noB w).drew
  have HB0 : Hid (BxStore X (.pointer (some ⟨V, 0, none⟩)) pc k off z v w.drew) := hb
  have HBV : Hid (∀ W', VmP w.drew V K B pl tn q.m 2 W' → BxStore X (.pointer (some ⟨V, 0, none⟩)) pc k off z v W') := fun W' v => BxStore.kp (W := w.drew) HB0.out v.2 (fun j f => .inl (hm j f))

  have HWr : Hid (∀ W', VmP w.drew V K B pl tn q.m 2 W' → Calls Tryz.prog 36 #[.pointer (some ⟨V, 0, none⟩), q.s.val, .int .u32 v] W' fun e w' => e = .returned (.tuple #[]) ∧ VmP w.drew V K B pl tn (q.m.wrS q.s v) 2 w') := fun W' ⟨⟨tn', ht, vm⟩, kv⟩ => (vwrite_any W' V K B pl tn' q.m vm q.s hq v v0 v1).mono (fun e w' ⟨h1, ⟨tn2, ht2, v2⟩, k2⟩ => ⟨h1, ⟨tn2, by omega, v2⟩, by rw [(wrK_same q.m q.s v q.s.n).1.symm] at kv; exact kv.trans k2⟩)
  have HBW : Hid (∀ W', VmP w.drew V K B pl tn (q.m.wrS q.s v) 2 W' → BxStore X (.pointer (some ⟨V, 0, none⟩)) pc k off z v W') := fun W' vv => BxStore.kp (W := w.drew) HB0.out vv.2 (fun j f => .inl (hm j (by rw [show (q.m.wrS q.s v).n = q.m.n from (wrK_same q.m q.s v q.s.n).1] at f; exact f)))

  generalize q.s.val = sv at *
  go_enter Tryz.func35, Tryz.ntmps35
  go_region_held3 (fun W => W.cell? ⟨X, 0, none⟩ = some (.pointer (some ⟨V, 0, none⟩)) ∧ W.cell? ⟨X + 1, 0, none⟩ = some (pc) ∧ W.cell? ⟨X + 2, 0, none⟩ = some (.int .i64 k) ∧ W.cell? ⟨X + 3, 0, none⟩ = some (.int .u32 off) ∧ W.cell? ⟨X + 4, 0, none⟩ = some (.int .i64 z) ∧ W.cell? ⟨X + 5, 0, none⟩ = some (.int .u32 v))
    (first | with_reducible exact HB0.out | with_reducible exact HBV.out _ v4 | with_reducible exact HBW.out _ v5)
    (first | (go_at_call 37; refine Calls.mono HC.out ?_; rintro e w4 ⟨rfl, v4⟩) | (go_at_call 36; refine Calls.mono (HWr.out _ v4) ?_; rintro e w5 ⟨rfl, v5⟩))
  go_wp2
  go_end0
  exact ⟨rfl, v5.1, v5.2.undrew⟩

abbrev BxCheck (X : Nat) (pm pc : Value) (k off z : Int) (W : World) : Prop := W.cell? ⟨X, 0, none⟩ = some (pm) ∧ W.cell? ⟨X + 1, 0, none⟩ = some (pc) ∧ W.cell? ⟨X + 2, 0, none⟩ = some (.int .i64 k) ∧ W.cell? ⟨X + 3, 0, none⟩ = some (.int .u32 off) ∧ W.cell? ⟨X + 4, 0, none⟩ = some (.int .i64 z)
theorem BxCheck.kp {X : Nat} {pm pc : Value} {k off z : Int} {S : Nat → Prop} {W W' : World} (h : BxCheck X pm pc k off z W) (kq : Kp S W W') (hS : ∀ j, S j → j < X ∨ X + 5 ≤ j) : BxCheck X pm pc k off z W' := by
  obtain ⟨h0, h1, h2, h3, h4⟩ := h
  exact ⟨cell_kp h0 kq (fun f => by have := hS _ f; omega), cell_kp h1 kq (fun f => by have := hS _ f; omega), cell_kp h2 kq (fun f => by have := hS _ f; omega), cell_kp h3 kq (fun f => by have := hS _ f; omega), cell_kp h4 kq (fun f => by have := hS _ f; omega)⟩

theorem check1_no (w : World) (X : Nat) (pm pc : Value) (k off z : Int) (f : Ft) (S : Nat → Prop) (P : World → Prop) (hb : BxCheck X pm pc k off z w)
    (H : Hid (∀ W, Kp noB w W → Calls Tryz.prog 37 #[pm, pc, .int .i64 k, .int .u32 off, .int .i64 z, .bool true] W fun e w' => e = .panicked (pan f) ∧ Kp S W w' ∧ P w')) :
    Calls Tryz.prog 46 #[.pointer (some ⟨X, 0, none⟩), .pointer (some ⟨X + 1, 0, none⟩), .pointer (some ⟨X + 2, 0, none⟩), .pointer (some ⟨X + 3, 0, none⟩), .pointer (some ⟨X + 4, 0, none⟩)] w fun e w' => e = .panicked (pan f) ∧ Kp S w w' ∧ P w' := by
  have HC : Hid _ := H.out w (Kp.refl _ _)
  obtain ⟨b0, b1, b2, b3, b4⟩ := hb
  go_enter Tryz.func46, Tryz.ntmps46
  go_wp2_with (go_at_call 37; refine Calls.mono HC.out ?_; rintro e w4 ⟨rfl, k4, p4⟩)
  exact ⟨rfl, rfl, k4, p4⟩

theorem check1_ok (w : World) (X V K B pl tn : Nat) (pc : Value) (k off z : Int) (q : Qy) (hq : q.s.Ok) (hb : BxCheck X (.pointer (some ⟨V, 0, none⟩)) pc k off z w) (hm : ∀ j, modVm K B q.m.n j → j < X) (hV : V < X)
    (H : Hid (∀ W, Kp noB w W → Calls Tryz.prog 37 #[.pointer (some ⟨V, 0, none⟩), pc, .int .i64 k, .int .u32 off, .int .i64 z, .bool true] W fun e w' => e = .returned q.s.val ∧ VmP W V K B pl tn q.m 2 w')) :
    Calls Tryz.prog 46 #[.pointer (some ⟨X, 0, none⟩), .pointer (some ⟨X + 1, 0, none⟩), .pointer (some ⟨X + 2, 0, none⟩), .pointer (some ⟨X + 3, 0, none⟩), .pointer (some ⟨X + 4, 0, none⟩)] w fun e w' => e = .returned (.tuple #[]) ∧ VmP w V K B pl tn q.m 2 w' := by
  have HC : Hid _ := H.out w (Kp.refl _ _)
  obtain ⟨b0, b1, b2, b3, b4⟩ := hb
  unfold Sp.val at HC
  go_enter Tryz.func46, Tryz.ntmps46
  go_wp2_with (go_at_call 37; refine Calls.mono HC.out ?_; rintro e w4 ⟨rfl, v4⟩)
  go_end0
  exact ⟨rfl, v4⟩

abbrev BxSys (X : Nat) (pm pc : Value) (off z : Int) (W : World) : Prop := W.cell? ⟨X, 0, none⟩ = some (pm) ∧ W.cell? ⟨X + 1, 0, none⟩ = some (pc) ∧ W.cell? ⟨X + 2, 0, none⟩ = some (.int .u32 off) ∧ W.cell? ⟨X + 3, 0, none⟩ = some (.int .i64 z)
theorem BxSys.kp {X : Nat} {pm pc : Value} {off z : Int} {S : Nat → Prop} {W W' : World} (h : BxSys X pm pc off z W) (kq : Kp S W W') (hS : ∀ j, S j → j < X ∨ X + 4 ≤ j) : BxSys X pm pc off z W' := by
  obtain ⟨h0, h1, h2, h3⟩ := h
  exact ⟨cell_kp h0 kq (fun f => by have := hS _ f; omega), cell_kp h1 kq (fun f => by have := hS _ f; omega), cell_kp h2 kq (fun f => by have := hS _ f; omega), cell_kp h3 kq (fun f => by have := hS _ f; omega)⟩

theorem sys1_no (w : World) (X Y : Nat) (pm pc : Value) (off z : Int) (f : Ft) (S : Nat → Prop) (P : World → Prop) (hb : BxSys X pm pc off z w)
    (H : Hid (∀ W, Kp noB w W → Calls Tryz.prog 48 #[pm, pc, .int .u32 off, .int .i64 z, .bool false] W fun e w' => e = .panicked (pan f) ∧ Kp S W w' ∧ P w')) :
    Calls Tryz.prog 47 #[.pointer (some ⟨X, 0, none⟩), .pointer (some ⟨X + 1, 0, none⟩), .pointer (some ⟨X + 2, 0, none⟩), .pointer (some ⟨X + 3, 0, none⟩), .pointer (some ⟨Y, 0, none⟩)] w fun e w' => e = .panicked (pan f) ∧ Kp S w w' ∧ P w' := by
  have HC : Hid _ := H.out w.drew (Kp.refl noB w).drew
  obtain ⟨b0, b1, b2, b3⟩ := hb
  go_enter Tryz.func47, Tryz.ntmps47
  refine OrdP.region_vals (τ := Unit) (fun ch w' => ch = pan f ∧ Kp S w.drew w' ∧ P w') (fun _ => [pm, pm, pc, .int .u32 off, .int .i64 z, undef, undef, undef]) (fun _ listed W' => W' = w.drew ∧ listed.getD 5 false = false) () ?_ (by kernel_rfl) (by kernel_rfl) (by kernel_rfl) (by kernel_rfl) (fun _ => rfl) (fun t => by simp only [OrdG.puts, Act.put, List.setIfInBounds_toArray, List.set_cons_zero, List.set_cons_succ]; rfl) (fun _ => by kernel_rfl) ⟨rfl, rfl⟩ ?_ ?_
  · rintro ch a' w' hd ⟨rfl, k, p⟩
    exact ⟨hd, rfl, k.undrew, p⟩
  · refine ⟨?_, ?_, ?_, ?_, ?_, ?_, ?_, ?_, trivial⟩
    all_goals (intro t listed W' hz hSh hl hI hb K hK hK0; obtain ⟨rfl, h7⟩ := hI)
    case refine_6 =>
      go_simp
      refine Calls.mono HC.out ?_
      rintro e w4 ⟨rfl, r⟩
      exact ⟨rfl, r⟩
    case refine_8 => exact absurd (OrdG.on_of (i := 5) hb (by kernel_rfl)) (by rw [h7]; decide)
    case refine_7 => exact absurd (OrdG.on_of (i := 5) hb (by kernel_rfl)) (by rw [h7]; decide)
    all_goals (go_simp; exact hK0 _ ⟨rfl, OrdP.keep h7 (by decide)⟩)
  · rintro t listed w' hal ⟨_, h7⟩
    have := hal 5 (by decide)
    rw [h7] at this
    cases this

theorem sys1_ok (w : World) (X Y V K B pl tn : Nat) (pc : Value) (off z : Int) (y0 : Int) (hY : RowV w Y y0) (hX : X + 4 ≤ Y) (q : Qy) (hq : q.s.Ok) (hb : BxSys X (.pointer (some ⟨V, 0, none⟩)) pc off z w) (hm : ∀ j, modVm K B q.m.n j → j < X) (hV : V < X)
    (H : Hid (∀ W, Kp noB w W → Calls Tryz.prog 48 #[.pointer (some ⟨V, 0, none⟩), pc, .int .u32 off, .int .i64 z, .bool false] W fun e w' => e = .returned q.s.val ∧ VmP W V K B pl tn q.m 2 w')) :
    Calls Tryz.prog 47 #[.pointer (some ⟨X, 0, none⟩), .pointer (some ⟨X + 1, 0, none⟩), .pointer (some ⟨X + 2, 0, none⟩), .pointer (some ⟨X + 3, 0, none⟩), .pointer (some ⟨Y, 0, none⟩)] w fun e w' => e = .returned (.tuple #[]) ∧ Kp (fun j => modVm K B q.m.n j ∨ j = Y) w w' ∧ (∃ tn', tn' ≤ tn + 2 ∧ VmAt w' V K B pl tn' q.m) ∧ RowV w' Y (q.m.rdS q.s) := by
  have HC : Hid _ := H.out w.drew (Kp.refl noB w).drew
  have HB0 : Hid (BxSys X (.pointer (some ⟨V, 0, none⟩)) pc off z w.drew) := hb
  have HBV : Hid (∀ W', VmP w.drew V K B pl tn q.m 2 W' → BxSys X (.pointer (some ⟨V, 0, none⟩)) pc off z W') := fun W' v => BxSys.kp (W := w.drew) HB0.out v.2 (fun j f => .inl (hm j f))

  have nY : ¬ modVm K B q.m.n Y := fun f => by have := hm _ f; omega
  have HRd : Hid (∀ W', VmP w.drew V K B pl tn q.m 2 W' → Calls Tryz.prog 39 #[.pointer (some ⟨V, 0, none⟩), q.s.val] W' fun e w' => e = .returned (.int .u32 (q.m.rdS q.s)) ∧ Kp noB W' w') := fun W' ⟨⟨tn', _, v⟩, _⟩ => vread_any W' V K B pl tn' q.m v q.s hq
  have HBR : Hid (∀ W W', VmP w.drew V K B pl tn q.m 2 W → Kp noB W W' → BxSys X (.pointer (some ⟨V, 0, none⟩)) pc off z W') := fun W W' v k => BxSys.kp (HBV.out _ v) k (fun j f => f.elim)
  have HBS : Hid (∀ W W' (u : Value), VmP w.drew V K B pl tn q.m 2 W → Kp noB W W' → BxSys X (.pointer (some ⟨V, 0, none⟩)) pc off z (W'.setCell ⟨Y, 0, none⟩ u)) := fun W W' u v k => BxSys.kp (HBR.out _ _ v k) (Kp.setCell (S := fun j => j = Y) W' (p := ⟨Y, 0, none⟩) rfl u) (fun j f => .inr (by omega))
  have HRY : Hid (∀ W W', VmP w.drew V K B pl tn q.m 2 W → Kp noB W W' → RowV W' Y y0) := fun W W' v k => by
    have r : RowV w.drew Y y0 := hY
    exact (r.kp v.2 nY).kp k (fun f => f)

  generalize q.s.val = sv at *
  go_enter Tryz.func47, Tryz.ntmps47
  go_region_held3 (fun W => W.cell? ⟨X, 0, none⟩ = some (.pointer (some ⟨V, 0, none⟩)) ∧ W.cell? ⟨X + 1, 0, none⟩ = some (pc) ∧ W.cell? ⟨X + 2, 0, none⟩ = some (.int .u32 off) ∧ W.cell? ⟨X + 3, 0, none⟩ = some (.int .i64 z))
    (first | with_reducible exact HB0.out | with_reducible exact HBV.out _ v4 | with_reducible exact HBR.out _ _ v4 k5 | with_reducible exact HBS.out _ _ _ v4 k5)
    (first | (go_at_call 48; refine Calls.mono HC.out ?_; rintro e w4 ⟨rfl, v4⟩) | (go_at_call 39; refine Calls.mono (HRd.out _ v4) ?_; rintro e w5 ⟨rfl, k5⟩; have rz := HRY.out _ _ v4 k5; obtain ⟨z0, y0'⟩ := And.intro rz.c rz.fz))
  have r5 := rz.set (q.m.rdS q.s)
  obtain ⟨⟨tn4, ht4, at4⟩, k4⟩ := v4
  have vF := (at4.kp0 k5).kp (Kp.setCell (S := fun j => j = Y) w5 (p := ⟨Y, 0, none⟩) rfl (.int .u32 (q.m.rdS q.s))) (fun j hj e => by
    subst e
    rcases hj with e | e
    · omega
    · exact nY e)
  have kF : Kp (fun j => modVm K B q.m.n j ∨ j = Y) w _ := ((k4.undrew.mono (fun _ _ f => .inl f)).trans (k5.mono (fun _ _ f => f.elim))).trans (Kp.setCell (S := fun j => modVm K B q.m.n j ∨ j = Y) w5 (p := ⟨Y, 0, none⟩) (.inr rfl) (.int .u32 (q.m.rdS q.s)))
  go_wp2
  go_end0
  exact ⟨rfl, kF, ⟨tn4, ht4, vF⟩, r5⟩

abbrev BxSetSys (X : Nat) (pm pc : Value) (off z v : Int) (W : World) : Prop := W.cell? ⟨X, 0, none⟩ = some (pm) ∧ W.cell? ⟨X + 1, 0, none⟩ = some (pc) ∧ W.cell? ⟨X + 2, 0, none⟩ = some (.int .u32 off) ∧ W.cell? ⟨X + 3, 0, none⟩ = some (.int .i64 z) ∧ W.cell? ⟨X + 4, 0, none⟩ = some (.int .u32 v)
theorem BxSetSys.kp {X : Nat} {pm pc : Value} {off z v : Int} {S : Nat → Prop} {W W' : World} (h : BxSetSys X pm pc off z v W) (kq : Kp S W W') (hS : ∀ j, S j → j < X ∨ X + 5 ≤ j) : BxSetSys X pm pc off z v W' := by
  obtain ⟨h0, h1, h2, h3, h4⟩ := h
  exact ⟨cell_kp h0 kq (fun f => by have := hS _ f; omega), cell_kp h1 kq (fun f => by have := hS _ f; omega), cell_kp h2 kq (fun f => by have := hS _ f; omega), cell_kp h3 kq (fun f => by have := hS _ f; omega), cell_kp h4 kq (fun f => by have := hS _ f; omega)⟩

theorem setSys1_no (w : World) (X : Nat) (pm pc : Value) (off z v : Int) (f : Ft) (S : Nat → Prop) (P : World → Prop) (hb : BxSetSys X pm pc off z v w)
    (H : Hid (∀ W, Kp noB w W → Calls Tryz.prog 48 #[pm, pc, .int .u32 off, .int .i64 z, .bool true] W fun e w' => e = .panicked (pan f) ∧ Kp S W w' ∧ P w')) :
    Calls Tryz.prog 52 #[.pointer (some ⟨X, 0, none⟩), .pointer (some ⟨X + 1, 0, none⟩), .pointer (some ⟨X + 2, 0, none⟩), .pointer (some ⟨X + 3, 0, none⟩), .pointer (some ⟨X + 4, 0, none⟩)] w fun e w' => e = .panicked (pan f) ∧ Kp S w w' ∧ P w' := by
  have HC : Hid _ := H.out w.drew (Kp.refl noB w).drew
  obtain ⟨b0, b1, b2, b3, b4⟩ := hb
  go_enter Tryz.func52, Tryz.ntmps52
  refine OrdP.region_vals (τ := Unit) (fun ch w' => ch = pan f ∧ Kp S w.drew w' ∧ P w') (fun _ => [pm, pm, pc, .int .u32 off, .int .i64 z, undef, .int .u32 v, undef]) (fun _ listed W' => W' = w.drew ∧ listed.getD 5 false = false) () ?_ (by kernel_rfl) (by kernel_rfl) (by kernel_rfl) (by kernel_rfl) (fun _ => rfl) (fun t => by simp only [OrdG.puts, Act.put, List.setIfInBounds_toArray, List.set_cons_zero, List.set_cons_succ]; rfl) (fun _ => by kernel_rfl) ⟨rfl, rfl⟩ ?_ ?_
  · rintro ch a' w' hd ⟨rfl, k, p⟩
    exact ⟨hd, rfl, k.undrew, p⟩
  · refine ⟨?_, ?_, ?_, ?_, ?_, ?_, ?_, ?_, trivial⟩
    all_goals (intro t listed W' hz hSh hl hI hb K hK hK0; obtain ⟨rfl, h7⟩ := hI)
    case refine_6 =>
      go_simp
      refine Calls.mono HC.out ?_
      rintro e w4 ⟨rfl, r⟩
      exact ⟨rfl, r⟩
    case refine_8 => exact absurd (OrdG.on_of (i := 5) hb (by kernel_rfl)) (by rw [h7]; decide)
    all_goals (go_simp; exact hK0 _ ⟨rfl, OrdP.keep h7 (by decide)⟩)
  · rintro t listed w' hal ⟨_, h7⟩
    have := hal 5 (by decide)
    rw [h7] at this
    cases this

theorem setSys1_ok (w : World) (X V K B pl tn : Nat) (pc : Value) (off z v : Int) (v0 : 0 ≤ v) (v1 : v < 4294967296) (q : Qy) (hq : q.s.Ok) (hb : BxSetSys X (.pointer (some ⟨V, 0, none⟩)) pc off z v w) (hm : ∀ j, modVm K B q.m.n j → j < X) (hV : V < X)
    (H : Hid (∀ W, Kp noB w W → Calls Tryz.prog 48 #[.pointer (some ⟨V, 0, none⟩), pc, .int .u32 off, .int .i64 z, .bool true] W fun e w' => e = .returned q.s.val ∧ VmP W V K B pl tn q.m 2 w')) :
    Calls Tryz.prog 52 #[.pointer (some ⟨X, 0, none⟩), .pointer (some ⟨X + 1, 0, none⟩), .pointer (some ⟨X + 2, 0, none⟩), .pointer (some ⟨X + 3, 0, none⟩), .pointer (some ⟨X + 4, 0, none⟩)] w fun e w' => e = .returned (.tuple #[]) ∧ VmP w V K B pl tn (q.m.wrS q.s v) 2 w' := by
  have HC : Hid _ := H.out w.drew (Kp.refl noB w).drew
  have HB0 : Hid (BxSetSys X (.pointer (some ⟨V, 0, none⟩)) pc off z v w.drew) := hb
  have HBV : Hid (∀ W', VmP w.drew V K B pl tn q.m 2 W' → BxSetSys X (.pointer (some ⟨V, 0, none⟩)) pc off z v W') := fun W' v => BxSetSys.kp (W := w.drew) HB0.out v.2 (fun j f => .inl (hm j f))

  have HWr : Hid (∀ W', VmP w.drew V K B pl tn q.m 2 W' → Calls Tryz.prog 36 #[.pointer (some ⟨V, 0, none⟩), q.s.val, .int .u32 v] W' fun e w' => e = .returned (.tuple #[]) ∧ VmP w.drew V K B pl tn (q.m.wrS q.s v) 2 w') := fun W' ⟨⟨tn', ht, vm⟩, kv⟩ => (vwrite_any W' V K B pl tn' q.m vm q.s hq v v0 v1).mono (fun e w' ⟨h1, ⟨tn2, ht2, v2⟩, k2⟩ => ⟨h1, ⟨tn2, by omega, v2⟩, by rw [(wrK_same q.m q.s v q.s.n).1.symm] at kv; exact kv.trans k2⟩)
  have HBW : Hid (∀ W', VmP w.drew V K B pl tn (q.m.wrS q.s v) 2 W' → BxSetSys X (.pointer (some ⟨V, 0, none⟩)) pc off z v W') := fun W' vv => BxSetSys.kp (W := w.drew) HB0.out vv.2 (fun j f => .inl (hm j (by rw [show (q.m.wrS q.s v).n = q.m.n from (wrK_same q.m q.s v q.s.n).1] at f; exact f)))

  generalize q.s.val = sv at *
  go_enter Tryz.func52, Tryz.ntmps52
  go_region_held3 (fun W => W.cell? ⟨X, 0, none⟩ = some (.pointer (some ⟨V, 0, none⟩)) ∧ W.cell? ⟨X + 1, 0, none⟩ = some (pc) ∧ W.cell? ⟨X + 2, 0, none⟩ = some (.int .u32 off) ∧ W.cell? ⟨X + 3, 0, none⟩ = some (.int .i64 z) ∧ W.cell? ⟨X + 4, 0, none⟩ = some (.int .u32 v))
    (first | with_reducible exact HB0.out | with_reducible exact HBV.out _ v4 | with_reducible exact HBW.out _ v5)
    (first | (go_at_call 48; refine Calls.mono HC.out ?_; rintro e w4 ⟨rfl, v4⟩) | (go_at_call 36; refine Calls.mono (HWr.out _ v4) ?_; rintro e w5 ⟨rfl, v5⟩))
  go_wp2
  go_end0
  exact ⟨rfl, v5.1, v5.2.undrew⟩

def RowB8 (W : World) (X : Nat) (v : Int) : Prop := W.heap[X]? = some (.cells #[.int .u8 v] 5 (0, 0))
theorem RowB8.lt {W : World} {X : Nat} {v : Int} (r : RowB8 W X v) : X < W.heap.size := (Array.getElem?_eq_some_iff.1 r).1
theorem RowB8.kp {S : Nat → Prop} {W W' : World} {X : Nat} {v : Int} (r : RowB8 W X v) (k : Kp S W W') (hS : ¬ S X) : RowB8 W' X v := (k.block X r.lt hS).trans r
theorem RowB8.c {W : World} {X : Nat} {v : Int} (r : RowB8 W X v) : W.cell? ⟨X, 0, none⟩ = some (.int .u8 v) := by rw [cell_at r]; rfl
theorem RowB8.fz {W : World} {X : Nat} {v : Int} (r : RowB8 W X v) : W.frozen? ⟨X, 0, none⟩ = false := frozen_at r
theorem RowB8.set {W : World} {X : Nat} {v : Int} (r : RowB8 W X v) (u : Int) : RowB8 (W.setCell ⟨X, 0, none⟩ (.int .u8 u)) X u := heap_setCell_at r _

theorem code1_no (w : World) (X Y Z : Nat) (pm pc : Value) (off : Int) (f : Ft) (S : Nat → Prop) (P : World → Prop) (b0 : w.cell? ⟨X, 0, none⟩ = some pm) (b1 : w.cell? ⟨X + 1, 0, none⟩ = some pc) (b2 : w.cell? ⟨X + 2, 0, none⟩ = some (.int .u32 off))
    (H : Hid (∀ W, Kp noB w W → Calls Tryz.prog 54 #[pm, pc, .int .u32 off] W fun e w' => e = .panicked (pan f) ∧ Kp S W w' ∧ P w')) :
    Calls Tryz.prog 53 #[.pointer (some ⟨X, 0, none⟩), .pointer (some ⟨X + 1, 0, none⟩), .pointer (some ⟨X + 2, 0, none⟩), .pointer (some ⟨Y, 0, none⟩), .pointer (some ⟨Z, 0, none⟩)] w fun e w' => e = .panicked (pan f) ∧ Kp S w w' ∧ P w' := by
  have HC : Hid _ := H.out w (Kp.refl _ _)
  go_enter Tryz.func53, Tryz.ntmps53
  go_wp2_with (go_at_call 54; refine Calls.mono HC.out ?_; rintro e w4 ⟨rfl, k4, p4⟩)
  exact ⟨rfl, rfl, k4, p4⟩

theorem code1_ok (w : World) (X V K B pl tn : Nat) (pc : Value) (off : Int) (y0 z0 : Int) (hY : RowB8 w (X + 3) y0) (hZ : RowV w (X + 4) z0) (q : Qy) (hq : q.s.Ok) (hq1 : q.s.n = 1) (b0 : w.cell? ⟨X, 0, none⟩ = some (.pointer (some ⟨V, 0, none⟩))) (b1 : w.cell? ⟨X + 1, 0, none⟩ = some pc) (b2 : w.cell? ⟨X + 2, 0, none⟩ = some (.int .u32 off)) (hm : ∀ j, modVm K B q.m.n j → j < X) (hV : V < X)
    (H : Hid (∀ W, Kp noB w W → Calls Tryz.prog 54 #[.pointer (some ⟨V, 0, none⟩), pc, .int .u32 off] W fun e w' => e = .returned q.s.val ∧ VmP W V K B pl tn q.m 2 w')) :
    Calls Tryz.prog 53 #[.pointer (some ⟨X, 0, none⟩), .pointer (some ⟨X + 1, 0, none⟩), .pointer (some ⟨X + 2, 0, none⟩), .pointer (some ⟨X + 3, 0, none⟩), .pointer (some ⟨X + 4, 0, none⟩)] w fun e w' => e = .returned (.tuple #[]) ∧ Kp (fun j => modVm K B q.m.n j ∨ j = X + 3 ∨ j = X + 4) w w' ∧ (∃ tn', tn' ≤ tn + 2 ∧ VmAt w' V K B pl tn' q.m) ∧ RowB8 w' (X + 3) (q.m.rdS q.s) ∧ RowV w' (X + 4) q.s.a := by
  have hZl := hZ.lt
  have HC : Hid _ := H.out w (Kp.refl _ _)
  have n0 : ¬ modVm K B q.m.n X := fun f => by have := hm _ f; omega
  have n1 : ¬ modVm K B q.m.n (X + 1) := fun f => by have := hm _ f; omega
  have n3 : ¬ modVm K B q.m.n (X + 3) := fun f => by have := hm _ f; omega
  have n4 : ¬ modVm K B q.m.n (X + 4) := fun f => by have := hm _ f; omega
  have HRd : Hid (∀ (W' : World) (tn' : Nat), VmAt W' V K B pl tn' q.m → Calls Tryz.prog 39 #[.pointer (some ⟨V, 0, none⟩), q.s.val] W' fun e w' => e = .returned (.int .u32 (q.m.rdS q.s)) ∧ Kp noB W' w') := fun W' tn' v => vread_any W' V K B pl tn' q.m v q.s hq
  have HNV : Hid (∀ j, inVm V K B q.m.n j → j < X) := fun j hj => by
    rcases hj with e | e
    · omega
    · exact hm _ e
  have HRv : Hid (∀ W' tn', VmAt W' V K B pl tn' q.m → 0 ≤ q.m.rdS q.s ∧ q.m.rdS q.s < 256) := fun W' tn' v => by
    have b := v.ram.rdB (q.s.at 0) (q.s.at_bd 0).1 (q.s.at_bd 0).2
    have e : q.m.rdS q.s = q.m.rd (q.s.at 0) := by unfold Mem.rdS Mem.spB; simp [hq1]
    rw [e]
    exact b
  clear hq1 hq
  generalize q.m.rdS q.s = rv at *
  unfold Sp.val at HC HRd
  generalize q.s.a = sa at *
  generalize q.s.b = sb at *
  generalize q.s.h = sh at *
  generalize q.s.n = sn at *
  go_enter Tryz.func53, Tryz.ntmps53
  go_upto_region 1 with (go_at_call 54; refine Calls.mono HC.out ?_; rintro e w4 ⟨rfl, v4⟩)
  obtain ⟨⟨tn4, ht4, at4⟩, k4⟩ := v4
  have kA := Kp.alloc noB w4 (.cells #[.int .u32 sa, .int .u32 sb, .int .i64 sh, .int .i64 sn] 93)
  have rS : RowS (w4.alloc (.cells #[.int .u32 sa, .int .u32 sb, .int .i64 sh, .int .i64 sn] 93)) w4.heap.size sa sb sh sn := (MapKept.heap_alloc w4 _).1
  have x0 := cell_kp (cell_kp b0 k4 n0) kA (fun f => f)
  replace hY := (hY.kp k4 n3).kp kA (fun f => f)
  replace hZ := (hZ.kp k4 n4).kp kA (fun f => f)
  replace at4 := at4.kp0 kA
  have k5 : Kp (modVm K B q.m.n) w (w4.alloc (.cells #[.int .u32 sa, .int .u32 sb, .int .i64 sh, .int .i64 sn] 93)) := k4.trans (kA.mono (fun _ _ f => f.elim))
  obtain ⟨W5, hW5⟩ : ∃ W, W = w4.alloc (.cells #[.int .u32 sa, .int .u32 sb, .int .i64 sh, .int .i64 sn] 93) := ⟨_, rfl⟩
  obtain ⟨T, hT⟩ : ∃ T, T = w4.heap.size := ⟨_, rfl⟩
  rw [← hW5] at rS x0 hY hZ at4 k5 ⊢
  rw [← hT] at rS ⊢
  have hTY : X + 4 < T := by rw [hT]; have := k4.size; omega
  clear hW5 hT kA k4 HC b0 b1 b2
  obtain ⟨rv0, rv1⟩ := HRv.out _ _ at4
  have ew : IntKind.u8.wrap rv = rv := by have := IntKind.wrap_u8 rv; omega
  have ew2 : rv % 256 = rv := by omega
  have HC2 : Hid _ := HRd.out W5.drew tn4 (at4.kp0 (Kp.refl noB W5).drew)
  have HT0 : Hid (W5.drew.cell? ⟨X, 0, none⟩ = some (.pointer (some ⟨V, 0, none⟩)) ∧ W5.drew.cell? ⟨T, 0, none⟩ = some (.int .u32 sa) ∧ W5.drew.cell? ⟨T, 1, none⟩ = some (.int .u32 sb) ∧ W5.drew.cell? ⟨T, 2, none⟩ = some (.int .i64 sh) ∧ W5.drew.cell? ⟨T, 3, none⟩ = some (.int .i64 sn)) := ⟨x0, rS.c0, rS.c1, rS.c2, rS.c3⟩
  have HTK : Hid (∀ (S : Nat → Prop) (W W' : World), Kp S W W' → ¬ S X → ¬ S T → (W.cell? ⟨X, 0, none⟩ = some (.pointer (some ⟨V, 0, none⟩)) ∧ W.cell? ⟨T, 0, none⟩ = some (.int .u32 sa) ∧ W.cell? ⟨T, 1, none⟩ = some (.int .u32 sb) ∧ W.cell? ⟨T, 2, none⟩ = some (.int .i64 sh) ∧ W.cell? ⟨T, 3, none⟩ = some (.int .i64 sn)) → (W'.cell? ⟨X, 0, none⟩ = some (.pointer (some ⟨V, 0, none⟩)) ∧ W'.cell? ⟨T, 0, none⟩ = some (.int .u32 sa) ∧ W'.cell? ⟨T, 1, none⟩ = some (.int .u32 sb) ∧ W'.cell? ⟨T, 2, none⟩ = some (.int .i64 sh) ∧ W'.cell? ⟨T, 3, none⟩ = some (.int .i64 sn))) := fun S W W' k a b h => ⟨cell_kp h.1 k a, cell_kp h.2.1 k b, cell_kp h.2.2.1 k b, cell_kp h.2.2.2.1 k b, cell_kp h.2.2.2.2 k b⟩
  have HTY : Hid (∀ (W : World) (u : Value), (W.cell? ⟨X, 0, none⟩ = some (.pointer (some ⟨V, 0, none⟩)) ∧ W.cell? ⟨T, 0, none⟩ = some (.int .u32 sa) ∧ W.cell? ⟨T, 1, none⟩ = some (.int .u32 sb) ∧ W.cell? ⟨T, 2, none⟩ = some (.int .i64 sh) ∧ W.cell? ⟨T, 3, none⟩ = some (.int .i64 sn)) → _) := fun W u => HTK.out (fun j => j = X + 3) W (W.setCell ⟨X + 3, 0, none⟩ u) (Kp.setCell (S := fun j => j = X + 3) W (p := ⟨X + 3, 0, none⟩) rfl u) (by omega) (by omega)
  have HTZ : Hid (∀ (W : World) (u : Value), (W.cell? ⟨X, 0, none⟩ = some (.pointer (some ⟨V, 0, none⟩)) ∧ W.cell? ⟨T, 0, none⟩ = some (.int .u32 sa) ∧ W.cell? ⟨T, 1, none⟩ = some (.int .u32 sb) ∧ W.cell? ⟨T, 2, none⟩ = some (.int .i64 sh) ∧ W.cell? ⟨T, 3, none⟩ = some (.int .i64 sn)) → _) := fun W u => HTK.out (fun j => j = X + 4) W (W.setCell ⟨X + 4, 0, none⟩ u) (Kp.setCell (S := fun j => j = X + 4) W (p := ⟨X + 4, 0, none⟩) rfl u) (by omega) (by omega)
  have HRY : Hid (∀ W', Kp noB W5.drew W' → RowB8 W' (X + 3) y0) := fun W' k => by
    have r : RowB8 W5.drew (X + 3) y0 := hY
    exact r.kp k (fun f => f)
  have HRZ : Hid (∀ W', Kp noB W5.drew W' → RowV W' (X + 4) z0) := fun W' k => by
    have r : RowV W5.drew (X + 4) z0 := hZ
    exact r.kp k (fun f => f)
  go_region_held3 (fun W => W.cell? ⟨X, 0, none⟩ = some (.pointer (some ⟨V, 0, none⟩)) ∧ W.cell? ⟨T, 0, none⟩ = some (.int .u32 sa) ∧ W.cell? ⟨T, 1, none⟩ = some (.int .u32 sb) ∧ W.cell? ⟨T, 2, none⟩ = some (.int .i64 sh) ∧ W.cell? ⟨T, 3, none⟩ = some (.int .i64 sn))
    (first | with_reducible exact HT0.out | with_reducible exact HTK.out noB _ _ k6 (fun f => f) (fun f => f) HT0.out | with_reducible exact HTY.out _ _ (HTK.out noB _ _ k6 (fun f => f) (fun f => f) HT0.out) | with_reducible exact HTZ.out _ _ (HTK.out noB _ _ k6 (fun f => f) (fun f => f) HT0.out) | with_reducible exact HTZ.out _ _ (HTY.out _ _ (HTK.out noB _ _ k6 (fun f => f) (fun f => f) HT0.out)) | with_reducible exact HTY.out _ _ (HTZ.out _ _ (HTK.out noB _ _ k6 (fun f => f) (fun f => f) HT0.out)))
    (first | (go_at_call 39; refine Calls.mono HC2.out ?_; rintro e w6 ⟨rfl, k6⟩; have ry := HRY.out _ k6; have rz := HRZ.out _ k6; obtain ⟨u0, u1, u2, u3⟩ : _ ∧ _ ∧ _ ∧ _ := ⟨ry.c, ry.fz, rz.c, rz.fz⟩))
  have sy := ry.set rv
  have ry2 := sy.kp (Kp.setCell (S := fun j => j = X + 4) _ (p := ⟨X + 4, 0, none⟩) rfl (.int .u32 sa)) (by omega)
  have rz2 := (rz.kp (Kp.setCell (S := fun j => j = X + 3) w6 (p := ⟨X + 3, 0, none⟩) rfl (.int .u8 rv)) (by omega)).set sa
  have vF := ((at4.kp0 k6.undrew).kp (Kp.setCell (S := fun j => j = X + 3) w6 (p := ⟨X + 3, 0, none⟩) rfl (.int .u8 rv)) (fun j hj e => by have := HNV.out j hj; omega)).kp (Kp.setCell (S := fun j => j = X + 4) _ (p := ⟨X + 4, 0, none⟩) rfl (.int .u32 sa)) (fun j hj e => by have := HNV.out j hj; omega)
  have kF : Kp (fun j => modVm K B q.m.n j ∨ j = X + 3 ∨ j = X + 4) w _ := (((k5.mono (fun _ _ f => .inl f)).trans (k6.undrew.mono (fun _ _ f => f.elim))).trans (Kp.setCell (S := fun j => modVm K B q.m.n j ∨ j = X + 3 ∨ j = X + 4) w6 (p := ⟨X + 3, 0, none⟩) (.inr (.inl rfl)) (.int .u8 rv))).trans (Kp.setCell (S := fun j => modVm K B q.m.n j ∨ j = X + 3 ∨ j = X + 4) _ (p := ⟨X + 4, 0, none⟩) (.inr (.inr rfl)) (.int .u32 sa))
  go_wp2
  go_end0
  exact ⟨rfl, kF, ⟨tn4, ht4, vF⟩, ry2, rz2⟩

end Go.Proofs.YtmmnnafjikilpaaGreat

/- vmem's calls: with a fault, and without one. -/
namespace Go.Proofs.YtmmnnafjikilpaaGreat
open Go.ChangeShapes Go.WideShapes Go.ChangeAt Go.RowKit Go.Maps
set_option linter.unusedVariables false
set_option maxRecDepth 20000

theorem hmf : ∀ (fn : Fn) (first cap : Array Value) (w : World), (Instr.makeFunc fn first cap).run Tryz.prog w = .ok (.func fn first cap) w := fun _ _ _ _ => rfl
theorem Ft.val_is (f : Ft) : f.val = .agg #[.int .i64 f.vec, .int .i64 f.code, .int .u32 f.cr2] := rfl

theorem load_no (w : World) (pm pc : Option Addr) (k off z : Int) (f : Ft) (S : Nat → Prop) (P : World → Prop) (hS : ∀ j, S j → j < w.heap.size) (hP : ∀ W W', P W → Kp (fun j => w.heap.size ≤ j) W W' → P W')
    (H : Hid (∀ W, Kp noB w W → Calls Tryz.prog 37 #[.pointer pm, .pointer pc, .int .i64 k, .int .u32 off, .int .i64 z, .bool false] W fun e w' => e = .panicked (pan f) ∧ Kp S W w' ∧ P w')) :
    Calls Tryz.prog 12 #[.pointer pm, .pointer pc, .int .i64 k, .int .u32 off, .int .i64 z] w fun e w' => e = .returned (.tuple #[.int .u32 0, f.val]) ∧ Kp S w w' ∧ P w' := by
  have hmf := hmf
  obtain ⟨X, hX⟩ : ∃ X, w.heap.size = X := ⟨_, rfl⟩
  obtain ⟨W0, hW0⟩ : ∃ W, W = (((((((w.alloc (.cells #[.pointer pm] 42)).alloc (.cells #[.pointer pc] 56)).alloc (.cells #[.int .i64 k] 3)).alloc (.cells #[.int .u32 off] 24)).alloc (.cells #[.int .i64 z] 3)).alloc (.cells #[.int .i64 0, .int .i64 0, .int .u32 0] 54)).alloc (.cells #[.int .u32 0] 24)) := ⟨_, rfl⟩
  have HX : Hid (w.heap.size = X) := hX
  have hs0 : W0.heap.size = X + 7 := by rw [hW0]; simp [hX]
  have k0 : Kp noB w W0 := by
    rw [hW0]
    exact ((((((Kp.alloc noB w _).trans (Kp.alloc noB _ _)).trans (Kp.alloc noB _ _)).trans (Kp.alloc noB _ _)).trans (Kp.alloc noB _ _)).trans (Kp.alloc noB _ _)).trans (Kp.alloc noB _ _)
  have hb : BxLoad X (.pointer pm) (.pointer pc) k off z W0 := by
    rw [hW0, ← hX]
    refine ⟨?_, ?_, ?_, ?_, ?_⟩ <;> simp [go_sem]
  have rF : RowT W0 (X + 5) ⟨0, 0, 0⟩ := by
    have := (MapKept.heap_alloc (((((w.alloc (.cells #[.pointer pm] 42)).alloc (.cells #[.pointer pc] 56)).alloc (.cells #[.int .i64 k] 3)).alloc (.cells #[.int .u32 off] 24)).alloc (.cells #[.int .i64 z] 3)) (.cells #[.int .i64 0, .int .i64 0, .int .u32 0] 54)).1
    rw [show ((((((w.alloc (.cells #[.pointer pm] 42)).alloc (.cells #[.pointer pc] 56)).alloc (.cells #[.int .i64 k] 3)).alloc (.cells #[.int .u32 off] 24)).alloc (.cells #[.int .i64 z] 3))).heap.size = X + 5 by simp [hX]] at this
    rw [hW0]
    exact RowT.kp (f := ⟨0, 0, 0⟩) this (Kp.alloc noB _ _) (fun f => f)
  have rY : RowV W0 (X + 6) 0 := by
    have := (MapKept.heap_alloc ((((((w.alloc (.cells #[.pointer pm] 42)).alloc (.cells #[.pointer pc] 56)).alloc (.cells #[.int .i64 k] 3)).alloc (.cells #[.int .u32 off] 24)).alloc (.cells #[.int .i64 z] 3)).alloc (.cells #[.int .i64 0, .int .i64 0, .int .u32 0] 54)) (.cells #[.int .u32 0] 24)).1
    rw [show ((((((w.alloc (.cells #[.pointer pm] 42)).alloc (.cells #[.pointer pc] 56)).alloc (.cells #[.int .i64 k] 3)).alloc (.cells #[.int .u32 off] 24)).alloc (.cells #[.int .i64 z] 3)).alloc (.cells #[.int .i64 0, .int .i64 0, .int .u32 0] 54)).heap.size = X + 6 by simp [hX]] at this
    rw [hW0]
    exact this
  have hSn : ∀ j, X ≤ j → ¬ S j := fun j hj f => by have := hS j f; omega
  have HC : Hid _ := faultOf_no W0 38 #[.pointer (some ⟨X, 0, none⟩), .pointer (some ⟨X + 1, 0, none⟩), .pointer (some ⟨X + 2, 0, none⟩), .pointer (some ⟨X + 3, 0, none⟩), .pointer (some ⟨X + 4, 0, none⟩), .pointer (some ⟨X + 6, 0, none⟩)] f S (fun w' => P w' ∧ RowT w' (X + 5) ⟨0, 0, 0⟩ ∧ RowV w' (X + 6) 0) (fun j hj => by have := hS j hj; omega) (fun W W' ⟨p, a, b⟩ k => ⟨hP W W' p (k.mono (fun j _ hj => by omega)), a.kp k (by omega), b.kp k (by omega)⟩) (fun W => rfl)
    (fun W kq => (load1_no W X (X + 6) (.pointer pm) (.pointer pc) k off z f S P (BxLoad.kp hb kq (fun j f => f.elim)) (fun W' kr => H.out W' ((k0.trans kq).trans kr))).mono (fun e w' ⟨h1, h2, h3⟩ => ⟨h1, h2, h3, (rF.kp kq (fun f => f)).kp h2 (hSn _ (by omega)), (rY.kp kq (fun f => f)).kp h2 (hSn _ (by omega))⟩))
  rw [Ft.val_is] at HC
  go_enter Tryz.func12, Tryz.ntmps12
  go_wp2_with fail
  rw [← hW0]
  refine Calls.mono HC.out ?_
  rintro e w2 ⟨rfl, k2, p2, r2, y2⟩
  have kA := Kp.alloc noB w2 (.cells #[.int .i64 f.vec, .int .i64 f.code, .int .u32 f.cr2] 54)
  have rA : RowT (w2.alloc (.cells #[.int .i64 f.vec, .int .i64 f.code, .int .u32 f.cr2] 54)) w2.heap.size f := (MapKept.heap_alloc w2 _).1
  have hl2 := y2.lt
  replace r2 := r2.kp kA (fun f => f)
  replace y2 := y2.kp kA (fun f => f)
  replace p2 := hP _ _ p2 (kA.mono (fun _ _ f => f.elim))
  obtain ⟨W3, hW3⟩ : ∃ W, W = w2.alloc (.cells #[.int .i64 f.vec, .int .i64 f.code, .int .u32 f.cr2] 54) := ⟨_, rfl⟩
  obtain ⟨T, hT⟩ : ∃ T, T = w2.heap.size := ⟨_, rfl⟩
  have hTX : X + 6 < T := by rw [hT]; exact hl2
  rw [← hW3] at kA rA r2 y2 p2
  rw [← hT] at rA
  have kS := k2.trans (kA.mono (fun _ _ f => f.elim))
  clear HC k2 kA hl2 hb rF rY
  go_wp2_with fail
  rw [← hW3, ← hT]
  clear hW3 hT hW0 hX
  have yc := y2.c
  have a0 := rA.c0; have a1 := rA.c1; have a2 := rA.c2
  have c0 := r2.c0; have c1 := r2.c1; have c2 := r2.c2
  have f0 := r2.fz 0; have f1 := r2.fz 1; have f2 := r2.fz 2
  go_region
  have rE := r2.set f
  have kE := kp_setFt W3 (X + 5) f
  unfold setFt at rE kE
  have d0 := rE.c0; have d1 := rE.c1; have d2 := rE.c2
  go_wp2
  have pE := hP _ _ p2 (kE.mono (fun j _ e => by have := HX.out; omega))
  have kW : Kp S w _ := ((k0.mono (fun _ _ f => f.elim)).trans kS).over kE (fun j hj e => absurd hj (by have := HX.out; omega))
  have pD := hP _ _ pE (Kp.refl (fun j => w.heap.size ≤ j) _).drew
  refine bodyPost_ret (v := .tuple #[.int .u32 0, .agg #[.int .i64 f.vec, .int .i64 f.code, .int .u32 f.cr2]]) ?_ rfl ⟨rfl, ?_⟩
  · simp [results, Tryz.results12, go_sem, d0, d1, d2]
  · exact ⟨kW.drew, pD⟩

theorem load_ok (w : World) (V K B pl tn : Nat) (pc : Option Addr) (k off z : Int) (q : Qy) (hq : q.s.Ok) (hm : ∀ j, modVm K B q.m.n j → j < w.heap.size) (hV : V < w.heap.size)
    (H : Hid (∀ W, Kp noB w W → Calls Tryz.prog 37 #[.pointer (some ⟨V, 0, none⟩), .pointer pc, .int .i64 k, .int .u32 off, .int .i64 z, .bool false] W fun e w' => e = .returned q.s.val ∧ VmP W V K B pl tn q.m 2 w')) :
    Calls Tryz.prog 12 #[.pointer (some ⟨V, 0, none⟩), .pointer pc, .int .i64 k, .int .u32 off, .int .i64 z] w fun e w' => e = .returned (.tuple #[.int .u32 (q.m.rdS q.s), noFt.val]) ∧ VmP w V K B pl tn q.m 2 w' := by
  have hmf := hmf
  obtain ⟨X, hX⟩ : ∃ X, w.heap.size = X := ⟨_, rfl⟩
  obtain ⟨W0, hW0⟩ : ∃ W, W = (((((((w.alloc (.cells #[.pointer (some ⟨V, 0, none⟩)] 42)).alloc (.cells #[.pointer pc] 56)).alloc (.cells #[.int .i64 k] 3)).alloc (.cells #[.int .u32 off] 24)).alloc (.cells #[.int .i64 z] 3)).alloc (.cells #[.int .i64 0, .int .i64 0, .int .u32 0] 54)).alloc (.cells #[.int .u32 0] 24)) := ⟨_, rfl⟩
  have HX : Hid (w.heap.size = X) := hX
  have hs0 : W0.heap.size = X + 7 := by rw [hW0]; simp [hX]
  have k0 : Kp noB w W0 := by
    rw [hW0]
    exact ((((((Kp.alloc noB w _).trans (Kp.alloc noB _ _)).trans (Kp.alloc noB _ _)).trans (Kp.alloc noB _ _)).trans (Kp.alloc noB _ _)).trans (Kp.alloc noB _ _)).trans (Kp.alloc noB _ _)
  have hb : BxLoad X (.pointer (some ⟨V, 0, none⟩)) (.pointer pc) k off z W0 := by
    rw [hW0, ← hX]
    refine ⟨?_, ?_, ?_, ?_, ?_⟩ <;> simp [go_sem]
  have rF : RowT W0 (X + 5) ⟨0, 0, 0⟩ := by
    have := (MapKept.heap_alloc (((((w.alloc (.cells #[.pointer (some ⟨V, 0, none⟩)] 42)).alloc (.cells #[.pointer pc] 56)).alloc (.cells #[.int .i64 k] 3)).alloc (.cells #[.int .u32 off] 24)).alloc (.cells #[.int .i64 z] 3)) (.cells #[.int .i64 0, .int .i64 0, .int .u32 0] 54)).1
    rw [show ((((((w.alloc (.cells #[.pointer (some ⟨V, 0, none⟩)] 42)).alloc (.cells #[.pointer pc] 56)).alloc (.cells #[.int .i64 k] 3)).alloc (.cells #[.int .u32 off] 24)).alloc (.cells #[.int .i64 z] 3))).heap.size = X + 5 by simp [hX]] at this
    rw [hW0]
    exact RowT.kp (f := ⟨0, 0, 0⟩) this (Kp.alloc noB _ _) (fun f => f)
  have rY : RowV W0 (X + 6) 0 := by
    have := (MapKept.heap_alloc ((((((w.alloc (.cells #[.pointer (some ⟨V, 0, none⟩)] 42)).alloc (.cells #[.pointer pc] 56)).alloc (.cells #[.int .i64 k] 3)).alloc (.cells #[.int .u32 off] 24)).alloc (.cells #[.int .i64 z] 3)).alloc (.cells #[.int .i64 0, .int .i64 0, .int .u32 0] 54)) (.cells #[.int .u32 0] 24)).1
    rw [show ((((((w.alloc (.cells #[.pointer (some ⟨V, 0, none⟩)] 42)).alloc (.cells #[.pointer pc] 56)).alloc (.cells #[.int .i64 k] 3)).alloc (.cells #[.int .u32 off] 24)).alloc (.cells #[.int .i64 z] 3)).alloc (.cells #[.int .i64 0, .int .i64 0, .int .u32 0] 54)).heap.size = X + 6 by simp [hX]] at this
    rw [hW0]
    exact this
  have HC : Hid _ := faultOf_ok W0 38 #[.pointer (some ⟨X, 0, none⟩), .pointer (some ⟨X + 1, 0, none⟩), .pointer (some ⟨X + 2, 0, none⟩), .pointer (some ⟨X + 3, 0, none⟩), .pointer (some ⟨X + 4, 0, none⟩), .pointer (some ⟨X + 6, 0, none⟩)] (fun j => modVm K B q.m.n j ∨ j = X + 6) (fun w' => (∃ tn', tn' ≤ tn + 2 ∧ VmAt w' V K B pl tn' q.m) ∧ RowV w' (X + 6) (q.m.rdS q.s)) (fun j hj => by
      rcases hj with f | f
      · have := hm j f; omega
      · omega) (fun W W' ⟨⟨tn', a, b⟩, c⟩ k => ⟨⟨tn', a, b.kp k (fun j hj => by
      rcases hj with f | f
      · have := HX.out; omega
      · have := hm j f; have := HX.out; omega)⟩, c.kp k (by omega)⟩) (fun W => rfl)
    (fun W kq => (load1_ok W X (X + 6) V K B pl tn (.pointer pc) k off z 0 (rY.kp kq (fun f => f)) (by omega) q hq (BxLoad.kp hb kq (fun j f => f.elim)) (fun j hj => by have := hm j hj; omega) (by omega) (fun W' kr => H.out W' ((k0.trans kq).trans kr))).mono (fun e w' ⟨h1, h2, h3, h4⟩ => ⟨h1, h2, h3, h4⟩))
  have e0 : noFt.val = .agg #[.int .i64 (-1), .int .i64 (-1), .int .u32 0] := rfl
  rw [e0] at HC
  go_enter Tryz.func12, Tryz.ntmps12
  go_wp2_with fail
  rw [← hW0]
  refine Calls.mono HC.out ?_
  rintro e w2 ⟨rfl, k2, p2, y2⟩
  have r2 : RowT w2 (X + 5) ⟨0, 0, 0⟩ := (rF.kp k2 (fun f => by
      rcases f with f | f
      · have := hm _ f; omega
      · omega))
  have kA := Kp.alloc noB w2 (.cells #[.int .i64 (-1), .int .i64 (-1), .int .u32 0] 54)
  have rA : RowT (w2.alloc (.cells #[.int .i64 (-1), .int .i64 (-1), .int .u32 0] 54)) w2.heap.size (⟨-1, -1, 0⟩ : Ft) := (MapKept.heap_alloc w2 _).1
  have hl2 := y2.lt
  replace r2 := r2.kp kA (fun f => f)
  replace y2 := y2.kp kA (fun f => f)
  obtain ⟨tn2, ht2, v2⟩ := p2
  replace v2 := v2.kp0 kA
  obtain ⟨W3, hW3⟩ : ∃ W, W = w2.alloc (.cells #[.int .i64 (-1), .int .i64 (-1), .int .u32 0] 54) := ⟨_, rfl⟩
  obtain ⟨T, hT⟩ : ∃ T, T = w2.heap.size := ⟨_, rfl⟩
  have hTX : X + 6 < T := by rw [hT]; exact hl2
  rw [← hW3] at kA rA r2 y2 v2
  rw [← hT] at rA
  have kS := k2.trans (kA.mono (fun _ _ f => f.elim))
  clear HC k2 kA hl2 hb rF rY
  go_wp2_with fail
  rw [← hW3, ← hT]
  clear hW3 hT hW0 hX
  have yc := y2.c
  have a0 := rA.c0; have a1 := rA.c1; have a2 := rA.c2
  have c0 := r2.c0; have c1 := r2.c1; have c2 := r2.c2
  have f0 := r2.fz 0; have f1 := r2.fz 1; have f2 := r2.fz 2
  go_region
  have rE := r2.set (⟨-1, -1, 0⟩ : Ft)
  have kE := kp_setFt W3 (X + 5) (⟨-1, -1, 0⟩ : Ft)
  unfold setFt at rE kE
  have d0 := rE.c0; have d1 := rE.c1; have d2 := rE.c2
  simp only at d0 d1 d2
  go_wp2
  have vE := v2.kp kE (fun j hj e => by
      rcases hj with f | f
      · have := HX.out; omega
      · have := hm j f; have := HX.out; omega)
  have kW : Kp (modVm K B q.m.n) w _ := ((k0.mono (fun _ _ f => f.elim)).over kS (fun j hj f => by
      rcases f with f | f
      · exact f
      · have := HX.out; omega)).over kE (fun j hj e => absurd hj (by have := HX.out; omega))
  refine bodyPost_ret (v := .tuple #[.int .u32 (q.m.rdS q.s), .agg #[.int .i64 (-1), .int .i64 (-1), .int .u32 0]]) ?_ rfl ⟨rfl, ?_⟩
  · simp [results, Tryz.results12, go_sem, d0, d1, d2]
  · exact ⟨⟨tn2, ht2, vE.kp0 (Kp.refl noB _).drew⟩, kW.drew⟩

theorem store_no (w : World) (pm pc : Option Addr) (k off z v : Int) (f : Ft) (S : Nat → Prop) (P : World → Prop) (hS : ∀ j, S j → j < w.heap.size) (hP : ∀ W W', P W → Kp (fun j => w.heap.size ≤ j) W W' → P W')
    (H : Hid (∀ W, Kp noB w W → Calls Tryz.prog 37 #[.pointer pm, .pointer pc, .int .i64 k, .int .u32 off, .int .i64 z, .bool true] W fun e w' => e = .panicked (pan f) ∧ Kp S W w' ∧ P w')) :
    Calls Tryz.prog 11 #[.pointer pm, .pointer pc, .int .i64 k, .int .u32 off, .int .i64 z, .int .u32 v] w fun e w' => e = .returned f.val ∧ Kp S w w' ∧ P w' := by
  have hmf := hmf
  obtain ⟨X, hX⟩ : ∃ X, w.heap.size = X := ⟨_, rfl⟩
  obtain ⟨W0, hW0⟩ : ∃ W, W = (((((((w.alloc (.cells #[.pointer pm] 42)).alloc (.cells #[.pointer pc] 56)).alloc (.cells #[.int .i64 k] 3)).alloc (.cells #[.int .u32 off] 24)).alloc (.cells #[.int .i64 z] 3)).alloc (.cells #[.int .u32 v] 24)).alloc (.cells #[.int .i64 0, .int .i64 0, .int .u32 0] 54)) := ⟨_, rfl⟩
  have HX : Hid (w.heap.size = X) := hX
  have hs0 : W0.heap.size = X + 7 := by rw [hW0]; simp [hX]
  have k0 : Kp noB w W0 := by
    rw [hW0]
    exact ((((((Kp.alloc noB w _).trans (Kp.alloc noB _ _)).trans (Kp.alloc noB _ _)).trans (Kp.alloc noB _ _)).trans (Kp.alloc noB _ _)).trans (Kp.alloc noB _ _)).trans (Kp.alloc noB _ _)
  have hb : BxStore X (.pointer pm) (.pointer pc) k off z v W0 := by
    rw [hW0, ← hX]
    refine ⟨?_, ?_, ?_, ?_, ?_, ?_⟩ <;> simp [go_sem]
  have rF : RowT W0 (X + 6) ⟨0, 0, 0⟩ := by
    have := (MapKept.heap_alloc ((((((w.alloc (.cells #[.pointer pm] 42)).alloc (.cells #[.pointer pc] 56)).alloc (.cells #[.int .i64 k] 3)).alloc (.cells #[.int .u32 off] 24)).alloc (.cells #[.int .i64 z] 3)).alloc (.cells #[.int .u32 v] 24)) (.cells #[.int .i64 0, .int .i64 0, .int .u32 0] 54)).1
    rw [show (((((((w.alloc (.cells #[.pointer pm] 42)).alloc (.cells #[.pointer pc] 56)).alloc (.cells #[.int .i64 k] 3)).alloc (.cells #[.int .u32 off] 24)).alloc (.cells #[.int .i64 z] 3)).alloc (.cells #[.int .u32 v] 24))).heap.size = X + 6 by simp [hX]] at this
    rw [hW0]
    exact this
  have hSn : ∀ j, X ≤ j → ¬ S j := fun j hj f => by have := hS j f; omega
  have HC : Hid _ := faultOf_no W0 35 #[.pointer (some ⟨X, 0, none⟩), .pointer (some ⟨X + 1, 0, none⟩), .pointer (some ⟨X + 2, 0, none⟩), .pointer (some ⟨X + 3, 0, none⟩), .pointer (some ⟨X + 4, 0, none⟩), .pointer (some ⟨X + 5, 0, none⟩)] f S (fun w' => P w' ∧ RowT w' (X + 6) ⟨0, 0, 0⟩) (fun j hj => by have := hS j hj; omega) (fun W W' ⟨p, a⟩ k => ⟨hP W W' p (k.mono (fun j _ hj => by omega)), a.kp k (by omega)⟩) (fun W => rfl)
    (fun W kq => (store1_no W X (.pointer pm) (.pointer pc) k off z v f S P (BxStore.kp hb kq (fun j f => f.elim)) (fun W' kr => H.out W' ((k0.trans kq).trans kr))).mono (fun e w' ⟨h1, h2, h3⟩ => ⟨h1, h2, h3, (rF.kp kq (fun f => f)).kp h2 (hSn _ (by omega))⟩))
  rw [Ft.val_is] at HC
  go_enter Tryz.func11, Tryz.ntmps11
  go_wp2_with fail
  rw [← hW0]
  refine Calls.mono HC.out ?_
  rintro e w2 ⟨rfl, k2, p2, r2⟩
  have c0 := r2.c0; have c1 := r2.c1; have c2 := r2.c2
  have f0 := r2.fz 0; have f1 := r2.fz 1; have f2 := r2.fz 2
  have rE := r2.set f
  have kE := kp_setFt w2 (X + 6) f
  unfold setFt at rE kE
  have d0 := rE.c0; have d1 := rE.c1; have d2 := rE.c2
  clear HC hb rF hW0
  go_wp2
  have pE := hP _ _ p2 (kE.mono (fun j _ e => by have := HX.out; omega))
  have kW : Kp S w _ := ((k0.mono (fun _ _ f => f.elim)).trans k2).over kE (fun j hj e => absurd hj (by have := HX.out; omega))
  refine bodyPost_ret (v := .agg #[.int .i64 f.vec, .int .i64 f.code, .int .u32 f.cr2]) ?_ rfl ⟨rfl, ?_⟩
  · simp [results, Tryz.results11, go_sem, d0, d1, d2]
  · exact ⟨kW, pE⟩

theorem store_ok (w : World) (V K B pl tn : Nat) (pc : Option Addr) (k off z v : Int) (v0 : 0 ≤ v) (v1 : v < 4294967296) (q : Qy) (hq : q.s.Ok) (hm : ∀ j, modVm K B q.m.n j → j < w.heap.size) (hV : V < w.heap.size)
    (H : Hid (∀ W, Kp noB w W → Calls Tryz.prog 37 #[.pointer (some ⟨V, 0, none⟩), .pointer pc, .int .i64 k, .int .u32 off, .int .i64 z, .bool true] W fun e w' => e = .returned q.s.val ∧ VmP W V K B pl tn q.m 2 w')) :
    Calls Tryz.prog 11 #[.pointer (some ⟨V, 0, none⟩), .pointer pc, .int .i64 k, .int .u32 off, .int .i64 z, .int .u32 v] w fun e w' => e = .returned noFt.val ∧ VmP w V K B pl tn (q.m.wrS q.s v) 2 w' := by
  have hmf := hmf
  obtain ⟨X, hX⟩ : ∃ X, w.heap.size = X := ⟨_, rfl⟩
  obtain ⟨W0, hW0⟩ : ∃ W, W = (((((((w.alloc (.cells #[.pointer (some ⟨V, 0, none⟩)] 42)).alloc (.cells #[.pointer pc] 56)).alloc (.cells #[.int .i64 k] 3)).alloc (.cells #[.int .u32 off] 24)).alloc (.cells #[.int .i64 z] 3)).alloc (.cells #[.int .u32 v] 24)).alloc (.cells #[.int .i64 0, .int .i64 0, .int .u32 0] 54)) := ⟨_, rfl⟩
  have HX : Hid (w.heap.size = X) := hX
  have hs0 : W0.heap.size = X + 7 := by rw [hW0]; simp [hX]
  have k0 : Kp noB w W0 := by
    rw [hW0]
    exact ((((((Kp.alloc noB w _).trans (Kp.alloc noB _ _)).trans (Kp.alloc noB _ _)).trans (Kp.alloc noB _ _)).trans (Kp.alloc noB _ _)).trans (Kp.alloc noB _ _)).trans (Kp.alloc noB _ _)
  have hb : BxStore X (.pointer (some ⟨V, 0, none⟩)) (.pointer pc) k off z v W0 := by
    rw [hW0, ← hX]
    refine ⟨?_, ?_, ?_, ?_, ?_, ?_⟩ <;> simp [go_sem]
  have rF : RowT W0 (X + 6) ⟨0, 0, 0⟩ := by
    have := (MapKept.heap_alloc ((((((w.alloc (.cells #[.pointer (some ⟨V, 0, none⟩)] 42)).alloc (.cells #[.pointer pc] 56)).alloc (.cells #[.int .i64 k] 3)).alloc (.cells #[.int .u32 off] 24)).alloc (.cells #[.int .i64 z] 3)).alloc (.cells #[.int .u32 v] 24)) (.cells #[.int .i64 0, .int .i64 0, .int .u32 0] 54)).1
    rw [show (((((((w.alloc (.cells #[.pointer (some ⟨V, 0, none⟩)] 42)).alloc (.cells #[.pointer pc] 56)).alloc (.cells #[.int .i64 k] 3)).alloc (.cells #[.int .u32 off] 24)).alloc (.cells #[.int .i64 z] 3)).alloc (.cells #[.int .u32 v] 24))).heap.size = X + 6 by simp [hX]] at this
    rw [hW0]
    exact this
  have hn2 : (q.m.wrS q.s v).n = q.m.n := (wrK_same q.m q.s v q.s.n).1
  have HC : Hid _ := faultOf_ok W0 35 #[.pointer (some ⟨X, 0, none⟩), .pointer (some ⟨X + 1, 0, none⟩), .pointer (some ⟨X + 2, 0, none⟩), .pointer (some ⟨X + 3, 0, none⟩), .pointer (some ⟨X + 4, 0, none⟩), .pointer (some ⟨X + 5, 0, none⟩)] (modVm K B q.m.n) (fun w' => ∃ tn', tn' ≤ tn + 2 ∧ VmAt w' V K B pl tn' (q.m.wrS q.s v)) (fun j hj => by have := hm j hj; omega) (fun W W' ⟨tn', a, b⟩ k => ⟨tn', a, b.kp k (fun j hj => by
      rcases hj with f | f
      · have := HX.out; omega
      · rw [hn2] at f; have := hm j f; have := HX.out; omega)⟩) (fun W => rfl)
    (fun W kq => (store1_ok W X V K B pl tn (.pointer pc) k off z v v0 v1 q hq (BxStore.kp hb kq (fun j f => f.elim)) (fun j hj => by have := hm j hj; omega) (by omega) (fun W' kr => H.out W' ((k0.trans kq).trans kr))).mono (fun e w' ⟨h1, h2, h3⟩ => ⟨h1, by rw [hn2] at h3; exact h3, h2⟩))
  have e0 : noFt.val = .agg #[.int .i64 (-1), .int .i64 (-1), .int .u32 0] := rfl
  rw [e0] at HC
  go_enter Tryz.func11, Tryz.ntmps11
  go_wp2_with fail
  rw [← hW0]
  refine Calls.mono HC.out ?_
  rintro e w2 ⟨rfl, k2, p2⟩
  have r2 : RowT w2 (X + 6) ⟨0, 0, 0⟩ := (rF.kp k2 (fun f => by have := hm _ f; omega))
  have c0 := r2.c0; have c1 := r2.c1; have c2 := r2.c2
  have f0 := r2.fz 0; have f1 := r2.fz 1; have f2 := r2.fz 2
  have rE := r2.set (⟨-1, -1, 0⟩ : Ft)
  have kE := kp_setFt w2 (X + 6) (⟨-1, -1, 0⟩ : Ft)
  unfold setFt at rE kE
  have d0 := rE.c0; have d1 := rE.c1; have d2 := rE.c2
  simp only at d0 d1 d2
  clear HC hb rF hW0
  go_wp2
  obtain ⟨tn2, ht2, v2⟩ := p2
  have vE := v2.kp kE (fun j hj e => by
      rcases hj with f | f
      · have := HX.out; omega
      · rw [hn2] at f; have := hm j f; have := HX.out; omega)
  have kW : Kp (modVm K B q.m.n) w _ := ((k0.mono (fun _ _ f => f.elim)).trans k2).over kE (fun j hj e => absurd hj (by have := HX.out; omega))
  refine bodyPost_ret (v := .agg #[.int .i64 (-1), .int .i64 (-1), .int .u32 0]) ?_ rfl ⟨rfl, ?_⟩
  · simp [results, Tryz.results11, go_sem, d0, d1, d2]
  · exact ⟨⟨tn2, ht2, vE⟩, by rw [hn2]; exact kW⟩

theorem check_no (w : World) (pm pc : Option Addr) (k off z : Int) (f : Ft) (S : Nat → Prop) (P : World → Prop) (hS : ∀ j, S j → j < w.heap.size) (hP : ∀ W W', P W → Kp (fun j => w.heap.size ≤ j) W W' → P W')
    (H : Hid (∀ W, Kp noB w W → Calls Tryz.prog 37 #[.pointer pm, .pointer pc, .int .i64 k, .int .u32 off, .int .i64 z, .bool true] W fun e w' => e = .panicked (pan f) ∧ Kp S W w' ∧ P w')) :
    Calls Tryz.prog 22 #[.pointer pm, .pointer pc, .int .i64 k, .int .u32 off, .int .i64 z] w fun e w' => e = .returned f.val ∧ Kp S w w' ∧ P w' := by
  have hmf := hmf
  obtain ⟨X, hX⟩ : ∃ X, w.heap.size = X := ⟨_, rfl⟩
  obtain ⟨W0, hW0⟩ : ∃ W, W = ((((((w.alloc (.cells #[.pointer pm] 42)).alloc (.cells #[.pointer pc] 56)).alloc (.cells #[.int .i64 k] 3)).alloc (.cells #[.int .u32 off] 24)).alloc (.cells #[.int .i64 z] 3)).alloc (.cells #[.int .i64 0, .int .i64 0, .int .u32 0] 54)) := ⟨_, rfl⟩
  have HX : Hid (w.heap.size = X) := hX
  have hs0 : W0.heap.size = X + 6 := by rw [hW0]; simp [hX]
  have k0 : Kp noB w W0 := by
    rw [hW0]
    exact (((((Kp.alloc noB w _).trans (Kp.alloc noB _ _)).trans (Kp.alloc noB _ _)).trans (Kp.alloc noB _ _)).trans (Kp.alloc noB _ _)).trans (Kp.alloc noB _ _)
  have hb : BxCheck X (.pointer pm) (.pointer pc) k off z W0 := by
    rw [hW0, ← hX]
    refine ⟨?_, ?_, ?_, ?_, ?_⟩ <;> simp [go_sem]
  have rF : RowT W0 (X + 5) ⟨0, 0, 0⟩ := by
    have := (MapKept.heap_alloc (((((w.alloc (.cells #[.pointer pm] 42)).alloc (.cells #[.pointer pc] 56)).alloc (.cells #[.int .i64 k] 3)).alloc (.cells #[.int .u32 off] 24)).alloc (.cells #[.int .i64 z] 3)) (.cells #[.int .i64 0, .int .i64 0, .int .u32 0] 54)).1
    rw [show ((((((w.alloc (.cells #[.pointer pm] 42)).alloc (.cells #[.pointer pc] 56)).alloc (.cells #[.int .i64 k] 3)).alloc (.cells #[.int .u32 off] 24)).alloc (.cells #[.int .i64 z] 3))).heap.size = X + 5 by simp [hX]] at this
    rw [hW0]
    exact this
  have hSn : ∀ j, X ≤ j → ¬ S j := fun j hj f => by have := hS j f; omega
  have HC : Hid _ := faultOf_no W0 46 #[.pointer (some ⟨X, 0, none⟩), .pointer (some ⟨X + 1, 0, none⟩), .pointer (some ⟨X + 2, 0, none⟩), .pointer (some ⟨X + 3, 0, none⟩), .pointer (some ⟨X + 4, 0, none⟩)] f S (fun w' => P w' ∧ RowT w' (X + 5) ⟨0, 0, 0⟩) (fun j hj => by have := hS j hj; omega) (fun W W' ⟨p, a⟩ k => ⟨hP W W' p (k.mono (fun j _ hj => by omega)), a.kp k (by omega)⟩) (fun W => rfl)
    (fun W kq => (check1_no W X (.pointer pm) (.pointer pc) k off z f S P (BxCheck.kp hb kq (fun j f => f.elim)) (fun W' kr => H.out W' ((k0.trans kq).trans kr))).mono (fun e w' ⟨h1, h2, h3⟩ => ⟨h1, h2, h3, (rF.kp kq (fun f => f)).kp h2 (hSn _ (by omega))⟩))
  rw [Ft.val_is] at HC
  go_enter Tryz.func22, Tryz.ntmps22
  go_wp2_with fail
  rw [← hW0]
  refine Calls.mono HC.out ?_
  rintro e w2 ⟨rfl, k2, p2, r2⟩
  have c0 := r2.c0; have c1 := r2.c1; have c2 := r2.c2
  have f0 := r2.fz 0; have f1 := r2.fz 1; have f2 := r2.fz 2
  have rE := r2.set f
  have kE := kp_setFt w2 (X + 5) f
  unfold setFt at rE kE
  have d0 := rE.c0; have d1 := rE.c1; have d2 := rE.c2
  clear HC hb rF hW0
  go_wp2
  have pE := hP _ _ p2 (kE.mono (fun j _ e => by have := HX.out; omega))
  have kW : Kp S w _ := ((k0.mono (fun _ _ f => f.elim)).trans k2).over kE (fun j hj e => absurd hj (by have := HX.out; omega))
  refine bodyPost_ret (v := .agg #[.int .i64 f.vec, .int .i64 f.code, .int .u32 f.cr2]) ?_ rfl ⟨rfl, ?_⟩
  · simp [results, Tryz.results22, go_sem, d0, d1, d2]
  · exact ⟨kW, pE⟩

theorem check_ok (w : World) (V K B pl tn : Nat) (pc : Option Addr) (k off z : Int) (q : Qy) (hq : q.s.Ok) (hm : ∀ j, modVm K B q.m.n j → j < w.heap.size) (hV : V < w.heap.size)
    (H : Hid (∀ W, Kp noB w W → Calls Tryz.prog 37 #[.pointer (some ⟨V, 0, none⟩), .pointer pc, .int .i64 k, .int .u32 off, .int .i64 z, .bool true] W fun e w' => e = .returned q.s.val ∧ VmP W V K B pl tn q.m 2 w')) :
    Calls Tryz.prog 22 #[.pointer (some ⟨V, 0, none⟩), .pointer pc, .int .i64 k, .int .u32 off, .int .i64 z] w fun e w' => e = .returned noFt.val ∧ VmP w V K B pl tn q.m 2 w' := by
  have hmf := hmf
  obtain ⟨X, hX⟩ : ∃ X, w.heap.size = X := ⟨_, rfl⟩
  obtain ⟨W0, hW0⟩ : ∃ W, W = ((((((w.alloc (.cells #[.pointer (some ⟨V, 0, none⟩)] 42)).alloc (.cells #[.pointer pc] 56)).alloc (.cells #[.int .i64 k] 3)).alloc (.cells #[.int .u32 off] 24)).alloc (.cells #[.int .i64 z] 3)).alloc (.cells #[.int .i64 0, .int .i64 0, .int .u32 0] 54)) := ⟨_, rfl⟩
  have HX : Hid (w.heap.size = X) := hX
  have hs0 : W0.heap.size = X + 6 := by rw [hW0]; simp [hX]
  have k0 : Kp noB w W0 := by
    rw [hW0]
    exact (((((Kp.alloc noB w _).trans (Kp.alloc noB _ _)).trans (Kp.alloc noB _ _)).trans (Kp.alloc noB _ _)).trans (Kp.alloc noB _ _)).trans (Kp.alloc noB _ _)
  have hb : BxCheck X (.pointer (some ⟨V, 0, none⟩)) (.pointer pc) k off z W0 := by
    rw [hW0, ← hX]
    refine ⟨?_, ?_, ?_, ?_, ?_⟩ <;> simp [go_sem]
  have rF : RowT W0 (X + 5) ⟨0, 0, 0⟩ := by
    have := (MapKept.heap_alloc (((((w.alloc (.cells #[.pointer (some ⟨V, 0, none⟩)] 42)).alloc (.cells #[.pointer pc] 56)).alloc (.cells #[.int .i64 k] 3)).alloc (.cells #[.int .u32 off] 24)).alloc (.cells #[.int .i64 z] 3)) (.cells #[.int .i64 0, .int .i64 0, .int .u32 0] 54)).1
    rw [show ((((((w.alloc (.cells #[.pointer (some ⟨V, 0, none⟩)] 42)).alloc (.cells #[.pointer pc] 56)).alloc (.cells #[.int .i64 k] 3)).alloc (.cells #[.int .u32 off] 24)).alloc (.cells #[.int .i64 z] 3))).heap.size = X + 5 by simp [hX]] at this
    rw [hW0]
    exact this
  have hn2 : Hid (q.m.n = q.m.n) := rfl
  have HC : Hid _ := faultOf_ok W0 46 #[.pointer (some ⟨X, 0, none⟩), .pointer (some ⟨X + 1, 0, none⟩), .pointer (some ⟨X + 2, 0, none⟩), .pointer (some ⟨X + 3, 0, none⟩), .pointer (some ⟨X + 4, 0, none⟩)] (modVm K B q.m.n) (fun w' => ∃ tn', tn' ≤ tn + 2 ∧ VmAt w' V K B pl tn' q.m) (fun j hj => by have := hm j hj; omega) (fun W W' ⟨tn', a, b⟩ k => ⟨tn', a, b.kp k (fun j hj => by
      rcases hj with f | f
      · have := HX.out; omega
      · have := hm j f; have := HX.out; omega)⟩) (fun W => rfl)
    (fun W kq => (check1_ok W X V K B pl tn (.pointer pc) k off z q hq (BxCheck.kp hb kq (fun j f => f.elim)) (fun j hj => by have := hm j hj; omega) (by omega) (fun W' kr => H.out W' ((k0.trans kq).trans kr))).mono (fun e w' ⟨h1, h2, h3⟩ => ⟨h1, h3, h2⟩))
  have e0 : noFt.val = .agg #[.int .i64 (-1), .int .i64 (-1), .int .u32 0] := rfl
  rw [e0] at HC
  go_enter Tryz.func22, Tryz.ntmps22
  go_wp2_with fail
  rw [← hW0]
  refine Calls.mono HC.out ?_
  rintro e w2 ⟨rfl, k2, p2⟩
  have r2 : RowT w2 (X + 5) ⟨0, 0, 0⟩ := (rF.kp k2 (fun f => by have := hm _ f; omega))
  have c0 := r2.c0; have c1 := r2.c1; have c2 := r2.c2
  have f0 := r2.fz 0; have f1 := r2.fz 1; have f2 := r2.fz 2
  have rE := r2.set (⟨-1, -1, 0⟩ : Ft)
  have kE := kp_setFt w2 (X + 5) (⟨-1, -1, 0⟩ : Ft)
  unfold setFt at rE kE
  have d0 := rE.c0; have d1 := rE.c1; have d2 := rE.c2
  simp only at d0 d1 d2
  clear HC hb rF hW0
  go_wp2
  obtain ⟨tn2, ht2, v2⟩ := p2
  have vE := v2.kp kE (fun j hj e => by
      rcases hj with f | f
      · have := HX.out; omega
      · have := hm j f; have := HX.out; omega)
  have kW : Kp (modVm K B q.m.n) w _ := ((k0.mono (fun _ _ f => f.elim)).trans k2).over kE (fun j hj e => absurd hj (by have := HX.out; omega))
  refine bodyPost_ret (v := .agg #[.int .i64 (-1), .int .i64 (-1), .int .u32 0]) ?_ rfl ⟨rfl, ?_⟩
  · simp [results, Tryz.results22, go_sem, d0, d1, d2]
  · exact ⟨⟨tn2, ht2, vE⟩, kW⟩

theorem sys_no (w : World) (pm pc : Option Addr) (off z : Int) (f : Ft) (S : Nat → Prop) (P : World → Prop) (hS : ∀ j, S j → j < w.heap.size) (hP : ∀ W W', P W → Kp (fun j => w.heap.size ≤ j) W W' → P W')
    (H : Hid (∀ W, Kp noB w W → Calls Tryz.prog 48 #[.pointer pm, .pointer pc, .int .u32 off, .int .i64 z, .bool false] W fun e w' => e = .panicked (pan f) ∧ Kp S W w' ∧ P w')) :
    Calls Tryz.prog 24 #[.pointer pm, .pointer pc, .int .u32 off, .int .i64 z] w fun e w' => e = .returned (.tuple #[.int .u32 0, f.val]) ∧ Kp S w w' ∧ P w' := by
  have hmf := hmf
  obtain ⟨X, hX⟩ : ∃ X, w.heap.size = X := ⟨_, rfl⟩
  obtain ⟨W0, hW0⟩ : ∃ W, W = ((((((w.alloc (.cells #[.pointer pm] 42)).alloc (.cells #[.pointer pc] 56)).alloc (.cells #[.int .u32 off] 24)).alloc (.cells #[.int .i64 z] 3)).alloc (.cells #[.int .i64 0, .int .i64 0, .int .u32 0] 54)).alloc (.cells #[.int .u32 0] 24)) := ⟨_, rfl⟩
  have HX : Hid (w.heap.size = X) := hX
  have hs0 : W0.heap.size = X + 6 := by rw [hW0]; simp [hX]
  have k0 : Kp noB w W0 := by
    rw [hW0]
    exact (((((Kp.alloc noB w _).trans (Kp.alloc noB _ _)).trans (Kp.alloc noB _ _)).trans (Kp.alloc noB _ _)).trans (Kp.alloc noB _ _)).trans (Kp.alloc noB _ _)
  have hb : BxSys X (.pointer pm) (.pointer pc) off z W0 := by
    rw [hW0, ← hX]
    refine ⟨?_, ?_, ?_, ?_⟩ <;> simp [go_sem]
  have rF : RowT W0 (X + 4) ⟨0, 0, 0⟩ := by
    have := (MapKept.heap_alloc ((((w.alloc (.cells #[.pointer pm] 42)).alloc (.cells #[.pointer pc] 56)).alloc (.cells #[.int .u32 off] 24)).alloc (.cells #[.int .i64 z] 3)) (.cells #[.int .i64 0, .int .i64 0, .int .u32 0] 54)).1
    rw [show (((((w.alloc (.cells #[.pointer pm] 42)).alloc (.cells #[.pointer pc] 56)).alloc (.cells #[.int .u32 off] 24)).alloc (.cells #[.int .i64 z] 3))).heap.size = X + 4 by simp [hX]] at this
    rw [hW0]
    exact RowT.kp (f := ⟨0, 0, 0⟩) this (Kp.alloc noB _ _) (fun f => f)
  have rY : RowV W0 (X + 5) 0 := by
    have := (MapKept.heap_alloc (((((w.alloc (.cells #[.pointer pm] 42)).alloc (.cells #[.pointer pc] 56)).alloc (.cells #[.int .u32 off] 24)).alloc (.cells #[.int .i64 z] 3)).alloc (.cells #[.int .i64 0, .int .i64 0, .int .u32 0] 54)) (.cells #[.int .u32 0] 24)).1
    rw [show (((((w.alloc (.cells #[.pointer pm] 42)).alloc (.cells #[.pointer pc] 56)).alloc (.cells #[.int .u32 off] 24)).alloc (.cells #[.int .i64 z] 3)).alloc (.cells #[.int .i64 0, .int .i64 0, .int .u32 0] 54)).heap.size = X + 5 by simp [hX]] at this
    rw [hW0]
    exact this
  have hSn : ∀ j, X ≤ j → ¬ S j := fun j hj f => by have := hS j f; omega
  have HC : Hid _ := faultOf_no W0 47 #[.pointer (some ⟨X, 0, none⟩), .pointer (some ⟨X + 1, 0, none⟩), .pointer (some ⟨X + 2, 0, none⟩), .pointer (some ⟨X + 3, 0, none⟩), .pointer (some ⟨X + 5, 0, none⟩)] f S (fun w' => P w' ∧ RowT w' (X + 4) ⟨0, 0, 0⟩ ∧ RowV w' (X + 5) 0) (fun j hj => by have := hS j hj; omega) (fun W W' ⟨p, a, b⟩ k => ⟨hP W W' p (k.mono (fun j _ hj => by omega)), a.kp k (by omega), b.kp k (by omega)⟩) (fun W => rfl)
    (fun W kq => (sys1_no W X (X + 5) (.pointer pm) (.pointer pc) off z f S P (BxSys.kp hb kq (fun j f => f.elim)) (fun W' kr => H.out W' ((k0.trans kq).trans kr))).mono (fun e w' ⟨h1, h2, h3⟩ => ⟨h1, h2, h3, (rF.kp kq (fun f => f)).kp h2 (hSn _ (by omega)), (rY.kp kq (fun f => f)).kp h2 (hSn _ (by omega))⟩))
  rw [Ft.val_is] at HC
  go_enter Tryz.func24, Tryz.ntmps24
  go_wp2_with fail
  rw [← hW0]
  refine Calls.mono HC.out ?_
  rintro e w2 ⟨rfl, k2, p2, r2, y2⟩
  have kA := Kp.alloc noB w2 (.cells #[.int .i64 f.vec, .int .i64 f.code, .int .u32 f.cr2] 54)
  have rA : RowT (w2.alloc (.cells #[.int .i64 f.vec, .int .i64 f.code, .int .u32 f.cr2] 54)) w2.heap.size f := (MapKept.heap_alloc w2 _).1
  have hl2 := y2.lt
  replace r2 := r2.kp kA (fun f => f)
  replace y2 := y2.kp kA (fun f => f)
  replace p2 := hP _ _ p2 (kA.mono (fun _ _ f => f.elim))
  obtain ⟨W3, hW3⟩ : ∃ W, W = w2.alloc (.cells #[.int .i64 f.vec, .int .i64 f.code, .int .u32 f.cr2] 54) := ⟨_, rfl⟩
  obtain ⟨T, hT⟩ : ∃ T, T = w2.heap.size := ⟨_, rfl⟩
  have hTX : X + 5 < T := by rw [hT]; exact hl2
  rw [← hW3] at kA rA r2 y2 p2
  rw [← hT] at rA
  have kS := k2.trans (kA.mono (fun _ _ f => f.elim))
  clear HC k2 kA hl2 hb rF rY
  go_wp2_with fail
  rw [← hW3, ← hT]
  clear hW3 hT hW0 hX
  have yc := y2.c
  have a0 := rA.c0; have a1 := rA.c1; have a2 := rA.c2
  have c0 := r2.c0; have c1 := r2.c1; have c2 := r2.c2
  have f0 := r2.fz 0; have f1 := r2.fz 1; have f2 := r2.fz 2
  go_region
  have rE := r2.set f
  have kE := kp_setFt W3 (X + 4) f
  unfold setFt at rE kE
  have d0 := rE.c0; have d1 := rE.c1; have d2 := rE.c2
  go_wp2
  have pE := hP _ _ p2 (kE.mono (fun j _ e => by have := HX.out; omega))
  have kW : Kp S w _ := ((k0.mono (fun _ _ f => f.elim)).trans kS).over kE (fun j hj e => absurd hj (by have := HX.out; omega))
  have pD := hP _ _ pE (Kp.refl (fun j => w.heap.size ≤ j) _).drew
  refine bodyPost_ret (v := .tuple #[.int .u32 0, .agg #[.int .i64 f.vec, .int .i64 f.code, .int .u32 f.cr2]]) ?_ rfl ⟨rfl, ?_⟩
  · simp [results, Tryz.results24, go_sem, d0, d1, d2]
  · exact ⟨kW.drew, pD⟩

theorem sys_ok (w : World) (V K B pl tn : Nat) (pc : Option Addr) (off z : Int) (q : Qy) (hq : q.s.Ok) (hm : ∀ j, modVm K B q.m.n j → j < w.heap.size) (hV : V < w.heap.size)
    (H : Hid (∀ W, Kp noB w W → Calls Tryz.prog 48 #[.pointer (some ⟨V, 0, none⟩), .pointer pc, .int .u32 off, .int .i64 z, .bool false] W fun e w' => e = .returned q.s.val ∧ VmP W V K B pl tn q.m 2 w')) :
    Calls Tryz.prog 24 #[.pointer (some ⟨V, 0, none⟩), .pointer pc, .int .u32 off, .int .i64 z] w fun e w' => e = .returned (.tuple #[.int .u32 (q.m.rdS q.s), noFt.val]) ∧ VmP w V K B pl tn q.m 2 w' := by
  have hmf := hmf
  obtain ⟨X, hX⟩ : ∃ X, w.heap.size = X := ⟨_, rfl⟩
  obtain ⟨W0, hW0⟩ : ∃ W, W = ((((((w.alloc (.cells #[.pointer (some ⟨V, 0, none⟩)] 42)).alloc (.cells #[.pointer pc] 56)).alloc (.cells #[.int .u32 off] 24)).alloc (.cells #[.int .i64 z] 3)).alloc (.cells #[.int .i64 0, .int .i64 0, .int .u32 0] 54)).alloc (.cells #[.int .u32 0] 24)) := ⟨_, rfl⟩
  have HX : Hid (w.heap.size = X) := hX
  have hs0 : W0.heap.size = X + 6 := by rw [hW0]; simp [hX]
  have k0 : Kp noB w W0 := by
    rw [hW0]
    exact (((((Kp.alloc noB w _).trans (Kp.alloc noB _ _)).trans (Kp.alloc noB _ _)).trans (Kp.alloc noB _ _)).trans (Kp.alloc noB _ _)).trans (Kp.alloc noB _ _)
  have hb : BxSys X (.pointer (some ⟨V, 0, none⟩)) (.pointer pc) off z W0 := by
    rw [hW0, ← hX]
    refine ⟨?_, ?_, ?_, ?_⟩ <;> simp [go_sem]
  have rF : RowT W0 (X + 4) ⟨0, 0, 0⟩ := by
    have := (MapKept.heap_alloc ((((w.alloc (.cells #[.pointer (some ⟨V, 0, none⟩)] 42)).alloc (.cells #[.pointer pc] 56)).alloc (.cells #[.int .u32 off] 24)).alloc (.cells #[.int .i64 z] 3)) (.cells #[.int .i64 0, .int .i64 0, .int .u32 0] 54)).1
    rw [show (((((w.alloc (.cells #[.pointer (some ⟨V, 0, none⟩)] 42)).alloc (.cells #[.pointer pc] 56)).alloc (.cells #[.int .u32 off] 24)).alloc (.cells #[.int .i64 z] 3))).heap.size = X + 4 by simp [hX]] at this
    rw [hW0]
    exact RowT.kp (f := ⟨0, 0, 0⟩) this (Kp.alloc noB _ _) (fun f => f)
  have rY : RowV W0 (X + 5) 0 := by
    have := (MapKept.heap_alloc (((((w.alloc (.cells #[.pointer (some ⟨V, 0, none⟩)] 42)).alloc (.cells #[.pointer pc] 56)).alloc (.cells #[.int .u32 off] 24)).alloc (.cells #[.int .i64 z] 3)).alloc (.cells #[.int .i64 0, .int .i64 0, .int .u32 0] 54)) (.cells #[.int .u32 0] 24)).1
    rw [show (((((w.alloc (.cells #[.pointer (some ⟨V, 0, none⟩)] 42)).alloc (.cells #[.pointer pc] 56)).alloc (.cells #[.int .u32 off] 24)).alloc (.cells #[.int .i64 z] 3)).alloc (.cells #[.int .i64 0, .int .i64 0, .int .u32 0] 54)).heap.size = X + 5 by simp [hX]] at this
    rw [hW0]
    exact this
  have HC : Hid _ := faultOf_ok W0 47 #[.pointer (some ⟨X, 0, none⟩), .pointer (some ⟨X + 1, 0, none⟩), .pointer (some ⟨X + 2, 0, none⟩), .pointer (some ⟨X + 3, 0, none⟩), .pointer (some ⟨X + 5, 0, none⟩)] (fun j => modVm K B q.m.n j ∨ j = X + 5) (fun w' => (∃ tn', tn' ≤ tn + 2 ∧ VmAt w' V K B pl tn' q.m) ∧ RowV w' (X + 5) (q.m.rdS q.s)) (fun j hj => by
      rcases hj with f | f
      · have := hm j f; omega
      · omega) (fun W W' ⟨⟨tn', a, b⟩, c⟩ k => ⟨⟨tn', a, b.kp k (fun j hj => by
      rcases hj with f | f
      · have := HX.out; omega
      · have := hm j f; have := HX.out; omega)⟩, c.kp k (by omega)⟩) (fun W => rfl)
    (fun W kq => (sys1_ok W X (X + 5) V K B pl tn (.pointer pc) off z 0 (rY.kp kq (fun f => f)) (by omega) q hq (BxSys.kp hb kq (fun j f => f.elim)) (fun j hj => by have := hm j hj; omega) (by omega) (fun W' kr => H.out W' ((k0.trans kq).trans kr))).mono (fun e w' ⟨h1, h2, h3, h4⟩ => ⟨h1, h2, h3, h4⟩))
  have e0 : noFt.val = .agg #[.int .i64 (-1), .int .i64 (-1), .int .u32 0] := rfl
  rw [e0] at HC
  go_enter Tryz.func24, Tryz.ntmps24
  go_wp2_with fail
  rw [← hW0]
  refine Calls.mono HC.out ?_
  rintro e w2 ⟨rfl, k2, p2, y2⟩
  have r2 : RowT w2 (X + 4) ⟨0, 0, 0⟩ := (rF.kp k2 (fun f => by
      rcases f with f | f
      · have := hm _ f; omega
      · omega))
  have kA := Kp.alloc noB w2 (.cells #[.int .i64 (-1), .int .i64 (-1), .int .u32 0] 54)
  have rA : RowT (w2.alloc (.cells #[.int .i64 (-1), .int .i64 (-1), .int .u32 0] 54)) w2.heap.size (⟨-1, -1, 0⟩ : Ft) := (MapKept.heap_alloc w2 _).1
  have hl2 := y2.lt
  replace r2 := r2.kp kA (fun f => f)
  replace y2 := y2.kp kA (fun f => f)
  obtain ⟨tn2, ht2, v2⟩ := p2
  replace v2 := v2.kp0 kA
  obtain ⟨W3, hW3⟩ : ∃ W, W = w2.alloc (.cells #[.int .i64 (-1), .int .i64 (-1), .int .u32 0] 54) := ⟨_, rfl⟩
  obtain ⟨T, hT⟩ : ∃ T, T = w2.heap.size := ⟨_, rfl⟩
  have hTX : X + 5 < T := by rw [hT]; exact hl2
  rw [← hW3] at kA rA r2 y2 v2
  rw [← hT] at rA
  have kS := k2.trans (kA.mono (fun _ _ f => f.elim))
  clear HC k2 kA hl2 hb rF rY
  go_wp2_with fail
  rw [← hW3, ← hT]
  clear hW3 hT hW0 hX
  have yc := y2.c
  have a0 := rA.c0; have a1 := rA.c1; have a2 := rA.c2
  have c0 := r2.c0; have c1 := r2.c1; have c2 := r2.c2
  have f0 := r2.fz 0; have f1 := r2.fz 1; have f2 := r2.fz 2
  go_region
  have rE := r2.set (⟨-1, -1, 0⟩ : Ft)
  have kE := kp_setFt W3 (X + 4) (⟨-1, -1, 0⟩ : Ft)
  unfold setFt at rE kE
  have d0 := rE.c0; have d1 := rE.c1; have d2 := rE.c2
  simp only at d0 d1 d2
  go_wp2
  have vE := v2.kp kE (fun j hj e => by
      rcases hj with f | f
      · have := HX.out; omega
      · have := hm j f; have := HX.out; omega)
  have kW : Kp (modVm K B q.m.n) w _ := ((k0.mono (fun _ _ f => f.elim)).over kS (fun j hj f => by
      rcases f with f | f
      · exact f
      · have := HX.out; omega)).over kE (fun j hj e => absurd hj (by have := HX.out; omega))
  refine bodyPost_ret (v := .tuple #[.int .u32 (q.m.rdS q.s), .agg #[.int .i64 (-1), .int .i64 (-1), .int .u32 0]]) ?_ rfl ⟨rfl, ?_⟩
  · simp [results, Tryz.results24, go_sem, d0, d1, d2]
  · exact ⟨⟨tn2, ht2, vE.kp0 (Kp.refl noB _).drew⟩, kW.drew⟩

theorem setSys_no (w : World) (pm pc : Option Addr) (off z v : Int) (f : Ft) (S : Nat → Prop) (P : World → Prop) (hS : ∀ j, S j → j < w.heap.size) (hP : ∀ W W', P W → Kp (fun j => w.heap.size ≤ j) W W' → P W')
    (H : Hid (∀ W, Kp noB w W → Calls Tryz.prog 48 #[.pointer pm, .pointer pc, .int .u32 off, .int .i64 z, .bool true] W fun e w' => e = .panicked (pan f) ∧ Kp S W w' ∧ P w')) :
    Calls Tryz.prog 26 #[.pointer pm, .pointer pc, .int .u32 off, .int .i64 z, .int .u32 v] w fun e w' => e = .returned f.val ∧ Kp S w w' ∧ P w' := by
  have hmf := hmf
  obtain ⟨X, hX⟩ : ∃ X, w.heap.size = X := ⟨_, rfl⟩
  obtain ⟨W0, hW0⟩ : ∃ W, W = ((((((w.alloc (.cells #[.pointer pm] 42)).alloc (.cells #[.pointer pc] 56)).alloc (.cells #[.int .u32 off] 24)).alloc (.cells #[.int .i64 z] 3)).alloc (.cells #[.int .u32 v] 24)).alloc (.cells #[.int .i64 0, .int .i64 0, .int .u32 0] 54)) := ⟨_, rfl⟩
  have HX : Hid (w.heap.size = X) := hX
  have hs0 : W0.heap.size = X + 6 := by rw [hW0]; simp [hX]
  have k0 : Kp noB w W0 := by
    rw [hW0]
    exact (((((Kp.alloc noB w _).trans (Kp.alloc noB _ _)).trans (Kp.alloc noB _ _)).trans (Kp.alloc noB _ _)).trans (Kp.alloc noB _ _)).trans (Kp.alloc noB _ _)
  have hb : BxSetSys X (.pointer pm) (.pointer pc) off z v W0 := by
    rw [hW0, ← hX]
    refine ⟨?_, ?_, ?_, ?_, ?_⟩ <;> simp [go_sem]
  have rF : RowT W0 (X + 5) ⟨0, 0, 0⟩ := by
    have := (MapKept.heap_alloc (((((w.alloc (.cells #[.pointer pm] 42)).alloc (.cells #[.pointer pc] 56)).alloc (.cells #[.int .u32 off] 24)).alloc (.cells #[.int .i64 z] 3)).alloc (.cells #[.int .u32 v] 24)) (.cells #[.int .i64 0, .int .i64 0, .int .u32 0] 54)).1
    rw [show ((((((w.alloc (.cells #[.pointer pm] 42)).alloc (.cells #[.pointer pc] 56)).alloc (.cells #[.int .u32 off] 24)).alloc (.cells #[.int .i64 z] 3)).alloc (.cells #[.int .u32 v] 24))).heap.size = X + 5 by simp [hX]] at this
    rw [hW0]
    exact this
  have hSn : ∀ j, X ≤ j → ¬ S j := fun j hj f => by have := hS j f; omega
  have HC : Hid _ := faultOf_no W0 52 #[.pointer (some ⟨X, 0, none⟩), .pointer (some ⟨X + 1, 0, none⟩), .pointer (some ⟨X + 2, 0, none⟩), .pointer (some ⟨X + 3, 0, none⟩), .pointer (some ⟨X + 4, 0, none⟩)] f S (fun w' => P w' ∧ RowT w' (X + 5) ⟨0, 0, 0⟩) (fun j hj => by have := hS j hj; omega) (fun W W' ⟨p, a⟩ k => ⟨hP W W' p (k.mono (fun j _ hj => by omega)), a.kp k (by omega)⟩) (fun W => rfl)
    (fun W kq => (setSys1_no W X (.pointer pm) (.pointer pc) off z v f S P (BxSetSys.kp hb kq (fun j f => f.elim)) (fun W' kr => H.out W' ((k0.trans kq).trans kr))).mono (fun e w' ⟨h1, h2, h3⟩ => ⟨h1, h2, h3, (rF.kp kq (fun f => f)).kp h2 (hSn _ (by omega))⟩))
  rw [Ft.val_is] at HC
  go_enter Tryz.func26, Tryz.ntmps26
  go_wp2_with fail
  rw [← hW0]
  refine Calls.mono HC.out ?_
  rintro e w2 ⟨rfl, k2, p2, r2⟩
  have c0 := r2.c0; have c1 := r2.c1; have c2 := r2.c2
  have f0 := r2.fz 0; have f1 := r2.fz 1; have f2 := r2.fz 2
  have rE := r2.set f
  have kE := kp_setFt w2 (X + 5) f
  unfold setFt at rE kE
  have d0 := rE.c0; have d1 := rE.c1; have d2 := rE.c2
  clear HC hb rF hW0
  go_wp2
  have pE := hP _ _ p2 (kE.mono (fun j _ e => by have := HX.out; omega))
  have kW : Kp S w _ := ((k0.mono (fun _ _ f => f.elim)).trans k2).over kE (fun j hj e => absurd hj (by have := HX.out; omega))
  refine bodyPost_ret (v := .agg #[.int .i64 f.vec, .int .i64 f.code, .int .u32 f.cr2]) ?_ rfl ⟨rfl, ?_⟩
  · simp [results, Tryz.results26, go_sem, d0, d1, d2]
  · exact ⟨kW, pE⟩

theorem setSys_ok (w : World) (V K B pl tn : Nat) (pc : Option Addr) (off z v : Int) (v0 : 0 ≤ v) (v1 : v < 4294967296) (q : Qy) (hq : q.s.Ok) (hm : ∀ j, modVm K B q.m.n j → j < w.heap.size) (hV : V < w.heap.size)
    (H : Hid (∀ W, Kp noB w W → Calls Tryz.prog 48 #[.pointer (some ⟨V, 0, none⟩), .pointer pc, .int .u32 off, .int .i64 z, .bool true] W fun e w' => e = .returned q.s.val ∧ VmP W V K B pl tn q.m 2 w')) :
    Calls Tryz.prog 26 #[.pointer (some ⟨V, 0, none⟩), .pointer pc, .int .u32 off, .int .i64 z, .int .u32 v] w fun e w' => e = .returned noFt.val ∧ VmP w V K B pl tn (q.m.wrS q.s v) 2 w' := by
  have hmf := hmf
  obtain ⟨X, hX⟩ : ∃ X, w.heap.size = X := ⟨_, rfl⟩
  obtain ⟨W0, hW0⟩ : ∃ W, W = ((((((w.alloc (.cells #[.pointer (some ⟨V, 0, none⟩)] 42)).alloc (.cells #[.pointer pc] 56)).alloc (.cells #[.int .u32 off] 24)).alloc (.cells #[.int .i64 z] 3)).alloc (.cells #[.int .u32 v] 24)).alloc (.cells #[.int .i64 0, .int .i64 0, .int .u32 0] 54)) := ⟨_, rfl⟩
  have HX : Hid (w.heap.size = X) := hX
  have hs0 : W0.heap.size = X + 6 := by rw [hW0]; simp [hX]
  have k0 : Kp noB w W0 := by
    rw [hW0]
    exact (((((Kp.alloc noB w _).trans (Kp.alloc noB _ _)).trans (Kp.alloc noB _ _)).trans (Kp.alloc noB _ _)).trans (Kp.alloc noB _ _)).trans (Kp.alloc noB _ _)
  have hb : BxSetSys X (.pointer (some ⟨V, 0, none⟩)) (.pointer pc) off z v W0 := by
    rw [hW0, ← hX]
    refine ⟨?_, ?_, ?_, ?_, ?_⟩ <;> simp [go_sem]
  have rF : RowT W0 (X + 5) ⟨0, 0, 0⟩ := by
    have := (MapKept.heap_alloc (((((w.alloc (.cells #[.pointer (some ⟨V, 0, none⟩)] 42)).alloc (.cells #[.pointer pc] 56)).alloc (.cells #[.int .u32 off] 24)).alloc (.cells #[.int .i64 z] 3)).alloc (.cells #[.int .u32 v] 24)) (.cells #[.int .i64 0, .int .i64 0, .int .u32 0] 54)).1
    rw [show ((((((w.alloc (.cells #[.pointer (some ⟨V, 0, none⟩)] 42)).alloc (.cells #[.pointer pc] 56)).alloc (.cells #[.int .u32 off] 24)).alloc (.cells #[.int .i64 z] 3)).alloc (.cells #[.int .u32 v] 24))).heap.size = X + 5 by simp [hX]] at this
    rw [hW0]
    exact this
  have hn2 : (q.m.wrS q.s v).n = q.m.n := (wrK_same q.m q.s v q.s.n).1
  have HC : Hid _ := faultOf_ok W0 52 #[.pointer (some ⟨X, 0, none⟩), .pointer (some ⟨X + 1, 0, none⟩), .pointer (some ⟨X + 2, 0, none⟩), .pointer (some ⟨X + 3, 0, none⟩), .pointer (some ⟨X + 4, 0, none⟩)] (modVm K B q.m.n) (fun w' => ∃ tn', tn' ≤ tn + 2 ∧ VmAt w' V K B pl tn' (q.m.wrS q.s v)) (fun j hj => by have := hm j hj; omega) (fun W W' ⟨tn', a, b⟩ k => ⟨tn', a, b.kp k (fun j hj => by
      rcases hj with f | f
      · have := HX.out; omega
      · rw [hn2] at f; have := hm j f; have := HX.out; omega)⟩) (fun W => rfl)
    (fun W kq => (setSys1_ok W X V K B pl tn (.pointer pc) off z v v0 v1 q hq (BxSetSys.kp hb kq (fun j f => f.elim)) (fun j hj => by have := hm j hj; omega) (by omega) (fun W' kr => H.out W' ((k0.trans kq).trans kr))).mono (fun e w' ⟨h1, h2, h3⟩ => ⟨h1, by rw [hn2] at h3; exact h3, h2⟩))
  have e0 : noFt.val = .agg #[.int .i64 (-1), .int .i64 (-1), .int .u32 0] := rfl
  rw [e0] at HC
  go_enter Tryz.func26, Tryz.ntmps26
  go_wp2_with fail
  rw [← hW0]
  refine Calls.mono HC.out ?_
  rintro e w2 ⟨rfl, k2, p2⟩
  have r2 : RowT w2 (X + 5) ⟨0, 0, 0⟩ := (rF.kp k2 (fun f => by have := hm _ f; omega))
  have c0 := r2.c0; have c1 := r2.c1; have c2 := r2.c2
  have f0 := r2.fz 0; have f1 := r2.fz 1; have f2 := r2.fz 2
  have rE := r2.set (⟨-1, -1, 0⟩ : Ft)
  have kE := kp_setFt w2 (X + 5) (⟨-1, -1, 0⟩ : Ft)
  unfold setFt at rE kE
  have d0 := rE.c0; have d1 := rE.c1; have d2 := rE.c2
  simp only at d0 d1 d2
  clear HC hb rF hW0
  go_wp2
  obtain ⟨tn2, ht2, v2⟩ := p2
  have vE := v2.kp kE (fun j hj e => by
      rcases hj with f | f
      · have := HX.out; omega
      · rw [hn2] at f; have := hm j f; have := HX.out; omega)
  have kW : Kp (modVm K B q.m.n) w _ := ((k0.mono (fun _ _ f => f.elim)).trans k2).over kE (fun j hj e => absurd hj (by have := HX.out; omega))
  refine bodyPost_ret (v := .agg #[.int .i64 (-1), .int .i64 (-1), .int .u32 0]) ?_ rfl ⟨rfl, ?_⟩
  · simp [results, Tryz.results26, go_sem, d0, d1, d2]
  · exact ⟨⟨tn2, ht2, vE⟩, by rw [hn2]; exact kW⟩

end Go.Proofs.YtmmnnafjikilpaaGreat
