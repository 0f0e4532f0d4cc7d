/- A value is read. -/
import Derived.Test.YtmmnnafjikilpaaVmSys
import Derived.Test.YtmmnnafjikilpaaRefLoop
namespace Go.Proofs.Ytmmnnafjikilpaa
open Go.ChangeShapes Go.WideShapes Go.ChangeAt Go.RowKit Go.Maps
set_option linter.unusedVariables false
set_option maxRecDepth 20000

theorem Sp.at_bd (s : Sp) (j : Nat) : 0 ≤ s.at j ∧ s.at j < 4294967296 := by unfold Sp.at; split <;> omega

/-- The cells that are read: where memory is, and the place. -/
abbrev SpS (V B X : Nat) (s : Sp) (W : World) : Prop := W.cell? ⟨V, 0, none⟩ = some (.pointer (some ⟨B + 3, 0, none⟩)) ∧ W.cell? ⟨X, 0, none⟩ = some (.int .u32 s.a) ∧ W.cell? ⟨X, 1, none⟩ = some (.int .u32 s.b) ∧ W.cell? ⟨X, 2, none⟩ = some (.int .i64 s.h) ∧ W.cell? ⟨X, 3, none⟩ = some (.int .i64 s.n)
theorem SpS.kp {V B X : Nat} {s : Sp} {S : Nat → Prop} {W W' : World} (h : SpS V B X s W) (k : Kp S W W') (h1 : ¬ S V) (h2 : ¬ S X) : SpS V B X s W' := ⟨cell_kp h.1 k h1, cell_kp h.2.1 k h2, cell_kp h.2.2.1 k h2, cell_kp h.2.2.2.1 k h2, cell_kp h.2.2.2.2 k h2⟩

theorem rdS_one (M : Mem) (s : Sp) (hs : s.h = s.n) : M.rdS s = M.read s.a s.n := by
  unfold Mem.rdS Mem.read
  have e : ∀ j, M.spB s j = cellB M s.a s.n j := fun j => by
    unfold Mem.spB cellB Sp.at
    rw [hs]
    split
    · rfl
    · rfl
  rw [e, e, e, e]

/-- The first k bytes. -/
def Mem.rdK (M : Mem) (s : Sp) : Nat → Int
  | 0 => 0
  | k + 1 => M.rdK s k + M.rd (s.at k) * 256 ^ k

theorem rdK_all (M : Mem) (s : Sp) (hn : s.n = 1 ∨ s.n = 2 ∨ s.n = 4) : M.rdK s s.n = M.rdS s := by
  unfold Mem.rdS Mem.spB
  rcases hn with e | e | e <;> simp [e, Mem.rdK]

theorem rdK_bd {M : Mem} (hb : RdB M) (s : Sp) (i : Nat) (hi : i < 4) : 0 ≤ M.rdK s i ∧ M.rdK s i < 256 ^ i := by
  have b : ∀ j, 0 ≤ M.rd (s.at j) ∧ M.rd (s.at j) < 256 := fun j => hb _ (s.at_bd j).1 (s.at_bd j).2
  have r0 := b 0; have r1 := b 1; have r2 := b 2
  rcases (by omega : i = 0 ∨ i = 1 ∨ i = 2 ∨ i = 3) with rfl | rfl | rfl | rfl
  · show 0 ≤ (0 : Int) ∧ (0 : Int) < 1; omega
  · show 0 ≤ 0 + M.rd (s.at 0) * 1 ∧ 0 + M.rd (s.at 0) * 1 < 256; omega
  · show 0 ≤ 0 + M.rd (s.at 0) * 1 + M.rd (s.at 1) * 256 ∧ 0 + M.rd (s.at 0) * 1 + M.rd (s.at 1) * 256 < 65536; omega
  · show 0 ≤ 0 + M.rd (s.at 0) * 1 + M.rd (s.at 1) * 256 + M.rd (s.at 2) * 65536 ∧ 0 + M.rd (s.at 0) * 1 + M.rd (s.at 1) * 256 + M.rd (s.at 2) * 65536 < 16777216; omega

theorem read1 (M : Mem) (x : Int) (x0 : 0 ≤ x) (x1 : x < 4294967296) : M.read x 1 = M.rd x := by
  unfold Mem.read cellB
  have : x % 4294967296 = x := by omega
  simp [this]

theorem vread_one (w : World) (V K B pl tn : Nat) (M : Mem) (h : VmAt w V K B pl tn M) (s : Sp) (hs : s.Ok) (he : s.h = s.n) :
    Calls Try.prog 38 #[.pointer (some ⟨V, 0, none⟩), s.val] w (fun e w' => e = .returned (.int .u32 (M.rdS s)) ∧ Kp noB w w') := by
  rw [rdS_one M s he]
  obtain ⟨a, b, hh, n⟩ := s
  simp only at he
  subst he
  have a0 := hs.a0; have a1 := hs.a1
  have hn := hs.n1
  simp only at a0 a1 hn
  clear hs
  unfold Sp.val
  simp only
  obtain ⟨W0, hW0⟩ : ∃ W, W = w.alloc (.cells #[.int .u32 a, .int .u32 b, .int .i64 hh, .int .i64 hh] 86) := ⟨_, rfl⟩
  obtain ⟨X, hX⟩ : ∃ X, w.heap.size = X := ⟨_, rfl⟩
  have k0 : Kp noB w W0 := by rw [hW0]; exact Kp.alloc _ _ _
  have rX : RowS W0 X a b hh hh := by rw [hW0, ← hX]; exact (MapKept.heap_alloc w _).1
  have h0 := h.kp0 k0
  have c2 := rX.c2; have c3 := rX.c3
  have HS0 : Hid (SpS V B X ⟨a, b, hh, hh⟩ W0.drew) := ⟨h0.c0, rX.c0, rX.c1, rX.c2, rX.c3⟩
  have HSK : Hid (∀ W', Kp noB W0.drew W' → SpS V B X ⟨a, b, hh, hh⟩ W') := fun W' k => HS0.out.kp k (fun f => f) (fun f => f)
  have HC : Hid _ := read_ok W0.drew B M (h0.ram.kp (Kp.refl noB W0).drew (fun _ _ f => f)) a hh a0 a1 (by unfold okS; exact decide_eq_true (by omega))
  rw [Int.toNat_natCast] at HC
  clear h hn
  go_enter Try.func38, Try.ntmps38
  rw [hW0] at c2 c3
  go_upto_region 2 with fail
  rw [← hW0]
  clear hW0 hX c2 c3
  go_region_held3 (fun W => W.cell? ⟨V, 0, none⟩ = some (.pointer (some ⟨B + 3, 0, none⟩)) ∧ W.cell? ⟨X, 0, none⟩ = some (.int .u32 a) ∧ W.cell? ⟨X, 1, none⟩ = some (.int .u32 b) ∧ W.cell? ⟨X, 2, none⟩ = some (.int .i64 hh) ∧ W.cell? ⟨X, 3, none⟩ = some (.int .i64 hh))
    (first | with_reducible exact HS0.out | with_reducible exact HSK.out _ k4)
    (first | (go_at_call 62; refine Calls.mono HC.out ?_; rintro e w4 ⟨rfl, k4⟩))
  go_wp2
  go_ret
  exact ⟨rfl, k0.trans k4.undrew⟩

theorem or_step {a b : Int} (i : Nat) (hi : i < 4) (a0 : 0 ≤ a) (a1 : a < 256 ^ i) (b0 : 0 ≤ b) (b1 : b < 256) : bits .or .u32 a (b * 256 ^ i) = a + b * 256 ^ i := by
  have key : ∀ j : Nat, ((2 ^ j : Nat) : Int) = 256 ^ i → j ≤ 24 → bits .or .u32 a (b * 256 ^ i) = a + b * 256 ^ i := fun j e hj => by
    have := or_add (a := a) (b := b) j a0 b0 (by rw [e]; exact a1) (by rcases (by omega : i = 0 ∨ i = 1 ∨ i = 2 ∨ i = 3) with rfl | rfl | rfl | rfl <;> simp at a1 <;> omega) (by rw [e]; rcases (by omega : i = 0 ∨ i = 1 ∨ i = 2 ∨ i = 3) with rfl | rfl | rfl | rfl <;> simp <;> omega)
    rw [e] at this
    exact this
  rcases (by omega : i = 0 ∨ i = 1 ∨ i = 2 ∨ i = 3) with rfl | rfl | rfl | rfl
  · exact key 0 (by decide) (by decide)
  · exact key 8 (by decide) (by decide)
  · exact key 16 (by decide) (by decide)
  · exact key 24 (by decide) (by decide)

def RdQ (w : World) (RK : Nat → Int) (n k : Nat) (s7 s31 : Value) (wr : World) : Prop :=
  ∃ i : Nat, s31 = .int .i64 i ∧ s7 = .int .u32 (RK i) ∧ i ≤ n ∧ n - i ≤ k ∧ Kp noB w wr

set_option maxHeartbeats 1000000 in
theorem vread_two (w : World) (V K B pl tn : Nat) (M : Mem) (h : VmAt w V K B pl tn M) (s : Sp) (hs : s.Ok) (he : s.h < s.n) :
    Calls Try.prog 38 #[.pointer (some ⟨V, 0, none⟩), s.val] w (fun e w' => e = .returned (.int .u32 (M.rdS s)) ∧ Kp noB w w') := by
  have hn := hs.n1
  have hh0 := hs.h0
  have hb := h.ram.rdB
  have HR : Hid (M.rdK s s.n = M.rdS s) := rdK_all M s hn
  have HA : Hid (∀ W (j : Nat), j < s.n → Calls Try.prog 61 #[.agg #[.int .u32 s.a, .int .u32 s.b, .int .i64 s.h, .int .i64 s.n], .int .i64 j] W fun e w' => e = .returned (.int .u32 (s.at j)) ∧ Kp noB W w') := fun W j hj => spAt_any W s hs j hj
  have HB : Hid (∀ j, 0 ≤ s.at j ∧ s.at j < 4294967296) := s.at_bd
  have HD : Hid (∀ j, 0 ≤ M.rd (s.at j) ∧ M.rd (s.at j) < 256) := fun j => hb _ (s.at_bd j).1 (s.at_bd j).2
  have HK : Hid (∀ i, i < 4 → 0 ≤ M.rdK s i ∧ M.rdK s i < 256 ^ i) := fun i hi => rdK_bd hb s i hi
  have HT : Hid (∀ i, M.rdK s (i + 1) = M.rdK s i + M.rd (s.at i) * 256 ^ i) := fun i => rfl
  have H0 : Hid (M.rdK s 0 = 0) := rfl
  unfold Sp.val
  generalize M.rdK s = RK at *
  generalize M.rdS s = rs at *
  generalize s.at = AT at *
  obtain ⟨a, b, hh, n⟩ := s
  simp only at *
  clear hs hb
  obtain ⟨W0, hW0⟩ : ∃ W, W = w.alloc (.cells #[.int .u32 a, .int .u32 b, .int .i64 hh, .int .i64 n] 86) := ⟨_, rfl⟩
  obtain ⟨X, hX⟩ : ∃ X, w.heap.size = X := ⟨_, rfl⟩
  have k0 : Kp noB w W0 := by rw [hW0]; exact Kp.alloc _ _ _
  have rX : RowS W0 X a b hh n := by rw [hW0, ← hX]; exact (MapKept.heap_alloc w _).1
  have h0 := h.kp0 k0
  have c2 := rX.c2; have c3 := rX.c3
  have HS0 : Hid (SpS V B X ⟨a, b, hh, n⟩ W0) := ⟨h0.c0, rX.c0, rX.c1, rX.c2, rX.c3⟩
  have HM : Hid (RamAt W0 B M) := h0.ram
  have he2 : (hh == n) = false := by rw [beq_eq_false_iff_ne]; omega
  have he' : ((hh : Int) == (n : Int)) = false := by rw [beq_eq_false_iff_ne]; omega
  have hn4 : n = 2 ∨ n = 4 := by omega
  clear h hn rX h0
  go_enter Try.func38, Try.ntmps38
  rw [hW0] at c2 c3
  go_wp2_with fail
  rw [← hW0]
  clear hW0 hX c2 c3
  go_loopg [7, 31] n (RdQ W0 RK n)
  case atStart => exact ⟨0, rfl, by rw [H0.out], Nat.zero_le _, Nat.le_refl _, Kp.refl _ _⟩
  case round =>
    obtain ⟨i, rfl, rfl, hi, hik, kk⟩ := hrel
    by_cases hlt : i < n
    · have hz : (i : Int) < (n : Int) := by omega
      have HC1 : Hid _ := HA.out wr.drew i hlt
      have HC2 : Hid (∀ W, Kp noB wr.drew W → Calls Try.prog 62 #[.pointer (some ⟨B + 3, 0, none⟩), .int .u32 (AT i), .int .i64 1] W fun e w' => e = .returned (.tuple #[.int .u32 (M.rd (AT i)), .int .i64 0]) ∧ Kp noB wr.drew w') := fun W k => by
        have c := read_ok W B M (((HM.out.kp kk (fun _ _ f => f)).kp (Kp.refl noB wr).drew (fun _ _ f => f)).kp k (fun _ _ f => f)) (AT i) 1 (HB.out i).1 (HB.out i).2 rfl
        rw [show ((1 : Int)).toNat = 1 from rfl, read1 M _ (HB.out i).1 (HB.out i).2] at c
        exact c.mono (fun e w' ⟨h1, h2⟩ => ⟨h1, k.trans h2⟩)
      have HT0 : Hid (SpS V B X ⟨a, b, hh, n⟩ wr.drew) := SpS.kp (S := noB) (W := W0) HS0.out kk.drew (fun f => f) (fun f => f)
      have HTK : Hid (∀ W', Kp noB wr.drew W' → SpS V B X ⟨a, b, hh, n⟩ W') := fun W' k => SpS.kp (S := noB) HT0.out k (fun f => f) (fun f => f)
      obtain ⟨bv, hbv⟩ : ∃ bv, bv = M.rd (AT i) := ⟨_, rfl⟩
      obtain ⟨sv, hsv⟩ : ∃ sv, sv = RK i := ⟨_, rfl⟩
      have hor := or_step (a := sv) (b := bv) i (by omega) (by rw [hsv]; exact (HK.out i (by omega)).1) (by rw [hsv]; exact (HK.out i (by omega)).2) (by rw [hbv]; exact (HD.out i).1) (by rw [hbv]; exact (HD.out i).2)
      have hbb : 0 ≤ bv ∧ bv < 256 := by rw [hbv]; exact HD.out i
      have HS : Hid (RK (i + 1) = sv + bv * 256 ^ i) := by rw [hsv, hbv]; exact HT.out i
      rw [← hbv] at HC2
      rw [← hsv]
      obtain ⟨j, hj⟩ : ∃ j, j = i + 1 := ⟨_, rfl⟩
      have HJ : Hid (j = i + 1) := hj
      have HKk : Hid (n - i ≤ gk) := hik
      obtain ⟨b0, b1⟩ := hbb
      clear hik hj hbv hsv
      generalize AT i = at' at *
      go_upto_region 8 with fail
      go_region_held3 (fun W => W.cell? ⟨V, 0, none⟩ = some (.pointer (some ⟨B + 3, 0, none⟩)) ∧ W.cell? ⟨X, 0, none⟩ = some (.int .u32 a) ∧ W.cell? ⟨X, 1, none⟩ = some (.int .u32 b) ∧ W.cell? ⟨X, 2, none⟩ = some (.int .i64 hh) ∧ W.cell? ⟨X, 3, none⟩ = some (.int .i64 n))
        (first | with_reducible exact HT0.out | with_reducible exact HTK.out _ k4 | with_reducible exact HTK.out _ k5)
        (first | (go_at_call 61; refine Calls.mono HC1.out ?_; rintro e w4 ⟨rfl, k4⟩) | (go_at_call 62; refine Calls.mono (HC2.out _ k4) ?_; rintro e w5 ⟨rfl, k5⟩))
      clear HC1 HC2 HTK HT0
      rcases (by omega : i = 0 ∨ i = 1 ∨ i = 2 ∨ i = 3) with rfl | rfl | rfl | rfl
      all_goals
        simp at hor
        go_wp2_with fail
        go_roundg (n - j)
        case measure => have := HJ.out; have := HKk.out; omega
        case rel => exact ⟨j, by rw [HJ.out]; rfl, by rw [HJ.out, HS.out]; first | rfl | (congr 1; omega), by have := HJ.out; omega, Nat.le_refl _, kk.trans k5.undrew⟩
    · have hz : ¬ (i : Int) < (n : Int) := by omega
      obtain rfl : i = n := by omega
      rw [HR.out]
      clear hik
      go_wp2
      go_ret
      exact ⟨rfl, k0.trans kk⟩

theorem vread_any (w : World) (V K B pl tn : Nat) (M : Mem) (h : VmAt w V K B pl tn M) (s : Sp) (hs : s.Ok) :
    Calls Try.prog 38 #[.pointer (some ⟨V, 0, none⟩), s.val] w (fun e w' => e = .returned (.int .u32 (M.rdS s)) ∧ Kp noB w w') := by
  by_cases he : s.h = s.n
  · exact vread_one w V K B pl tn M h s hs he
  · exact vread_two w V K B pl tn M h s hs (by have := hs.h1; omega)
end Go.Proofs.Ytmmnnafjikilpaa
