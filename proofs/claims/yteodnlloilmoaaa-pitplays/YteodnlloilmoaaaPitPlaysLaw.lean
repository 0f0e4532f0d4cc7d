/- The walk of PitPlays. -/
import Derived.Test.YteodnlloilmoaaaRtAll2
import Derived.Test.YteodnlloilmoaaaPtOpen
namespace Go.Proofs.Yteodnlloilmoaaa
open Go.ChangeShapes Go.WideShapes Go.ChangeAt Go.RowKit
set_option linter.unusedVariables false

theorem cOut (w : World) (B : Nat) (f : Nat → Cn) (h : PAt w B f) (k : Oks f) (n v now : Int) (v0 : 0 ≤ v) (v1 : v < 256) : Calls Try.prog 11 #[.pointer (some ⟨B, 0, none⟩), .int .i64 n, .int .u8 v, .int .u64 now] w fun e w' => e = .returned (.int .i64 (if 0 ≤ n ∧ n < 4 then 0 else 1)) ∧ PAt w' B (if 0 ≤ n ∧ n < 4 then outF f n v now else f) ∧ Kp (isB B) w w' := by
  by_cases g : 0 ≤ n ∧ n < 4
  · rw [if_pos g, if_pos g]; exact out_ok h k n v now g.1 g.2 v0 v1
  · rw [if_neg g, if_neg g]; exact (out_no w _ n v now (.inr (by omega))).mono fun e w' ⟨a, b⟩ => ⟨a, b ▸ h, b ▸ Kp.refl _ _⟩

theorem cIn (w : World) (B : Nat) (f : Nat → Cn) (h : PAt w B f) (k : Oks f) (n now : Int) : Calls Try.prog 13 #[.pointer (some ⟨B, 0, none⟩), .int .i64 n, .int .u64 now] w fun e w' => e = .returned (.tuple #[.int .u8 (if 0 ≤ n ∧ n < 4 then innV f n now else 0), .int .i64 (if 0 ≤ n ∧ n < 4 then 0 else 1)]) ∧ PAt w' B (if 0 ≤ n ∧ n < 4 then innF f n else f) ∧ Kp (isB B) w w' := by
  by_cases g : 0 ≤ n ∧ n < 4
  · rw [if_pos g, if_pos g, if_pos g]; exact in_ok h k n now g.1 g.2
  · rw [if_neg g, if_neg g, if_neg g]; exact (in_no w _ n now (.inr (by omega))).mono fun e w' ⟨a, b⟩ => ⟨a, b ▸ h, b ▸ Kp.refl _ _⟩

theorem yOut (w : World) (R : Nat) (f : Nat → Cn) (h : RW w R f) (n v now : Int) (v0 : 0 ≤ v) (v1 : v < 256) (t0 : 0 ≤ now) (t1 : now < 18446744073709551616) : Calls Try.prog 12 #[.pointer (some ⟨R, 0, none⟩), .int .i64 n, .int .u8 v, .int .u64 now] w fun e w' => e = .returned (.int .i64 (if 0 ≤ n ∧ n < 4 then 0 else 1)) ∧ RW w' R (if 0 ≤ n ∧ n < 4 then outF f n v now else f) ∧ Kp (isB R) w w' := by
  by_cases g : 0 ≤ n ∧ n < 4
  · rw [if_pos g, if_pos g]; exact xOut w R f h n v now g.1 g.2 v0 v1 t0 t1
  · rw [if_neg g, if_neg g]; exact (rout_no w R n v now (by omega)).mono fun e w' ⟨a, b⟩ => ⟨a, b ▸ h, b ▸ Kp.refl _ _⟩

theorem yIn (w : World) (R : Nat) (f : Nat → Cn) (h : RW w R f) (n now : Int) : Calls Try.prog 14 #[.pointer (some ⟨R, 0, none⟩), .int .i64 n, .int .u64 now] w fun e w' => e = .returned (.tuple #[.int .u8 (if 0 ≤ n ∧ n < 4 then innV f n now else 0), .int .i64 (if 0 ≤ n ∧ n < 4 then 0 else 1)]) ∧ RW w' R (if 0 ≤ n ∧ n < 4 then innF f n else f) ∧ Kp (isB R) w w' := by
  by_cases g : 0 ≤ n ∧ n < 4
  · rw [if_pos g, if_pos g, if_pos g]; exact xIn w R f h n now g.1 g.2
  · rw [if_neg g, if_neg g, if_neg g]; exact (rin_no w R n now (by omega)).mono fun e w' ⟨a, b⟩ => ⟨a, b ▸ h, b ▸ Kp.refl _ _⟩

set_option maxRecDepth 20000 in
set_option maxHeartbeats 4000000 in
theorem PitPlays_walk (W : World) (a0 : Option Addr) (L cap : Nat) (lq : L ≤ 9223372036854775807) (ws : ∀ i, i < L → OpIn W a0 i) : Calls Try.prog 3 #[.slice a0 L cap] W fun e w' => e = .returned (.bool true) ∧ Below W.heap.size W w' := by
  have HA : Hid (∀ w, _) := awake_ok
  have HN : Hid (∀ w, _) := fun w => new_ok w
  have HM : Hid (∀ w, _) := xNew
  have HB : Hid (∀ w', Kp noB W w' → Below W.heap.size W w') := fun w' h => h.every
  have HS : Hid (∀ i, i < L → OpIn W a0 i) := ws
  clear ws
  go_enter Try.func3, Try.ntmps3
  go_wp2_with fail
  refine Calls.mono (HA.out _) ?_; rintro e w1 ⟨rfl, g1⟩
  go_wp2_with fail
  refine Calls.mono (HN.out _) ?_; rintro e w2 ⟨B, rfl, lb0, h2, g2⟩
  go_wp2_with fail
  refine Calls.mono (HM.out _) ?_; rintro e w3 ⟨R, rfl, lr0, h3, g3⟩
  have k3 := (g1.trans g2).trans g3
  have h2' : PAt w3 B f00 := h2.kept g3 id
  have bl := h2.lt
  have s1 := g1.size
  have s2 := g2.size
  have lB : Hid (W.heap.size ≤ B) := by exact (by omega : W.heap.size ≤ B)
  have BR : Hid (B < R) := by exact (by omega : B < R)
  have lR : Hid (W.heap.size ≤ R) := by exact (by omega : W.heap.size ≤ R)
  clear g1 g2 g3 h2 lb0 lr0 bl s1 s2
  go_wp2_with fail
  go_loopw [6, 7] (fun s6 s7 wr => ∃ (i : Nat) (t : Int) (f : Nat → Cn), s7 = .int .i64 i ∧ s6 = .int .u64 t ∧ 0 ≤ t ∧ t < 18446744073709551616 ∧ i ≤ L ∧ PAt wr B f ∧ RW wr R f ∧ Kp noB W wr) (fun _ s7 _ => ((L : Int) - intOf s7).toNat)
  case atStart => exact ⟨0, 0, f00, rfl, rfl, by omega, by omega, by omega, h2', h3, k3⟩
  case round =>
    clear h2' h3 k3
    obtain ⟨i, t, f, rfl, rfl, t0, t1, hi, hp, hr, kr⟩ := hrel
    by_cases hlt : i < L
    · obtain ⟨blk, off, kd, n, v, u, rfl, hblk, ⟨c0, c1, c2, c3⟩, ⟨bd0, bd1⟩, ⟨bn0, bn1⟩, ⟨v0, v1⟩, u0, u1⟩ := (HS.out i hlt).kp kr
      have ok := hr.ok
      obtain ⟨T, hT⟩ : ∃ T, (t + u) % 18446744073709551616 = T := ⟨_, rfl⟩
      have T0 : 0 ≤ T := by omega
      have T1 : T < 18446744073709551616 := by omega
      have hT2 : IntKind.u64.wrap (t + u) = T := by rw [w64]; exact hT
      have HC1 : Hid (∀ W', PAt W' B f → _) := fun W' h => cOut W' B f h ok n v T v0 v1
      have HX1 : Hid (∀ W', RW W' R f → _) := fun W' h => yOut W' R f h n v T v0 v1 T0 T1
      have HC2 : Hid (∀ W', PAt W' B f → _) := fun W' h => cIn W' B f h ok n T
      have HX2 : Hid (∀ W', RW W' R f → _) := fun W' h => yIn W' R f h n T
      have HPc : Hid (∀ W' f', PAt W' B f' → RW W' R f' → _) := fun W' f' h h2 => line_any h h2.ok T
      have HPx : Hid (∀ W' f', RW W' R f' → _) := fun W' f' h => xLine W' R f' h T
      have nqB : Hid (¬ wr.heap.size = B) := by have : B < wr.heap.size := hp.lt; exact (by omega : ¬ wr.heap.size = B)
      have nqR : Hid (¬ wr.heap.size = R) := by have : R < wr.heap.size := hr.lt; exact (by omega : ¬ wr.heap.size = R)
      have kB : Hid (∀ (W1 W2 : World) (f' : Nat → Cn), Kp (isB B) W1 W2 → RW W1 R f' → RW W2 R f') := fun W1 W2 f' k h => h.kept k (fun e => by have : R = B := e; have := BR.out; omega)
      have kR : Hid (∀ (W1 W2 : World) (f' : Nat → Cn), Kp (isB R) W1 W2 → PAt W1 B f' → PAt W2 B f') := fun W1 W2 f' k h => h.kept k (fun e => by have : B = R := e; have := BR.out; omega)
      obtain ⟨ev1, hev1⟩ : ∃ x : Int, x = if 0 ≤ n ∧ n < 4 then 0 else 1 := ⟨_, rfl⟩
      obtain ⟨f1, hf1⟩ : ∃ x : Nat → Cn, x = if 0 ≤ n ∧ n < 4 then outF f n v T else f := ⟨_, rfl⟩
      obtain ⟨x1, hx1⟩ : ∃ x : Int, x = if 0 ≤ n ∧ n < 4 then innV f n T else 0 := ⟨_, rfl⟩
      obtain ⟨f2, hf2⟩ : ∃ x : Nat → Cn, x = if 0 ≤ n ∧ n < 4 then innF f n else f := ⟨_, rfl⟩
      rw [← hev1, ← hf1] at HC1 HX1
      rw [← hev1, ← hx1, ← hf2] at HC2 HX2
      have o1 := op_new wr kd n v u
      have p1 : PAt (wr.alloc (.cells #[.int .i64 kd, .int .i64 n, .int .u8 v, .int .u32 u] 31)) B f := hp.kept (Kp.alloc noB _ _) id
      have r1 : RW (wr.alloc (.cells #[.int .i64 kd, .int .i64 n, .int .u8 v, .int .u32 u] 31)) R f := hr.kept (Kp.alloc noB _ _) id
      have y1 : Kp noB W (wr.alloc (.cells #[.int .i64 kd, .int .i64 n, .int .u8 v, .int .u32 u] 31)) := kr.trans (Kp.alloc _ _ _)
      have O1 : Hid _ := o1
      have P1 : Hid _ := p1
      have R1 : Hid _ := r1
      have Y1 : Hid _ := y1
      have TB : Hid (0 ≤ T ∧ T < 18446744073709551616) := ⟨T0, T1⟩
      clear o1 p1 r1 y1 ok hev1 hf1 hx1 hf2 hp hr kr hblk t0 t1 T0 T1
      by_cases e1 : kd = 1
      · subst e1
        go_wp2
        generalize wr.alloc (.cells #[.int .i64 1, .int .i64 n, .int .u8 v, .int .u32 u] 31) = w4 at O1 P1 R1 Y1 ⊢
        clear c0 c1 c2 c3
        have HS4 : Hid (w4.drew.cell? ⟨wr.heap.size, 1, none⟩ = some (.int .i64 n) ∧ w4.drew.cell? ⟨wr.heap.size, 2, none⟩ = some (.int .u8 v)) := ⟨O1.out.c1, O1.out.c2⟩
        have HK4 : Hid (∀ W1 W2, Kp (isB B) W1 W2 → (W1.cell? ⟨wr.heap.size, 1, none⟩ = some (.int .i64 n) ∧ W1.cell? ⟨wr.heap.size, 2, none⟩ = some (.int .u8 v)) → W2.cell? ⟨wr.heap.size, 1, none⟩ = some (.int .i64 n) ∧ W2.cell? ⟨wr.heap.size, 2, none⟩ = some (.int .u8 v)) := fun W1 W2 k h => by have q := nqB.out; exact ⟨cell_kept h.1 k q, cell_kept h.2 k q⟩
        have HK5 : Hid (∀ W1 W2, Kp (isB R) W1 W2 → (W1.cell? ⟨wr.heap.size, 1, none⟩ = some (.int .i64 n) ∧ W1.cell? ⟨wr.heap.size, 2, none⟩ = some (.int .u8 v)) → W2.cell? ⟨wr.heap.size, 1, none⟩ = some (.int .i64 n) ∧ W2.cell? ⟨wr.heap.size, 2, none⟩ = some (.int .u8 v)) := fun W1 W2 k h => by have q := nqR.out; exact ⟨cell_kept h.1 k q, cell_kept h.2 k q⟩
        have P1d : Hid (PAt w4.drew B f) := P1.out.kept (Kp.refl noB w4).drew id
        have R1d : Hid (RW w4.drew R f) := R1.out.drew
        go_region_held3 (fun W => W.cell? ⟨wr.heap.size, 1, none⟩ = some (.int .i64 n) ∧ W.cell? ⟨wr.heap.size, 2, none⟩ = some (.int .u8 v))
          (first | exact HS4.out | exact HK4.out _ _ (by assumption) (by assumption) | exact HK5.out _ _ (by assumption) (by assumption) | assumption)
          (first
            | (go_at_call 11; refine Calls.mono (HC1.out _ P1d.out) ?_; rintro e z5 ⟨rfl, p5, k5⟩; have r5 := kB.out _ _ _ k5 R1d.out)
            | (go_at_call 12; refine Calls.mono (HX1.out _ (by assumption)) ?_; rintro e z6 ⟨rfl, r6, k6⟩))
        all_goals
          have pz := kR.out _ _ _ k6 p5
          have rz := r6
          have yz := ((Y1.out.drew).own k5 lB.out).own k6 lR.out
          clear p5 r5 r6 k5 k6 HS4 HK4 HK5 P1d R1d O1 P1 R1 Y1
          go_wp2_with fail
          refine Calls.mono (HPc.out _ _ pz rz) ?_; rintro e z1 ⟨rfl, q1⟩
          have pz1 := pz.kept q1 id
          have rz1 := rz.kept q1 id
          have yz1 := yz.and q1
          clear pz rz yz q1
          go_wp2_with fail
          refine Calls.mono (HPx.out _ _ rz1) ?_; rintro e z2 ⟨rfl, q2⟩
          have pz2 := pz1.kept q2 id
          have rz2 := rz1.kept q2 id
          have yz2 := yz1.and q2
          clear pz1 rz1 yz1 q2
          go_wp2
          go_roundw
          case rel => first | exact ⟨i + 1, T, _, by go_num, rfl, TB.out.1, TB.out.2, by omega, pz2, rz2, yz2⟩ | ((repeat apply Exists.intro); exact ⟨⟨i + 1, T, _, by go_num, rfl, TB.out.1, TB.out.2, by omega, pz2, rz2, yz2⟩, rfl⟩)
          case measure => simp [intOf]; omega
      · by_cases e2 : kd = 2
        · subst e2
          have oc := O1.out.c1
          go_wp2_with fail
          refine Calls.mono (HC2.out _ P1.out) ?_; rintro e z5 ⟨rfl, p5, k5⟩
          have r5 := kB.out _ _ _ k5 R1.out
          have y5 := Y1.out.own k5 lB.out
          have oc5 := (O1.out.kept k5 nqB.out).c1
          clear oc
          go_wp2_with fail
          refine Calls.mono (HX2.out _ r5) ?_; rintro e z6 ⟨rfl, r6, k6⟩
          have pz := kR.out _ _ _ k6 p5
          have rz := r6
          have yz := y5.own k6 lR.out
          clear p5 r5 r6 y5 oc5 k5 k6 O1 P1 R1 Y1 c0 c1 c2 c3
          go_wp2_with fail
          refine Calls.mono (HPc.out _ _ pz rz) ?_; rintro e z1 ⟨rfl, q1⟩
          have pz1 := pz.kept q1 id
          have rz1 := rz.kept q1 id
          have yz1 := yz.and q1
          clear pz rz yz q1
          go_wp2_with fail
          refine Calls.mono (HPx.out _ _ rz1) ?_; rintro e z2 ⟨rfl, q2⟩
          have pz2 := pz1.kept q2 id
          have rz2 := rz1.kept q2 id
          have yz2 := yz1.and q2
          clear pz1 rz1 yz1 q2
          go_wp2
          go_roundw
          case rel => first | exact ⟨i + 1, T, _, by go_num, rfl, TB.out.1, TB.out.2, by omega, pz2, rz2, yz2⟩ | ((repeat apply Exists.intro); exact ⟨⟨i + 1, T, _, by go_num, rfl, TB.out.1, TB.out.2, by omega, pz2, rz2, yz2⟩, rfl⟩)
          case measure => simp [intOf]; omega
        · have n1 : (kd == 1) = false := by simp [e1]
          have n2 : (kd == 2) = false := by simp [e2]
          have pz := P1.out
          have rz := R1.out
          have yz := Y1.out
          clear O1 P1 R1 Y1
          go_wp2_with fail
          refine Calls.mono (HPc.out _ _ pz rz) ?_; rintro e z1 ⟨rfl, q1⟩
          have pz1 := pz.kept q1 id
          have rz1 := rz.kept q1 id
          have yz1 := yz.and q1
          clear pz rz yz q1
          go_wp2_with fail
          refine Calls.mono (HPx.out _ _ rz1) ?_; rintro e z2 ⟨rfl, q2⟩
          have pz2 := pz1.kept q2 id
          have rz2 := rz1.kept q2 id
          have yz2 := yz1.and q2
          clear pz1 rz1 yz1 q2
          go_wp2
          go_roundw
          case rel => first | exact ⟨i + 1, T, _, by go_num, rfl, TB.out.1, TB.out.2, by omega, pz2, rz2, yz2⟩ | ((repeat apply Exists.intro); exact ⟨⟨i + 1, T, _, by go_num, rfl, TB.out.1, TB.out.2, by omega, pz2, rz2, yz2⟩, rfl⟩)
          case measure => simp [intOf]; omega
    · obtain rfl : i = L := by omega
      go_wp2
      go_ret
      exact ⟨rfl, HB.out _ kr⟩
end Go.Proofs.Yteodnlloilmoaaa
