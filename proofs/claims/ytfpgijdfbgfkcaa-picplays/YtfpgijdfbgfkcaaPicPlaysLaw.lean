/- The walk of PicPlays. -/
import Derived.Test.YtfpgijdfbgfkcaaRcAll
import Derived.Test.YtfpgijdfbgfkcaaPcOpen
namespace Go.Proofs.Ytfpgijdfbgfkcaa
open Go.ChangeShapes Go.WideShapes Go.ChangeAt Go.RowKit
set_option linter.unusedVariables false

theorem cOut (w : World) (B : Nat) (m : M2) (h : PAt w B m) (k : m.Ok) (n v : Int) (hv : By v) : Calls Try.prog 11 #[.pointer (some ⟨B, 0, none⟩), .int .i64 n, .int .u8 v] w fun e w' => e = .returned (.int .i64 (if 0 ≤ n ∧ n < 4 then 0 else 1)) ∧ PAt w' B (if 0 ≤ n ∧ n < 4 then m.out n v else m) ∧ Kp (isB B) w w' := by
  by_cases g : 0 ≤ n ∧ n < 4
  · rw [if_pos g, if_pos g]; exact out_ok w B m h k n v g.1 g.2 hv
  · rw [if_neg g, if_neg g]; exact (out_no w _ n v (.inr (by omega))).mono fun e w' ⟨a, b⟩ => ⟨a, h.kept b id, b.any⟩

theorem cLine (w : World) (B : Nat) (m : M2) (h : PAt w B m) (k : m.Ok) (n : Int) (u : Bool) : Calls Try.prog 15 #[.pointer (some ⟨B, 0, none⟩), .int .i64 n, .bool u] w fun e w' => e = .returned (.int .i64 (if 0 ≤ n ∧ n < 16 then 0 else 1)) ∧ PAt w' B (if 0 ≤ n ∧ n < 16 then m.line n u else m) ∧ Kp (isB B) w w' := by
  by_cases g : 0 ≤ n ∧ n < 16
  · rw [if_pos g, if_pos g]; exact line_ok w B m h k n u g.1 g.2
  · rw [if_neg g, if_neg g]; exact (line_no w _ n u (.inr (by omega))).mono fun e w' ⟨a, b⟩ => ⟨a, h.kept b id, b.any⟩

theorem cIn (w : World) (B : Nat) (m : M2) (h : PAt w B m) (k : m.Ok) (st : St2 m) (n : Int) : Calls Try.prog 13 #[.pointer (some ⟨B, 0, none⟩), .int .i64 n] w fun e w' => e = .returned (.tuple #[.int .u8 (if 0 ≤ n ∧ n < 4 then m.inn n else 0), .int .i64 (if 0 ≤ n ∧ n < 4 then 0 else 1)]) ∧ PAt w' B m ∧ Kp (isB B) w w' := by
  by_cases g : 0 ≤ n ∧ n < 4
  · rw [if_pos g, if_pos g]; exact (in_ok w B m h k n g.1 g.2).mono fun e w' ⟨a, b, c⟩ => ⟨a, by rw [settle_id k st] at b; exact b, c⟩
  · rw [if_neg g, if_neg g]; exact (in_no w _ n (.inr (by omega))).mono fun e w' ⟨a, b⟩ => ⟨a, h.kept b id, b.any⟩

theorem yOut (w : World) (R : Nat) (m : M2) (h : RW w R m) (n v : Int) (hv : By v) : Calls Try.prog 12 #[.pointer (some ⟨R, 0, none⟩), .int .i64 n, .int .u8 v] w fun e w' => e = .returned (.int .i64 (if 0 ≤ n ∧ n < 4 then 0 else 1)) ∧ RW w' R (if 0 ≤ n ∧ n < 4 then m.out n v else m) ∧ Kp (isB R) w w' := by
  by_cases g : 0 ≤ n ∧ n < 4
  · rw [if_pos g, if_pos g]; exact xOut w R m h n v g.1 g.2 hv
  · rw [if_neg g, if_neg g]; exact (rout_no w R n v (by omega)).mono fun e w' ⟨a, b⟩ => ⟨a, b ▸ h, b ▸ Kp.refl _ _⟩

theorem yLine (w : World) (R : Nat) (m : M2) (h : RW w R m) (n : Int) (u : Bool) : Calls Try.prog 16 #[.pointer (some ⟨R, 0, none⟩), .int .i64 n, .bool u] w fun e w' => e = .returned (.int .i64 (if 0 ≤ n ∧ n < 16 then 0 else 1)) ∧ RW w' R (if 0 ≤ n ∧ n < 16 then m.line n u else m) ∧ Kp (isB R) w w' := by
  by_cases g : 0 ≤ n ∧ n < 16
  · rw [if_pos g, if_pos g]; exact xLine w R m h n u g.1 g.2
  · rw [if_neg g, if_neg g]; exact (rline_no w R n u (by omega)).mono fun e w' ⟨a, b⟩ => ⟨a, b ▸ h, b ▸ Kp.refl _ _⟩

theorem yIn (w : World) (R : Nat) (m : M2) (h : RW w R m) (n : Int) : Calls Try.prog 14 #[.pointer (some ⟨R, 0, none⟩), .int .i64 n] w fun e w' => e = .returned (.tuple #[.int .u8 (if 0 ≤ n ∧ n < 4 then m.inn n else 0), .int .i64 (if 0 ≤ n ∧ n < 4 then 0 else 1)]) ∧ Kp noB w w' := by
  by_cases g : 0 ≤ n ∧ n < 4
  · rw [if_pos g, if_pos g]; exact xIn w R m h n g.1 g.2
  · rw [if_neg g, if_neg g]; exact (rin_no w R n (by omega)).mono fun e w' ⟨a, b⟩ => ⟨a, b ▸ Kp.refl _ _⟩

set_option maxRecDepth 20000 in
set_option maxHeartbeats 4000000 in
theorem PicPlays_walk (W : World) (a0 : Option Addr) (L cap : Nat) (lq : L ≤ 9223372036854775807) (ws : ∀ i, i < L → OpIn W a0 i) : Calls Try.prog 3 #[.slice a0 L cap] W fun e w' => e = .returned (.bool true) ∧ Below W.heap.size W w' := by
  have HA : Hid (∀ w, _) := awake_ok
  have HN : Hid (∀ w, Calls Try.prog 9 #[] w fun e w' => e = .returned (.pointer (some ⟨w.heap.size, 0, none⟩)) ∧ PAt w' w.heap.size m00 ∧ Kp noB w w') := fun w => new_ok w
  have HM : Hid (∀ w, _) := xNew
  have HB : Hid (∀ w', Kp noB W w' → Below W.heap.size W w') := fun w' h => h.every
  have HS : Hid (∀ i, i < L → OpIn W a0 i) := ws
  clear ws
  go_enter Try.func3, Try.ntmps3
  go_wp2_with fail
  refine Calls.mono (HA.out _) ?_; rintro e w1 ⟨rfl, g1⟩
  go_wp2_with fail
  refine Calls.mono (HN.out _) ?_; rintro e w2 ⟨rfl, h2, g2⟩
  go_wp2_with fail
  refine Calls.mono (HM.out _) ?_; rintro e w3 ⟨rfl, h3, g3⟩
  have k3 := (g1.trans g2).trans g3
  have h2' := h2.kept g3 id
  have lb0 := g1.size
  have lr0 := h2.lt
  obtain ⟨B, hB⟩ : ∃ B, B = w1.heap.size := ⟨_, rfl⟩
  obtain ⟨R, hR⟩ : ∃ R, R = w2.heap.size := ⟨_, rfl⟩
  rw [← hB] at h2' lb0 lr0 ⊢
  rw [← hR] at h3 lr0 ⊢
  have lB : Hid (W.heap.size ≤ B) := lb0
  have BR : Hid (B < R) := lr0
  have lR : Hid (W.heap.size ≤ R) := by have : B < R := lr0; exact (by omega : W.heap.size ≤ R)
  clear hB hR g1 g2 g3 h2 lb0 lr0
  go_wp2_with fail
  go_loopw [6] (fun s6 wr => ∃ (i : Nat) (m : M2), s6 = .int .i64 i ∧ i ≤ L ∧ PAt wr B m ∧ RW wr R m ∧ Kp noB W wr) (fun s6 _ => ((L : Int) - intOf s6).toNat)
  case atStart => exact ⟨0, m00, rfl, by omega, h2', h3, k3⟩
  case round =>
    clear h2' h3 k3
    obtain ⟨i, m, rfl, hi, hp, hr, kr⟩ := hrel
    by_cases hlt : i < L
    · obtain ⟨blk, off, kd, n, v, u, rfl, hblk, ⟨c0, c1, c2, c3⟩, ⟨bd0, bd1⟩, ⟨bn0, bn1⟩, hv⟩ := (HS.out i hlt).kp kr
      have ok := hr.ok
      have st := hr.st
      have HC1 : Hid (∀ W', PAt W' B m → _) := fun W' h => cOut W' B m h ok n v hv
      have HX1 : Hid (∀ W', RW W' R m → _) := fun W' h => yOut W' R m h n v hv
      have HC3 : Hid (∀ W', PAt W' B m → _) := fun W' h => cLine W' B m h ok n u
      have HX3 : Hid (∀ W', RW W' R m → _) := fun W' h => yLine W' R m h n u
      have HC2 : Hid (∀ W', PAt W' B m → _) := fun W' h => cIn W' B m h ok st n
      have HX2 : Hid (∀ W', RW W' R m → _) := fun W' h => yIn W' R m h n
      have HC4 : Hid (∀ W', PAt W' B m → _) := fun W' h => ack_ok W' B m h ok
      have HX4 : Hid (∀ W', RW W' R m → _) := fun W' h => xAck W' R m h
      have HPc : Hid (∀ W' m', PAt W' B m' → RW W' R m' → _) := fun W' m' h h2 => pend_ok W' B m' h h2.ok.a
      have HPx : Hid (∀ W' m', RW W' R m' → _) := fun W' m' h => xPend W' R m' h
      have nqB : Hid (¬ wr.heap.size = B) := by have : B < wr.heap.size := hp.lt; exact (by omega : ¬ wr.heap.size = B)
      have nqR : Hid (¬ wr.heap.size = R) := by have : R < wr.heap.size := hr.lt; exact (by omega : ¬ wr.heap.size = R)
      have kB : Hid (∀ (W1 W2 : World), Kp (isB B) W1 W2 → RW W1 R m → RW W2 R m) := fun W1 W2 k h => h.kept k (fun g hg _ f => by have : g = B := f; have := BR.out; omega)
      have kR : Hid (∀ (W1 W2 : World) (m' : M2), Kp (isB R) W1 W2 → PAt W1 B m' → PAt W2 B m') := fun W1 W2 m' k h => h.kept k (fun f => by have : B = R := f; have := BR.out; omega)
      obtain ⟨ev1, hev1⟩ : ∃ x : Int, x = if 0 ≤ n ∧ n < 4 then 0 else 1 := ⟨_, rfl⟩
      obtain ⟨m1, hm1⟩ : ∃ x : M2, x = if 0 ≤ n ∧ n < 4 then m.out n v else m := ⟨_, rfl⟩
      obtain ⟨x1, hx1⟩ : ∃ x : Int, x = if 0 ≤ n ∧ n < 4 then m.inn n else 0 := ⟨_, rfl⟩
      obtain ⟨ev3, hev3⟩ : ∃ x : Int, x = if 0 ≤ n ∧ n < 16 then 0 else 1 := ⟨_, rfl⟩
      obtain ⟨m3, hm3⟩ : ∃ x : M2, x = if 0 ≤ n ∧ n < 16 then m.line n u else m := ⟨_, rfl⟩
      rw [← hev1, ← hm1] at HC1 HX1
      rw [← hev1, ← hx1] at HC2 HX2
      rw [← hev3, ← hm3] at HC3 HX3
      have o1 := op_new wr kd n v u
      have p1 := hp.alloc (.cells #[.int .i64 kd, .int .i64 n, .int .u8 v, .bool u] 29)
      have r1 : RW (wr.alloc (.cells #[.int .i64 kd, .int .i64 n, .int .u8 v, .bool u] 29)) R m := hr.kept (Kp.alloc noB _ _) (fun _ _ _ f => f)
      have y1 : Kp noB W (wr.alloc (.cells #[.int .i64 kd, .int .i64 n, .int .u8 v, .bool u] 29)) := kr.trans (Kp.alloc _ _ _)
      have O1 : Hid _ := o1
      have P1 : Hid _ := p1
      have R1 : Hid _ := r1
      have Y1 : Hid _ := y1
      clear o1 p1 r1 y1 ok st hev1 hm1 hx1 hev3 hm3 hp hr kr hv hblk
      by_cases e1 : kd = 1
      · subst e1
        go_wp2
        generalize wr.alloc (.cells #[.int .i64 1, .int .i64 n, .int .u8 v, .bool u] 29) = w4 at O1 P1 R1 Y1 ⊢
        clear c0 c1 c2 c3
        have HS4 : Hid (w4.drew.cell? ⟨wr.heap.size, 1, none⟩ = some (.int .i64 n) ∧ w4.drew.cell? ⟨wr.heap.size, 2, none⟩ = some (.int .u8 v)) := ⟨O1.out.c1, O1.out.c2⟩
        have HK4 : Hid (∀ W1 W2, Kp (isB B) W1 W2 → (W1.cell? ⟨wr.heap.size, 1, none⟩ = some (.int .i64 n) ∧ W1.cell? ⟨wr.heap.size, 2, none⟩ = some (.int .u8 v)) → W2.cell? ⟨wr.heap.size, 1, none⟩ = some (.int .i64 n) ∧ W2.cell? ⟨wr.heap.size, 2, none⟩ = some (.int .u8 v)) := fun W1 W2 k h => by have q := nqB.out; exact ⟨cell_kept h.1 k q, cell_kept h.2 k q⟩
        have HK5 : Hid (∀ W1 W2, Kp (isB R) W1 W2 → (W1.cell? ⟨wr.heap.size, 1, none⟩ = some (.int .i64 n) ∧ W1.cell? ⟨wr.heap.size, 2, none⟩ = some (.int .u8 v)) → W2.cell? ⟨wr.heap.size, 1, none⟩ = some (.int .i64 n) ∧ W2.cell? ⟨wr.heap.size, 2, none⟩ = some (.int .u8 v)) := fun W1 W2 k h => by have q := nqR.out; exact ⟨cell_kept h.1 k q, cell_kept h.2 k q⟩
        have P1d : Hid (PAt w4.drew B m) := P1.out.drew
        have R1d : Hid (RW w4.drew R m) := RW.kept R1.out (Kp.refl noB w4).drew (fun _ _ _ f => f)
        go_region_held3 (fun W => W.cell? ⟨wr.heap.size, 1, none⟩ = some (.int .i64 n) ∧ W.cell? ⟨wr.heap.size, 2, none⟩ = some (.int .u8 v))
          (first | exact HS4.out | exact HK4.out _ _ (by assumption) (by assumption) | exact HK5.out _ _ (by assumption) (by assumption) | assumption)
          (first
            | (go_at_call 11; refine Calls.mono (HC1.out _ P1d.out) ?_; rintro e z5 ⟨rfl, p5, k5⟩; have r5 := kB.out _ _ k5 R1d.out)
            | (go_at_call 12; refine Calls.mono (HX1.out _ (by assumption)) ?_; rintro e z6 ⟨rfl, r6, k6⟩))
        all_goals
          have pz := kR.out _ _ _ k6 p5
          have rz := r6
          have yz := ((Y1.out.drew).own k5 lB.out).own k6 lR.out
          clear p5 r5 r6 k5 k6 HS4 HK4 HK5 P1d R1d O1 P1 R1 Y1
          go_wp2_with fail
          refine Calls.mono (HPc.out _ _ pz rz) ?_; rintro e z1 ⟨rfl, q1⟩
          have pz1 := pz.kept q1 id
          have rz1 := RW.kept rz q1 (fun _ _ _ f => f)
          have yz1 := yz.and q1
          clear pz rz yz q1
          go_wp2_with fail
          refine Calls.mono (HPx.out _ _ rz1) ?_; rintro e z2 ⟨rfl, q2⟩
          have pz2 := pz1.kept q2 id
          have rz2 := RW.kept rz1 q2 (fun _ _ _ f => f)
          have yz2 := yz1.and q2
          clear pz1 rz1 yz1 q2
          go_wp2
          go_roundw
          case rel => first | exact ⟨i + 1, _, by go_num, by omega, pz2, rz2, yz2⟩ | ((repeat apply Exists.intro); exact ⟨⟨i + 1, _, by go_num, by omega, pz2, rz2, yz2⟩, rfl⟩)
          case measure => simp [intOf]; omega
      · by_cases e2 : kd = 2
        · subst e2
          have oc := O1.out.c1
          go_wp2_with fail
          refine Calls.mono (HC2.out _ P1.out) ?_; rintro e z5 ⟨rfl, p5, k5⟩
          have r5 := kB.out _ _ k5 R1.out
          have y5 := Y1.out.own k5 lB.out
          have oc5 := (O1.out.kept k5 nqB.out).c1
          clear oc
          go_wp2_with fail
          refine Calls.mono (HX2.out _ r5) ?_; rintro e z6 ⟨rfl, k6⟩
          have pz := p5.kept k6 id
          have rz := RW.kept r5 k6 (fun _ _ _ f => f)
          have yz := y5.and k6
          clear p5 r5 y5 oc5 k5 k6 O1 P1 R1 Y1 c0 c1 c2 c3
          go_wp2_with fail
          refine Calls.mono (HPc.out _ _ pz rz) ?_; rintro e z1 ⟨rfl, q1⟩
          have pz1 := pz.kept q1 id
          have rz1 := RW.kept rz q1 (fun _ _ _ f => f)
          have yz1 := yz.and q1
          clear pz rz yz q1
          go_wp2_with fail
          refine Calls.mono (HPx.out _ _ rz1) ?_; rintro e z2 ⟨rfl, q2⟩
          have pz2 := pz1.kept q2 id
          have rz2 := RW.kept rz1 q2 (fun _ _ _ f => f)
          have yz2 := yz1.and q2
          clear pz1 rz1 yz1 q2
          go_wp2
          go_roundw
          case rel => first | exact ⟨i + 1, _, by go_num, by omega, pz2, rz2, yz2⟩ | ((repeat apply Exists.intro); exact ⟨⟨i + 1, _, by go_num, by omega, pz2, rz2, yz2⟩, rfl⟩)
          case measure => simp [intOf]; omega
        · by_cases e3 : kd = 3
          · subst e3
            go_wp2
            generalize wr.alloc (.cells #[.int .i64 3, .int .i64 n, .int .u8 v, .bool u] 29) = w4 at O1 P1 R1 Y1 ⊢
            clear c0 c1 c2 c3
            have HS4 : Hid (w4.drew.cell? ⟨wr.heap.size, 1, none⟩ = some (.int .i64 n) ∧ w4.drew.cell? ⟨wr.heap.size, 3, none⟩ = some (.bool u)) := ⟨O1.out.c1, O1.out.c3⟩
            have HK4 : Hid (∀ W1 W2, Kp (isB B) W1 W2 → (W1.cell? ⟨wr.heap.size, 1, none⟩ = some (.int .i64 n) ∧ W1.cell? ⟨wr.heap.size, 3, none⟩ = some (.bool u)) → W2.cell? ⟨wr.heap.size, 1, none⟩ = some (.int .i64 n) ∧ W2.cell? ⟨wr.heap.size, 3, none⟩ = some (.bool u)) := fun W1 W2 k h => by have q := nqB.out; exact ⟨cell_kept h.1 k q, cell_kept h.2 k q⟩
            have HK5 : Hid (∀ W1 W2, Kp (isB R) W1 W2 → (W1.cell? ⟨wr.heap.size, 1, none⟩ = some (.int .i64 n) ∧ W1.cell? ⟨wr.heap.size, 3, none⟩ = some (.bool u)) → W2.cell? ⟨wr.heap.size, 1, none⟩ = some (.int .i64 n) ∧ W2.cell? ⟨wr.heap.size, 3, none⟩ = some (.bool u)) := fun W1 W2 k h => by have q := nqR.out; exact ⟨cell_kept h.1 k q, cell_kept h.2 k q⟩
            have P1d : Hid (PAt w4.drew B m) := P1.out.drew
            have R1d : Hid (RW w4.drew R m) := RW.kept R1.out (Kp.refl noB w4).drew (fun _ _ _ f => f)
            go_region_held3 (fun W => W.cell? ⟨wr.heap.size, 1, none⟩ = some (.int .i64 n) ∧ W.cell? ⟨wr.heap.size, 3, none⟩ = some (.bool u))
              (first | exact HS4.out | exact HK4.out _ _ (by assumption) (by assumption) | exact HK5.out _ _ (by assumption) (by assumption) | assumption)
              (first
                | (go_at_call 15; refine Calls.mono (HC3.out _ P1d.out) ?_; rintro e z5 ⟨rfl, p5, k5⟩; have r5 := kB.out _ _ k5 R1d.out)
                | (go_at_call 16; refine Calls.mono (HX3.out _ (by assumption)) ?_; rintro e z6 ⟨rfl, r6, k6⟩))
            all_goals
              have pz := kR.out _ _ _ k6 p5
              have rz := r6
              have yz := ((Y1.out.drew).own k5 lB.out).own k6 lR.out
              clear p5 r5 r6 k5 k6 HS4 HK4 HK5 P1d R1d O1 P1 R1 Y1
              go_wp2_with fail
              refine Calls.mono (HPc.out _ _ pz rz) ?_; rintro e z1 ⟨rfl, q1⟩
              have pz1 := pz.kept q1 id
              have rz1 := RW.kept rz q1 (fun _ _ _ f => f)
              have yz1 := yz.and q1
              clear pz rz yz q1
              go_wp2_with fail
              refine Calls.mono (HPx.out _ _ rz1) ?_; rintro e z2 ⟨rfl, q2⟩
              have pz2 := pz1.kept q2 id
              have rz2 := RW.kept rz1 q2 (fun _ _ _ f => f)
              have yz2 := yz1.and q2
              clear pz1 rz1 yz1 q2
              go_wp2
              go_roundw
              case rel => first | exact ⟨i + 1, _, by go_num, by omega, pz2, rz2, yz2⟩ | ((repeat apply Exists.intro); exact ⟨⟨i + 1, _, by go_num, by omega, pz2, rz2, yz2⟩, rfl⟩)
              case measure => simp [intOf]; omega
          · by_cases e4 : kd = 4
            · subst e4
              go_wp2_with fail
              refine Calls.mono (HC4.out _ P1.out) ?_; rintro e z5 ⟨rfl, p5, k5⟩
              have r5 := kB.out _ _ k5 R1.out
              have y5 := Y1.out.own k5 lB.out
              go_wp2_with fail
              refine Calls.mono (HX4.out _ r5) ?_; rintro e z6 ⟨rfl, r6, k6⟩
              have pz := kR.out _ _ _ k6 p5
              have rz := r6
              have yz := y5.own k6 lR.out
              clear p5 r5 r6 y5 k5 k6 O1 P1 R1 Y1 c0 c1 c2 c3
              go_wp2_with fail
              refine Calls.mono (HPc.out _ _ pz rz) ?_; rintro e z1 ⟨rfl, q1⟩
              have pz1 := pz.kept q1 id
              have rz1 := RW.kept rz q1 (fun _ _ _ f => f)
              have yz1 := yz.and q1
              clear pz rz yz q1
              go_wp2_with fail
              refine Calls.mono (HPx.out _ _ rz1) ?_; rintro e z2 ⟨rfl, q2⟩
              have pz2 := pz1.kept q2 id
              have rz2 := RW.kept rz1 q2 (fun _ _ _ f => f)
              have yz2 := yz1.and q2
              clear pz1 rz1 yz1 q2
              go_wp2
              go_roundw
              case rel => first | exact ⟨i + 1, _, by go_num, by omega, pz2, rz2, yz2⟩ | ((repeat apply Exists.intro); exact ⟨⟨i + 1, _, by go_num, by omega, pz2, rz2, yz2⟩, rfl⟩)
              case measure => simp [intOf]; omega
            · have m1' : (kd == 1) = false := by simpa using e1
              have m2' : (kd == 2) = false := by simpa using e2
              have m3' : (kd == 3) = false := by simpa using e3
              have m4' : (kd == 4) = false := by simpa using e4
              have pz := P1.out
              have rz := R1.out
              have yz := Y1.out
              go_wp2_with fail
              refine Calls.mono (HPc.out _ _ pz rz) ?_; rintro e z1 ⟨rfl, q1⟩
              have pz1 := pz.kept q1 id
              have rz1 := RW.kept rz q1 (fun _ _ _ f => f)
              have yz1 := yz.and q1
              clear pz rz yz q1
              go_wp2_with fail
              refine Calls.mono (HPx.out _ _ rz1) ?_; rintro e z2 ⟨rfl, q2⟩
              have pz2 := pz1.kept q2 id
              have rz2 := RW.kept rz1 q2 (fun _ _ _ f => f)
              have yz2 := yz1.and q2
              clear pz1 rz1 yz1 q2
              go_wp2
              go_roundw
              case rel => first | exact ⟨i + 1, _, by go_num, by omega, pz2, rz2, yz2⟩ | ((repeat apply Exists.intro); exact ⟨⟨i + 1, _, by go_num, by omega, pz2, rz2, yz2⟩, rfl⟩)
              case measure => simp [intOf]; omega
    · go_wp2
      go_ret
      exact ⟨rfl, HB.out _ kr⟩
end Go.Proofs.Ytfpgijdfbgfkcaa
