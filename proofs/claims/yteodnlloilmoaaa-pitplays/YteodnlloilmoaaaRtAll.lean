/- The document's timer, whole, beside the plain one. -/
import Derived.Test.YteodnlloilmoaaaRtCmd
import Derived.Test.YteodnlloilmoaaaRtOut
import Derived.Test.YteodnlloilmoaaaRtIn
import Derived.Test.YteodnlloilmoaaaRtNew
import Derived.Test.YteodnlloilmoaaaRtRel
namespace Go.Proofs.Yteodnlloilmoaaa
open Go.ChangeShapes Go.WideShapes Go.ChangeAt Go.RowKit
set_option linter.unusedVariables false

structure RW (w : World) (R : Nat) (f : Nat → Cn) : Prop where
  ex : ∃ g, RAt w R g ∧ ∀ j, j < 3 → Rel (g j) (f j)
  ok : Oks f

theorem RW.kept {S : Nat → Prop} {w w' : World} {R : Nat} {f : Nat → Cn} (h : RW w R f) (k : Kp S w w') (hS : ¬ S R) : RW w' R f := by
  obtain ⟨g, a, b⟩ := h.ex
  exact ⟨⟨g, a.kept k hS, b⟩, h.ok⟩
theorem RW.lt {w : World} {R : Nat} {f : Nat → Cn} (h : RW w R f) : R < w.heap.size := by
  obtain ⟨g, a, b⟩ := h.ex
  exact a.lt
theorem RW.drew {w : World} {R : Nat} {f : Nat → Cn} (h : RW w R f) : RW w.drew R f := h.kept (Kp.refl noB w).drew id

theorem relU {g : Nat → RC} {f : Nat → Cn} (h : ∀ j, j < 3 → Rel (g j) (f j)) (i : Nat) {r : RC} {c : Cn} (k : Rel r c) : ∀ j, j < 3 → Rel (updR g i r j) (upd f i c j) := by
  intro j hj
  by_cases e : j = i
  · subst e; rw [updR_at, upd_at]; exact k
  · rw [updR_ne _ _ e, upd_ne _ _ e]; exact h j hj

theorem rel_len {r : RC} {c : Cn} (h : Rel r c) (k : c.Ok) : 1 ≤ r.len ∧ r.len ≤ 65536 := by rw [h.len]; exact k.whole

theorem rcmd_3 (w : World) (R : Nat) (v now : Int) (v0 : 0 ≤ v) (hn : v / 64 = 3) : Calls Try.prog 21 #[.pointer (some ⟨R, 0, none⟩), .int .u8 v, .int .u64 now] w fun e w' => e = .returned (.tuple #[]) ∧ w' = w := by
  have d1 : v.tdiv 64 = 3 := by rw [Int.tdiv_eq_ediv_of_nonneg v0]; exact hn
  go_enter Try.func21, Try.ntmps21
  go_wp2
  refine bodyPost_ret (results_none rfl _ _ _) rfl ?_
  exact ⟨rfl, rfl⟩

theorem three_i {v : Int} (v0 : 0 ≤ v) (v1 : v < 256) (h : ¬ v / 64 = 3) : ∃ i : Nat, i < 3 ∧ v / 64 = i ∧ (v / 64).toNat = i := ⟨(v / 64).toNat, by omega, by omega, rfl⟩

theorem xcmd (w : World) (R : Nat) (f : Nat → Cn) (h : RW w R f) (v now : Int) (v0 : 0 ≤ v) (v1 : v < 256) : Calls Try.prog 21 #[.pointer (some ⟨R, 0, none⟩), .int .u8 v, .int .u64 now] w fun e w' => e = .returned (.tuple #[]) ∧ RW w' R (cmdF f v now) ∧ Kp (isB R) w w' := by
  obtain ⟨g, hA, hr⟩ := h.ex
  have ok2 : Oks (cmdF f v now) := h.ok.cmd v0 v1
  unfold cmdF at ok2 ⊢
  by_cases e3 : v / 64 = 3
  · rw [if_pos e3]
    exact (rcmd_3 w R v now v0 e3).mono fun e w' ⟨a, b⟩ => ⟨a, b ▸ h, b ▸ Kp.refl _ _⟩
  · rw [if_neg e3] at ok2 ⊢
    obtain ⟨i, hi, hn, hi'⟩ := three_i v0 v1 e3
    rw [hi'] at ok2 ⊢
    have rl := hr i hi
    have ll := rel_len rl (h.ok i)
    by_cases eb : v / 16 % 4 = 0
    · rw [if_pos eb] at ok2 ⊢
      cases eh : (g i).held
      · have H : Calls Try.prog 21 #[.pointer (some ⟨R, 0, none⟩), .int .u8 v, .int .u64 now] w fun e w' => e = .returned (.tuple #[]) ∧ RAt w' R (updR g i ⟨(g i).mode, (g i).how, (g i).len, (g i).began, (g i).st, (g i).wants, (g i).fst, (g i).upper, true, (g i).val now⟩) ∧ Kp (isB R) w w' := by
          rcases (by omega : i = 0 ∨ i = 1 ∨ i = 2) with rfl | rfl | rfl
          · exact rcmdH_0 w R g _ hA rfl v now v0 v1 hn ll.1 ll.2 eb eh _ rfl
          · exact rcmdH_1 w R g _ hA rfl v now v0 v1 hn ll.1 ll.2 eb eh _ rfl
          · exact rcmdH_2 w R g _ hA rfl v now v0 v1 hn ll.1 ll.2 eb eh _ rfl
        exact H.mono fun e w' ⟨a, b, c⟩ => ⟨a, ⟨⟨_, b, relU hr i (rl.holdF (h.ok i) now eh)⟩, ok2⟩, c⟩
      · have H : Calls Try.prog 21 #[.pointer (some ⟨R, 0, none⟩), .int .u8 v, .int .u64 now] w fun e w' => e = .returned (.tuple #[]) ∧ RAt w' R (updR g i (g i)) ∧ Kp (isB R) w w' := by
          rcases (by omega : i = 0 ∨ i = 1 ∨ i = 2) with rfl | rfl | rfl
          · exact rcmdT_0 w R g _ hA rfl v now v0 v1 hn eb eh
          · exact rcmdT_1 w R g _ hA rfl v now v0 v1 hn eb eh
          · exact rcmdT_2 w R g _ hA rfl v now v0 v1 hn eb eh
        exact H.mono fun e w' ⟨a, b, c⟩ => ⟨a, ⟨⟨_, b, relU hr i (rl.holdT now eh)⟩, ok2⟩, c⟩
    · rw [if_neg eb] at ok2 ⊢
      have H : Calls Try.prog 21 #[.pointer (some ⟨R, 0, none⟩), .int .u8 v, .int .u64 now] w fun e w' => e = .returned (.tuple #[]) ∧ RAt w' R (updR g i ⟨md (v / 2 % 8), v / 16 % 4, (g i).len, (g i).began, true, false, (g i).fst, (v / 16 % 4 == 2), false, (g i).value⟩) ∧ Kp (isB R) w w' := by
        unfold md
        by_cases e5 : 5 < v / 2 % 8
        · rw [if_pos e5]
          rcases (by omega : i = 0 ∨ i = 1 ∨ i = 2) with rfl | rfl | rfl
          · exact rcmdSg_0 w R g _ hA rfl v now v0 v1 hn _ _ rfl eb rfl e5
          · exact rcmdSg_1 w R g _ hA rfl v now v0 v1 hn _ _ rfl eb rfl e5
          · exact rcmdSg_2 w R g _ hA rfl v now v0 v1 hn _ _ rfl eb rfl e5
        · rw [if_neg e5]
          rcases (by omega : i = 0 ∨ i = 1 ∨ i = 2) with rfl | rfl | rfl
          · exact rcmdSl_0 w R g _ hA rfl v now v0 v1 hn _ _ rfl eb rfl e5
          · exact rcmdSl_1 w R g _ hA rfl v now v0 v1 hn _ _ rfl eb rfl e5
          · exact rcmdSl_2 w R g _ hA rfl v now v0 v1 hn _ _ rfl eb rfl e5
      exact H.mono fun e w' ⟨a, b, c⟩ => ⟨a, ⟨⟨_, b, relU hr i (rl.set _ _)⟩, ok2⟩, c⟩

theorem xout_3 (w : World) (R : Nat) (f : Nat → Cn) (h : RW w R f) (v now : Int) (v0 : 0 ≤ v) (v1 : v < 256) : Calls Try.prog 12 #[.pointer (some ⟨R, 0, none⟩), .int .i64 3, .int .u8 v, .int .u64 now] w fun e w' => e = .returned (.int .i64 0) ∧ RW w' R (cmdF f v now) ∧ Kp (isB R) w w' := by
  have H : Hid _ := xcmd w R f h v now v0 v1
  go_enter Try.func12, Try.ntmps12
  go_wp2_with fail
  refine Calls.mono H.out ?_; rintro e w1 ⟨rfl, h1, k1⟩
  go_wp2
  go_ret
  exact ⟨rfl, h1, k1⟩

theorem rout_no (w : World) (R : Nat) (p v now : Int) (h : p < 0 ∨ 4 ≤ p) : Calls Try.prog 12 #[.pointer (some ⟨R, 0, none⟩), .int .i64 p, .int .u8 v, .int .u64 now] w fun e w' => e = .returned (.int .i64 1) ∧ w' = w := by
  by_cases g : p < 0
  · have d0 : decide (p < 0) = true := by simp [g]
    go_enter Try.func12, Try.ntmps12
    go_wp2
    go_ret
    exact ⟨rfl, rfl⟩
  · have d0 : decide (p < 0) = false := by simp; omega
    have d1 : decide (3 < p) = true := by simp; omega
    go_enter Try.func12, Try.ntmps12
    go_wp2
    go_ret
    exact ⟨rfl, rfl⟩

theorem rin_no (w : World) (R : Nat) (p now : Int) (h : p < 0 ∨ 4 ≤ p) : Calls Try.prog 14 #[.pointer (some ⟨R, 0, none⟩), .int .i64 p, .int .u64 now] w fun e w' => e = .returned (.tuple #[.int .u8 0, .int .i64 1]) ∧ w' = w := by
  by_cases g : p < 0
  · have d0 : decide (p < 0) = true := by simp [g]
    go_enter Try.func14, Try.ntmps14
    go_wp2
    go_ret2
    exact ⟨rfl, rfl⟩
  · have d0 : decide (p < 0) = false := by simp; omega
    have d1 : decide (3 < p) = true := by simp; omega
    go_enter Try.func14, Try.ntmps14
    go_wp2
    go_ret2
    exact ⟨rfl, rfl⟩

theorem rin_3 (w : World) (R : Nat) (now : Int) : Calls Try.prog 14 #[.pointer (some ⟨R, 0, none⟩), .int .i64 3, .int .u64 now] w fun e w' => e = .returned (.tuple #[.int .u8 255, .int .i64 0]) ∧ w' = w := by
  go_enter Try.func14, Try.ntmps14
  go_wp2
  go_ret2
  exact ⟨rfl, rfl⟩

/-- A counter is written. -/
theorem xwrite (w : World) (R : Nat) (f : Nat → Cn) (h : RW w R f) (i : Nat) (hi : i < 3) (p : Int) (hp : p = i) (v now : Int) (v0 : 0 ≤ v) (v1 : v < 256) (n0 : 0 ≤ now) (n1 : now < 18446744073709551616) : Calls Try.prog 12 #[.pointer (some ⟨R, 0, none⟩), .int .i64 p, .int .u8 v, .int .u64 now] w fun e w' => e = .returned (.int .i64 0) ∧ RW w' R (upd f i ((f i).write v now)) ∧ Kp (isB R) w w' := by
  obtain ⟨g, hA, hr⟩ := h.ex
  have ok2 : Oks (upd f i ((f i).write v now)) := h.ok.upd i ((h.ok i).write v0 v1 n0 n1)
  have rl := hr i hi
  have hh := (h.ok i).how
  rw [← rl.how] at hh
  have H : ∃ r', Rel r' ((f i).write v now) ∧ Calls Try.prog 12 #[.pointer (some ⟨R, 0, none⟩), .int .i64 p, .int .u8 v, .int .u64 now] w fun e w' => e = .returned (.int .i64 0) ∧ RAt w' R (updR g i r') ∧ Kp (isB R) w w' := by
    by_cases e3 : (g i).how = 3
    · cases ew : (g i).wants
      · refine ⟨_, rl.first v now e3 ew, ?_⟩
        subst hp
        rcases (by omega : i = 0 ∨ i = 1 ∨ i = 2) with rfl | rfl | rfl
        · exact routF_0 w R g _ hA rfl v now v0 v1 e3 ew
        · exact routF_1 w R g _ hA rfl v now v0 v1 e3 ew
        · exact routF_2 w R g _ hA rfl v now v0 v1 e3 ew
      · have ff := (h.ok i).fst
        have ew' : (f i).wants = true := rl.wants ▸ ew
        rw [← rl.fst ew'] at ff
        by_cases ez : v * 256 + (g i).fst = 0
        · refine ⟨_, rl.w3 v now 65536 e3 ew (by rw [if_pos ez]), ?_⟩
          subst hp
          rcases (by omega : i = 0 ∨ i = 1 ∨ i = 2) with rfl | rfl | rfl
          · exact rout3z_0 w R g _ hA rfl v now v0 v1 e3 ez ew ff.1 ff.2
          · exact rout3z_1 w R g _ hA rfl v now v0 v1 e3 ez ew ff.1 ff.2
          · exact rout3z_2 w R g _ hA rfl v now v0 v1 e3 ez ew ff.1 ff.2
        · refine ⟨_, rl.w3 v now _ e3 ew (by rw [if_neg ez]), ?_⟩
          subst hp
          rcases (by omega : i = 0 ∨ i = 1 ∨ i = 2) with rfl | rfl | rfl
          · exact rout3n_0 w R g _ hA rfl v now v0 v1 e3 ez ew ff.1 ff.2
          · exact rout3n_1 w R g _ hA rfl v now v0 v1 e3 ez ew ff.1 ff.2
          · exact rout3n_2 w R g _ hA rfl v now v0 v1 e3 ez ew ff.1 ff.2
    · by_cases e1 : (g i).how = 1
      · by_cases ez : v = 0
        · refine ⟨_, rl.w1 v now 65536 e1 (by rw [if_pos ez]), ?_⟩
          subst hp
          rcases (by omega : i = 0 ∨ i = 1 ∨ i = 2) with rfl | rfl | rfl
          · exact rout1z_0 w R g _ hA rfl v now v0 v1 e1 ez
          · exact rout1z_1 w R g _ hA rfl v now v0 v1 e1 ez
          · exact rout1z_2 w R g _ hA rfl v now v0 v1 e1 ez
        · refine ⟨_, rl.w1 v now _ e1 (by rw [if_neg ez]), ?_⟩
          subst hp
          rcases (by omega : i = 0 ∨ i = 1 ∨ i = 2) with rfl | rfl | rfl
          · exact rout1n_0 w R g _ hA rfl v now v0 v1 e1 ez
          · exact rout1n_1 w R g _ hA rfl v now v0 v1 e1 ez
          · exact rout1n_2 w R g _ hA rfl v now v0 v1 e1 ez
      · have e2 : (g i).how = 2 := by omega
        by_cases ez : v * 256 = 0
        · refine ⟨_, rl.w2 v now 65536 e2 (by rw [if_pos ez]), ?_⟩
          subst hp
          rcases (by omega : i = 0 ∨ i = 1 ∨ i = 2) with rfl | rfl | rfl
          · exact rout2z_0 w R g _ hA rfl v now v0 v1 e2 ez
          · exact rout2z_1 w R g _ hA rfl v now v0 v1 e2 ez
          · exact rout2z_2 w R g _ hA rfl v now v0 v1 e2 ez
        · refine ⟨_, rl.w2 v now _ e2 (by rw [if_neg ez]), ?_⟩
          subst hp
          rcases (by omega : i = 0 ∨ i = 1 ∨ i = 2) with rfl | rfl | rfl
          · exact rout2n_0 w R g _ hA rfl v now v0 v1 e2 ez
          · exact rout2n_1 w R g _ hA rfl v now v0 v1 e2 ez
          · exact rout2n_2 w R g _ hA rfl v now v0 v1 e2 ez
  obtain ⟨r', k, H⟩ := H
  exact H.mono fun e w' ⟨a, b, c⟩ => ⟨a, ⟨⟨_, b, relU hr i k⟩, ok2⟩, c⟩

theorem xOut (w : World) (R : Nat) (f : Nat → Cn) (h : RW w R f) (p v now : Int) (p0 : 0 ≤ p) (p1 : p < 4) (v0 : 0 ≤ v) (v1 : v < 256) (n0 : 0 ≤ now) (n1 : now < 18446744073709551616) : Calls Try.prog 12 #[.pointer (some ⟨R, 0, none⟩), .int .i64 p, .int .u8 v, .int .u64 now] w fun e w' => e = .returned (.int .i64 0) ∧ RW w' R (outF f p v now) ∧ Kp (isB R) w w' := by
  unfold outF
  by_cases e : p = 3
  · subst e
    rw [if_pos rfl]
    exact xout_3 w R f h v now v0 v1
  · rw [if_neg e]
    exact xwrite w R f h p.toNat (by omega) p (by omega) v now v0 v1 n0 n1
end Go.Proofs.Yteodnlloilmoaaa
