/- The document's timer, whole: In, Line, New. -/
import Derived.Test.YteodnlloilmoaaaRtAll
namespace Go.Proofs.Yteodnlloilmoaaa
open Go.ChangeShapes Go.WideShapes Go.ChangeAt Go.RowKit
set_option linter.unusedVariables false

theorem xread (w : World) (R : Nat) (f : Nat → Cn) (h : RW w R f) (i : Nat) (hi : i < 3) (p : Int) (hp : p = i) (now : Int) : Calls Try.prog 14 #[.pointer (some ⟨R, 0, none⟩), .int .i64 p, .int .u64 now] w fun e w' => e = .returned (.tuple #[.int .u8 ((f i).told now), .int .i64 0]) ∧ RW w' R (upd f i (f i).read) ∧ Kp (isB R) w w' := by
  obtain ⟨g, hA, hr⟩ := h.ex
  have ok2 : Oks (upd f i (f i).read) := h.ok.upd i (h.ok i).read
  have rl := hr i hi
  have ll := rel_len rl (h.ok i)
  have bA : 0 ≤ (g i).val now ∧ (g i).val now < 65536 := by rw [rl.val (h.ok i) now]; exact (f i).value_bd now
  have bV : (g i).held = true → 0 ≤ (g i).value ∧ (g i).value < 65536 := fun e => by rw [rl.value (rl.held ▸ e)]; exact (h.ok i).held
  have H : ∃ u d, u = (if (g i).how = 3 then !(g i).upper else (g i).upper) ∧ d = (if ¬ (g i).how = 3 ∨ (g i).upper = true then false else (g i).held) ∧ Calls Try.prog 14 #[.pointer (some ⟨R, 0, none⟩), .int .i64 p, .int .u64 now] w fun e w' => e = .returned (.tuple #[.int .u8 (if (g i).upper then (if (g i).held then (g i).value else (g i).val now) / 256 else (if (g i).held then (g i).value else (g i).val now) % 256), .int .i64 0]) ∧ RAt w' R (updR g i ⟨(g i).mode, (g i).how, (g i).len, (g i).began, (g i).st, (g i).wants, (g i).fst, u, d, (g i).value⟩) ∧ Kp (isB R) w w' := by
    subst hp
    cases eh : (g i).held <;> cases eu : (g i).upper <;> by_cases e3 : (g i).how = 3
    · refine ⟨true, false, by simp [e3], by simp [e3], ?_⟩
      simp only [Bool.false_eq_true, if_false]
      rcases (by omega : i = 0 ∨ i = 1 ∨ i = 2) with rfl | rfl | rfl
      · have H := rinn3l_0 w R g _ hA rfl now ll.1 ll.2 _ _ rfl rfl bA.1 bA.2 eh e3 eu
        rw [eh] at H; exact H
      · have H := rinn3l_1 w R g _ hA rfl now ll.1 ll.2 _ _ rfl rfl bA.1 bA.2 eh e3 eu
        rw [eh] at H; exact H
      · have H := rinn3l_2 w R g _ hA rfl now ll.1 ll.2 _ _ rfl rfl bA.1 bA.2 eh e3 eu
        rw [eh] at H; exact H
    · refine ⟨false, false, by simp [e3], by simp [e3], ?_⟩
      simp only [Bool.false_eq_true, if_false]
      rcases (by omega : i = 0 ∨ i = 1 ∨ i = 2) with rfl | rfl | rfl
      · have H := rinnxl_0 w R g _ hA rfl now ll.1 ll.2 _ _ rfl rfl bA.1 bA.2 eh e3 eu
        rw [eu] at H; exact H
      · have H := rinnxl_1 w R g _ hA rfl now ll.1 ll.2 _ _ rfl rfl bA.1 bA.2 eh e3 eu
        rw [eu] at H; exact H
      · have H := rinnxl_2 w R g _ hA rfl now ll.1 ll.2 _ _ rfl rfl bA.1 bA.2 eh e3 eu
        rw [eu] at H; exact H
    · refine ⟨false, false, by simp [e3], by simp [e3], ?_⟩
      simp only [Bool.false_eq_true, if_true, if_false]
      rcases (by omega : i = 0 ∨ i = 1 ∨ i = 2) with rfl | rfl | rfl
      · have H := rinn3u_0 w R g _ hA rfl now ll.1 ll.2 _ _ rfl rfl bA.1 bA.2 eh e3 eu
        exact H
      · have H := rinn3u_1 w R g _ hA rfl now ll.1 ll.2 _ _ rfl rfl bA.1 bA.2 eh e3 eu
        exact H
      · have H := rinn3u_2 w R g _ hA rfl now ll.1 ll.2 _ _ rfl rfl bA.1 bA.2 eh e3 eu
        exact H
    · refine ⟨true, false, by simp [e3], by simp [e3], ?_⟩
      simp only [Bool.false_eq_true, if_true, if_false]
      rcases (by omega : i = 0 ∨ i = 1 ∨ i = 2) with rfl | rfl | rfl
      · have H := rinnxu_0 w R g _ hA rfl now ll.1 ll.2 _ _ rfl rfl bA.1 bA.2 eh e3 eu
        rw [eu] at H; exact H
      · have H := rinnxu_1 w R g _ hA rfl now ll.1 ll.2 _ _ rfl rfl bA.1 bA.2 eh e3 eu
        rw [eu] at H; exact H
      · have H := rinnxu_2 w R g _ hA rfl now ll.1 ll.2 _ _ rfl rfl bA.1 bA.2 eh e3 eu
        rw [eu] at H; exact H
    · refine ⟨true, true, by simp [e3], by simp [e3], ?_⟩
      simp only [Bool.false_eq_true, if_true, if_false]
      rcases (by omega : i = 0 ∨ i = 1 ∨ i = 2) with rfl | rfl | rfl
      · have H := rinh3l_0 w R g _ hA rfl now ll.1 ll.2 _ _ rfl rfl (bV eh).1 (bV eh).2 eh e3 eu
        rw [eh] at H; exact H
      · have H := rinh3l_1 w R g _ hA rfl now ll.1 ll.2 _ _ rfl rfl (bV eh).1 (bV eh).2 eh e3 eu
        rw [eh] at H; exact H
      · have H := rinh3l_2 w R g _ hA rfl now ll.1 ll.2 _ _ rfl rfl (bV eh).1 (bV eh).2 eh e3 eu
        rw [eh] at H; exact H
    · refine ⟨false, false, by simp [e3], by simp [e3], ?_⟩
      simp only [Bool.false_eq_true, if_true, if_false]
      rcases (by omega : i = 0 ∨ i = 1 ∨ i = 2) with rfl | rfl | rfl
      · have H := rinhxl_0 w R g _ hA rfl now ll.1 ll.2 _ _ rfl rfl (bV eh).1 (bV eh).2 eh e3 eu
        rw [eu] at H; exact H
      · have H := rinhxl_1 w R g _ hA rfl now ll.1 ll.2 _ _ rfl rfl (bV eh).1 (bV eh).2 eh e3 eu
        rw [eu] at H; exact H
      · have H := rinhxl_2 w R g _ hA rfl now ll.1 ll.2 _ _ rfl rfl (bV eh).1 (bV eh).2 eh e3 eu
        rw [eu] at H; exact H
    · refine ⟨false, false, by simp [e3], by simp [e3], ?_⟩
      simp only [if_true]
      rcases (by omega : i = 0 ∨ i = 1 ∨ i = 2) with rfl | rfl | rfl
      · have H := rinh3u_0 w R g _ hA rfl now ll.1 ll.2 _ _ rfl rfl (bV eh).1 (bV eh).2 eh e3 eu
        exact H
      · have H := rinh3u_1 w R g _ hA rfl now ll.1 ll.2 _ _ rfl rfl (bV eh).1 (bV eh).2 eh e3 eu
        exact H
      · have H := rinh3u_2 w R g _ hA rfl now ll.1 ll.2 _ _ rfl rfl (bV eh).1 (bV eh).2 eh e3 eu
        exact H
    · refine ⟨true, false, by simp [e3], by simp [e3], ?_⟩
      simp only [if_true]
      rcases (by omega : i = 0 ∨ i = 1 ∨ i = 2) with rfl | rfl | rfl
      · have H := rinhxu_0 w R g _ hA rfl now ll.1 ll.2 _ _ rfl rfl (bV eh).1 (bV eh).2 eh e3 eu
        rw [eu] at H; exact H
      · have H := rinhxu_1 w R g _ hA rfl now ll.1 ll.2 _ _ rfl rfl (bV eh).1 (bV eh).2 eh e3 eu
        rw [eu] at H; exact H
      · have H := rinhxu_2 w R g _ hA rfl now ll.1 ll.2 _ _ rfl rfl (bV eh).1 (bV eh).2 eh e3 eu
        rw [eu] at H; exact H
  obtain ⟨u, d, hu, hd, H⟩ := H
  rw [← rl.told (h.ok i) now] at H
  exact H.mono fun e w' ⟨a, b, c⟩ => ⟨a, ⟨⟨_, b, relU hr i (rl.read (h.ok i) u d hu hd)⟩, ok2⟩, c⟩

theorem xIn (w : World) (R : Nat) (f : Nat → Cn) (h : RW w R f) (p now : Int) (p0 : 0 ≤ p) (p1 : p < 4) : Calls Try.prog 14 #[.pointer (some ⟨R, 0, none⟩), .int .i64 p, .int .u64 now] w fun e w' => e = .returned (.tuple #[.int .u8 (innV f p now), .int .i64 0]) ∧ RW w' R (innF f p) ∧ Kp (isB R) w w' := by
  unfold innV innF
  by_cases e : p = 3
  · subst e
    rw [if_pos rfl, if_pos rfl]
    exact (rin_3 w R now).mono fun e w' ⟨a, b⟩ => ⟨a, b ▸ h, b ▸ Kp.refl _ _⟩
  · rw [if_neg e, if_neg e]
    exact xread w R f h p.toNat (by omega) p (by omega) now

theorem xLine (w : World) (R : Nat) (f : Nat → Cn) (h : RW w R f) (now : Int) : Calls Try.prog 16 #[.pointer (some ⟨R, 0, none⟩), .int .u64 now] w fun e w' => e = .returned (.bool ((f 0).line now)) ∧ Kp noB w w' := by
  obtain ⟨g, hA, hr⟩ := h.ex
  have rl := hr 0 (by decide)
  have ll := rel_len rl (h.ok 0)
  rw [← rl.line now]
  exact rlin_ok w R g hA now ll.1 ll.2

theorem xNew (w : World) : Calls Try.prog 10 #[] w fun e w' => ∃ R, e = .returned (.pointer (some ⟨R, 0, none⟩)) ∧ w.heap.size ≤ R ∧ RW w' R f00 ∧ Kp noB w w' :=
  (rnew_ok w).mono fun e w' ⟨R, a, b, c, d⟩ => ⟨R, a, b, ⟨⟨_, c, fun j hj => Rel.new⟩, f00_ok⟩, d⟩
end Go.Proofs.Yteodnlloilmoaaa
