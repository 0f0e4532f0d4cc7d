/- The contract of 'find': an opcode's rule, or none. -/
import Derived.Test.YtolnaodlghahlaaGreatDoorDecMap
namespace Go.Proofs.YtolnaodlghahlaaGreatDoor
open Go.ChangeShapes Go.WideShapes Go.ChangeAt Go.RowKit
set_option linter.unusedVariables false

def rowOf (op : Int) : Option Nat :=
  if op / 32 = 0 ∨ op / 32 = 1 then look (L00 (op - op % 8)) op else if op / 32 = 2 ∨ op / 32 = 3 then look (L40 (op % 8) (op % 16)) op
  else if op / 32 = 4 then (if op = 144 then some 126 else look (L80 (op % 8)) op) else if op / 32 = 5 then look (LA0 (op % 8)) op
  else if op / 32 = 6 then look LC0 op else if op / 32 = 7 then look LE0 op else look (L0F (op % 8) (op % 16)) op

theorem andNot7 : ∀ k : Fin 64, bits .andNot .i64 ((k : Nat) : Int) 7 = ((k : Nat) : Int) - ((k : Nat) : Int) % 8 := by decide +kernel

theorem md_kp (w : World) (L : List (Int × Nat)) : Kp noB w (md w L) := (Kp.alloc _ _ _).drewN 1
theorem mp_kp (w : World) (L : List (Int × Nat)) : Kp noB w (mp w L) := Kp.alloc _ _ _

theorem look_upd9 {L : List (Int × Nat)} (n : (L.map Prod.fst).Nodup) (i : Int) : look (upd9 L) i = if i = 144 then some 126 else look L i := by
  unfold upd9
  split
  · rename_i h; exact look_upd L 144 _ i h
  · rename_i h
    have key : ∀ (M : List (Int × Nat)), (¬ ∃ e ∈ M, e.1 = 144) → look (M ++ [(144, 126)]) i = if i = 144 then some 126 else look M i := by
      intro M
      induction M with
      | nil => intro _; simp [look]
      | cons x r ih =>
        intro hM
        have hx : ¬ x.1 = 144 := fun e => hM ⟨x, by simp, e⟩
        have hr : ¬ ∃ e ∈ r, e.1 = 144 := fun ⟨e, he, hk⟩ => hM ⟨e, by simp [he], hk⟩
        simp only [List.cons_append, look, ih hr]
        by_cases hi : i = x.1
        · have : ¬ i = 144 := fun e => hx (by rw [← hi]; exact e)
          simp [hi, hx]
        · simp [hi]
    exact key L h

set_option maxHeartbeats 4000000 in
theorem find_ok (w : World) (op : Int) (h0 : 0 ≤ op) (h1 : op < 4096) :
    Calls Tryz.prog 20 #[.int .i64 op] w fun e w' => e = .returned (rvN (rowOf op)) ∧ Kp noB w w' := by
  obtain ⟨V, hV⟩ : ∃ V, V = rowOf op := ⟨_, rfl⟩
  rw [← hV]
  have HV : Hid (V = rowOf op) := hV
  clear hV
  have hr := and7 op
  have hc := and15 op
  obtain ⟨q, hq⟩ : ∃ q, op / 32 = q := ⟨_, rfl⟩
  have c8 : op % 8 = 0 ∨ op % 8 = 1 ∨ op % 8 = 2 ∨ op % 8 = 3 ∨ op % 8 = 4 ∨ op % 8 = 5 ∨ op % 8 = 6 ∨ op % 8 = 7 := by omega
  have c16 : (op % 8 = 0 ∧ op % 16 = 0) ∨ (op % 8 = 1 ∧ op % 16 = 1) ∨ (op % 8 = 2 ∧ op % 16 = 2) ∨ (op % 8 = 3 ∧ op % 16 = 3) ∨ (op % 8 = 4 ∧ op % 16 = 4) ∨ (op % 8 = 5 ∧ op % 16 = 5) ∨ (op % 8 = 6 ∧ op % 16 = 6) ∨ (op % 8 = 7 ∧ op % 16 = 7) ∨ (op % 8 = 0 ∧ op % 16 = 8) ∨ (op % 8 = 1 ∧ op % 16 = 9) ∨ (op % 8 = 2 ∧ op % 16 = 10) ∨ (op % 8 = 3 ∧ op % 16 = 11) ∨ (op % 8 = 4 ∧ op % 16 = 12) ∨ (op % 8 = 5 ∧ op % 16 = 13) ∨ (op % 8 = 6 ∧ op % 16 = 14) ∨ (op % 8 = 7 ∧ op % 16 = 15) := by
    have g : op % 16 = 0 ∨ op % 16 = 1 ∨ op % 16 = 2 ∨ op % 16 = 3 ∨ op % 16 = 4 ∨ op % 16 = 5 ∨ op % 16 = 6 ∨ op % 16 = 7 ∨ 8 ≤ op % 16 := by omega
    have g2 : 8 ≤ op % 16 → op % 16 = 8 ∨ op % 16 = 9 ∨ op % 16 = 10 ∨ op % 16 = 11 ∨ op % 16 = 12 ∨ op % 16 = 13 ∨ op % 16 = 14 ∨ op % 16 = 15 := by clear g c8; omega
    clear c8
    rcases g with g | g | g | g | g | g | g | g | g
    iterate 8
      · have e : op % 8 = op % 16 := by omega
        simp [e, g]
    · have e : op % 8 = op % 16 - 8 := by omega
      rcases g2 g with k | k | k | k | k | k | k | k <;> simp [e, k]
  have H8 : Hid _ := c8
  have H16 : Hid _ := c16
  clear c8 c16
  by_cases q01 : q = 0 ∨ q = 1
  · have ha : bits .andNot .i64 op 7 = op - op % 8 := by
      have e := andNot7 ⟨op.toNat, by omega⟩
      simp only [Int.toNat_of_nonneg h0] at e
      exact e
    have cF := from00_ok w op (op - op % 8) (by omega) ha (by omega) (by omega)
    have hVe : V = look (L00 (op - op % 8)) op := by rw [HV.out]; unfold rowOf; rw [hq, if_pos q01]
    have nd := nd00 (op - op % 8) (by omega)
    have HE : Hid _ := hVe
    have HN : Hid _ := nd
    clear hr hc ha hVe nd
    rcases q01 with rfl | rfl
    all_goals
      go_enter Tryz.func20, Tryz.ntmps20
      go_wp2_with fail
      refine cF.mono ?_; rintro e w1 ⟨rfl, L, hL, hn, hw⟩; subst hw
      have hlk := look_md w L op
      rw [look_same hL hn HN.out op, ← HE.out] at hlk
      have hk := md_kp w L
      clear hL hn cF
      go_wp2
      go_ret
      exact ⟨rfl, hk⟩
  by_cases q23 : q = 2 ∨ q = 3
  · have cF := from40_ok w op (op % 8) (op % 16) H16.out hr (by omega) (by omega) hc (by omega) (by omega)
    have hVe : V = look (L40 (op % 8) (op % 16)) op := by rw [HV.out]; unfold rowOf; rw [hq, if_neg q01, if_pos q23]
    have nd := nd40 (op % 8) (op % 16) H16.out
    have HE : Hid _ := hVe
    have HN : Hid _ := nd
    clear hr hc hVe nd q01
    rcases q23 with rfl | rfl
    all_goals
      go_enter Tryz.func20, Tryz.ntmps20
      go_wp2_with fail
      refine cF.mono ?_; rintro e w1 ⟨rfl, L, hL, hn, hw⟩; subst hw
      have hlk := look_md w L op
      rw [look_same hL hn HN.out op, ← HE.out] at hlk
      have hk := md_kp w L
      clear hL hn cF
      go_wp2
      go_ret
      exact ⟨rfl, hk⟩
  by_cases q4 : q = 4
  · subst q4
    have cF := from80_ok w op (op % 8) H8.out hr (by omega) (by omega)
    have hVe : V = if op = 144 then some 126 else look (L80 (op % 8)) op := by rw [HV.out]; unfold rowOf; rw [hq, if_neg q01, if_neg q23, if_pos rfl]
    have nd := nd80 (op % 8) H8.out
    have HE : Hid _ := hVe
    have HN : Hid _ := nd
    clear hr hc hVe nd q01 q23
    go_enter Tryz.func20, Tryz.ntmps20
    go_wp2_with fail
    refine cF.mono ?_; rintro e w1 ⟨rfl, L, hL, hn, hw⟩; subst hw
    have hlk := look_md w (upd9 L) op
    rw [look_upd9 hn, look_same hL hn HN.out op, ← HE.out] at hlk
    have hk := md_kp w (upd9 L)
    clear hL hn cF
    go_wp2
    go_ret
    exact ⟨rfl, hk⟩
  by_cases q5 : q = 5
  · subst q5
    have cF := fromA0_ok w op (op % 8) H8.out hr (by omega) (by omega)
    have hVe : V = look (LA0 (op % 8)) op := by rw [HV.out]; unfold rowOf; rw [hq, if_neg q01, if_neg q23, if_neg q4, if_pos rfl]
    have nd := ndA0 (op % 8) H8.out
    have HE : Hid _ := hVe
    have HN : Hid _ := nd
    clear hr hc hVe nd q01 q23 q4
    go_enter Tryz.func20, Tryz.ntmps20
    go_wp2_with fail
    refine cF.mono ?_; rintro e w1 ⟨rfl, L, hL, hn, hw⟩; subst hw
    have hlk := look_md w L op
    rw [look_same hL hn HN.out op, ← HE.out] at hlk
    have hk := md_kp w L
    clear hL hn cF
    go_wp2
    go_ret
    exact ⟨rfl, hk⟩
  by_cases q6 : q = 6
  · subst q6
    have cF := fromC0_ok w
    have hVe : V = look LC0 op := by rw [HV.out]; unfold rowOf; rw [hq, if_neg q01, if_neg q23, if_neg q4, if_neg q5, if_pos rfl]
    have HE : Hid _ := hVe
    clear hr hc hVe q01 q23 q4 q5
    go_enter Tryz.func20, Tryz.ntmps20
    go_wp2_with fail
    refine cF.mono ?_; rintro e w1 ⟨rfl, hw⟩; subst hw
    have hlk := look_mp w LC0 op
    rw [← HE.out] at hlk
    have hk := mp_kp w LC0
    clear cF
    go_wp2
    go_ret
    exact ⟨rfl, hk⟩
  by_cases q7 : q = 7
  · subst q7
    have cF := fromE0_ok w
    have hVe : V = look LE0 op := by rw [HV.out]; unfold rowOf; rw [hq, if_neg q01, if_neg q23, if_neg q4, if_neg q5, if_neg q6, if_pos rfl]
    have HE : Hid _ := hVe
    clear hr hc hVe q01 q23 q4 q5 q6
    go_enter Tryz.func20, Tryz.ntmps20
    go_wp2_with fail
    refine cF.mono ?_; rintro e w1 ⟨rfl, hw⟩; subst hw
    have hlk := look_mp w LE0 op
    rw [← HE.out] at hlk
    have hk := mp_kp w LE0
    clear cF
    go_wp2
    go_ret
    exact ⟨rfl, hk⟩
  · have cF := from0F_ok w op (op % 8) (op % 16) H16.out hr (by omega) (by omega) hc (by omega) (by omega)
    have hVe : V = look (L0F (op % 8) (op % 16)) op := by rw [HV.out]; unfold rowOf; rw [hq, if_neg q01, if_neg q23, if_neg q4, if_neg q5, if_neg q6, if_neg q7]
    have nd := nd0F (op % 8) (op % 16) H16.out
    have HE : Hid _ := hVe
    have HN : Hid _ := nd
    have n0 : (q == 0) = false := by simp; omega
    have n1 : (q == 1) = false := by simp; omega
    have n2 : (q == 2) = false := by simp; omega
    have n3 : (q == 3) = false := by simp; omega
    have n4 : (q == 4) = false := by simp; omega
    have n5 : (q == 5) = false := by simp; omega
    have n6 : (q == 6) = false := by simp; omega
    have n7 : (q == 7) = false := by simp; omega
    clear hr hc hVe nd q01 q23
    go_enter Tryz.func20, Tryz.ntmps20
    go_wp2_with fail
    refine cF.mono ?_; rintro e w1 ⟨rfl, L, hL, hn, hw⟩; subst hw
    have hlk := look_md w L op
    rw [look_same hL hn HN.out op, ← HE.out] at hlk
    have hk := md_kp w L
    clear hL hn cF
    go_wp2
    go_ret
    exact ⟨rfl, hk⟩

end Go.Proofs.YtolnaodlghahlaaGreatDoor
