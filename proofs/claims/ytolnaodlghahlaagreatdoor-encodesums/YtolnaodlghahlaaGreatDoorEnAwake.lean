/- The head of encode's statements. -/
import Derived.Test.YtolnaodlghahlaaGreatDoorEnEnc
namespace Go.Proofs.YtolnaodlghahlaaGreatDoor
open Go.ChangeShapes Go.WideShapes Go.ChangeAt Go.RowKit
set_option linter.unusedVariables false
set_option maxRecDepth 20000

/-- Numbers that are bytes. -/
def ByL (b : List Int) : Prop := ∀ y ∈ b, 0 ≤ y ∧ y < 256

theorem ByL.byts {b : List Int} (h : ByL b) : Byts b := fun j hj => h _ (List.mem_of_getElem? (bts_get hj))
theorem ByL.app {a b : List Int} (h : ByL a) (k : ByL b) : ByL (a ++ b) := fun y hy => by
  rcases List.mem_append.1 hy with e | e
  · exact h y e
  · exact k y e
theorem ByL.nil : ByL [] := fun y hy => by cases hy
theorem ByL.one {y : Int} (h0 : 0 ≤ y) (h1 : y < 256) : ByL [y] := fun z hz => by
  simp only [List.mem_cons, List.not_mem_nil, or_false] at hz
  subst hz
  exact ⟨h0, h1⟩
theorem ByL.opc (c : Int) : ByL (opcM c) := by
  unfold opcM
  split
  · exact ByL.app (a := [15]) (ByL.one (by decide) (by decide)) (ByL.one (by omega) (by omega))
  · exact ByL.one (by omega) (by omega)
theorem ByL.num {n : Int} (h0 : 0 ≤ n) (h1 : n < 4294967296) (s : Nat) : ByL (numL n s) := fun y hy => by
  unfold numL at hy
  have := List.mem_of_mem_take hy
  simp only [List.mem_cons, List.not_mem_nil, or_false] at this
  rcases this with e | e | e | e <;> omega
theorem ByL.fld (h m l : Int) : ByL [fldM h m l] := ByL.one (fldM_bd h m l).1 (fldM_bd h m l).2

theorem bod_by {f : Fm} (h : ByL f.b) (hl : f.b.length ≤ 50) : ∀ b ∈ bodF f, ByL b ∧ b.length ≤ 60 := by
  intro b hb
  have lo := opcM_len f.code
  unfold bodF at hb
  split at hb
  · simp only [List.mem_cons, List.not_mem_nil, or_false] at hb
    subst hb
    exact ⟨(ByL.opc _).app h, by rw [List.length_append]; omega⟩
  · split at hb
    · simp only [List.mem_cons, List.not_mem_nil, or_false] at hb
      subst hb
      exact ⟨((ByL.opc _).app (ByL.fld _ _ _)).app h, by rw [List.length_append, List.length_append]; simp; omega⟩
    · cases hb

theorem ok_sum (x : Ins) (s : Nat) (hi : 0 ≤ x.b.imm ∧ x.b.imm < 4294967296) : ∀ a ∈ preE s, ∀ b ∈ (fm5 x s).flatMap bodF, OkB (a ++ b) ∧ a.length ≤ 100 ∧ b.length ≤ 100 := by
  intro a ha b hb
  have hn := numL_len x.b.imm s
  have a1 : ByL a ∧ a.length ≤ 1 := by
    unfold preE at ha
    split at ha
    · simp only [List.mem_cons, List.not_mem_nil, or_false] at ha
      rcases ha with rfl | rfl
      · exact ⟨ByL.nil, by simp⟩
      · exact ⟨ByL.one (by decide) (by decide), by simp⟩
    · simp only [List.mem_cons, List.not_mem_nil, or_false] at ha
      subst ha
      exact ⟨ByL.nil, by simp⟩
  have b1 : ByL b ∧ b.length ≤ 60 := by
    obtain ⟨f, hf, hbf⟩ := List.mem_flatMap.1 hb
    refine bod_by ?_ ?_ b hbf
    · simp only [fm5, List.mem_cons, List.not_mem_nil, or_false] at hf
      rcases hf with rfl | rfl | rfl | rfl | rfl
      · exact ByL.nil
      · exact ByL.nil
      · exact ByL.num hi.1 hi.2 s
      · exact ByL.num hi.1 hi.2 s
      · exact ByL.one (by omega) (by omega)
    · simp only [fm5, List.mem_cons, List.not_mem_nil, or_false] at hf
      rcases hf with rfl | rfl | rfl | rfl | rfl <;> simp only [List.length_nil, List.length_cons] <;> omega
  exact ⟨⟨(a1.1.app b1.1).byts, by rw [List.length_append]; omega⟩, by omega, by omega⟩

def x83 : Ins := ⟨1, 0, 4, ⟨1, 1, 4, 0, 0, 0, 0, 0, 0⟩, ⟨3, 0, 0, 0, 0, 0, 0, 0, 5⟩, Opd.zero, 0, 0⟩
def xRet : Ins := ⟨30, 0, 3, Opd.zero, Opd.zero, Opd.zero, 0, 0⟩

theorem best83 : bestM x83 (triesL (preE ((4 : Nat) : Int)) ((fm5 x83 4).flatMap bodF)) = some [131, 193, 5] := by decide +kernel

set_option maxHeartbeats 4000000 in
theorem eawake_ok (w : World) : Calls Tryz.prog 8 #[] w fun e w' => e = .returned (.bool true) ∧ Kp noB w w' := by
  have H1 : Hid (∀ W, Calls Tryz.prog 10 #[.agg (insV x83)] W fun e w' => (∃ p l c, e = .returned (.tuple #[.slice p l c, .int .i64 0]) ∧ BSl w' (.slice p l c) [131, 193, 5]) ∧ Kp noB W w') := fun W => by
    have := enc_sum W x83 4 rfl rfl (by decide) (by decide) (by decide) rfl (by decide) (by decide) (by decide) (ok_sum x83 4 (by decide))
    rw [best83] at this
    exact this
  have H2 : Hid (∀ W, Calls Tryz.prog 10 #[.agg (insV xRet)] W fun e w' => e = .returned (.tuple #[.slice none 0 0, .int .i64 70]) ∧ Kp noB W w') := fun W => enc_none W xRet (by decide) (by decide) (by decide) rfl (by decide) (by decide) (by decide)
  go_enter Tryz.func8, Tryz.ntmps8
  go_wp2_with fail
  refine Calls.mono (H1.out _) ?_; rintro e w1 ⟨⟨p, l, c, rfl, hb⟩, k1⟩
  obtain ⟨p', c', e', hcase⟩ := hb
  injection e' with e1 e2 e3
  subst e1; subst e2; subst e3
  obtain ⟨g, o, rfl, ⟨cs, fr, ht⟩, hc⟩ : ∃ g o, p = some ⟨g, o, none⟩ ∧ (∃ cs fr, w1.heap[g]? = some (.cells cs 5 fr)) ∧ ∀ j x, [131, 193, 5][j]? = some x → w1.cell? ⟨g, o + j, none⟩ = some (.int .u8 x) := by
    rcases hcase with ⟨_, e, _⟩ | h
    · cases e
    · exact h
  have hg : g < w1.heap.size := (Array.getElem?_eq_some_iff.1 ht).1
  have d0 : w1.cell? ⟨g, o, none⟩ = some (.int .u8 131) := hc 0 131 rfl
  have d1 : w1.cell? ⟨g, o + 1, none⟩ = some (.int .u8 193) := hc 1 193 rfl
  have d2 : w1.cell? ⟨g, o + 2, none⟩ = some (.int .u8 5) := hc 2 5 rfl
  have K1 : Hid (Kp noB w w1) := (Kp.alloc _ _ _).trans k1
  clear hcase hc ht k1
  go_wp2_with fail
  refine Calls.mono (H2.out _) ?_; rintro e w2 ⟨rfl, k2⟩
  have c0 := cellK d0 k2 hg
  have c1 := cellK d1 k2 hg
  have c2 := cellK d2 k2 hg
  have K2 : Hid (Kp noB w w2) := K1.out.trans k2
  clear d0 d1 d2 k2
  go_wp2
  go_ret
  exact ⟨rfl, K2.out⟩

end Go.Proofs.YtolnaodlghahlaaGreatDoor
