/- The contract of the document's Same, of two lists that are the same. -/
import Derived.Test.YtddalplpmgmplaaIdSt
namespace Go.Proofs.Ytddalplpmgmplaa
open Go.ChangeShapes Go.WideShapes Go.ChangeAt Go.RowKit
set_option linter.unusedVariables false

/-- A slice of these ints. -/
def IntAt (w : World) (p : Option Addr) (l : List Int) : Prop := ∀ i, i < l.length → ∃ g o, p = some ⟨g, o, none⟩ ∧ w.cell? ⟨g, o + i, none⟩ = some (.int .i64 (l.getD i 0))

theorem OwnI.at {w : World} {p : Option Addr} {n c : Nat} {l : List Int} (h : OwnI w (.slice p n c) l) : IntAt w p l := fun i hi => by
  rcases h.2 with ⟨e, h2⟩ | ⟨g, cap, cur, e, hb, hg, hc, hm, hsz, ht⟩
  · omega
  · injection e with e1 e2 e3
    subst e1
    refine ⟨g, 0, rfl, ?_⟩
    rw [cell_of_row _ _ _ _ _ _ hg, Nat.zero_add]
    have e := congrArg (fun L : List Value => L[i]?) ht
    simp only [Nat.mul_one] at e
    rw [List.getElem?_take_of_lt hi, List.getElem?_map, List.getElem?_eq_getElem hi] at e
    rw [← Array.getElem?_toList, e, List.getD_eq_getElem?_getD, List.getElem?_eq_getElem hi]
    rfl

theorem IntAt.kept {S : Nat → Prop} {w w' : World} {p : Option Addr} {l : List Int} (h : IntAt w p l) (k : Kp S w w') (hS : ∀ a, p = some a → ¬ S a.block) : IntAt w' p l := fun i hi => by
  obtain ⟨g, o, e, hc⟩ := h i hi
  exact ⟨g, o, e, cell_kept hc k (hS _ e)⟩

set_option maxHeartbeats 1000000 in
theorem same_ok (w : World) (p q : Option Addr) (c e : Nat) (l : List Int) (hp : IntAt w p l) (hq : IntAt w q l) (hl : l.length < 4611686018427387904) : Calls Try.prog 11 #[.slice p l.length c, .slice q l.length e] w fun r w' => r = .returned (.bool true) ∧ Kp noB w w' := by
  have HP : Hid (IntAt w p l) := hp
  have HQ : Hid (IntAt w q l) := hq
  obtain ⟨n, hn⟩ : ∃ n, n = l.length := ⟨_, rfl⟩
  rw [← hn] at hl ⊢
  have HL : Hid (n = l.length) := hn
  clear hp hq hn
  go_enter Try.func11, Try.ntmps11
  go_wp2
  go_loopw [5] (fun s5 wr => ∃ i : Nat, i ≤ n ∧ s5 = .int .i64 i ∧ Kp noB w wr) (fun s5 _ => n - (intOf s5).toNat)
  case atStart => exact ⟨0, by omega, rfl, Kp.refl _ _⟩
  case round =>
    obtain ⟨i, hi, rfl, kr⟩ := hrel
    have K : Hid (Kp noB w wr) := kr
    clear kr
    by_cases hlt : i < n
    · obtain ⟨g, o, rfl, h1⟩ := HP.out i (by have := HL.out; omega)
      obtain ⟨g', o', rfl, h2⟩ := HQ.out i (by have := HL.out; omega)
      have c1 := cell_kept h1 K.out id
      have c2 := cell_kept h2 K.out id
      have hlt' : (i : Int) < (n : Int) := by omega
      generalize l.getD i 0 = y at *
      clear h1 h2
      go_wp2
      go_quiet (fail)
      go_wp2
      go_roundw
      case rel => exact ⟨i + 1, by omega, by go_num, K.out.drewN _⟩
      case measure => simp [intOf]; omega
    · have e : i = n := by omega
      subst e
      go_wp2
      go_ret
      exact ⟨rfl, K.out⟩
end Go.Proofs.Ytddalplpmgmplaa
