/- The bus and its devices: UrAll. -/
import Derived.Test.YtclejmdmbanedaaGreatBp27
namespace Go.Proofs.YtclejmdmbanedaaGreat.Ut
open Go.ChangeShapes Go.WideShapes Go.ChangeAt Go.RowKit
set_option linter.unusedVariables false
set_option maxRecDepth 20000
section
variable {w : World} {R : Nat} {cq sv : Value} {u : U}
end
section
variable {w : World} {S : Nat → Prop} {R : Nat} {u : U}
def RNx (w : World) (S : Nat → Prop) (R : Nat) (u : U) (w' : World) : Prop := ∃ S', RW w' S' R u ∧ Nxt w S w' S'
theorem rfoot_lt {w : World} {cq sv : Value} (h : RAt w R cq sv u) {k : Nat} (g : rfoot R cq sv k) : k < w.heap.size := by
  rcases g with rfl | g | g
  · exact h.lt
  · obtain ⟨cur, e⟩ := h.chn.lt g
    exact heap_lt e
  · obtain ⟨cur, e⟩ := h.snt.lt g
    exact heap_lt e
theorem RNx.of {w' : World} {cq sv : Value} {u' : U} (h2 : ∀ k, rfoot R cq sv k → S k) (h : ROut w R cq sv u' w') : RNx w S R u' w' := by
  obtain ⟨cq', sv', b1, b2, b3⟩ := h
  refine ⟨fun k => k < w'.heap.size ∧ (S k ∨ w.heap.size ≤ k), ⟨⟨cq', sv', b1, fun k g => ⟨rfoot_lt b1 g, ?_⟩⟩, fun k g => g.1⟩, ⟨fun k g => g.2, b3.mono fun j _ hj => h2 j hj⟩⟩
  rcases b2 k g with f | f
  · exact .inl (h2 k f)
  · exact .inr f
theorem RNx.same {w' : World} (h : RW w S R u) (e : w' = w) : RNx w S R u w' := by
  subst e
  exact ⟨S, h, fun _ f => .inl f, Kp.refl _ _⟩
theorem xLine (h : RW w S R u) (k : u.Ok) : Calls Tryz.prog 84 #[.pointer (some ⟨R, 0, none⟩)] w fun e w' => e = .returned (.bool u.ln) ∧ w' = w := by
  obtain ⟨cv, sv, h1, h2⟩ := h.ex
  exact rline_any h1 k
end
theorem xNew (w : World) : Calls Tryz.prog 40 #[] w fun e w' => ∃ R S, e = .returned (.pointer (some ⟨R, 0, none⟩)) ∧ RW w' S R u0 ∧ (∀ k, S k → w.heap.size ≤ k) ∧ Kp noB w w' := by
  refine (rnew_ok w).mono fun e w' ⟨a, b1, b3⟩ => ⟨w.heap.size, fun k => k = w.heap.size, a, ⟨⟨_, _, b1, fun k g => ?_⟩, fun k g => ?_⟩, fun k g => by omega, b3⟩
  · rcases g with g | g | g
    · exact g
    · cases g
    · cases g
  · have := b1.lt
    omega
end Go.Proofs.YtclejmdmbanedaaGreat.Ut
