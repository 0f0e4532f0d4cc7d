/- The port's calls, as they are seen from outside: which blocks are its own. -/
import Derived.Test.YtafnlaamfpjolaaUtOut
import Derived.Test.YtafnlaamfpjolaaUtPush
namespace Go.Proofs.Ytafnlaamfpjolaa
open Go.ChangeShapes Go.WideShapes Go.ChangeAt Go.RowKit
set_option linter.unusedVariables false

/-- From S to S': nothing outside S was touched, what is new in S' was not there. -/
structure Nxt (w : World) (S : Nat → Prop) (w' : World) (S' : Nat → Prop) : Prop where
  sub : ∀ k, S' k → S k ∨ w.heap.size ≤ k
  kp : Kp S w w'

def UNx (w : World) (S : Nat → Prop) (B : Nat) (u : U) (w' : World) : Prop := ∃ S', UW w' S' B u ∧ Nxt w S w' S'

/-- All of S is new since W. -/
structure Bs (W w : World) (S : Nat → Prop) : Prop where
  new : ∀ k, S k → W.heap.size ≤ k
  kp : Kp noB W w

theorem Bs.next {W w w' : World} {S S' : Nat → Prop} (h : Bs W w S) (n : Nxt w S w' S') : Bs W w' S' :=
  ⟨fun k hk => by
    rcases n.sub k hk with g | g
    · exact h.new k g
    · exact Nat.le_trans h.kp.size g, h.kp.over n.kp (fun j hj g => by have := h.new j g; omega)⟩

/-- Bytes that lie aside. -/
structure Aside (w : World) (S : Nat → Prop) (v : Value) (l : List Int) : Prop where
  own : OwnB w v l
  out : ∀ g, v.ownBlock = some g → ¬ S g

theorem Aside.next {w w' : World} {S S' : Nat → Prop} {v : Value} {l : List Int} (h : Aside w S v l) (n : Nxt w S w' S') : Aside w' S' v l :=
  ⟨h.own.kept n.kp h.out, fun g e gS => by
    rcases n.sub g gS with f | f
    · exact h.out g e f
    · obtain ⟨cur, hc⟩ := h.own.lt e
      have := heap_lt hc
      omega⟩

section
variable {w : World} {S : Nat → Prop} {B : Nat} {u : U}

theorem foot_lt {w : World} {cv : Option Nat} {sv : Value} (h : UAt w B cv sv u) {k : Nat} (g : foot B cv sv k) : k < w.heap.size := by
  rcases g with rfl | rfl | g
  · exact h.lt
  · obtain ⟨s, r, e⟩ := h.chn.lt
    exact heap_lt e
  · obtain ⟨cur, e⟩ := h.snt.lt g
    exact heap_lt e

theorem UNx.mk {w' : World} {cv' : Option Nat} {sv' : Value} {u' : U} (h' : UAt w' B cv' sv' u') (hf : ∀ k, foot B cv' sv' k → S k ∨ w.heap.size ≤ k) (kp : Kp S w w') : UNx w S B u' w' :=
  ⟨fun k => k < w'.heap.size ∧ (S k ∨ w.heap.size ≤ k), ⟨⟨cv', sv', h', fun k g => ⟨foot_lt h' g, hf k g⟩⟩, fun k g => g.1⟩, ⟨fun k g => g.2, kp⟩⟩

theorem UNx.same {w' : World} (h : UW w S B u) (e : w' = w) : UNx w S B u w' := by
  subst e
  exact ⟨S, h, fun _ f => .inl f, Kp.refl _ _⟩

theorem wOut (h : UW w S B u) (k : u.Ok) (n v : Int) (hv : By v) (hs : u.sent.length < 140737488355328) : Calls Try.prog 11 #[.pointer (some ⟨B, 0, none⟩), .int .i64 n, .int .u8 v] w fun e w' => e = .returned (.int .i64 (if 0 ≤ n ∧ n < 8 then 0 else 1)) ∧ UNx w S B (if 0 ≤ n ∧ n < 8 then u.out n v else u) w' := by
  obtain ⟨cv, sv, h1, h2⟩ := h.ex
  by_cases g : 0 ≤ n ∧ n < 8
  · rw [if_pos g, if_pos g]
    refine (out_ok h1 k n v g.1 g.2 hv hs).mono fun e w' ⟨a, cv', sv', b1, b2, b3⟩ => ⟨a, UNx.mk b1 (fun j hj => ?_) (b3.mono fun j _ hj => h2 j hj)⟩
    rcases b2 j hj with f | f
    · exact .inl (h2 j f)
    · exact .inr f
  · rw [if_neg g, if_neg g]
    exact (out_no w _ n v (.inr (by omega))).mono fun e w' ⟨a, b⟩ => ⟨a, .same h b⟩

theorem wIn (h : UW w S B u) (k : u.Ok) (n : Int) : Calls Try.prog 13 #[.pointer (some ⟨B, 0, none⟩), .int .i64 n] w fun e w' => e = .returned (.tuple #[.int .u8 (if 0 ≤ n ∧ n < 8 then u.inV n else 0), .int .i64 (if 0 ≤ n ∧ n < 8 then 0 else 1)]) ∧ UNx w S B (if 0 ≤ n ∧ n < 8 then u.inn n else u) w' := by
  obtain ⟨cv, sv, h1, h2⟩ := h.ex
  by_cases g : 0 ≤ n ∧ n < 8
  · rw [if_pos g, if_pos g, if_pos g]
    refine (in_ok h1 k n g.1 g.2).mono fun e w' ⟨a, b1, b3⟩ => ⟨a, UNx.mk b1 (fun j hj => .inl (h2 j hj)) (b3.mono fun j _ hj => h2 j ?_)⟩
    rcases hj with f | f
    · exact .inl f
    · exact .inr (.inl f)
  · rw [if_neg g, if_neg g, if_neg g]
    exact (in_no w _ n (.inr (by omega))).mono fun e w' ⟨a, b⟩ => ⟨a, .same h b⟩

theorem wPush (h : UW w S B u) (k : u.Ok) (b : Int) : Calls Try.prog 15 #[.pointer (some ⟨B, 0, none⟩), .int .u8 b] w fun e w' => e = .returned (.tuple #[]) ∧ UNx w S B (u.push b) w' := by
  obtain ⟨cv, sv, h1, h2⟩ := h.ex
  refine (push_ok h1 k b).mono fun e w' ⟨a, cv', b1, b2, b3⟩ => ⟨a, UNx.mk b1 (fun j hj => ?_) (b3.mono fun j _ hj => h2 j ?_)⟩
  · rcases hj with f | f | f
    · exact .inl (h2 j (.inl f))
    · rcases b2 with rfl | ⟨c, rfl, g⟩
      · exact .inl (h2 j (.inr (.inl f)))
      · injection f with f
        subst f
        exact .inr g
    · exact .inl (h2 j (.inr (.inr f)))
  · rcases hj with f | f
    · exact .inl f
    · exact .inr (.inl f)

/-- Behind Sent: the bytes are told, and no longer its own. -/
def USent (w : World) (S : Nat → Prop) (B : Nat) (u : U) (v : Value) (w' : World) : Prop := ∃ S', UW w' S' B u.hush ∧ Nxt w S w' S' ∧ Aside w' S' v u.sent ∧ (∀ g, v.ownBlock = some g → S g)

theorem wSent (h : UW w S B u) : Calls Try.prog 17 #[.pointer (some ⟨B, 0, none⟩)] w fun e w' => ∃ p c, e = .returned (.slice p u.sent.length c) ∧ USent w S B u (.slice p u.sent.length c) w' := by
  obtain ⟨cv, sv, h1, h2⟩ := h.ex
  obtain ⟨p, c, es⟩ := h1.snt.sl
  subst es
  refine (sent_ok h1).mono fun e w' ⟨a, b1, b3⟩ => ⟨p, c, a, fun k => S k ∧ (Value.slice p u.sent.length c).ownBlock ≠ some k, ?_, ?_, ?_, ?_⟩
  · refine ⟨⟨cv, _, b1, fun k g => ?_⟩, fun k g => Nat.lt_of_lt_of_le (h.lt k g.1) b3.size⟩
    rcases g with rfl | rfl | g
    · refine ⟨h2 _ (.inl rfl), fun e => ?_⟩
      obtain ⟨cur, g⟩ := h1.snt.lt e
      rw [h1.blk] at g
      simp at g
    · refine ⟨h2 _ (.inr (.inl rfl)), fun e => ?_⟩
      obtain ⟨cur, g⟩ := h1.snt.lt e
      obtain ⟨s, r, g'⟩ := h1.chn.lt
      rw [g] at g'
      cases g'
    · cases g
  · exact ⟨fun k g => .inl g.1, b3.mono fun j _ hj => h2 j (.inl hj)⟩
  · refine ⟨h1.snt.kept b3 ?_, fun g e f => f.2 e⟩
    rintro g e (rfl : g = B)
    obtain ⟨cur, g⟩ := h1.snt.lt e
    rw [h1.blk] at g
    simp at g
  · exact fun g e => h2 g (.inr (.inr e))

theorem wLine (h : UW w S B u) (k : u.Ok) : Calls Try.prog 19 #[.pointer (some ⟨B, 0, none⟩)] w fun e w' => e = .returned (.bool u.ln) ∧ w' = w := by
  obtain ⟨cv, sv, h1, h2⟩ := h.ex
  exact line_ok h1 k
end

theorem wNew (w : World) : Calls Try.prog 9 #[] w fun e w' => ∃ B S, e = .returned (.pointer (some ⟨B, 0, none⟩)) ∧ UW w' S B u0 ∧ (∀ k, S k → w.heap.size ≤ k) ∧ Kp noB w w' := by
  refine (new_ok w).mono fun e w' ⟨a, b1, b3⟩ => ⟨w.heap.size, fun k => k = w.heap.size, a, ⟨⟨_, _, b1, fun k g => ?_⟩, fun k g => ?_⟩, fun k g => by omega, b3⟩
  · rcases g with g | g | g
    · exact g
    · cases g
    · cases g
  · have := b1.lt
    omega

/-- The cells of bytes that are known. -/
theorem OwnB.at {w : World} {p : Option Addr} {n c : Nat} {l : List Int} (h : OwnB w (.slice p n c) l) {i : Nat} (hi : i < l.length) : ∃ g, p = some ⟨g, 0, none⟩ ∧ w.cell? ⟨g, i, none⟩ = some (.int .u8 (l.getD i 0)) ∧ w.frozen? ⟨g, i, none⟩ = false := by
  rcases h.2 with ⟨e, h2⟩ | ⟨g, cap, cur, e, hb, hg, hc, hm, hsz, ht⟩
  · omega
  · injection e with e1 e2 e3
    subst e1
    refine ⟨g, rfl, ?_, by simp [World.frozen?, hg]⟩
    rw [cell_of_row _ _ _ _ _ _ hg]
    have e := congrArg (fun L : List Value => L[i]?) ht
    simp only [Nat.mul_one] at e
    rw [List.getElem?_take_of_lt hi, List.getElem?_map, List.getElem?_eq_getElem hi] at e
    rw [← Array.getElem?_toList, e, List.getD_eq_getElem?_getD, List.getElem?_eq_getElem hi]
    rfl
end Go.Proofs.Ytafnlaamfpjolaa
