/- Both ports in one world. -/
import Derived.Test.YtafnlaamfpjolaaUrAll
namespace Go.Proofs.Ytafnlaamfpjolaa
open Go.ChangeShapes Go.WideShapes Go.ChangeAt Go.RowKit
set_option linter.unusedVariables false

/-- The program's port at B, the document's at R; a block X with o in it and the bytes l in lv lie aside. -/
structure Bo (W w : World) (B R : Nat) (u v : U) (X : Nat) (o : Obj) (lv : Value) (l : List Int) : Prop where
  ex : ∃ S T, UW w S B u ∧ RW w T R v ∧ (∀ k, S k → ¬ T k) ∧ (∀ k, S k → W.heap.size ≤ k) ∧ (∀ k, T k → W.heap.size ≤ k) ∧ ¬ S X ∧ ¬ T X ∧ Aside w S lv l ∧ Aside w T lv l
  kp : Kp noB W w
  blk : w.heap[X]? = some o
  own : ∀ g, lv.ownBlock = some g → W.heap.size ≤ g ∧ g ≠ X

section
variable {W w : World} {B R : Nat} {u v : U} {X : Nat} {o : Obj} {lv : Value} {l : List Int}

theorem Bo.mapL {f : FuncId} {args : Array Value} {E : Ending → Prop} {u' : U} (h : Bo W w B R u v X o lv l) (hc : ∀ S, UW w S B u → Calls Try.prog f args w fun e w' => E e ∧ UNx w S B u' w') : Calls Try.prog f args w fun e w' => E e ∧ Bo W w' B R u' v X o lv l := by
  obtain ⟨S, T, h1, h2, h3, h4, h5, h6, h7, h8, h9⟩ := h.ex
  refine (hc S h1).mono fun e w' ⟨a, S', b1, b2⟩ => ⟨a, ⟨S', T, b1, h2.kept b2.kp (fun k g f => h3 k f g), fun k g f => ?_, fun k g => ?_, h5, fun g => ?_, h7, h8.next b2, ⟨h9.own.kept b2.kp (fun g e f => h8.out g e f), h9.out⟩⟩, ?_, heap_kept h.blk b2.kp h6, h.own⟩
  · rcases b2.sub k g with q | q
    · exact h3 k q f
    · have := h2.lt k f; omega
  · rcases b2.sub k g with q | q
    · exact h4 k q
    · exact Nat.le_trans h.kp.size q
  · rcases b2.sub X g with q | q
    · exact h6 q
    · have := heap_lt h.blk; omega
  · exact h.kp.over b2.kp (fun j hj g => by have := h4 j g; omega)

theorem Bo.mapR {f : FuncId} {args : Array Value} {E : Ending → Prop} {v' : U} (h : Bo W w B R u v X o lv l) (hc : ∀ S, RW w S R v → Calls Try.prog f args w fun e w' => E e ∧ RNx w S R v' w') : Calls Try.prog f args w fun e w' => E e ∧ Bo W w' B R u v' X o lv l := by
  obtain ⟨S, T, h1, h2, h3, h4, h5, h6, h7, h8, h9⟩ := h.ex
  refine (hc T h2).mono fun e w' ⟨a, T', b1, b2⟩ => ⟨a, ⟨S, T', h1.kept b2.kp (fun k g f => h3 k g f), b1, fun k g f => ?_, h4, fun k g => ?_, h6, fun g => ?_, ⟨h8.own.kept b2.kp (fun g e f => h9.out g e f), h8.out⟩, h9.next b2⟩, ?_, heap_kept h.blk b2.kp h7, h.own⟩
  · rcases b2.sub k f with q | q
    · exact h3 k g q
    · have := h1.lt k g; omega
  · rcases b2.sub k g with q | q
    · exact h5 k q
    · exact Nat.le_trans h.kp.size q
  · rcases b2.sub X g with q | q
    · exact h7 q
    · have := heap_lt h.blk; omega
  · exact h.kp.over b2.kp (fun j hj g => by have := h5 j g; omega)

theorem Bo.lineL (h : Bo W w B R u v X o lv l) (k : u.Ok) : Calls Try.prog 19 #[.pointer (some ⟨B, 0, none⟩)] w fun e w' => e = .returned (.bool u.ln) ∧ w' = w := by
  obtain ⟨S, T, h1, r⟩ := h.ex
  exact wLine h1 k

theorem Bo.lineR (h : Bo W w B R u v X o lv l) (k : v.Ok) : Calls Try.prog 20 #[.pointer (some ⟨R, 0, none⟩)] w fun e w' => e = .returned (.bool v.ln) ∧ w' = w := by
  obtain ⟨S, T, h1, h2, r⟩ := h.ex
  exact xLine h2 k

theorem Bo.kept {w' : World} {Y : Nat → Prop} (h : Bo W w B R u v X o lv l) (k : Kp Y w w') (hY : ∀ j, j < w.heap.size → ¬ Y j) : Bo W w' B R u v X o lv l := by
  obtain ⟨S, T, h1, h2, h3, h4, h5, h6, h7, h8, h9⟩ := h.ex
  have hl : ∀ g, lv.ownBlock = some g → ¬ Y g := fun g e => by obtain ⟨cur, hc⟩ := h8.own.lt e; exact hY g (heap_lt hc)
  exact ⟨⟨S, T, h1.kept k (fun j g => hY j (h1.lt j g)), h2.kept k (fun j g => hY j (h2.lt j g)), h3, h4, h5, h6, h7, ⟨h8.own.kept k hl, h8.out⟩, ⟨h9.own.kept k hl, h9.out⟩⟩, h.kp.over k (fun j hj g => (hY j (Nat.lt_of_lt_of_le hj h.kp.size) g).elim), heap_kept h.blk k (hY X (heap_lt h.blk)), h.own⟩

theorem Bo.drew (h : Bo W w B R u v X o lv l) : Bo W w.drew B R u v X o lv l := h.kept (Kp.refl noB w).drew (fun _ _ => id)

theorem Bo.sentL (h : Bo W w B R u v X o lv l) : Calls Try.prog 17 #[.pointer (some ⟨B, 0, none⟩)] w fun e w' => ∃ p c, e = .returned (.slice p u.sent.length c) ∧ Bo W w' B R u.hush v X o (.slice p u.sent.length c) u.sent := by
  obtain ⟨S, T, h1, h2, h3, h4, h5, h6, h7, h8, h9⟩ := h.ex
  refine (wSent h1).mono fun e w' ⟨p, c, a, S', b1, b2, b3, b4⟩ => ⟨p, c, a, ⟨S', T, b1, h2.kept b2.kp (fun k g f => h3 k f g), fun k g f => ?_, fun k g => ?_, h5, fun g => ?_, h7, b3, ⟨b3.own, fun g e f => h3 g (b4 g e) f⟩⟩, h.kp.over b2.kp (fun j hj g => by have := h4 j g; omega), heap_kept h.blk b2.kp h6, fun g e => ⟨h4 g (b4 g e), fun q => h6 (q ▸ b4 g e)⟩⟩
  · rcases b2.sub k g with q | q
    · exact h3 k q f
    · have := h2.lt k f; omega
  · rcases b2.sub k g with q | q
    · exact h4 k q
    · exact Nat.le_trans h.kp.size q
  · rcases b2.sub X g with q | q
    · exact h6 q
    · have := heap_lt h.blk; omega

/-- What the document's Sent will tell is known ahead. -/
theorem Bo.sentR (h : Bo W w B R u v X o lv l) : ∃ p c, StrAt w (.slice p v.sent.length c) v.sent ∧ Calls Try.prog 18 #[.pointer (some ⟨R, 0, none⟩)] w fun e w' => e = .returned (.slice p v.sent.length c) ∧ Bo W w' B R u v.hush X o lv l ∧ StrAt w' (.slice p v.sent.length c) v.sent := by
  obtain ⟨S, T, h1, h2, h3, h4, h5, h6, h7, h8, h9⟩ := h.ex
  obtain ⟨p, c, x1, x2, x3⟩ := xSent h2
  refine ⟨p, c, x1.str, x3.mono fun e w' ⟨a, b0, T', b1, b2, b3⟩ => ⟨a, ⟨⟨S, T', h1.kept b2.kp (fun k g f => h3 k g f), b1, fun k g f => h3 k g (b3 k f), h4, fun k g => h5 k (b3 k g), h6, fun g => h7 (b3 X g), ⟨h8.own.kept b2.kp (fun g e f => h9.out g e f), h8.out⟩, h9.next b2⟩, h.kp.over b2.kp (fun j hj g => by have := h5 j g; omega), heap_kept h.blk b2.kp h7, h.own⟩, b0.str⟩⟩

theorem Bo.str (h : Bo W w B R u v X o lv l) : StrAt w lv l := by
  obtain ⟨S, T, h1, h2, h3, h4, h5, h6, h7, h8, h9⟩ := h.ex
  exact h8.own.str

theorem Bo.forget (h : Bo W w B R u v X o lv l) : Bo W w B R u v X o (.slice none 0 0) [] := by
  obtain ⟨S, T, h1, h2, h3, h4, h5, h6, h7, h8, h9⟩ := h.ex
  exact ⟨⟨S, T, h1, h2, h3, h4, h5, h6, h7, ⟨OwnB.nil _, fun g e => by cases e⟩, ⟨OwnB.nil _, fun g e => by cases e⟩⟩, h.kp, h.blk, fun g e => by cases e⟩

theorem Bo.at {p : Option Addr} {n c i : Nat} (h : Bo W w B R u v X o (.slice p n c) l) (hi : i < l.length) : ∃ g, p = some ⟨g, 0, none⟩ ∧ w.cell? ⟨g, i, none⟩ = some (.int .u8 (l.getD i 0)) ∧ w.frozen? ⟨g, i, none⟩ = false := by
  obtain ⟨S, T, h1, h2, h3, h4, h5, h6, h7, h8, h9⟩ := h.ex
  exact h8.own.at hi

theorem OwnB.put {w : World} {g n c i : Nat} {l : List Int} (h : OwnB w (.slice (some ⟨g, 0, none⟩) n c) l) (x : Int) (hi : i < l.length) : OwnB (w.setCell ⟨g, i, none⟩ (.int .u8 x)) (.slice (some ⟨g, 0, none⟩) n c) (l.set i x) := by
  refine ⟨by simp, ?_⟩
  rcases h.2 with ⟨e, h2⟩ | ⟨g', cap, cur, e, hb, hg, hc, hm, hsz, ht⟩
  · cases e
  · injection e with e1 e2 e3
    injection e1 with e1
    injection e1 with e1
    subst e1; subst e2; subst e3
    refine .inr ⟨g, c, _, by rw [List.length_set], hb, heap_set hg, by rw [List.length_set]; exact hc, hm, by simp [hsz], ?_⟩
    rw [List.length_set, Nat.mul_one, Array.toList_setIfInBounds, List.take_set, List.map_set]
    rw [Nat.mul_one] at ht
    rw [ht]

/-- One of the bytes that lie aside is changed. -/
theorem Bo.put {g n c i : Nat} (h : Bo W w B R u v X o (.slice (some ⟨g, 0, none⟩) n c) l) (x : Int) (hi : i < l.length) : Bo W (w.setCell ⟨g, i, none⟩ (.int .u8 x)) B R u v X o (.slice (some ⟨g, 0, none⟩) n c) (l.set i x) := by
  obtain ⟨S, T, h1, h2, h3, h4, h5, h6, h7, h8, h9⟩ := h.ex
  have hk := kpB g w i (.int .u8 x)
  have ho := h.own g rfl
  exact ⟨⟨S, T, h1.kept hk (fun k a (e : k = g) => h8.out g rfl (e ▸ a)), h2.kept hk (fun k a (e : k = g) => h9.out g rfl (e ▸ a)), h3, h4, h5, h6, h7, ⟨h8.own.put x hi, h8.out⟩, ⟨h9.own.put x hi, h9.out⟩⟩, h.kp.over hk (fun j hj (e : j = g) => by omega), heap_kept h.blk hk (fun (e : X = g) => ho.2 e.symm), h.own⟩

/-- Between the rounds: nothing lies aside. -/
structure Bi (W w : World) (B R : Nat) (u v : U) : Prop where
  ex : ∃ S T, UW w S B u ∧ RW w T R v ∧ (∀ k, S k → ¬ T k) ∧ (∀ k, S k → W.heap.size ≤ k) ∧ (∀ k, T k → W.heap.size ≤ k)
  kp : Kp noB W w

theorem Bo.bi (h : Bo W w B R u v X o lv l) : Bi W w B R u v := by
  obtain ⟨S, T, h1, h2, h3, h4, h5, h6, h7, h8, h9⟩ := h.ex
  exact ⟨⟨S, T, h1, h2, h3, h4, h5⟩, h.kp⟩

theorem Bi.bo (h : Bi W w B R u v) (o : Obj) : Bo W (w.alloc o) B R u v w.heap.size o (.slice none 0 0) [] := by
  obtain ⟨S, T, h1, h2, h3, h4, h5⟩ := h.ex
  have k := Kp.alloc noB w o
  exact ⟨⟨S, T, h1.kept k (fun _ _ => id), h2.kept k (fun _ _ => id), h3, h4, h5, fun g => by have := h1.lt _ g; omega, fun g => by have := h2.lt _ g; omega, ⟨OwnB.nil _, fun g e => by cases e⟩, ⟨OwnB.nil _, fun g e => by cases e⟩⟩, h.kp.trans k, heap_new _ _, fun g e => by cases e⟩

theorem Bi.start {w0 : World} {S T : Nat → Prop} (k0 : Kp noB W w0) (h1 : UW w0 S B u) (n1 : ∀ k, S k → W.heap.size ≤ k) (h2 : RW w T R v) (n2 : ∀ k, T k → w0.heap.size ≤ k) (k1 : Kp noB w0 w) : Bi W w B R u v :=
  ⟨⟨S, T, h1.kept k1 (fun _ _ => id), h2, fun k a b => by have := h1.lt k a; have := n2 k b; omega, n1, fun k g => Nat.le_trans k0.size (n2 k g)⟩, k0.trans k1⟩

/-- The last words: both tell what was sent. -/
theorem Bi.last (h : Bi W w B R u v) : ∃ p c p' c', StrAt w (.slice p u.sent.length c) u.sent ∧ StrAt w (.slice p' v.sent.length c') v.sent ∧ Calls Try.prog 17 #[.pointer (some ⟨B, 0, none⟩)] w fun e w' => e = .returned (.slice p u.sent.length c) ∧ StrAt w' (.slice p u.sent.length c) u.sent ∧ StrAt w' (.slice p' v.sent.length c') v.sent ∧ Calls Try.prog 18 #[.pointer (some ⟨R, 0, none⟩)] w' fun e w'' => e = .returned (.slice p' v.sent.length c') ∧ StrAt w'' (.slice p u.sent.length c) u.sent ∧ StrAt w'' (.slice p' v.sent.length c') v.sent ∧ Kp noB W w'' := by
  obtain ⟨S, T, h1, h2, h3, h4, h5⟩ := h.ex
  obtain ⟨cv, sv, g1, g2⟩ := h1.ex
  obtain ⟨cq, rv, f1, f2⟩ := h2.ex
  obtain ⟨p, c, es⟩ := g1.snt.sl
  obtain ⟨p', c', er⟩ := f1.snt.sl
  subst es; subst er
  refine ⟨p, c, p', c', g1.snt.str, f1.snt.str, (sent_ok g1).mono fun e w' ⟨a, b1, b3⟩ => ⟨a, ?_, ?_, ?_⟩⟩
  · refine (g1.snt.kept b3 ?_).str
    rintro g e (rfl : g = B)
    obtain ⟨cur, g⟩ := g1.snt.lt e
    rw [g1.blk] at g
    simp at g
  · exact (f1.snt.kept b3 (fun g e (q : g = B) => h3 B (g2 B (.inl rfl)) (q ▸ f2 g (.inr (.inr e))))).str
  · have hS : ∀ k, S k → ¬ isB R k := fun k a (q : k = R) => h3 k a (q ▸ f2 R (.inl rfl))
    have hB : B ≠ R := fun q => hS B (g2 B (.inl rfl)) q
    have f1' := f1.kept b3 (fun q => hB q.symm) (fun g e (q : g = B) => h3 B (g2 B (.inl rfl)) (q ▸ f2 g (.inr (.inl e)))) (fun g e (q : g = B) => h3 B (g2 B (.inl rfl)) (q ▸ f2 g (.inr (.inr e))))
    have s' : OwnB w' (.slice p u.sent.length c) u.sent := g1.snt.kept b3 (by
      rintro g e (rfl : g = B)
      obtain ⟨cur, g⟩ := g1.snt.lt e
      rw [g1.blk] at g
      simp at g)
    refine (rsent_ok f1').mono fun e w'' ⟨a', b1', b3'⟩ => ⟨a', (s'.kept b3' (fun g e => hS g (g2 g (.inr (.inr e))))).str, (f1'.snt.kept b3' (fun g e => off_row f1'.blk (f1'.snt.lt e))).str, ?_⟩
    exact (h.kp.over b3 (fun j hj (q : j = B) => by have := h4 B (g2 B (.inl rfl)); omega)).over b3' (fun j hj (q : j = R) => by have := h5 R (f2 R (.inl rfl)); omega)
end
end Go.Proofs.Ytafnlaamfpjolaa
