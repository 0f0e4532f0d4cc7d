/- Lines that are told: in another order, twice, and again. -/
import Derived.Test.YtclejmdmbanedaaGreatBp03
import Derived.Test.YtclejmdmbanedaaGreatBp08
namespace Go.Proofs.YtclejmdmbanedaaGreat.Bs
open Go.ChangeShapes Go.WideShapes Go.ChangeAt Go.RowKit
set_option linter.unusedVariables false
set_option maxRecDepth 20000

open Go.Proofs.YtclejmdmbanedaaGreat.Pc (M2 Ch)

/-- Two chips are the same, bit by bit. -/
theorem ch_ext {c d : Ch} (h : c.Ok) (k : d.Ok) (e : c.srv = d.srv ∧ c.msk = d.msk ∧ c.base = d.base ∧ c.due = d.due ∧ c.sh = d.sh ∧ c.ends = d.ends) (u : ∀ j, j < 8 → tb c.up j = tb d.up j) (a : ∀ j, j < 8 → tb c.asks j = tb d.asks j) : c = d := by
  have eu := Pc.by_ext h.up k.up u
  have ea := Pc.by_ext h.asks k.asks a
  obtain ⟨e1, e2, e3, e4, e5, e6⟩ := e
  cases c; cases d
  simp only at *
  subst eu ea e1 e2 e3 e4 e5 e6
  rfl

section
variable {m : M2} (h : m.Ok)
include h

/-- A line of the first chip. -/
theorem lineA {n : Nat} (hn : n < 8) (n2 : n ≠ 2) (u : Bool) : (m.line n u).Ok ∧ (m.line n u).b = m.b ∧ ((m.line n u).a.srv = m.a.srv ∧ (m.line n u).a.msk = m.a.msk ∧ (m.line n u).a.base = m.a.base ∧ (m.line n u).a.due = m.a.due ∧ (m.line n u).a.sh = m.a.sh ∧ (m.line n u).a.ends = m.a.ends) ∧ (∀ j, tb (m.line n u).a.up j = if j = n then u else tb m.a.up j) ∧ (∀ j, tb (m.line n u).a.asks j = if j = 2 then (m.b.next != -1) else if j = n then (u && (tb m.a.asks n || !tb m.a.up n)) else tb m.a.asks j) := by
  have e : m.line n u = (m.set false (m.a.line n u)).settle := by unfold Pc.M2.line; rw [if_neg (by omega), if_pos (by omega)]
  have o : (m.set false (m.a.line n u)).Ok := h.set false (h.a.line (by omega) (by omega) u)
  obtain ⟨c1, c2, c3, c4, c5, c6⟩ := Pc.line_keep m.a (n : Int) u
  refine ⟨h.line (by omega) (by omega) u, by rw [e]; rfl, ?_, fun j => ?_, fun j => ?_⟩
  · rw [e]; exact ⟨c1, c2, c3, c4, c5, c6⟩
  · rw [e]
    show tb (m.a.line n u).up j = _
    rw [Pc.line_up h.a hn]
  · rw [e, Pc.settle_asks o]
    show (if j = 2 then (m.b.next != -1) else tb (m.a.line n u).asks j) = _
    by_cases q : j = 2
    · rw [if_pos q, if_pos q]
    · rw [if_neg q, if_neg q, Pc.line_asks h.a hn]

/-- A line of the second chip. -/
theorem lineB {n : Nat} (hn : n < 8) (u : Bool) : (m.line ((n : Int) + 8) u).Ok ∧ (m.line ((n : Int) + 8) u).b = m.b.line n u ∧ ((m.line ((n : Int) + 8) u).a.srv = m.a.srv ∧ (m.line ((n : Int) + 8) u).a.msk = m.a.msk ∧ (m.line ((n : Int) + 8) u).a.base = m.a.base ∧ (m.line ((n : Int) + 8) u).a.due = m.a.due ∧ (m.line ((n : Int) + 8) u).a.sh = m.a.sh ∧ (m.line ((n : Int) + 8) u).a.ends = m.a.ends) ∧ (m.line ((n : Int) + 8) u).a.up = m.a.up ∧ (∀ j, tb (m.line ((n : Int) + 8) u).a.asks j = if j = 2 then ((m.b.line n u).next != -1) else tb m.a.asks j) := by
  have e : m.line ((n : Int) + 8) u = (m.set true (m.b.line n u)).settle := by unfold Pc.M2.line; rw [if_neg (by omega), if_neg (by omega), show (n : Int) + 8 - 8 = n by omega]
  have o : (m.set true (m.b.line n u)).Ok := h.set true (h.b.line (by omega) (by omega) u)
  refine ⟨h.line (by omega) (by omega) u, by rw [e]; rfl, by rw [e]; exact ⟨rfl, rfl, rfl, rfl, rfl, rfl⟩, by rw [e]; rfl, fun j => ?_⟩
  rw [e, Pc.settle_asks o]
  rfl

theorem lineAA {n k : Nat} (hn : n < 8) (n2 : n ≠ 2) (hk : k < 8) (k2 : k ≠ 2) (nk : n ≠ k) (u v : Bool) : (m.line n u).line k v = (m.line k v).line n u := by
  obtain ⟨o1, b1, ⟨p1, p2, p3, p4, p5, p6⟩, u1, a1⟩ := lineA h hn n2 u
  obtain ⟨o2, b2, ⟨q1, q2, q3, q4, q5, q6⟩, u2, a2⟩ := lineA h hk k2 v
  obtain ⟨o3, b3, ⟨r1, r2, r3, r4, r5, r6⟩, u3, a3⟩ := lineA o1 hk k2 v
  obtain ⟨o4, b4, ⟨s1, s2, s3, s4, s5, s6⟩, u4, a4⟩ := lineA o2 hn n2 u
  have ea : ((m.line n u).line k v).a = ((m.line k v).line n u).a := by
    refine ch_ext o3.a o4.a ⟨by rw [r1, s1, p1, q1], by rw [r2, s2, p2, q2], by rw [r3, s3, p3, q3], by rw [r4, s4, p4, q4], by rw [r5, s5, p5, q5], by rw [r6, s6, p6, q6]⟩ (fun j _ => ?_) (fun j _ => ?_)
    · rw [u3, u4, u1, u2]
      by_cases e1 : j = n
      · rw [if_pos e1, if_neg (by omega), if_pos e1]
      · rw [if_neg e1, if_neg e1]
    · rw [a3, a4, b1, b2]
      by_cases e0 : j = 2
      · rw [if_pos e0, if_pos e0]
      · rw [if_neg e0, if_neg e0, a1, a2, u1, u2, a1, a2]
        by_cases e1 : j = n
        · subst e1
          simp [nk, e0]
        · rw [if_neg e1]
          by_cases e2 : j = k
          · subst e2
            simp [Ne.symm nk, e0]
          · simp [e0, e1, e2]
  have eb : ((m.line n u).line k v).b = ((m.line k v).line n u).b := by rw [b3, b4, b1, b2]
  exact (show ∀ x y : M2, x.a = y.a → x.b = y.b → x = y from fun x y e f => by cases x; cases y; simp only at e f; rw [e, f]) _ _ ea eb

theorem lineAB {n k : Nat} (hn : n < 8) (n2 : n ≠ 2) (hk : k < 8) (u v : Bool) : (m.line n u).line ((k : Int) + 8) v = (m.line ((k : Int) + 8) v).line n u := by
  obtain ⟨o1, b1, ⟨p1, p2, p3, p4, p5, p6⟩, u1, a1⟩ := lineA h hn n2 u
  obtain ⟨o2, b2, ⟨q1, q2, q3, q4, q5, q6⟩, u2, a2⟩ := lineB h hk v
  obtain ⟨o3, b3, ⟨r1, r2, r3, r4, r5, r6⟩, u3, a3⟩ := lineB o1 hk v
  obtain ⟨o4, b4, ⟨s1, s2, s3, s4, s5, s6⟩, u4, a4⟩ := lineA o2 hn n2 u
  have ea : ((m.line n u).line ((k : Int) + 8) v).a = ((m.line ((k : Int) + 8) v).line n u).a := by
    refine ch_ext o3.a o4.a ⟨by rw [r1, s1, p1, q1], by rw [r2, s2, p2, q2], by rw [r3, s3, p3, q3], by rw [r4, s4, p4, q4], by rw [r5, s5, p5, q5], by rw [r6, s6, p6, q6]⟩ (fun j _ => ?_) (fun j _ => ?_)
    · rw [u3, u4, u1, u2]
    · rw [a3, a4, b1, b2, u2, a1, a2, a2]
      by_cases e0 : j = 2
      · rw [if_pos e0, if_pos e0]
      · rw [if_neg e0, if_neg e0, if_neg e0, if_neg e0, if_neg n2]
  have eb : ((m.line n u).line ((k : Int) + 8) v).b = ((m.line ((k : Int) + 8) v).line n u).b := by rw [b3, b4, b1, b2]
  exact (show ∀ x y : M2, x.a = y.a → x.b = y.b → x = y from fun x y e f => by cases x; cases y; simp only at e f; rw [e, f]) _ _ ea eb

/-- Told twice: the second time counts, if it is down; or if it is the same. -/
theorem lineAT {n : Nat} (hn : n < 8) (n2 : n ≠ 2) (u v : Bool) (huv : v = false ∨ u = v) : (m.line n u).line n v = m.line n v := by
  obtain ⟨o1, b1, ⟨p1, p2, p3, p4, p5, p6⟩, u1, a1⟩ := lineA h hn n2 u
  obtain ⟨o2, b2, ⟨q1, q2, q3, q4, q5, q6⟩, u2, a2⟩ := lineA h hn n2 v
  obtain ⟨o3, b3, ⟨r1, r2, r3, r4, r5, r6⟩, u3, a3⟩ := lineA o1 hn n2 v
  have ea : ((m.line n u).line n v).a = (m.line n v).a := by
    refine ch_ext o3.a o2.a ⟨by rw [r1, p1, q1], by rw [r2, p2, q2], by rw [r3, p3, q3], by rw [r4, p4, q4], by rw [r5, p5, q5], by rw [r6, p6, q6]⟩ (fun j _ => ?_) (fun j _ => ?_)
    · rw [u3, u2, u1]
      by_cases e1 : j = n
      · rw [if_pos e1, if_pos e1]
      · rw [if_neg e1, if_neg e1, if_neg e1]
    · rw [a3, a2, b1, u1, a1, a1]
      by_cases e0 : j = 2
      · rw [if_pos e0, if_pos e0]
      · rw [if_neg e0, if_neg e0, if_neg n2, if_pos rfl, if_pos rfl, if_neg e0]
        by_cases e1 : j = n
        · rw [if_pos e1, if_pos e1]
          rcases huv with rfl | rfl
          · rfl
          · cases u <;> cases tb m.a.asks n <;> cases tb m.a.up n <;> rfl
        · rw [if_neg e1, if_neg e1, if_neg e1]
  have eb : ((m.line n u).line n v).b = (m.line n v).b := by rw [b3, b1, b2]
  exact (show ∀ x y : M2, x.a = y.a → x.b = y.b → x = y from fun x y e f => by cases x; cases y; simp only at e f; rw [e, f]) _ _ ea eb

theorem lineBT {n : Nat} (hn : n < 8) (u : Bool) : (m.line ((n : Int) + 8) u).line ((n : Int) + 8) u = m.line ((n : Int) + 8) u := by
  obtain ⟨o1, b1, ⟨p1, p2, p3, p4, p5, p6⟩, u1, a1⟩ := lineB h hn u
  obtain ⟨o3, b3, ⟨r1, r2, r3, r4, r5, r6⟩, u3, a3⟩ := lineB o1 hn u
  have cb : (m.b.line n u).line n u = m.b.line n u := by
    have k1 : (m.b.line n u).Ok := h.b.line (by omega) (by omega) u
    obtain ⟨c1, c2, c3, c4, c5, c6⟩ := Pc.line_keep (m.b.line n u) (n : Int) u
    refine ch_ext (k1.line (by omega) (by omega) u) k1 ⟨c1, c2, c3, c4, c5, c6⟩ (fun j _ => ?_) (fun j _ => ?_)
    · rw [Pc.line_up k1 hn, Pc.line_up h.b hn]
      by_cases e1 : j = n
      · rw [if_pos e1, if_pos e1]
      · rw [if_neg e1]
    · rw [Pc.line_asks k1 hn, Pc.line_asks h.b hn, Pc.line_asks h.b hn, Pc.line_up h.b hn, if_pos rfl, if_pos rfl]
      by_cases e1 : j = n
      · rw [if_pos e1, if_pos e1]
        cases u <;> cases tb m.b.asks n <;> cases tb m.b.up n <;> rfl
      · rw [if_neg e1]
  have ea : ((m.line ((n : Int) + 8) u).line ((n : Int) + 8) u).a = (m.line ((n : Int) + 8) u).a := by
    refine ch_ext o3.a o1.a ⟨r1, r2, r3, r4, r5, r6⟩ (fun j _ => by rw [u3]) (fun j _ => ?_)
    rw [a3, b1, a1, cb]
    by_cases e0 : j = 2
    · rw [if_pos e0, if_pos e0]
    · rw [if_neg e0]
  have eb : ((m.line ((n : Int) + 8) u).line ((n : Int) + 8) u).b = (m.line ((n : Int) + 8) u).b := by rw [b3, b1, cb]
  exact (show ∀ x y : M2, x.a = y.a → x.b = y.b → x = y from fun x y e f => by cases x; cases y; simp only at e f; rw [e, f]) _ _ ea eb
end

/-- All three lines are told. -/
def say (m : M2) (a b c : Bool) : M2 := ((m.line 0 a).line 4 b).line 14 c

theorem say_ok {m : M2} (h : m.Ok) (a b c : Bool) : (say m a b c).Ok := ((h.line (n := 0) (by decide) (by decide) a).line (n := 4) (by decide) (by decide) b).line (n := 14) (by decide) (by decide) c

/-- The second time, with the same lines 4 and 14. -/
theorem say_again {m : M2} (h : m.Ok) (a a' b c : Bool) : say (say m a b c) a' b c = ((((m.line 0 a).line 0 a').line 4 b).line 14 c) := by
  have o0 := h.line (n := 0) (by decide) (by decide) a
  have o4 := o0.line (n := 4) (by decide) (by decide) b
  have o00 := o0.line (n := 0) (by decide) (by decide) a'
  have o004 := o00.line (n := 4) (by decide) (by decide) b
  have e1 : ((((m.line 0 a).line 4 b).line 14 c).line 0 a') = ((((m.line 0 a).line 4 b).line 0 a').line 14 c) := (lineAB (n := 0) (k := 6) o4 (by decide) (by decide) (by decide) a' c).symm
  have e2 : ((m.line 0 a).line 4 b).line 0 a' = ((m.line 0 a).line 0 a').line 4 b := (lineAA (n := 0) (k := 4) o0 (by decide) (by decide) (by decide) (by decide) (by decide) a' b).symm
  have e3 : (((((m.line 0 a).line 0 a').line 4 b).line 14 c).line 4 b) = (((((m.line 0 a).line 0 a').line 4 b).line 4 b).line 14 c) := (lineAB (n := 4) (k := 6) o004 (by decide) (by decide) (by decide) b c).symm
  have e4 : (((m.line 0 a).line 0 a').line 4 b).line 4 b = ((m.line 0 a).line 0 a').line 4 b := lineAT (n := 4) o00 (by decide) (by decide) b b (.inr rfl)
  have e5 : ((((m.line 0 a).line 0 a').line 4 b).line 14 c).line 14 c = (((m.line 0 a).line 0 a').line 4 b).line 14 c := lineBT (n := 6) o004 (by decide) c
  unfold say
  rw [e1, e2, e3, e4, e5]

theorem say_twice {m : M2} (h : m.Ok) (a b c : Bool) : say (say m a b c) a b c = say m a b c := by
  rw [say_again h, show (m.line 0 a).line 0 a = m.line 0 a from lineAT (n := 0) h (by decide) (by decide) a a (.inr rfl)]
  rfl

theorem say_down {m : M2} (h : m.Ok) (a b c : Bool) : say (say m a b c) false b c = say m false b c := by
  rw [say_again h, show (m.line 0 a).line 0 false = m.line 0 false from lineAT (n := 0) h (by decide) (by decide) a false (.inl rfl)]
  rfl

theorem tell_say (x : Bm) : x.tell = { x with p := say x.p ((x.f 0).line x.now) x.u.ln x.d.line } := rfl

/-- Telling again changes nothing. -/
theorem tell_tell {x : Bm} (h : x.Ok) : x.tell.tell = x.tell := by
  rw [tell_say x.tell, tell_say x]
  show ({ x with p := say (say x.p ((x.f 0).line x.now) x.u.ln x.d.line) ((x.f 0).line x.now) x.u.ln x.d.line } : Bm) = _
  rw [say_twice h.p]
end Go.Proofs.YtclejmdmbanedaaGreat.Bs
