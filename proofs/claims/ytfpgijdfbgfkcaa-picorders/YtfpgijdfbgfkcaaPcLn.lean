/- The pair when its masks are set and its lines are laid, one by one: plain facts. -/
import Derived.Test.YtfpgijdfbgfkcaaPcOrd
namespace Go.Proofs.Ytfpgijdfbgfkcaa
open Go.RowKit
set_option linter.unusedVariables false

structure LnI (L mA mB : Int) (i : Nat) (m : M2) : Prop where
  ok : m.Ok
  sa : m.a.srv = 0
  sb : m.b.srv = 0
  ba : m.a.base = 32
  bb : m.b.base = 40
  ea : m.a.ends = false
  eb : m.b.ends = false
  ma : m.a.msk = mA
  mb : m.b.msk = mB
  la : ∀ k, k < 8 → k ≠ 2 → tb m.a.asks k = (tb L k && decide (k < i)) ∧ tb m.a.up k = (tb L k && decide (k < i))
  lb : ∀ k, k < 8 → tb m.b.asks k = (tb L (8 + k) && decide (8 + k < i)) ∧ tb m.b.up k = (tb L (8 + k) && decide (8 + k < i))
  st : tb m.a.asks 2 = (m.b.next != -1)

theorem LnI.start (L : Int) {mA mB : Int} (hA : By mA) (hB : By mB) : LnI L mA mB 0 ((setM.out 1 mA).out 3 mB) := by
  have o : (setM.out 1 mA).Ok := M2.Ok.out (p := 1) (v := mA) setM_ok hA
  have o2 : ((setM.out 1 mA).out 3 mB).Ok := M2.Ok.out (p := 3) (v := mB) o hB
  have e1 : setM.out 1 mA = (⟨{ chS 32 with msk := mA }, chS 40⟩ : M2).settle := by
    unfold M2.out
    rw [if_neg (by decide), if_pos rfl, dat0 mA (show setM.a.due = 0 from rfl)]
    rfl
  have k1 : (⟨{ chS 32 with msk := mA }, chS 40⟩ : M2).Ok := ⟨⟨by0, by0, by0, hA, ⟨by show (0 : Int) ≤ 32; decide, by show (32 : Int) < 256; decide⟩, by show (32 : Int) % 8 = 0; decide, ⟨by show (0 : Int) ≤ 0; decide, by show (0 : Int) < 8; decide⟩⟩, setM_ok.b⟩
  have e2 : (setM.out 1 mA).out 3 mB = (⟨(setM.out 1 mA).a, { chS 40 with msk := mB }⟩ : M2).settle := by
    unfold M2.out
    rw [if_neg (by decide), if_neg (by decide), if_neg (by decide), if_neg (by decide), if_pos rfl, dat0 mB (show (setM.set false (setM.a.dat mA)).settle.b.due = 0 from rfl)]
    rfl
  have k2 : (⟨(setM.out 1 mA).a, { chS 40 with msk := mB }⟩ : M2).Ok := ⟨o.a, ⟨by0, by0, by0, hB, ⟨by show (0 : Int) ≤ 40; decide, by show (40 : Int) < 256; decide⟩, by show (40 : Int) % 8 = 0; decide, ⟨by show (0 : Int) ≤ 0; decide, by show (0 : Int) < 8; decide⟩⟩⟩
  have f : ∀ k, k ≠ 2 → tb (setM.out 1 mA).a.asks k = false := fun k hk => by
    rw [e1, settle_asks k1, if_neg hk]; exact zero_tb k
  refine ⟨o2, ?_, ?_, ?_, ?_, ?_, ?_, ?_, ?_, fun k hk h2 => ⟨?_, ?_⟩, fun k hk => ⟨?_, ?_⟩, ?_⟩
  · rw [e2]; show (setM.out 1 mA).a.srv = 0; rw [e1]; rfl
  · rw [e2]; rfl
  · rw [e2]; show (setM.out 1 mA).a.base = 32; rw [e1]; rfl
  · rw [e2]; rfl
  · rw [e2]; show (setM.out 1 mA).a.ends = false; rw [e1]; rfl
  · rw [e2]; rfl
  · rw [e2]; show (setM.out 1 mA).a.msk = mA; rw [e1]; rfl
  · rw [e2]; rfl
  · rw [e2, settle_asks k2, if_neg h2]; show tb (setM.out 1 mA).a.asks k = _; rw [f k h2]; simp
  · rw [e2]; show tb (setM.out 1 mA).a.up k = _; rw [e1]; show tb 0 k = _; rw [zero_tb]; simp
  · rw [e2]; show tb 0 k = _; rw [zero_tb]; simp
  · rw [e2]; show tb 0 k = _; rw [zero_tb]; simp
  · rw [e2]; exact settle_st k2

theorem lay_bit' (L : Int) (k i : Nat) : (if k = i then tb L i else (tb L k && decide (k < i))) = (tb L k && decide (k < i + 1)) := by
  by_cases e : k = i
  · subst e; rw [if_pos rfl]; simp
  · rw [if_neg e]
    have : decide (k < i) = decide (k < i + 1) := by
      by_cases q : k < i
      · rw [decide_eq_true q, decide_eq_true (by omega)]
      · rw [decide_eq_false q, decide_eq_false (by omega)]
    rw [this]

theorem LnI.step {L mA mB : Int} {i : Nat} {m : M2} (h : LnI L mA mB i m) (hi : i < 16) : LnI L mA mB (i + 1) (m.line (i : Int) (tb L i)) := by
  have ok := h.ok.line (n := (i : Int)) (by omega) (by omega) (tb L i)
  unfold M2.line at ok ⊢
  by_cases e2 : i = 2
  · subst e2
    rw [if_pos (show ((2 : Nat) : Int) = 2 from rfl)] at ok ⊢
    refine ⟨ok, h.sa, h.sb, h.ba, h.bb, h.ea, h.eb, h.ma, h.mb, fun k hk k2 => ?_, fun k hk => ?_, settle_st h.ok⟩
    · obtain ⟨a, b⟩ := h.la k hk k2
      have e := lay_bit' L k 2
      rw [if_neg k2] at e
      exact ⟨by rw [settle_asks h.ok, if_neg k2, a, e], b.trans e⟩
    · obtain ⟨a, b⟩ := h.lb k hk
      have e := lay_bit' L (8 + k) 2
      rw [if_neg (by omega)] at e
      exact ⟨a.trans e, b.trans e⟩
  · rw [if_neg (by omega)] at ok ⊢
    by_cases e8 : i < 8
    · rw [if_pos (by omega)] at ok ⊢
      have o1 : (m.set false (m.a.line (i : Int) (tb L i))).Ok := h.ok.set false (h.ok.a.line (by omega) (by omega) _)
      obtain ⟨c1, c2, c3, c4, c5, c6⟩ := line_keep m.a (i : Int) (tb L i)
      refine ⟨ok, c1.trans h.sa, h.sb, c3.trans h.ba, h.bb, c6.trans h.ea, h.eb, c2.trans h.ma, h.mb, fun k hk k2 => ?_, fun k hk => ?_, settle_st o1⟩
      · obtain ⟨a, b⟩ := h.la k hk k2
        obtain ⟨a', b'⟩ := h.la i e8 e2
        rw [decide_eq_false (Nat.lt_irrefl i)] at a' b'
        constructor
        · rw [settle_asks o1, if_neg k2, ← lay_bit' L k i]
          show tb (m.a.line (i : Int) (tb L i)).asks k = _
          rw [line_asks h.ok.a e8, a', b', a]
          cases tb L i <;> simp
        · rw [← lay_bit' L k i]
          show tb (m.a.line (i : Int) (tb L i)).up k = _
          rw [line_up h.ok.a e8, b]
      · obtain ⟨a, b⟩ := h.lb k hk
        have e := lay_bit' L (8 + k) i
        rw [if_neg (by omega)] at e
        exact ⟨a.trans e, b.trans e⟩
    · rw [if_neg (by omega)] at ok ⊢
      obtain ⟨q, rfl⟩ : ∃ q, i = 8 + q := ⟨i - 8, by omega⟩
      have hq : q < 8 := by omega
      rw [show ((8 + q : Nat) : Int) - 8 = (q : Int) by omega] at ok ⊢
      have o1 : (m.set true (m.b.line (q : Int) (tb L (8 + q)))).Ok := h.ok.set true (h.ok.b.line (by omega) (by omega) _)
      obtain ⟨c1, c2, c3, c4, c5, c6⟩ := line_keep m.b (q : Int) (tb L (8 + q))
      refine ⟨ok, h.sa, c1.trans h.sb, h.ba, c3.trans h.bb, h.ea, c6.trans h.eb, h.ma, c2.trans h.mb, fun k hk k2 => ?_, fun k hk => ?_, settle_st o1⟩
      · obtain ⟨a, b⟩ := h.la k hk k2
        have e := lay_bit' L k (8 + q)
        rw [if_neg (by omega)] at e
        exact ⟨by rw [settle_asks o1, if_neg k2]; exact a.trans e, b.trans e⟩
      · obtain ⟨a, b⟩ := h.lb k hk
        obtain ⟨a', b'⟩ := h.lb q hq
        rw [decide_eq_false (Nat.lt_irrefl _)] at a' b'
        have hkq : (8 + k = 8 + q) = (k = q) := by simp
        constructor
        · rw [← lay_bit' L (8 + k) (8 + q)]
          show tb (m.b.line (q : Int) (tb L (8 + q))).asks k = _
          rw [line_asks h.ok.b hq, a', b', a]
          simp only [hkq]
          cases tb L (8 + q) <;> simp
        · rw [← lay_bit' L (8 + k) (8 + q)]
          show tb (m.b.line (q : Int) (tb L (8 + q))).up k = _
          rw [line_up h.ok.b hq, b]
          simp only [hkq]

theorem LnI.done {L K mA mB : Int} {m : M2} (h : LnI L mA mB 16 m) (hA : ∀ k, k < 8 → tb mA k = tb K k) (hB : ∀ k, k < 8 → tb mB k = tb K (8 + k)) (h2 : tb K 2 = false) : OrdI (fun k => tb L k && !tb K k) 0 m := by
  refine ⟨h.ok, h.sa, h.sb, h.ba, h.bb, h.ea, h.eb, by rw [h.ma, hA 2 (by decide)]; exact h2, fun k hk k2 => ?_, fun k hk => ?_, h.st⟩
  · unfold Ch.eff
    rw [(h.la k hk k2).1, h.ma, hA k hk, decide_eq_true (show k < 16 by omega), decide_eq_true (Nat.zero_le _)]
    simp
  · unfold Ch.eff
    rw [(h.lb k hk).1, h.mb, hB k hk, decide_eq_true (show 8 + k < 16 by omega), decide_eq_true (Nat.zero_le _)]
    simp
end Go.Proofs.Ytfpgijdfbgfkcaa
