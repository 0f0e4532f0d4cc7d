/- The pair while all of the first chip's lines are masked, and with one line's mask taken away: plain facts. -/
import Derived.Test.YtfpgijdfbgfkcaaPcBits
import Derived.Test.YtfpgijdfbgfkcaaPcAwake
namespace Go.Proofs.Ytfpgijdfbgfkcaa
open Go.RowKit
set_option linter.unusedVariables false

theorem line_keep (c : Ch) (k : Int) (u : Bool) : (c.line k u).srv = c.srv ∧ (c.line k u).msk = c.msk ∧ (c.line k u).base = c.base ∧ (c.line k u).due = c.due ∧ (c.line k u).sh = c.sh ∧ (c.line k u).ends = c.ends := by
  unfold Ch.line
  cases u
  · exact ⟨rfl, rfl, rfl, rfl, rfl, rfl⟩
  · rw [if_pos rfl]
    split <;> exact ⟨rfl, rfl, rfl, rfl, rfl, rfl⟩

theorem line_asks {c : Ch} (h : c.Ok) {k : Nat} (hk : k < 8) (u : Bool) (j : Nat) : tb (c.line (k : Int) u).asks j = if j = k then (u && (tb c.asks k || !tb c.up k)) else tb c.asks j := by
  have p := by_pw (n := (k : Int)) (by omega) (by omega)
  unfold Ch.line
  cases u
  · show tb (bits .andNot .u8 c.asks (pw (k : Int))) j = _
    rw [tb8_andNot h.asks p, tb_pw]
    by_cases e : j = k <;> simp [e]
  · rw [if_pos rfl, bt_pw h.up hk]
    cases eu : tb c.up k
    · show tb (bits .or .u8 c.asks (pw (k : Int))) j = _
      rw [tb8_or h.asks p, tb_pw]
      by_cases e : j = k <;> simp [e]
    · show tb c.asks j = _
      by_cases e : j = k <;> simp [e]

theorem line_up {c : Ch} (h : c.Ok) {k : Nat} (hk : k < 8) (u : Bool) (j : Nat) : tb (c.line (k : Int) u).up j = if j = k then u else tb c.up j := by
  have p := by_pw (n := (k : Int)) (by omega) (by omega)
  unfold Ch.line
  cases u
  · show tb (bits .andNot .u8 c.up (pw (k : Int))) j = _
    rw [tb8_andNot h.up p, tb_pw]
    by_cases e : j = k <;> simp [e]
  · rw [if_pos rfl, bt_pw h.up hk]
    cases eu : tb c.up k
    · show tb (bits .or .u8 c.up (pw (k : Int))) j = _
      rw [tb8_or h.up p, tb_pw]
      by_cases e : j = k <;> simp [e]
    · show tb c.up j = _
      by_cases e : j = k <;> simp [e, eu]

/-- The first chip masks all; the line n asks. -/
structure MkI (n : Nat) (m : M2) : Prop where
  ok : m.Ok
  msk : m.a.msk = 255
  srv : m.a.srv = 0
  base : m.a.base = 32
  due : m.a.due = 0
  ends : m.a.ends = false
  asks : tb m.a.asks n = true

theorem MkI.settle {n : Nat} {m : M2} (h : MkI n m) (h2 : n ≠ 2) : MkI n m.settle :=
  ⟨h.ok.settle, h.msk, h.srv, h.base, h.due, h.ends, by rw [settle_asks h.ok, if_neg h2]; exact h.asks⟩

theorem MkI.line {n : Nat} {m : M2} (h : MkI n m) (hn : n < 8) (h2 : n ≠ 2) {k : Int} (k0 : 0 ≤ k) (k1 : k < 16) (u : Bool) (hk : k ≠ n ∨ u = true) : MkI n (m.line k u) := by
  unfold M2.line
  apply MkI.settle _ h2
  split
  · exact h
  · split
    · rename_i g8
      obtain ⟨j, rfl⟩ := Int.eq_ofNat_of_zero_le k0
      obtain ⟨e1, e2, e3, e4, e5, e6⟩ := line_keep m.a (j : Int) u
      refine ⟨h.ok.set false (h.ok.a.line k0 g8 u), e2.trans h.msk, e1.trans h.srv, e3.trans h.base, e4.trans h.due, e6.trans h.ends, ?_⟩
      show tb (m.a.line (j : Int) u).asks n = true
      rw [line_asks h.ok.a (by omega)]
      by_cases e : n = j
      · subst e
        rcases hk with hk | hk
        · exact absurd rfl hk
        · rw [if_pos rfl, hk, h.asks]; rfl
      · rw [if_neg e]; exact h.asks
    · exact ⟨h.ok.set true (h.ok.b.line (by omega) (by omega) u), h.msk, h.srv, h.base, h.due, h.ends, h.asks⟩

theorem tb255 : ∀ j : Fin 8, tb 255 j.val = true := by decide

theorem MkI.still {n : Nat} {m : M2} (h : MkI n m) : m.a.next = -1 :=
  next_none h.ok.a (k := 8) (by decide) (fun j hj => by
    have := tb255 ⟨j, hj⟩
    simp only at this
    unfold Ch.eff
    rw [h.msk, this]; simp) (.inl rfl)

theorem MkI.start {n : Nat} (hn : n < 8) (h2 : n ≠ 2) : MkI n ((setM.out 1 255).line (n : Int) true) := by
  have o : (setM.out 1 255).Ok := M2.Ok.out (p := 1) (v := 255) setM_ok ⟨by decide, by decide⟩
  have a := o.line (n := (n : Int)) (by omega) (by omega) true
  have f : ∀ k : Fin 8, k.val ≠ 2 → ((setM.out 1 255).line (k.val : Int) true).a.msk = 255 ∧ ((setM.out 1 255).line (k.val : Int) true).a.srv = 0 ∧ ((setM.out 1 255).line (k.val : Int) true).a.base = 32 ∧ ((setM.out 1 255).line (k.val : Int) true).a.due = 0 ∧ ((setM.out 1 255).line (k.val : Int) true).a.ends = false ∧ tb ((setM.out 1 255).line (k.val : Int) true).a.asks k.val = true := by decide +kernel
  obtain ⟨b, c, d, e, g, i⟩ := f ⟨n, hn⟩ h2
  exact ⟨a, b, c, d, e, g, i⟩

/-- One line's mask is taken away. -/
def unm (m : M2) (n : Nat) : M2 := (m.line (n : Int) true).out 1 (255 - pw (n : Int))

theorem by_unm {n : Nat} (hn : n < 8) : By (255 - pw (n : Int)) := by
  have := by_pw (n := (n : Int)) (by omega) (by omega)
  exact ⟨by have := this.2; omega, by have := this.1; omega⟩

theorem unm_a {n : Nat} {m : M2} (h : MkI n m) (hn : n < 8) (h2 : n ≠ 2) : (unm m n).Ok ∧ (unm m n).a.msk = 255 - pw (n : Int) ∧ (unm m n).a.srv = 0 ∧ (unm m n).a.base = 32 ∧ (unm m n).a.ends = false ∧ tb (unm m n).a.asks n = true := by
  have k := h.line hn h2 (k := (n : Int)) (by omega) (by omega) true (.inr rfl)
  have e : (unm m n) = (⟨{ (m.line (n : Int) true).a with msk := 255 - pw (n : Int) }, (m.line (n : Int) true).b⟩ : M2).settle := by
    unfold unm M2.out
    rw [if_neg (by decide), if_pos rfl, dat0 _ k.due]
    rfl
  have o : (unm m n).Ok := k.ok.out (by_unm hn)
  have o' : (⟨{ (m.line (n : Int) true).a with msk := 255 - pw (n : Int) }, (m.line (n : Int) true).b⟩ : M2).Ok := ⟨⟨k.ok.a.up, k.ok.a.asks, k.ok.a.srv, by_unm hn, k.ok.a.base, k.ok.a.b8, k.ok.a.due⟩, k.ok.b⟩
  refine ⟨o, ?_, ?_, ?_, ?_, ?_⟩
  · rw [e]; rfl
  · rw [e]; exact k.srv
  · rw [e]; exact k.base
  · rw [e]; exact k.ends
  · rw [e, settle_asks o', if_neg h2]; exact k.asks

theorem unm_eff {n : Nat} {m : M2} (h : MkI n m) (hn : n < 8) (h2 : n ≠ 2) (j : Nat) (hj : j < 8) : (unm m n).a.eff j = (tb (unm m n).a.asks j && decide (j = n)) := by
  unfold Ch.eff
  rw [(unm_a h hn h2).2.1, tb8_not (by_pw (by omega) (by omega)) hj, tb_pw]
  cases tb (unm m n).a.asks j <;> cases decide (j = n) <;> rfl

theorem unm_next {n : Nat} {m : M2} (h : MkI n m) (hn : n < 8) (h2 : n ≠ 2) : (unm m n).a.next = n := by
  obtain ⟨o, e1, e2, e3, e4, e5⟩ := unm_a h hn h2
  refine next_is o.a hn (by rw [unm_eff h hn h2 n hn, e5]; simp) (fun j hj => ?_) (fun j _ => by rw [e2]; exact zero_tb j)
  rw [unm_eff h hn h2 j (by omega)]
  have : ¬ j = n := by omega
  simp [this]

theorem unm_pend {n : Nat} {m : M2} (h : MkI n m) (hn : n < 8) (h2 : n ≠ 2) : ((unm m n).a.next != -1) = true := by
  rw [unm_next h hn h2]; simp

theorem unm_vec {n : Nat} {m : M2} (h : MkI n m) (hn : n < 8) (h2 : n ≠ 2) : (unm m n).vec = 32 + (n : Int) := by
  unfold M2.vec Ch.vec
  rw [unm_next h hn h2, if_neg (by omega), if_neg (by omega), (unm_a h hn h2).2.2.2.1]

theorem unm_done {n : Nat} {m : M2} (h : MkI n m) (hn : n < 8) (h2 : n ≠ 2) : ((unm m n).ack.a.next != -1) = false := by
  obtain ⟨o, e1, e2, e3, e4, e5⟩ := unm_a h hn h2
  have ea : (unm m n).acks = ⟨(unm m n).a.told (n : Int), (unm m n).b⟩ := by
    unfold M2.acks
    rw [unm_next h hn h2, if_neg (by omega)]
  have oa := o.acks
  have hz : (unm m n).ack.a.next = -1 := by
    refine next_none o.ack.a (k := n) (by omega) (fun j hj => ?_) (.inr ⟨hn, ?_⟩)
    · unfold M2.ack
      unfold Ch.eff
      have em : (unm m n).acks.settle.a.msk = 255 - pw (n : Int) := by
        show (unm m n).acks.a.msk = _
        rw [ea]
        show ((unm m n).a.told (n : Int)).msk = _
        rw [told_f n e4]
        exact e1
      rw [em, tb8_not (by_pw (by omega) (by omega)) (by omega), tb_pw]
      have : ¬ j = n := by omega
      simp [this]
    · show tb (unm m n).acks.a.srv n = true
      rw [ea]
      show tb ((unm m n).a.told (n : Int)).srv n = true
      rw [told_srv o.a hn e4]
      simp
  rw [hz]; rfl
end Go.Proofs.Ytfpgijdfbgfkcaa
