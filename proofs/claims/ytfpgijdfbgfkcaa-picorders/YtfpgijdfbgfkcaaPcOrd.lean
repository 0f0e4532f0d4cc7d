/- The order in which lines are told: plain facts. -/
import Derived.Test.YtfpgijdfbgfkcaaPcMask
namespace Go.Proofs.Ytfpgijdfbgfkcaa
open Go.RowKit
set_option linter.unusedVariables false

/-- Where a line stands in the order, and which line stands there. -/
def posL (k : Nat) : Nat := if k < 2 then k else if k < 8 then k + 7 else k - 6
def ordL (i : Nat) : Nat := if i < 2 then i else if i < 10 then i + 6 else i - 7

theorem pos_ord {i : Nat} (h : i < 15) : posL (ordL i) = i ∧ ordL i < 16 ∧ ordL i ≠ 2 := by
  unfold posL ordL
  by_cases a : i < 2
  · rw [if_pos a, if_pos a]; omega
  · by_cases b : i < 10
    · rw [if_neg a, if_pos b, if_neg (by omega), if_neg (by omega)]; omega
    · rw [if_neg a, if_neg b, if_neg (by omega), if_pos (by omega)]; omega

theorem pos_lt {j n : Nat} (hj : j < n) (hn : n < 8) : posL j < posL n := by
  unfold posL
  by_cases a : j < 2
  · by_cases b : n < 2
    · rw [if_pos a, if_pos b]; omega
    · rw [if_pos a, if_neg b, if_pos hn]; omega
  · have b : ¬ n < 2 := by omega
    have c : j < 8 := by omega
    rw [if_neg a, if_pos c, if_neg b, if_pos hn]; omega

theorem pos_inj {k : Nat} (h : k < 16) (h2 : k ≠ 2) {i : Nat} (e : posL k = i) : k = ordL i := by
  unfold posL at e
  unfold ordL
  by_cases a : k < 2
  · rw [if_pos a] at e; rw [if_pos (by omega)]; omega
  · by_cases b : k < 8
    · rw [if_neg a, if_pos b] at e; rw [if_neg (by omega), if_neg (by omega)]; omega
    · rw [if_neg a, if_neg b] at e; rw [if_neg (by omega), if_pos (by omega)]; omega

/-- What holds of the pair ahead of place i of the order: those lines are still to be told that are up, not masked, and stand from there on. -/
structure OrdI (A : Nat → Bool) (i : Nat) (m : M2) : Prop where
  ok : m.Ok
  sa : m.a.srv = 0
  sb : m.b.srv = 0
  ba : m.a.base = 32
  bb : m.b.base = 40
  ea : m.a.ends = false
  eb : m.b.ends = false
  m2 : tb m.a.msk 2 = false
  la : ∀ k, k < 8 → k ≠ 2 → m.a.eff k = (A k && decide (i ≤ posL k))
  lb : ∀ k, k < 8 → m.b.eff k = (A (8 + k) && decide (i ≤ posL (8 + k)))
  st : tb m.a.asks 2 = (m.b.next != -1)

theorem OrdI.skip {A : Nat → Bool} {i : Nat} {m : M2} (h : OrdI A i m) (hA : A (ordL i) = false) : OrdI A (i + 1) m := by
  have g : ∀ k, k < 16 → k ≠ 2 → (A k && decide (i ≤ posL k)) = (A k && decide (i + 1 ≤ posL k)) := fun k hk h2 => by
    by_cases e : posL k = i
    · rw [pos_inj hk h2 e, hA]; rfl
    · have : decide (i ≤ posL k) = decide (i + 1 ≤ posL k) := by
        by_cases q : i ≤ posL k
        · rw [decide_eq_true q, decide_eq_true (by omega)]
        · rw [decide_eq_false q, decide_eq_false (by omega)]
      rw [this]
  exact { h with la := fun k hk h2 => (h.la k hk h2).trans (g k (by omega) h2), lb := fun k hk => (h.lb k hk).trans (g (8 + k) (by omega) (by omega)) }

theorem OrdI.nextB {A : Nat → Bool} {i : Nat} {m : M2} (h : OrdI A i m) {n : Nat} (hn : n < 8) (hi : i = posL (8 + n)) (hA : A (8 + n) = true) : m.b.next = n := by
  refine next_is h.ok.b hn (by rw [h.lb n hn, hA, hi]; simp) (fun j hj => ?_) (fun j _ => by rw [h.sb]; exact zero_tb j)
  rw [h.lb j (by omega)]
  have : ¬ i ≤ posL (8 + j) := by rw [hi]; unfold posL; rw [if_neg (by omega), if_neg (by omega), if_neg (by omega), if_neg (by omega)]; omega
  simp [this]

theorem OrdI.noB {A : Nat → Bool} {i : Nat} {m : M2} (h : OrdI A i m) (hi : 10 ≤ i) : m.b.next = -1 := by
  refine next_none h.ok.b (k := 8) (by decide) (fun j hj => ?_) (.inl rfl)
  rw [h.lb j hj]
  have : ¬ i ≤ posL (8 + j) := by unfold posL; rw [if_neg (by omega), if_neg (by omega)]; omega
  simp [this]

/-- A line of the first chip is next. -/
theorem OrdI.nextA {A : Nat → Bool} {i : Nat} {m : M2} (h : OrdI A i m) {n : Nat} (hn : n < 8) (h2 : n ≠ 2) (hi : i = posL n) (hA : A n = true) : m.a.next = n := by
  refine next_is h.ok.a hn (by rw [h.la n hn h2, hA, hi]; simp) (fun j hj => ?_) (fun j _ => by rw [h.sa]; exact zero_tb j)
  by_cases e2 : j = 2
  · subst e2
    have hb := h.noB (by rw [hi]; unfold posL; rw [if_neg (by omega), if_pos (by omega)]; omega)
    unfold Ch.eff
    rw [h.st, hb]; rfl
  · rw [h.la j (by omega) e2]
    have := pos_lt hj hn
    have : ¬ i ≤ posL j := by omega
    simp [this]

/-- The second chip has one to tell: the first one's line 2 is next. -/
theorem OrdI.next2 {A : Nat → Bool} {i : Nat} {m : M2} (h : OrdI A i m) {n : Nat} (hn : n < 8) (hi : i = posL (8 + n)) (hA : A (8 + n) = true) : m.a.next = 2 := by
  have hb := h.nextB hn hi hA
  have hi2 : 2 ≤ i := by rw [hi]; unfold posL; rw [if_neg (by omega), if_neg (by omega)]; omega
  refine next_is (k := 2) h.ok.a (by decide) ?_ (fun j hj => ?_) (fun j _ => by rw [h.sa]; exact zero_tb j)
  · unfold Ch.eff
    rw [h.st, h.m2, hb]
    simp
  · rw [h.la j (by omega) (by omega)]
    have : ¬ i ≤ posL j := by unfold posL; rw [if_pos hj]; omega
    simp [this]

theorem OrdI.end_ {A : Nat → Bool} {m : M2} (h : OrdI A 15 m) : m.a.next = -1 := by
  refine next_none h.ok.a (k := 8) (by decide) (fun j hj => ?_) (.inl rfl)
  by_cases e2 : j = 2
  · subst e2
    unfold Ch.eff
    rw [h.st, h.noB (by decide)]; rfl
  · rw [h.la j hj e2]
    have : ¬ 15 ≤ posL j := by
      unfold posL
      by_cases a : j < 2
      · rw [if_pos a]; omega
      · rw [if_neg a, if_pos hj]; omega
    simp [this]

theorem low_told {c : Ch} (hs : c.srv = 0) (he : c.ends = false) {n : Nat} (hn : n < 8) : ((c.told (n : Int)).cmd 32).srv = 0 := by
  rw [cmd32, told_f n he]
  show bits .and .u8 (bits .or .u8 c.srv (pw (n : Int))) ((bits .or .u8 c.srv (pw (n : Int)) - 1) % 256) = 0
  have p := by_pw (n := (n : Int)) (by omega) (by omega)
  have e : bits .or .u8 c.srv (pw (n : Int)) = pw (n : Int) := by
    refine by_ext (by_or (by rw [hs]; exact by_lit 0 (by decide) (by decide)) p) p fun i _ => ?_
    rw [tb8_or (by rw [hs]; exact by_lit 0 (by decide) (by decide)) p, hs, zero_tb]; rfl
  rw [e]
  exact low_pw ⟨n, hn⟩

theorem cmd32_keep (c : Ch) : (c.cmd 32).asks = c.asks ∧ (c.cmd 32).msk = c.msk ∧ (c.cmd 32).base = c.base ∧ (c.cmd 32).ends = c.ends := by
  rw [cmd32]; exact ⟨rfl, rfl, rfl, rfl⟩

theorem cmd32_eff (c : Ch) (k : Nat) : (c.cmd 32).eff k = c.eff k := by
  unfold Ch.eff; rw [(cmd32_keep c).1, (cmd32_keep c).2.1]

theorem told_keep {c : Ch} (n : Nat) (he : c.ends = false) : (c.told (n : Int)).msk = c.msk ∧ (c.told (n : Int)).base = c.base ∧ (c.told (n : Int)).ends = false := by
  rw [told_f n he]; exact ⟨rfl, rfl, he⟩

theorem step_eq {A : Nat → Bool} {i : Nat} {k : Nat} (hk : k < 16) (h2 : k ≠ 2) (hi : i < 15) : (A k && decide (i ≤ posL k) && !decide (k = ordL i)) = (A k && decide (i + 1 ≤ posL k)) := by
  by_cases e : posL k = i
  · have := pos_inj hk h2 e
    rw [decide_eq_true this, decide_eq_false (show ¬ i + 1 ≤ posL k by omega)]
    cases A k <;> simp
  · have n : ¬ k = ordL i := fun f => e (by rw [f]; exact (pos_ord hi).1)
    have : decide (i ≤ posL k) = decide (i + 1 ≤ posL k) := by
      by_cases q : i ≤ posL k
      · rw [decide_eq_true q, decide_eq_true (by omega)]
      · rw [decide_eq_false q, decide_eq_false (by omega)]
    rw [this, decide_eq_false n]
    simp

section one
variable {A : Nat → Bool} {i : Nat} {m : M2} {n : Nat}

theorem OrdI.ackA (h : OrdI A i m) (hn : n < 8) (h2 : n ≠ 2) (hi : i = posL n) (hA : A n = true) : m.ack = (⟨m.a.told (n : Int), m.b⟩ : M2).settle := by
  unfold M2.ack M2.acks
  rw [h.nextA hn h2 hi hA, if_neg (by omega)]

theorem OrdI.vecA (h : OrdI A i m) (hn : n < 8) (h2 : n ≠ 2) (hi : i = posL n) (hA : A n = true) : m.vec = 32 + (n : Int) := by
  unfold M2.vec Ch.vec
  rw [h.nextA hn h2 hi hA, if_neg (by omega), if_neg (by omega), h.ba]

theorem OrdI.stopA (h : OrdI A i m) (hn : n < 8) (h2 : n ≠ 2) (hi : i = posL n) (hA : A n = true) : m.ack.a.next = -1 := by
  have o : (⟨m.a.told (n : Int), m.b⟩ : M2).Ok := ⟨h.ok.a.told (n := (n : Int)) (by omega) (by omega), h.ok.b⟩
  rw [h.ackA hn h2 hi hA]
  refine next_none o.settle.a (k := n) (by omega) (fun j hj => ?_) (.inr ⟨hn, ?_⟩)
  · by_cases e2 : j = 2
    · subst e2
      unfold Ch.eff
      rw [settle_asks o, if_pos rfl]
      show (((m.b.next != -1)) && _) = false
      rw [h.noB (by rw [hi]; unfold posL; rw [if_neg (by omega), if_pos (by omega)]; omega)]; rfl
    · rw [settle_eff o e2]
      show (m.a.told (n : Int)).eff j = false
      rw [told_eff h.ok.a hn h.ea, h.la j (by omega) e2]
      have := pos_lt hj hn
      have : ¬ i ≤ posL j := by omega
      simp [this]
  · show tb (m.a.told (n : Int)).srv n = true
    rw [told_srv h.ok.a hn h.ea]; simp

theorem settle_st {m : M2} (h : m.Ok) : tb m.settle.a.asks 2 = (m.settle.b.next != -1) := by
  rw [settle_asks h, if_pos rfl]; rfl

theorem OrdI.goA (h : OrdI A i m) (hn : n < 8) (h2 : n ≠ 2) (hi : i = posL n) (hA : A n = true) (h15 : i < 15) (hno : n = ordL i) : OrdI A (i + 1) (m.ack.out 0 32) := by
  have o : (⟨m.a.told (n : Int), m.b⟩ : M2).Ok := ⟨h.ok.a.told (n := (n : Int)) (by omega) (by omega), h.ok.b⟩
  have ov : By 32 := by_lit 32 (by decide) (by decide)
  rw [h.ackA hn h2 hi hA]
  obtain ⟨t1, t2, t3⟩ := told_keep (c := m.a) n h.ea
  have e : (⟨m.a.told (n : Int), m.b⟩ : M2).settle.out 0 32 = ((⟨m.a.told (n : Int), m.b⟩ : M2).settle.set false ((⟨m.a.told (n : Int), m.b⟩ : M2).settle.a.cmd 32)).settle := by
    unfold M2.out; rw [if_pos rfl]
  have o1 : ((⟨m.a.told (n : Int), m.b⟩ : M2).settle.set false ((⟨m.a.told (n : Int), m.b⟩ : M2).settle.a.cmd 32)).Ok := o.settle.set false (o.settle.a.cmd ov)
  obtain ⟨c1, c2, c3, c4⟩ := cmd32_keep (⟨m.a.told (n : Int), m.b⟩ : M2).settle.a
  rw [e]
  refine ⟨o1.settle, ?_, h.sb, ?_, h.bb, ?_, h.eb, ?_, fun k hk k2 => ?_, fun k hk => ?_, settle_st o1⟩
  · show ((⟨m.a.told (n : Int), m.b⟩ : M2).settle.a.cmd 32).srv = 0
    rw [cmd32]
    have := low_told (c := m.a) h.sa h.ea hn
    rw [cmd32] at this
    exact this
  · exact c3.trans (t2.trans h.ba)
  · exact c4.trans t3
  · show tb ((⟨m.a.told (n : Int), m.b⟩ : M2).settle.a.cmd 32).msk 2 = false
    rw [c2]
    show tb (m.a.told (n : Int)).msk 2 = false
    rw [t1]; exact h.m2
  · rw [settle_eff o1 k2]
    show ((⟨m.a.told (n : Int), m.b⟩ : M2).settle.a.cmd 32).eff k = _
    rw [cmd32_eff, settle_eff o k2]
    show (m.a.told (n : Int)).eff k = _
    rw [told_eff h.ok.a hn h.ea, h.la k hk k2, hno, step_eq (by omega) k2 h15]
  · show m.b.eff k = _
    rw [h.lb k hk, ← step_eq (by omega) (by omega) h15]
    have : ¬ 8 + k = ordL i := by rw [← hno]; omega
    simp [this]

/-! the second chip's lines -/
theorem OrdI.ackB (h : OrdI A i m) (hn : n < 8) (hi : i = posL (8 + n)) (hA : A (8 + n) = true) : m.ack = (⟨m.a.told 2, m.b.told (n : Int)⟩ : M2).settle := by
  unfold M2.ack M2.acks
  rw [h.next2 hn hi hA, if_pos rfl, h.nextB hn hi hA]

theorem OrdI.vecB (h : OrdI A i m) (hn : n < 8) (hi : i = posL (8 + n)) (hA : A (8 + n) = true) : m.vec = 40 + (n : Int) := by
  unfold M2.vec Ch.vec
  rw [h.next2 hn hi hA, if_pos rfl, h.nextB hn hi hA, if_neg (by omega), h.bb]

theorem OrdI.okB (h : OrdI A i m) (hn : n < 8) : (⟨m.a.told 2, m.b.told (n : Int)⟩ : M2).Ok := ⟨h.ok.a.told (n := 2) (by decide) (by decide), h.ok.b.told (n := (n : Int)) (by omega) (by omega)⟩

theorem OrdI.quietB (h : OrdI A i m) (hn : n < 8) (hi : i = posL (8 + n)) : (m.b.told (n : Int)).next = -1 := by
  refine next_none (h.okB hn).b (k := n) (by omega) (fun j hj => ?_) (.inr ⟨hn, ?_⟩)
  · show (m.b.told (n : Int)).eff j = false
    rw [told_eff h.ok.b hn h.eb, h.lb j (by omega)]
    have : ¬ i ≤ posL (8 + j) := by rw [hi]; unfold posL; rw [if_neg (by omega), if_neg (by omega), if_neg (by omega), if_neg (by omega)]; omega
    simp [this]
  · show tb (m.b.told (n : Int)).srv n = true
    rw [told_srv h.ok.b hn h.eb]; simp

theorem OrdI.low (h : OrdI A i m) (hi : 2 ≤ i) {j : Nat} (hj : j < 2) : m.a.eff j = false := by
  rw [h.la j (by omega) (by omega)]
  have : ¬ i ≤ posL j := by unfold posL; rw [if_pos hj]; omega
  simp [this]

theorem OrdI.stopB (h : OrdI A i m) (hn : n < 8) (hi : i = posL (8 + n)) (hA : A (8 + n) = true) : m.ack.a.next = -1 := by
  have o := h.okB hn
  have hi2 : 2 ≤ i := by rw [hi]; unfold posL; rw [if_neg (by omega), if_neg (by omega)]; omega
  rw [h.ackB hn hi hA]
  refine next_none o.settle.a (k := 2) (by omega) (fun j hj => ?_) (.inr ⟨by decide, ?_⟩)
  · rw [settle_eff o (by omega)]
    show (m.a.told 2).eff j = false
    have := told_eff h.ok.a (n := 2) (by decide) h.ea j
    rw [show ((2 : Nat) : Int) = 2 from rfl] at this
    rw [this, h.low hi2 hj]; rfl
  · show tb (m.a.told 2).srv 2 = true
    have := told_srv h.ok.a (n := 2) (by decide) h.ea 2
    rw [show ((2 : Nat) : Int) = 2 from rfl] at this
    rw [this]; simp

theorem OrdI.goB (h : OrdI A i m) (hn : n < 8) (hi : i = posL (8 + n)) (hA : A (8 + n) = true) (h15 : i < 15) (hno : 8 + n = ordL i) : OrdI A (i + 1) ((m.ack.out 2 32).out 0 32) := by
  have o := h.okB hn
  have ov : By 32 := by_lit 32 (by decide) (by decide)
  rw [h.ackB hn hi hA]
  obtain ⟨t1, t2, t3⟩ := told_keep (c := m.a) 2 h.ea
  rw [show ((2 : Nat) : Int) = 2 from rfl] at t1 t2 t3
  obtain ⟨u1, u2, u3⟩ := told_keep (c := m.b) n h.eb
  obtain ⟨d1, d2, d3, d4⟩ := cmd32_keep (m.b.told (n : Int))
  obtain ⟨p, hp⟩ : ∃ p, p = (⟨m.a.told 2, m.b.told (n : Int)⟩ : M2).settle := ⟨_, rfl⟩
  have op : p.Ok := hp ▸ o.settle
  have pa : p.a.srv = (m.a.told 2).srv ∧ p.a.msk = (m.a.told 2).msk ∧ p.a.base = (m.a.told 2).base ∧ p.a.ends = (m.a.told 2).ends := by rw [hp]; exact ⟨rfl, rfl, rfl, rfl⟩
  have pb : p.b = m.b.told (n : Int) := by rw [hp]; rfl
  have pe : ∀ k, k ≠ 2 → p.a.eff k = (m.a.told 2).eff k := fun k hk => by rw [hp]; exact settle_eff o hk
  rw [← hp]
  clear hp
  obtain ⟨q, hq⟩ : ∃ q, q = p.out 2 32 := ⟨_, rfl⟩
  have oq0 : (p.set true (p.b.cmd 32)).Ok := op.set true (op.b.cmd ov)
  have eq : q = (p.set true (p.b.cmd 32)).settle := by rw [hq]; unfold M2.out; rw [if_neg (by decide), if_neg (by decide), if_pos rfl]
  have oq : q.Ok := eq ▸ oq0.settle
  have qa : q.a.srv = (m.a.told 2).srv ∧ q.a.msk = (m.a.told 2).msk ∧ q.a.base = (m.a.told 2).base ∧ q.a.ends = (m.a.told 2).ends := by rw [eq]; exact pa
  have qb : q.b = (m.b.told (n : Int)).cmd 32 := by rw [eq, ← pb]; rfl
  have qe : ∀ k, k ≠ 2 → q.a.eff k = (m.a.told 2).eff k := fun k hk => by rw [eq, settle_eff oq0 hk]; exact pe k hk
  rw [← hq]
  clear hq eq oq0 pa pb pe op
  have e : q.out 0 32 = (q.set false (q.a.cmd 32)).settle := by unfold M2.out; rw [if_pos rfl]
  have o1 : (q.set false (q.a.cmd 32)).Ok := oq.set false (oq.a.cmd ov)
  obtain ⟨c1, c2, c3, c4⟩ := cmd32_keep q.a
  rw [e]
  refine ⟨o1.settle, ?_, ?_, ?_, ?_, ?_, ?_, ?_, fun k hk k2 => ?_, fun k hk => ?_, settle_st o1⟩
  · show (q.a.cmd 32).srv = 0
    rw [cmd32]
    have := low_told (c := m.a) h.sa h.ea (n := 2) (by decide)
    rw [show ((2 : Nat) : Int) = 2 from rfl, cmd32] at this
    show bits .and .u8 q.a.srv ((q.a.srv - 1) % 256) = 0
    rw [qa.1]
    exact this
  · show q.b.srv = 0
    rw [qb]
    exact low_told (c := m.b) h.sb h.eb hn
  · exact c3.trans (qa.2.2.1.trans (t2.trans h.ba))
  · show q.b.base = 40
    rw [qb, d3, u2]; exact h.bb
  · exact c4.trans (qa.2.2.2.trans t3)
  · show q.b.ends = false
    rw [qb, d4]; exact u3
  · show tb (q.a.cmd 32).msk 2 = false
    rw [c2, qa.2.1, t1]; exact h.m2
  · rw [settle_eff o1 k2]
    show (q.a.cmd 32).eff k = _
    rw [cmd32_eff, qe k k2]
    have := told_eff h.ok.a (n := 2) (by decide) h.ea k
    rw [show ((2 : Nat) : Int) = 2 from rfl] at this
    rw [this, h.la k hk k2, ← step_eq (by omega) k2 h15]
    have : ¬ k = ordL i := by rw [← hno]; omega
    simp [this, k2]
  · show q.b.eff k = _
    rw [qb, cmd32_eff, told_eff h.ok.b hn h.eb, h.lb k hk, ← step_eq (by omega) (by omega) h15, ← hno]
    have : decide (k = n) = decide (8 + k = 8 + n) := by
      by_cases e : k = n
      · subst e; simp
      · rw [decide_eq_false e, decide_eq_false (by omega)]
    rw [this]
end one
end Go.Proofs.Ytfpgijdfbgfkcaa
