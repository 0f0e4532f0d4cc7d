/- Plain facts: what a walk marks is not seen by other walks; what the outer ring may, the inner may. -/
import Derived.Test.YtmmnnafjikilpaaVmAll
import Derived.Test.YtmmnnafjikilpaaPgMoves
namespace Go.Proofs.Ytmmnnafjikilpaa
open Go.ChangeShapes Go.WideShapes Go.ChangeAt Go.RowKit Go.Maps
set_option linter.unusedVariables false

theorem has_is (n k : Int) : hasF n k = decide (n / k % 2 = 1) := rfl
theorem set_is {n k : Int} (hk : k = 32 ∨ k = 64) : (hasF n k = true ∧ setF n k true = n) ∨ (n / k % 2 = 0 ∧ setF n k true = n + k) := by
  unfold setF flg
  rw [has_is, if_pos rfl]
  by_cases h : n / k % 2 = 1
  · left
    rw [if_pos h]
    exact ⟨decide_eq_true h, by omega⟩
  · right
    rw [if_neg h]
    exact ⟨by rcases hk with rfl | rfl <;> omega, rfl⟩

/-- The low bits are as they were; bits 5 and 6 come, and never go. -/
structure Bt (x y : Int) : Prop where
  b1 : hasF y 1 = hasF x 1
  b2 : hasF y 2 = hasF x 2
  b4 : hasF y 4 = hasF x 4
  hi : y - y % 4096 = x - x % 4096
  u5 : hasF x 32 = true → hasF y 32 = true
  u6 : hasF x 64 = true → hasF y 64 = true
theorem Bt.refl (x : Int) : Bt x x := ⟨rfl, rfl, rfl, rfl, id, id⟩
theorem Bt.trans {x y z : Int} (a : Bt x y) (b : Bt y z) : Bt x z := ⟨b.b1.trans a.b1, b.b2.trans a.b2, b.b4.trans a.b4, b.hi.trans a.hi, fun h => b.u5 (a.u5 h), fun h => b.u6 (a.u6 h)⟩
theorem Bt.set {n k : Int} (n0 : 0 ≤ n) (hk : k = 32 ∨ k = 64) : Bt n (setF n k true) := by
  rcases set_is (n := n) hk with ⟨_, e⟩ | ⟨h, e⟩
  · rw [e]; exact Bt.refl n
  · rw [e]
    rcases hk with rfl | rfl
    all_goals
      refine ⟨?_, ?_, ?_, ?_, ?_, ?_⟩
      all_goals (try simp only [has_is, decide_eq_true_eq, decide_eq_decide])
      all_goals omega
theorem Bt.markW {n : Int} (n0 : 0 ≤ n) (n1 : n < 4294967296) (wr : Bool) : Bt n (markW n wr) := by
  unfold Go.Proofs.Ytmmnnafjikilpaa.markW
  split
  · exact (Bt.set n0 (.inl rfl)).trans (Bt.set (set32_bd n0 n1).1 (.inr rfl))
  · exact Bt.set n0 (.inl rfl)
theorem has_set {n k : Int} (hk : k = 32 ∨ k = 64) : hasF (setF n k true) k = true := by
  rcases set_is (n := n) hk with ⟨h, e⟩ | ⟨h, e⟩
  · rw [e]; exact h
  · rw [e, has_is]
    rcases hk with rfl | rfl <;> (rw [decide_eq_true_eq]; omega)
theorem mark_bits {n : Int} (n0 : 0 ≤ n) (n1 : n < 4294967296) (wr : Bool) : hasF (markW n wr) 32 = true ∧ (wr = true → hasF (markW n wr) 64 = true) := by
  unfold markW
  split
  · exact ⟨(Bt.set (set32_bd n0 n1).1 (.inr rfl)).u5 (has_set (.inl rfl)), fun _ => has_set (.inr rfl)⟩
  · rename_i h; exact ⟨has_set (.inl rfl), fun e => absurd e h⟩

def Wt (M : Mem) (a : Int) : Prop := a < 4096 * M.n ∧ M.only (a / 4096).toNat = false
/-- Nothing is left to mark there. -/
def Stl (M : Mem) (a : Int) (wr : Bool) : Prop := (hasF (M.read a 4) 32 = true ∧ (wr = true → hasF (M.read a 4) 64 = true)) ∨ ¬ Wt M a

theorem lay_no {M : Mem} (hc : M.closed = false) {a v : Int} (a0 : 0 ≤ a) (a1 : a < 4294967296) (ha : a % 4 = 0) (h : ¬ Wt M a) : M.lay false a (bytesV v) = M := by
  have hp := closed_place hc a
  have hl : (bytesV v).length = 4 := rfl
  have e := lay_page false (bytesV v) M a (by simp [bytesV]) a0 a1 (by rw [hp, hl]; omega) (by rw [hp]; exact a0)
  rw [hp, if_neg (fun f => h ⟨f.1, f.2.resolve_left (by decide)⟩)] at e
  exact e

structure Gd (M : Mem) : Prop where
  b : RdB M
  c : M.closed = false
theorem Gd.mark {M : Mem} (h : Gd M) (a : Int) (wr : Bool) : Gd (markM M a wr) := ⟨h.b.mark a wr, (mark_same _ _ _).2.2.trans h.c⟩
theorem Gd.find {M : Mem} (h : Gd M) (c l : Int) (wr us wp : Bool) : Gd (fMem M c l wr us wp) := ⟨h.b.find c l wr us wp, (fMem_same M c l wr us wp).2.2.trans h.c⟩

def Al (a : Int) : Prop := 0 ≤ a ∧ a < 4294967296 ∧ a % 4 = 0

theorem stl_mark {M : Mem} (h : Gd M) {a : Int} (ha : Al a) {wr : Bool} (hs : Stl M a wr) : markM M a wr = M := by
  have r := h.b.read a
  unfold markM
  split
  · rfl
  · rename_i hne
    rcases hs with f | f
    · exact absurd ((mark_asks r.1 r.2 wr).2 f) hne
    · exact lay_no h.c ha.1 ha.2.1 ha.2.2 f

/-- Like, but for marks. -/
structure Lk (M M' : Mem) : Prop where
  n : M'.n = M.n
  o : M'.only = M.only
  w : ∀ x, Al x → Bt (M.read x 4) (M'.read x 4)
theorem Lk.refl (M : Mem) : Lk M M := ⟨rfl, rfl, fun x _ => Bt.refl _⟩
theorem Lk.trans {A B C : Mem} (h : Lk A B) (k : Lk B C) : Lk A C := ⟨k.n.trans h.n, k.o.trans h.o, fun x hx => (h.w x hx).trans (k.w x hx)⟩
theorem Lk.mark {M : Mem} (h : Gd M) {a : Int} (ha : Al a) (wr : Bool) : Lk M (markM M a wr) := by
  have s := mark_same M a wr
  refine ⟨s.1, s.2.1, fun x hx => ?_⟩
  have r := h.b.read a
  have w := markW_bd r.1 r.2 wr
  unfold markM
  split
  · exact Bt.refl _
  · rw [lay4_read h.c ha.1 ha.2.1 ha.2.2 hx.1 hx.2.1 hx.2.2 w.1 w.2]
    split
    · rename_i e
      rw [← e.1]
      exact Bt.markW r.1 r.2 wr
    · exact Bt.refl _
theorem Lk.stl {A B : Mem} (h : Lk A B) {a : Int} (ha : Al a) {wr : Bool} (s : Stl A a wr) : Stl B a wr := by
  rcases s with s | s
  · exact .inl ⟨(h.w a ha).u5 s.1, fun e => (h.w a ha).u6 (s.2 e)⟩
  · refine .inr (fun f => s ?_)
    unfold Wt at f ⊢
    rw [h.n, h.o] at f
    exact f
theorem mark_stl {M : Mem} (h : Gd M) {a : Int} (ha : Al a) (wr : Bool) : Stl (markM M a wr) a wr := by
  have r := h.b.read a
  have w := markW_bd r.1 r.2 wr
  unfold markM
  split
  · rename_i e; exact .inl ((mark_asks r.1 r.2 wr).1 e)
  · by_cases hw : Wt M a
    · left
      rw [lay4_read h.c ha.1 ha.2.1 ha.2.2 ha.1 ha.2.1 ha.2.2 w.1 w.2, if_pos ⟨rfl, hw.1, hw.2⟩]
      exact mark_bits r.1 r.2 wr
    · rw [lay_no h.c ha.1 ha.2.1 ha.2.2 hw]
      exact .inr hw

section
variable {M M' : Mem} {c l : Int}
theorem pde_al (c0 : 0 ≤ c) (c1 : c < 4294967296) (l0 : 0 ≤ l) (l1 : l < 4294967296) : Al (pdeA c l) := by
  have := pdeA_bd c0 c1 l0 l1
  exact ⟨this.1, this.2, by unfold pdeA; omega⟩
theorem pte_al (h : Gd M) (l0 : 0 ≤ l) (l1 : l < 4294967296) : Al (fPte M c l) := by
  have q := fPte_bd h.b c l l0 l1
  exact ⟨q.1, q.2, by unfold fPte pteA; omega⟩

theorem Lk.find (h : Gd M) (c0 : 0 ≤ c) (c1 : c < 4294967296) (l0 : 0 ≤ l) (l1 : l < 4294967296) (wr us wp : Bool) : Lk M (fMem M c l wr us wp) := by
  unfold fMem
  split
  · exact (Lk.mark h (pde_al c0 c1 l0 l1) false).trans (Lk.mark (h.mark _ _) (pte_al h l0 l1) wr)
  · exact Lk.refl M

/-- What a walk finds hangs on no mark. -/
theorem Lk.same (k : Lk M M') (h : Gd M) (c0 : 0 ≤ c) (c1 : c < 4294967296) (l0 : 0 ≤ l) (l1 : l < 4294967296) : fPte M' c l = fPte M c l ∧ fFr M' c l = fFr M c l ∧ fHere M' c l = fHere M c l ∧ fW M' c l = fW M c l ∧ fU M' c l = fU M c l := by
  have b := k.w (pdeA c l) (pde_al c0 c1 l0 l1)
  have e1 : fPte M' c l = fPte M c l := by unfold fPte pteA fOne; rw [b.hi]
  have d := k.w (fPte M c l) (pte_al h l0 l1)
  have e2 : fTwo M' c l = M'.read (fPte M c l) 4 := by unfold fTwo; rw [e1]
  refine ⟨e1, ?_, ?_, ?_, ?_⟩
  · unfold fFr; rw [e2, d.hi]; rfl
  · unfold fHere; rw [e2, d.b1]; unfold fOne; rw [b.b1]; rfl
  · unfold fW; rw [e2, d.b2]; unfold fOne; rw [b.b2]; rfl
  · unfold fU; rw [e2, d.b4]; unfold fOne; rw [b.b4]; rfl
theorem Lk.ok (k : Lk M M') (h : Gd M) (c0 : 0 ≤ c) (c1 : c < 4294967296) (l0 : 0 ≤ l) (l1 : l < 4294967296) (wr us wp : Bool) : fOk M' c l wr us wp = fOk M c l wr us wp ∧ fCode M' c l wr us wp = fCode M c l wr us wp ∧ plF M' c l wr us wp = plF M c l wr us wp := by
  obtain ⟨e1, e2, e3, e4, e5⟩ := k.same h c0 c1 l0 l1
  refine ⟨?_, ?_, ?_⟩
  · unfold fOk; rw [e3, e4, e5]
  · unfold fCode; rw [e3, e4, e5]
  · unfold plF; rw [e2]

/-- What was walked once is marked: walked again, nothing changes. -/
theorem find_done (h : Gd M) (c0 : 0 ≤ c) (c1 : c < 4294967296) (l0 : 0 ≤ l) (l1 : l < 4294967296) {wr us wp : Bool} (ok : fOk M c l wr us wp = true) : Stl (fMem M c l wr us wp) (pdeA c l) false ∧ Stl (fMem M c l wr us wp) (fPte M c l) wr := by
  have p := pde_al c0 c1 l0 l1
  have q := pte_al (c := c) h l0 l1
  unfold fMem
  rw [if_pos ok]
  exact ⟨(Lk.mark (h.mark _ _) q wr).stl p (mark_stl h p false), mark_stl (h.mark _ _) q wr⟩
theorem find_again {wr us wp : Bool} (h : Gd M) (g : Gd M') (k : Lk (fMem M c l wr us wp) M') (c0 : 0 ≤ c) (c1 : c < 4294967296) (l0 : 0 ≤ l) (l1 : l < 4294967296) (ok : fOk M c l wr us wp = true) : fMem M' c l wr us wp = M' := by
  obtain ⟨s1, s2⟩ := find_done h c0 c1 l0 l1 ok
  have kk := (Lk.find h c0 c1 l0 l1 wr us wp).trans k
  unfold fMem
  split
  · have e1 : markM M' (pdeA c l) false = M' := stl_mark g (pde_al c0 c1 l0 l1) (k.stl (pde_al c0 c1 l0 l1) s1)
    rw [e1, (kk.same h c0 c1 l0 l1).1]
    exact stl_mark g (pte_al h l0 l1) (k.stl (pte_al h l0 l1) s2)
  · rfl

/-- One page: all its addresses are walked alike. -/
theorem page_same {l' : Int} (hl : l' / 4096 = l / 4096) (wr us wp : Bool) : fOk M c l' wr us wp = fOk M c l wr us wp ∧ fMem M c l' wr us wp = fMem M c l wr us wp ∧ fFr M c l' = fFr M c l := by
  have e1 : pdeA c l' = pdeA c l := by
    unfold pdeA
    have : l' / 4194304 = l / 4194304 := by omega
    rw [this]
  have e2 : fOne M c l' = fOne M c l := by unfold fOne; rw [e1]
  have e3 : fPte M c l' = fPte M c l := by unfold fPte pteA; rw [e2, hl]
  have e4 : fTwo M c l' = fTwo M c l := by unfold fTwo; rw [e3]
  have e5 : fOk M c l' wr us wp = fOk M c l wr us wp := by unfold fOk fHere fW fU; rw [e2, e4]
  refine ⟨e5, ?_, ?_⟩
  · unfold fMem; rw [e5, e1, e3]
  · unfold fFr; rw [e4]
end

/-! ### the inner rings -/
theorem lets_inner {w u wr x y : Bool} (h : letsB w u wr true x = true) (y' : Bool) : letsB w u wr false y' = true := by
  revert h; cases w <;> cases u <;> cases wr <;> cases x <;> cases y' <;> decide
theorem ok_inner {M : Mem} {c l : Int} {wr x : Bool} (h : fOk M c l wr true x = true) (y : Bool) : fOk M c l wr false y = true := by
  unfold fOk at h ⊢
  rw [Bool.and_eq_true] at h ⊢
  exact ⟨h.1, lets_inner (y := x) h.2 y⟩
theorem mem_inner {M : Mem} {c l : Int} {wr x : Bool} (h : fOk M c l wr true x = true) (y : Bool) : fMem M c l wr false y = fMem M c l wr true x := by
  unfold fMem
  rw [if_pos h, if_pos (ok_inner h y)]
theorem findQ_inner {M : Mem} {pg : Bool} {c l : Int} {n : Nat} {wr x : Bool} (h : (findQ M pg c l n wr true x).f = none) (y : Bool) : findQ M pg c l n wr false y = findQ M pg c l n wr true x := by
  unfold findQ at h ⊢
  split at h
  · rename_i e; rw [if_pos e, if_pos e]
  · rename_i e; rw [if_neg e, if_neg e]
    split at h
    · simp at h
    · rename_i e2
      have o1 : fOk M c l wr true x = true := by simpa using e2
      rw [if_neg e2, if_neg (by rw [ok_inner o1 y]; simp), mem_inner o1 y]
      split at h
      · rename_i e3; rw [if_pos e3, if_pos e3]; rfl
      · rename_i e3; rw [if_neg e3, if_neg e3]
        split at h
        · simp at h
        · rename_i e4
          have o2 : fOk (fMem M c l wr true x) c (nxt l n) wr true x = true := by simpa using e4
          rw [if_neg e4, if_neg (by rw [ok_inner o2 y]; simp), mem_inner o2 y]
          rfl
end Go.Proofs.Ytmmnnafjikilpaa
