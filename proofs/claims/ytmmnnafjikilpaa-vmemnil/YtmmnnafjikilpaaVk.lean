/- Texts on vmem, joined: VmFacts, VmFacts2, VmRing, VmPart, VmBack, VmNilB. -/
import Derived.Test.YtmmnnafjikilpaaVj
import Derived.Test.YtmmnnafjikilpaaVc
import Derived.Test.YtmmnnafjikilpaaVg
/- Plain facts: what a walk marks is not seen by other walks; what the outer ring may, the inner may. -/
namespace Go.Proofs.Ytmmnnafjikilpaa
open Go.ChangeShapes Go.WideShapes Go.ChangeAt Go.RowKit Go.Maps
set_option linter.unusedVariables false

theorem has_is (n k : Int) : hasF n k = decide (n / k % 2 = 1) := rfl
theorem set_is {n k : Int} (hk : k = 32 ∨ k = 64) : (hasF n k = true ∧ setF n k true = n) ∨ (n / k % 2 = 0 ∧ setF n k true = n + k) := by
  unfold setF flg
  rw [has_is, if_pos rfl]
  by_cases h : n / k % 2 = 1
  · left
    rw [if_pos h]
    exact ⟨decide_eq_true h, by omega⟩
  · right
    rw [if_neg h]
    exact ⟨by rcases hk with rfl | rfl <;> omega, rfl⟩

/-- The low bits are as they were; bits 5 and 6 come, and never go. -/
structure Bt (x y : Int) : Prop where
  b1 : hasF y 1 = hasF x 1
  b2 : hasF y 2 = hasF x 2
  b4 : hasF y 4 = hasF x 4
  hi : y - y % 4096 = x - x % 4096
  u5 : hasF x 32 = true → hasF y 32 = true
  u6 : hasF x 64 = true → hasF y 64 = true
theorem Bt.refl (x : Int) : Bt x x := ⟨rfl, rfl, rfl, rfl, id, id⟩
theorem Bt.trans {x y z : Int} (a : Bt x y) (b : Bt y z) : Bt x z := ⟨b.b1.trans a.b1, b.b2.trans a.b2, b.b4.trans a.b4, b.hi.trans a.hi, fun h => b.u5 (a.u5 h), fun h => b.u6 (a.u6 h)⟩
theorem Bt.set {n k : Int} (n0 : 0 ≤ n) (hk : k = 32 ∨ k = 64) : Bt n (setF n k true) := by
  rcases set_is (n := n) hk with ⟨_, e⟩ | ⟨h, e⟩
  · rw [e]; exact Bt.refl n
  · rw [e]
    rcases hk with rfl | rfl
    all_goals
      refine ⟨?_, ?_, ?_, ?_, ?_, ?_⟩
      all_goals (try simp only [has_is, decide_eq_true_eq, decide_eq_decide])
      all_goals omega
theorem Bt.markW {n : Int} (n0 : 0 ≤ n) (n1 : n < 4294967296) (wr : Bool) : Bt n (markW n wr) := by
  unfold Go.Proofs.Ytmmnnafjikilpaa.markW
  split
  · exact (Bt.set n0 (.inl rfl)).trans (Bt.set (set32_bd n0 n1).1 (.inr rfl))
  · exact Bt.set n0 (.inl rfl)
theorem has_set {n k : Int} (hk : k = 32 ∨ k = 64) : hasF (setF n k true) k = true := by
  rcases set_is (n := n) hk with ⟨h, e⟩ | ⟨h, e⟩
  · rw [e]; exact h
  · rw [e, has_is]
    rcases hk with rfl | rfl <;> (rw [decide_eq_true_eq]; omega)
theorem mark_bits {n : Int} (n0 : 0 ≤ n) (n1 : n < 4294967296) (wr : Bool) : hasF (markW n wr) 32 = true ∧ (wr = true → hasF (markW n wr) 64 = true) := by
  unfold markW
  split
  · exact ⟨(Bt.set (set32_bd n0 n1).1 (.inr rfl)).u5 (has_set (.inl rfl)), fun _ => has_set (.inr rfl)⟩
  · rename_i h; exact ⟨has_set (.inl rfl), fun e => absurd e h⟩

def Wt (M : Mem) (a : Int) : Prop := a < 4096 * M.n ∧ M.only (a / 4096).toNat = false
/-- Nothing is left to mark there. -/
def Stl (M : Mem) (a : Int) (wr : Bool) : Prop := (hasF (M.read a 4) 32 = true ∧ (wr = true → hasF (M.read a 4) 64 = true)) ∨ ¬ Wt M a

theorem lay_no {M : Mem} (hc : M.closed = false) {a v : Int} (a0 : 0 ≤ a) (a1 : a < 4294967296) (ha : a % 4 = 0) (h : ¬ Wt M a) : M.lay false a (bytesV v) = M := by
  have hp := closed_place hc a
  have hl : (bytesV v).length = 4 := rfl
  have e := lay_page false (bytesV v) M a (by simp [bytesV]) a0 a1 (by rw [hp, hl]; omega) (by rw [hp]; exact a0)
  rw [hp, if_neg (fun f => h ⟨f.1, f.2.resolve_left (by decide)⟩)] at e
  exact e

structure Gd (M : Mem) : Prop where
  b : RdB M
  c : M.closed = false
theorem Gd.mark {M : Mem} (h : Gd M) (a : Int) (wr : Bool) : Gd (markM M a wr) := ⟨h.b.mark a wr, (mark_same _ _ _).2.2.trans h.c⟩
theorem Gd.find {M : Mem} (h : Gd M) (c l : Int) (wr us wp : Bool) : Gd (fMem M c l wr us wp) := ⟨h.b.find c l wr us wp, (fMem_same M c l wr us wp).2.2.trans h.c⟩

def Al (a : Int) : Prop := 0 ≤ a ∧ a < 4294967296 ∧ a % 4 = 0

theorem stl_mark {M : Mem} (h : Gd M) {a : Int} (ha : Al a) {wr : Bool} (hs : Stl M a wr) : markM M a wr = M := by
  have r := h.b.read a
  unfold markM
  split
  · rfl
  · rename_i hne
    rcases hs with f | f
    · exact absurd ((mark_asks r.1 r.2 wr).2 f) hne
    · exact lay_no h.c ha.1 ha.2.1 ha.2.2 f

/-- Like, but for marks. -/
structure Lk (M M' : Mem) : Prop where
  n : M'.n = M.n
  o : M'.only = M.only
  w : ∀ x, Al x → Bt (M.read x 4) (M'.read x 4)
theorem Lk.refl (M : Mem) : Lk M M := ⟨rfl, rfl, fun x _ => Bt.refl _⟩
theorem Lk.trans {A B C : Mem} (h : Lk A B) (k : Lk B C) : Lk A C := ⟨k.n.trans h.n, k.o.trans h.o, fun x hx => (h.w x hx).trans (k.w x hx)⟩
theorem Lk.mark {M : Mem} (h : Gd M) {a : Int} (ha : Al a) (wr : Bool) : Lk M (markM M a wr) := by
  have s := mark_same M a wr
  refine ⟨s.1, s.2.1, fun x hx => ?_⟩
  have r := h.b.read a
  have w := markW_bd r.1 r.2 wr
  unfold markM
  split
  · exact Bt.refl _
  · rw [lay4_read h.c ha.1 ha.2.1 ha.2.2 hx.1 hx.2.1 hx.2.2 w.1 w.2]
    split
    · rename_i e
      rw [← e.1]
      exact Bt.markW r.1 r.2 wr
    · exact Bt.refl _
theorem Lk.stl {A B : Mem} (h : Lk A B) {a : Int} (ha : Al a) {wr : Bool} (s : Stl A a wr) : Stl B a wr := by
  rcases s with s | s
  · exact .inl ⟨(h.w a ha).u5 s.1, fun e => (h.w a ha).u6 (s.2 e)⟩
  · refine .inr (fun f => s ?_)
    unfold Wt at f ⊢
    rw [h.n, h.o] at f
    exact f
theorem mark_stl {M : Mem} (h : Gd M) {a : Int} (ha : Al a) (wr : Bool) : Stl (markM M a wr) a wr := by
  have r := h.b.read a
  have w := markW_bd r.1 r.2 wr
  unfold markM
  split
  · rename_i e; exact .inl ((mark_asks r.1 r.2 wr).1 e)
  · by_cases hw : Wt M a
    · left
      rw [lay4_read h.c ha.1 ha.2.1 ha.2.2 ha.1 ha.2.1 ha.2.2 w.1 w.2, if_pos ⟨rfl, hw.1, hw.2⟩]
      exact mark_bits r.1 r.2 wr
    · rw [lay_no h.c ha.1 ha.2.1 ha.2.2 hw]
      exact .inr hw

section
variable {M M' : Mem} {c l : Int}
theorem pde_al (c0 : 0 ≤ c) (c1 : c < 4294967296) (l0 : 0 ≤ l) (l1 : l < 4294967296) : Al (pdeA c l) := by
  have := pdeA_bd c0 c1 l0 l1
  exact ⟨this.1, this.2, by unfold pdeA; omega⟩
theorem pte_al (h : Gd M) (l0 : 0 ≤ l) (l1 : l < 4294967296) : Al (fPte M c l) := by
  have q := fPte_bd h.b c l l0 l1
  exact ⟨q.1, q.2, by unfold fPte pteA; omega⟩

theorem Lk.find (h : Gd M) (c0 : 0 ≤ c) (c1 : c < 4294967296) (l0 : 0 ≤ l) (l1 : l < 4294967296) (wr us wp : Bool) : Lk M (fMem M c l wr us wp) := by
  unfold fMem
  split
  · exact (Lk.mark h (pde_al c0 c1 l0 l1) false).trans (Lk.mark (h.mark _ _) (pte_al h l0 l1) wr)
  · exact Lk.refl M

/-- What a walk finds hangs on no mark. -/
theorem Lk.same (k : Lk M M') (h : Gd M) (c0 : 0 ≤ c) (c1 : c < 4294967296) (l0 : 0 ≤ l) (l1 : l < 4294967296) : fPte M' c l = fPte M c l ∧ fFr M' c l = fFr M c l ∧ fHere M' c l = fHere M c l ∧ fW M' c l = fW M c l ∧ fU M' c l = fU M c l := by
  have b := k.w (pdeA c l) (pde_al c0 c1 l0 l1)
  have e1 : fPte M' c l = fPte M c l := by unfold fPte pteA fOne; rw [b.hi]
  have d := k.w (fPte M c l) (pte_al h l0 l1)
  have e2 : fTwo M' c l = M'.read (fPte M c l) 4 := by unfold fTwo; rw [e1]
  refine ⟨e1, ?_, ?_, ?_, ?_⟩
  · unfold fFr; rw [e2, d.hi]; rfl
  · unfold fHere; rw [e2, d.b1]; unfold fOne; rw [b.b1]; rfl
  · unfold fW; rw [e2, d.b2]; unfold fOne; rw [b.b2]; rfl
  · unfold fU; rw [e2, d.b4]; unfold fOne; rw [b.b4]; rfl
theorem Lk.ok (k : Lk M M') (h : Gd M) (c0 : 0 ≤ c) (c1 : c < 4294967296) (l0 : 0 ≤ l) (l1 : l < 4294967296) (wr us wp : Bool) : fOk M' c l wr us wp = fOk M c l wr us wp ∧ fCode M' c l wr us wp = fCode M c l wr us wp ∧ plF M' c l wr us wp = plF M c l wr us wp := by
  obtain ⟨e1, e2, e3, e4, e5⟩ := k.same h c0 c1 l0 l1
  refine ⟨?_, ?_, ?_⟩
  · unfold fOk; rw [e3, e4, e5]
  · unfold fCode; rw [e3, e4, e5]
  · unfold plF; rw [e2]

/-- What was walked once is marked: walked again, nothing changes. -/
theorem find_done (h : Gd M) (c0 : 0 ≤ c) (c1 : c < 4294967296) (l0 : 0 ≤ l) (l1 : l < 4294967296) {wr us wp : Bool} (ok : fOk M c l wr us wp = true) : Stl (fMem M c l wr us wp) (pdeA c l) false ∧ Stl (fMem M c l wr us wp) (fPte M c l) wr := by
  have p := pde_al c0 c1 l0 l1
  have q := pte_al (c := c) h l0 l1
  unfold fMem
  rw [if_pos ok]
  exact ⟨(Lk.mark (h.mark _ _) q wr).stl p (mark_stl h p false), mark_stl (h.mark _ _) q wr⟩
theorem find_again {wr us wp : Bool} (h : Gd M) (g : Gd M') (k : Lk (fMem M c l wr us wp) M') (c0 : 0 ≤ c) (c1 : c < 4294967296) (l0 : 0 ≤ l) (l1 : l < 4294967296) (ok : fOk M c l wr us wp = true) : fMem M' c l wr us wp = M' := by
  obtain ⟨s1, s2⟩ := find_done h c0 c1 l0 l1 ok
  have kk := (Lk.find h c0 c1 l0 l1 wr us wp).trans k
  unfold fMem
  split
  · have e1 : markM M' (pdeA c l) false = M' := stl_mark g (pde_al c0 c1 l0 l1) (k.stl (pde_al c0 c1 l0 l1) s1)
    rw [e1, (kk.same h c0 c1 l0 l1).1]
    exact stl_mark g (pte_al h l0 l1) (k.stl (pte_al h l0 l1) s2)
  · rfl

/-- One page: all its addresses are walked alike. -/
theorem page_same {l' : Int} (hl : l' / 4096 = l / 4096) (wr us wp : Bool) : fOk M c l' wr us wp = fOk M c l wr us wp ∧ fMem M c l' wr us wp = fMem M c l wr us wp ∧ fFr M c l' = fFr M c l := by
  have e1 : pdeA c l' = pdeA c l := by
    unfold pdeA
    have : l' / 4194304 = l / 4194304 := by omega
    rw [this]
  have e2 : fOne M c l' = fOne M c l := by unfold fOne; rw [e1]
  have e3 : fPte M c l' = fPte M c l := by unfold fPte pteA; rw [e2, hl]
  have e4 : fTwo M c l' = fTwo M c l := by unfold fTwo; rw [e3]
  have e5 : fOk M c l' wr us wp = fOk M c l wr us wp := by unfold fOk fHere fW fU; rw [e2, e4]
  refine ⟨e5, ?_, ?_⟩
  · unfold fMem; rw [e5, e1, e3]
  · unfold fFr; rw [e4]
end

/-! ### the inner rings -/
theorem lets_inner {w u wr x y : Bool} (h : letsB w u wr true x = true) (y' : Bool) : letsB w u wr false y' = true := by
  revert h; cases w <;> cases u <;> cases wr <;> cases x <;> cases y' <;> decide
theorem ok_inner {M : Mem} {c l : Int} {wr x : Bool} (h : fOk M c l wr true x = true) (y : Bool) : fOk M c l wr false y = true := by
  unfold fOk at h ⊢
  rw [Bool.and_eq_true] at h ⊢
  exact ⟨h.1, lets_inner (y := x) h.2 y⟩
theorem mem_inner {M : Mem} {c l : Int} {wr x : Bool} (h : fOk M c l wr true x = true) (y : Bool) : fMem M c l wr false y = fMem M c l wr true x := by
  unfold fMem
  rw [if_pos h, if_pos (ok_inner h y)]
theorem findQ_inner {M : Mem} {pg : Bool} {c l : Int} {n : Nat} {wr x : Bool} (h : (findQ M pg c l n wr true x).f = none) (y : Bool) : findQ M pg c l n wr false y = findQ M pg c l n wr true x := by
  unfold findQ at h ⊢
  split at h
  · rename_i e; rw [if_pos e, if_pos e]
  · rename_i e; rw [if_neg e, if_neg e]
    split at h
    · simp at h
    · rename_i e2
      have o1 : fOk M c l wr true x = true := by simpa using e2
      rw [if_neg e2, if_neg (by rw [ok_inner o1 y]; simp), mem_inner o1 y]
      split at h
      · rename_i e3; rw [if_pos e3, if_pos e3]; rfl
      · rename_i e3; rw [if_neg e3, if_neg e3]
        split at h
        · simp at h
        · rename_i e4
          have o2 : fOk (fMem M c l wr true x) c (nxt l n) wr true x = true := by simpa using e4
          rw [if_neg e4, if_neg (by rw [ok_inner o2 y]; simp), mem_inner o2 y]
          rfl
end Go.Proofs.Ytmmnnafjikilpaa

/- Plain facts of flat processors: a wide value is its bytes; code is what is loaded. -/
namespace Go.Proofs.Ytmmnnafjikilpaa
open Go.ChangeShapes Go.WideShapes Go.ChangeAt Go.RowKit Go.Maps
set_option linter.unusedVariables false

theorem find1 (M : Mem) (pg : Bool) (c l : Int) (wr us wp : Bool) : findQ M pg c l 1 wr us wp = if pg = false then ⟨none, M, ⟨l, 0, 1, 1⟩⟩ else if fOk M c l wr us wp = false then ⟨some ⟨14, fCode M c l wr us wp, l⟩, M, ⟨0, 0, 0, 0⟩⟩ else ⟨none, fMem M c l wr us wp, ⟨plF M c l wr us wp, 0, 1, 1⟩⟩ := by
  have ha : ahd l 1 = 1 := by unfold ahd; omega
  unfold findQ
  rw [ha]
  simp only [Nat.le_refl, if_true]

theorem rdS1 (M : Mem) (a : Int) : M.rdS ⟨a, 0, 1, 1⟩ = M.rd (a % 4294967296) := by
  unfold Mem.rdS Mem.spB Sp.at
  simp

theorem find1_again {M : Mem} (g : Gd M) (pg : Bool) {c l : Int} (c0 : 0 ≤ c) (c1 : c < 4294967296) (l0 : 0 ≤ l) (l1 : l < 4294967296) (wr us wp : Bool) : findQ (findQ M pg c l 1 wr us wp).m pg c l 1 wr us wp = findQ M pg c l 1 wr us wp := by
  rw [find1 M]
  cases pg with
  | false => simp only [if_true]; rw [find1]; simp
  | true =>
    simp only [Bool.true_eq_false, if_false]
    cases ho : fOk M c l wr us wp with
    | false => simp only [if_true]; rw [find1, ho]; simp
    | true =>
      simp only [Bool.true_eq_false, if_false]
      have k := Lk.find g c0 c1 l0 l1 wr us wp
      obtain ⟨e1, e2, e3⟩ := k.ok g c0 c1 l0 l1 wr us wp
      rw [find1, e1, ho, e3, find_again g (g.find c l wr us wp) (Lk.refl _) c0 c1 l0 l1 ho]
      simp

theorem parts_byte {M : Mem} (g : Gd M) (pg : Bool) {c off : Int} (c0 : 0 ≤ c) (c1 : c < 4294967296) (o0 : 0 ≤ off) (o1 : off + 3 < 4294967296) (us wp : Bool) (hf : (findQ M pg c off 4 false us wp).f = none) (i : Nat) (hi : i < 4) :
    (findQ (findQ M pg c off 4 false us wp).m pg c (off + i) 1 false us wp).f = none ∧ (findQ (findQ M pg c off 4 false us wp).m pg c (off + i) 1 false us wp).m = (findQ M pg c off 4 false us wp).m ∧
    (findQ M pg c off 4 false us wp).m.rdS (findQ (findQ M pg c off 4 false us wp).m pg c (off + i) 1 false us wp).s = (findQ M pg c off 4 false us wp).m.spB (findQ M pg c off 4 false us wp).s i := by
  have l0 : 0 ≤ off + i := by omega
  have l1 : off + i < 4294967296 := by omega
  unfold findQ at hf
  split at hf
  · rename_i e
    have e' : findQ M pg c off 4 false us wp = ⟨none, M, ⟨off, 0, 4, 4⟩⟩ := by unfold findQ; rw [if_pos e]
    rw [e', find1, if_pos e]
    refine ⟨rfl, rfl, ?_⟩
    rw [rdS1]
    unfold Mem.spB Sp.at
    simp only
    rw [if_pos hi, if_pos hi]
  · rename_i e
    split at hf
    · simp at hf
    · rename_i e2
      have k1 : fOk M c off false us wp = true := by simpa using e2
      have g1 := g.find c off false us wp
      have L1 := Lk.find g c0 c1 o0 (by omega) false us wp
      obtain ⟨q1, q2, q3⟩ := L1.ok g c0 c1 o0 (by omega) false us wp
      split at hf
      · rename_i e3
        have e' : findQ M pg c off 4 false us wp = ⟨none, fMem M c off false us wp, ⟨plF M c off false us wp, 0, ahd off 4, 4⟩⟩ := by unfold findQ; rw [if_neg e, if_neg e2, if_pos e3]
        have hh : ahd off 4 = 4 := by unfold ahd at e3 ⊢; omega
        have hp : (off + i) / 4096 = off / 4096 := by unfold ahd at e3; omega
        obtain ⟨p1, p2, p3⟩ := page_same (M := fMem M c off false us wp) (c := c) hp false us wp
        rw [e', find1, if_neg e, p1, q1, if_neg e2, p2, find_again g g1 (Lk.refl _) c0 c1 o0 (by omega) k1]
        refine ⟨rfl, rfl, ?_⟩
        rw [rdS1]
        unfold Mem.spB Sp.at
        simp only
        rw [if_pos hi, hh, if_pos hi]
        congr 1
        unfold plF at q3 ⊢
        rw [p3]
        have : fFr (fMem M c off false us wp) c off = fFr M c off := by omega
        rw [this]
        unfold ahd at hh
        omega
      · rename_i e3
        split at hf
        · simp at hf
        · rename_i e4
          have e' : findQ M pg c off 4 false us wp = ⟨none, fMem (fMem M c off false us wp) c (nxt off 4) false us wp, ⟨plF M c off false us wp, plF (fMem M c off false us wp) c (nxt off 4) false us wp, ahd off 4, 4⟩⟩ := by unfold findQ; rw [if_neg e, if_neg e2, if_neg e3, if_neg e4]
          have k2 : fOk (fMem M c off false us wp) c (nxt off 4) false us wp = true := by simpa using e4
          have n0 : 0 ≤ nxt off 4 := by unfold nxt; omega
          have n1 : nxt off 4 < 4294967296 := by unfold nxt; omega
          have hn : nxt off 4 = off + ahd off 4 := by unfold nxt; unfold ahd at e3 ⊢; omega
          have hz : (nxt off 4) % 4096 = 0 := by rw [hn]; unfold ahd at e3 ⊢; omega
          have g2 := g1.find c (nxt off 4) false us wp
          have L2 := Lk.find g1 c0 c1 n0 n1 false us wp
          rw [e', find1, if_neg e]
          by_cases hih : i < ahd off 4
          · have hp : (off + i) / 4096 = off / 4096 := by unfold ahd at e3 hih; omega
            obtain ⟨p1, p2, p3⟩ := page_same (M := fMem (fMem M c off false us wp) c (nxt off 4) false us wp) (c := c) hp false us wp
            obtain ⟨r1, r2, r3⟩ := L2.ok g1 c0 c1 o0 (by omega) false us wp
            simp only
            rw [p1, r1, q1, if_neg e2, p2, find_again g g2 L2 c0 c1 o0 (by omega) k1]
            refine ⟨rfl, rfl, ?_⟩
            rw [rdS1]
            unfold Mem.spB Sp.at
            simp only
            rw [if_pos hi, if_pos hih]
            congr 1
            unfold plF at q3 r3 ⊢
            rw [p3]
            have : fFr (fMem (fMem M c off false us wp) c (nxt off 4) false us wp) c off = fFr M c off := by omega
            rw [this]
            unfold ahd at hih e3
            omega
          · have hp : (off + i) / 4096 = nxt off 4 / 4096 := by rw [hn]; unfold ahd at e3 hih ⊢; omega
            obtain ⟨p1, p2, p3⟩ := page_same (M := fMem (fMem M c off false us wp) c (nxt off 4) false us wp) (c := c) hp false us wp
            obtain ⟨r1, r2, r3⟩ := L2.ok g1 c0 c1 n0 n1 false us wp
            simp only
            rw [p1, r1, if_neg e4, p2, find_again g1 g2 (Lk.refl _) c0 c1 n0 n1 k2]
            refine ⟨rfl, rfl, ?_⟩
            rw [rdS1]
            unfold Mem.spB Sp.at
            simp only
            rw [if_pos hi, if_neg hih]
            congr 1
            unfold plF at r3 ⊢
            rw [p3]
            have : fFr (fMem (fMem M c off false us wp) c (nxt off 4) false us wp) c (nxt off 4) = fFr (fMem M c off false us wp) c (nxt off 4) := by omega
            rw [this, hz]
            unfold ahd at hih e3 hn hz ⊢
            omega

/-! ### flat segments -/
theorem reach_flat {off z : Int} (wr : Bool) (o0 : 0 ≤ off) (hz : z = 1 ∨ z = 2 ∨ z = 4) : Sg.reachB 4294967295 2 false true true off z wr = decide (off + z - 1 ≤ 4294967295) := by
  have r1 : Sg.rR false 2 = true := by decide
  have r2 : Sg.rW false 2 = true := by decide
  have r3 : Sg.rD false 2 = false := by decide
  have r4 : Sg.szB z = true := by rcases hz with rfl | rfl | rfl <;> decide
  unfold Sg.reachB Sg.reachX
  rw [r1, r2, r3, r4]
  cases wr <;> simp

theorem linB_zero {off : Int} (o0 : 0 ≤ off) (o1 : off < 4294967296) : linB 0 off = off := by unfold linB; omega

theorem seg_flat (M : Mem) (s d a b : Int) {off z : Int} (wr : Bool) (o0 : 0 ≤ off) (o1 : off < 4294967296) (hz : z = 1 ∨ z = 2 ∨ z = 4) :
    segQ M (flatP s d a b) 3 off z wr = if off + z - 1 ≤ 4294967295 then findQ M (flatP s d a b).pg b off z.toNat wr (flatP s d a b).us (flatP s d a b).wp else ⟨some (ftV 13), M, ⟨0, 0, 0, 0⟩⟩ := by
  have hok : okS z = true := by rcases hz with rfl | rfl | rfl <;> decide
  have e3 : (flatP s d a b).seg (3 : Int).toNat = datS s d := rfl
  unfold segQ
  rw [if_neg (by rw [hok]; simp), e3]
  have er : Sg.reachB (datS s d).l (datS s d).t (datS s d).s (datS s d).p (datS s d).g off z wr = decide (off + z - 1 ≤ 4294967295) := reach_flat wr o0 hz
  rw [er]
  by_cases h : off + z - 1 ≤ 4294967295
  · rw [if_pos h, if_neg (by simp [h, datS])]
    show findQ M _ b (linB 0 off) _ _ _ _ = _
    rw [linB_zero o0 o1]
  · rw [if_neg h, if_pos (by simp [h])]
    rfl

theorem cod_flat (M : Mem) (s d a b : Int) {off : Int} (o0 : 0 ≤ off) (o1 : off < 4294967296) : codQ M (flatP s d a b) off = findQ M (flatP s d a b).pg b off 1 false (flatP s d a b).us (flatP s d a b).wp := by
  have e1 : (flatP s d a b).seg 1 = codS s d := rfl
  unfold codQ
  rw [e1]
  have el : (codS s d).l = 4294967295 := rfl
  have eb : (codS s d).b = 0 := rfl
  rw [el, eb, if_neg (by omega), linB_zero o0 o1]
  rfl

theorem flat_cr {cs : Array Value} {s d a b a' b' : Int} (wf : WfC cs) (h : CpC cs (flatP s d a b)) : CpC ((cs.setIfInBounds 64 (.int .u32 a')).setIfInBounds 66 (.int .u32 b')) (flatP s d a' b') := by
  refine ⟨fun i hi => ?_, ?_, ?_⟩
  · exact ((h.sg i hi).past (by omega)).past (by omega)
  · rw [Array.getElem?_setIfInBounds_ne (by omega)]
    exact Array.getElem?_setIfInBounds_self_of_lt (by rw [wf.s]; omega)
  · exact Array.getElem?_setIfInBounds_self_of_lt (by rw [Array.size_setIfInBounds, wf.s]; omega)
theorem flat_c64 {cs : Array Value} {s d a b a' : Int} (wf : WfC cs) (h : CpC cs (flatP s d a b)) : CpC (cs.setIfInBounds 64 (.int .u32 a')) (flatP s d a' b) := by
  refine ⟨fun i hi => (h.sg i hi).past (by omega), Array.getElem?_setIfInBounds_self_of_lt (by rw [wf.s]; omega), ?_⟩
  rw [Array.getElem?_setIfInBounds_ne (by omega)]
  exact h.t
theorem flat_c66 {cs : Array Value} {s d a b b' : Int} (wf : WfC cs) (h : CpC cs (flatP s d a b)) : CpC (cs.setIfInBounds 66 (.int .u32 b')) (flatP s d a b') := by
  refine ⟨fun i hi => (h.sg i hi).past (by omega), ?_, Array.getElem?_setIfInBounds_self_of_lt (by rw [wf.s]; omega)⟩
  rw [Array.getElem?_setIfInBounds_ne (by omega)]
  exact h.z
end Go.Proofs.Ytmmnnafjikilpaa

/- Plain facts behind VmemRings; three memories in one world. -/
namespace Go.Proofs.Ytmmnnafjikilpaa
open Go.ChangeShapes Go.WideShapes Go.ChangeAt Go.RowKit Go.Maps
set_option linter.unusedVariables false
set_option maxRecDepth 20000

theorem findQ_vec {M : Mem} {pg : Bool} {c l : Int} {n : Nat} {wr us wp : Bool} {f : Ft} (h : (findQ M pg c l n wr us wp).f = some f) : f.vec = 14 := by
  unfold findQ at h
  split at h
  · simp at h
  split at h
  · simp at h; rw [← h]
  split at h
  · simp at h
  split at h
  · simp at h; rw [← h]
  · simp at h
theorem segQ_vec {M : Mem} {c : Cp} {k off z : Int} {wr : Bool} {f : Ft} (h : (segQ M c k off z wr).f = some f) : 0 ≤ f.vec := by
  unfold segQ at h
  split at h
  · simp at h; rw [← h]; decide
  split at h
  · simp at h; rw [← h]
    show 0 ≤ vecB k
    unfold vecB
    split <;> decide
  · rw [findQ_vec h]; decide
theorem ft_sign (q : Qy) (h : ∀ f, q.f = some f → 0 ≤ f.vec) : q.f = none ∧ q.ft = noFt ∨ 0 ≤ q.ft.vec := by
  cases hq : q.f with
  | none => left; exact ⟨rfl, by unfold Qy.ft; rw [hq]⟩
  | some f => right; unfold Qy.ft; rw [hq]; exact h f hq

theorem rings_fact (M : Mem) {off z : Int} (wr : Bool) (o0 : 0 ≤ off) (o1 : off < 4294967296) (a : Int) (hpg : hasF a 2147483648 = true) (h : (segQ M (flatP 3 3 2147483649 4096) 3 off z wr).f = none) :
    segQ M (flatP 0 0 a 4096) 3 off z wr = segQ M (flatP 3 3 2147483649 4096) 3 off z wr ∧ sysQ M (flatP 3 3 2147483649 4096) off z wr = segQ M (flatP 3 3 2147483649 4096) 3 off z wr := by
  cases hz : okS z with
  | false =>
    exfalso
    unfold segQ at h
    rw [if_pos (.inl hz)] at h
    simp at h
  | true =>
    have hz' : z = 1 ∨ z = 2 ∨ z = 4 := of_decide_eq_true hz
    have u1 : (flatP 3 3 2147483649 4096).us = true := by decide
    have w1 : (flatP 3 3 2147483649 4096).wp = false := by decide
    have p1 : (flatP 3 3 2147483649 4096).pg = true := by decide
    have u2 : (flatP 0 0 a 4096).us = false := by show decide ((codS 0 0).sel % 4 = 3) = false; decide
    have p2 : (flatP 0 0 a 4096).pg = true := hpg
    rw [seg_flat M 3 3 _ _ wr o0 o1 hz', u1, w1, p1] at h ⊢
    rw [seg_flat M 0 0 _ _ wr o0 o1 hz', u2, p2]
    by_cases hr : off + z - 1 ≤ 4294967295
    · rw [if_pos hr] at h ⊢
      rw [if_pos hr]
      refine ⟨findQ_inner h _, ?_⟩
      unfold sysQ
      rw [if_neg (by rw [hz]; simp), p1, w1]
      exact findQ_inner h _
    · rw [if_neg hr] at h
      simp at h

theorem qput_n (q : Qy) (v : Int) : (q.put v).n = q.m.n := by
  unfold Qy.put
  split
  · rfl
  · exact (wrK_same _ _ _ _).1

/-- Memory and its keeper lie in these blocks. -/
def InR (V K B a b c d : Nat) : Prop := ∀ j, inVm V K B 16 j → a ≤ j ∧ j < b ∨ c ≤ j ∧ j < d
theorem inR_of {w1 w2 w3 w4 : World} {B V K pl tn : Nat} {R : Rf} {M : Mem} (h1 : ∀ j, both B 16 R j → w1.heap.size ≤ j) (h2 : RamAt w2 B M) (hn : M.n = 16) (hV : w3.heap.size < V) (hv : VmAt w4 V w3.heap.size B pl tn M) (hK : K = w3.heap.size) : InR V K B w1.heap.size w2.heap.size w3.heap.size w4.heap.size := by
  subst hK
  intro j hj
  have hl := h2.lt
  rw [hn] at hl
  have hv4 := hv.lt
  rcases hj with e | f | f
  · right; omega
  · left; exact ⟨h1 j (.inl f), by have := f.2; omega⟩
  · right
    obtain ⟨D, t⟩ := hv.tl
    have := t.lt
    rcases f with e | e <;> omega
end Go.Proofs.Ytmmnnafjikilpaa

/- Plain facts behind VmemParts. -/
namespace Go.Proofs.Ytmmnnafjikilpaa
open Go.ChangeShapes Go.WideShapes Go.ChangeAt Go.RowKit Go.Maps
set_option linter.unusedVariables false
set_option maxRecDepth 20000

theorem find1_val {M : Mem} (g : Gd M) (pg : Bool) (c l : Int) (wr us wp : Bool) : (0 ≤ (findQ M pg c l 1 wr us wp).val ∧ (findQ M pg c l 1 wr us wp).val < 256) ∧ Gd (findQ M pg c l 1 wr us wp).m := by
  have hb : ∀ (M' : Mem) (a : Int), Gd M' → 0 ≤ M'.rdS ⟨a, 0, 1, 1⟩ ∧ M'.rdS ⟨a, 0, 1, 1⟩ < 256 := fun M' a h => by
    rw [rdS1]
    exact h.b _ (by omega) (by omega)
  rw [find1]
  split
  · exact ⟨hb M l g, g⟩
  · split
    · exact ⟨⟨Int.le_refl 0, by show (0 : Int) < 256; omega⟩, g⟩
    · exact ⟨hb _ _ (g.find c l wr us wp), g.find c l wr us wp⟩

theorem byte_q {M : Mem} (g : Gd M) (s d a b : Int) {o : Int} (b0 : 0 ≤ b) (b1 : b < 4294967296) (o0 : 0 ≤ o) (o1 : o < 4294967296) :
    codQ (segQ M (flatP s d a b) 3 o 1 false).m (flatP s d a b) o = segQ M (flatP s d a b) 3 o 1 false ∧ (0 ≤ (segQ M (flatP s d a b) 3 o 1 false).val ∧ (segQ M (flatP s d a b) 3 o 1 false).val < 256) ∧ Gd (segQ M (flatP s d a b) 3 o 1 false).m ∧
    ((segQ M (flatP s d a b) 3 o 1 false).f = none ∧ (segQ M (flatP s d a b) 3 o 1 false).ft = noFt ∨ 0 ≤ (segQ M (flatP s d a b) 3 o 1 false).ft.vec) := by
  have e : segQ M (flatP s d a b) 3 o 1 false = findQ M (flatP s d a b).pg b o 1 false (flatP s d a b).us (flatP s d a b).wp := by
    rw [seg_flat M s d a b false o0 o1 (.inl rfl), if_pos (by omega)]
    rfl
  have v := find1_val g (flatP s d a b).pg b o false (flatP s d a b).us (flatP s d a b).wp
  have sg := ft_sign (segQ M (flatP s d a b) 3 o 1 false) (fun f h => segQ_vec h)
  rw [e] at sg ⊢
  rw [cod_flat _ s d a b o0 o1]
  exact ⟨find1_again g _ b0 b1 o0 o1 _ _ _, v.1, v.2, sg⟩

theorem wide_q {M : Mem} (g : Gd M) (s d a b : Int) {off : Int} (b0 : 0 ≤ b) (b1 : b < 4294967296) (o0 : 0 ≤ off) (o1 : off < 4294967296) (hf : (segQ M (flatP s d a b) 3 off 4 false).f = none) (i : Nat) (hi : i < 4) :
    off + i < 4294967296 ∧ (segQ (segQ M (flatP s d a b) 3 off 4 false).m (flatP s d a b) 3 (off + i) 1 false).f = none ∧ (segQ (segQ M (flatP s d a b) 3 off 4 false).m (flatP s d a b) 3 (off + i) 1 false).m = (segQ M (flatP s d a b) 3 off 4 false).m ∧
    (segQ (segQ M (flatP s d a b) 3 off 4 false).m (flatP s d a b) 3 (off + i) 1 false).val = (segQ M (flatP s d a b) 3 off 4 false).m.spB (segQ M (flatP s d a b) 3 off 4 false).s i := by
  rw [seg_flat M s d a b false o0 o1 (.inr (.inr rfl))] at hf ⊢
  by_cases h : off + 4 - 1 ≤ 4294967295
  · rw [if_pos h] at hf ⊢
    have t4 : (4 : Int).toNat = 4 := rfl
    have t1 : (1 : Int).toNat = 1 := rfl
    rw [t4] at hf ⊢
    have e := parts_byte g (flatP s d a b).pg b0 b1 o0 (by omega) (flatP s d a b).us (flatP s d a b).wp hf i hi
    have l1 : off + i < 4294967296 := by omega
    rw [seg_flat _ s d a b false (by omega) l1 (.inl rfl), if_pos (by omega), t1]
    refine ⟨l1, e.1, e.2.1, ?_⟩
    have hv : ∀ q : Qy, q.f = none → q.val = q.m.rdS q.s := fun q hq => by unfold Qy.val; rw [hq]
    rw [hv _ e.1, e.2.1]
    exact e.2.2
  · rw [if_neg h] at hf
    simp at hf

/-- A value of its first bytes. -/
def parS (M : Mem) (s : Sp) : Nat → Int
  | 0 => 0
  | j + 1 => parS M s j + M.spB s j * 256 ^ j
theorem parS_all (M : Mem) (s : Sp) : parS M s 4 = M.rdS s := by
  unfold Mem.rdS
  simp only [parS]
  omega
theorem spB_bd {M : Mem} (h : RdB M) (s : Sp) (j : Nat) : 0 ≤ M.spB s j ∧ M.spB s j < 256 := by
  unfold Mem.spB
  split
  · exact h _ (s.at_bd j).1 (s.at_bd j).2
  · exact ⟨Int.le_refl _, by decide⟩
theorem parS_bd {M : Mem} (h : RdB M) (s : Sp) : 0 ≤ parS M s 0 ∧ parS M s 0 < 1 ∧ 0 ≤ parS M s 1 ∧ parS M s 1 < 256 ∧ 0 ≤ parS M s 2 ∧ parS M s 2 < 65536 ∧ 0 ≤ parS M s 3 ∧ parS M s 3 < 16777216 ∧ 0 ≤ parS M s 4 ∧ parS M s 4 < 4294967296 := by
  have a0 := spB_bd h s 0; have a1 := spB_bd h s 1; have a2 := spB_bd h s 2; have a3 := spB_bd h s 3
  simp only [parS]
  omega

theorem part_step {M : Mem} (g : Gd M) {s d a b off : Int} (b0 : 0 ≤ b) (b1 : b < 4294967296) (o0 : 0 ≤ off) (o1 : off < 4294967296) {q : Qy} (hq : q = segQ M (flatP s d a b) 3 off 4 false) {Mi : Mem} {y : Int} {i : Nat} (hi : i < 4) (hp : q.f = none → Mi = q.m ∧ y = parS q.m q.s i) {qb : Qy} (hqb : qb = segQ Mi (flatP s d a b) 3 ((off + i) % 4294967296) 1 false) (hb : qb.f = none ∧ qb.ft = noFt ∨ 0 ≤ qb.ft.vec) (gq : Gd q.m) :
    (q.ft = noFt ∧ qb.ft = noFt ∧ qb.m = q.m ∧ y + qb.val * 256 ^ i = parS q.m q.s (i + 1) ∧ 0 ≤ y ∧ parS q.m q.s (i + 1) < 4294967296) ∨ (0 ≤ q.ft.vec ∧ (q.f = none → False) ∧ qb.ft = noFt) ∨ (0 ≤ q.ft.vec ∧ (q.f = none → False) ∧ 0 ≤ qb.ft.vec) := by
  have sq := ft_sign q (fun f h => by rw [hq] at h; exact segQ_vec h)
  rcases sq with ⟨hf, e⟩ | e
  · left
    obtain ⟨rfl, rfl⟩ := hp hf
    have W := wide_q g s d a b b0 b1 o0 o1 (by rw [← hq]; exact hf) i hi
    rw [← hq] at W
    have ho : (off + (i : Int)) % 4294967296 = off + i := by omega
    rw [ho] at hqb
    rw [← hqb] at W
    have e2 : qb.ft = noFt := by unfold Qy.ft; rw [W.2.1]
    refine ⟨e, e2, W.2.2.1, by rw [W.2.2.2]; rfl, ?_, ?_⟩
    · have := parS_bd gq.b q.s
      rcases (by omega : i = 0 ∨ i = 1 ∨ i = 2 ∨ i = 3) with rfl | rfl | rfl | rfl <;> omega
    · have := parS_bd gq.b q.s
      rcases (by omega : i = 0 ∨ i = 1 ∨ i = 2 ∨ i = 3) with rfl | rfl | rfl | rfl
      · show parS q.m q.s 1 < _; omega
      · show parS q.m q.s 2 < _; omega
      · show parS q.m q.s 3 < _; omega
      · show parS q.m q.s 4 < _; omega
  · right
    have hn : q.f = none → False := fun h => by
      unfold Qy.ft at e
      rw [h] at e
      exact absurd e (by decide)
    rcases hb with ⟨_, h⟩ | h
    · exact .inl ⟨e, hn, h⟩
    · exact .inr ⟨e, hn, h⟩

/-- The loop of VmemParts. -/
structure PtQ (w : World) (V K B C X : Nat) (c : Cp) (q : Qy) (k : Nat) (sy si : Value) (wr : World) (i : Nat) (y : Int) (tn : Nat) (M : Mem) : Prop where
  ei : si = .int .i64 i
  ey : sy = .int .u32 y
  i4 : i ≤ 4
  ik : 4 - i ≤ k
  v : VmAt wr V K B 8 tn M
  t : tn ≤ 2 + 4 * i
  n : M.n = 16
  g : Gd M
  c : CpAt wr C c
  r : RowT wr X q.ft
  x : ¬ modVm K B 16 X
  k : Kp noB w wr
  p : q.f = none → M = q.m ∧ y = parS q.m q.s i
def PtL (w : World) (V K B C X : Nat) (c : Cp) (q : Qy) (k : Nat) (sy si : Value) (wr : World) : Prop := ∃ i y tn M, PtQ w V K B C X c q k sy si wr i y tn M
end Go.Proofs.Ytmmnnafjikilpaa

/- Plain facts behind VmemBack: what is stored is loaded. -/
namespace Go.Proofs.Ytmmnnafjikilpaa
open Go.ChangeShapes Go.WideShapes Go.ChangeAt Go.RowKit Go.Maps
set_option linter.unusedVariables false
set_option maxRecDepth 20000

/-- Every place below 65536 may be written. -/
structure Op16 (M : Mem) : Prop where
  n : M.n = 16
  c : M.closed = false
  o : ∀ k, M.only k = false

theorem op16_of (f g h : Nat → Int) (L : Nat) : Op16 (memOf f g h L 0) := by
  have q := memOf_same f g h L 0
  have e : (memOf f g h L 0).only = (mem0 16).only := (wordsM_same (mem0 16) f g L).2.1
  exact ⟨q.1, q.2, fun k => by rw [e]; rfl⟩

theorem put_rd {M : Mem} (h : Op16 M) {a x : Int} (v : Int) (a0 : 0 ≤ a) (a1 : a < 65536) (x0 : 0 ≤ x) : (M.put false a v).rd x = if x = a then v else M.rd x := by
  have hp : M.put false a v = { M.note (a - a % 64) (a - a % 64 + 64) with byte := fun y => if y = a.toNat then v else M.byte y } := by
    unfold Mem.put
    rw [closed_place h.c a, if_pos ⟨by rw [h.n]; omega, .inr (h.o _)⟩]
  have e1 : (M.put false a v).rd x = if x < 4096 * M.n then (M.put false a v).byte x.toNat else 255 := by
    unfold Mem.rd
    rw [put_place, put_n, closed_place h.c x]
  have e2 : M.rd x = if x < 4096 * M.n then M.byte x.toNat else 255 := by
    unfold Mem.rd
    rw [closed_place h.c x]
  rw [e1, e2, hp, h.n]
  simp only
  by_cases e : x = a
  · subst e
    rw [if_pos (by omega), if_pos rfl, if_pos rfl]
  · have ne : ¬ x.toNat = a.toNat := by omega
    rw [if_neg e]
    simp only [ne, if_false]

theorem wrK_rd {M : Mem} (h : Op16 M) {off v x : Int} (n : Nat) (o0 : 0 ≤ off) (o1 : off + 4 ≤ 65536) (hn : n ≤ 4) (x0 : 0 ≤ x) : ∀ k, k ≤ n → (M.wrK ⟨off, 0, n, n⟩ v k).rd x = if off ≤ x ∧ x < off + k then (bytesV v).getD (x - off).toNat 0 else M.rd x
  | 0, _ => by rw [if_neg (by omega)]; rfl
  | k + 1, hk => by
    have s := wrK_same M ⟨off, 0, n, n⟩ v k
    have hO : Op16 (M.wrK ⟨off, 0, n, n⟩ v k) := ⟨s.1.trans h.n, s.2.2.trans h.c, fun j => by rw [s.2.1]; exact h.o j⟩
    have ha : (⟨off, 0, n, n⟩ : Sp).at k = off + k := by
      unfold Sp.at
      simp only
      rw [if_pos (by omega)]
      omega
    show ((M.wrK ⟨off, 0, n, n⟩ v k).put false ((⟨off, 0, n, n⟩ : Sp).at k) _).rd x = _
    rw [ha, put_rd hO _ (by omega) (by omega) x0, wrK_rd h n o0 o1 hn x0 k (by omega)]
    by_cases e : x = off + k
    · rw [if_pos e, if_pos (by omega)]
      congr 1
      omega
    · rw [if_neg e]
      by_cases g : off ≤ x ∧ x < off + k
      · rw [if_pos g, if_pos (by omega)]
      · rw [if_neg g, if_neg (by omega)]

theorem back_one {M : Mem} (h : Op16 M) {off v : Int} (n : Nat) (o0 : 0 ≤ off) (o1 : off + 4 ≤ 65536) (hn : n ≤ 4) (i : Nat) (hi : i < n) : (M.wrS ⟨off, 0, n, n⟩ v).rd (off + i) = (bytesV v).getD i 0 := by
  unfold Mem.wrS
  rw [wrK_rd h n o0 o1 hn (by omega) n (Nat.le_refl _), if_pos (by omega)]
  congr 1
  omega

theorem byteV_is {v : Int} (v0 : 0 ≤ v) (v1 : v < 4294967296) (i : Nat) (hi : i < 4) : (bytesV v).getD i 0 = v / 256 ^ i % 256 := by
  rcases (by omega : i = 0 ∨ i = 1 ∨ i = 2 ∨ i = 3) with rfl | rfl | rfl | rfl
  · show v % 256 = v / 1 % 256; omega
  · rfl
  · rfl
  · show v / 16777216 = v / 16777216 % 256; omega

theorem spB_one (M : Mem) {off : Int} (n : Nat) (o0 : 0 ≤ off) (o1 : off + 4 ≤ 65536) (hn : n ≤ 4) (j : Nat) : M.spB ⟨off, 0, n, n⟩ j = if j < n then M.rd (off + j) else 0 := by
  unfold Mem.spB Sp.at
  simp only
  by_cases h : j < n
  · rw [if_pos h, if_pos h, if_pos h]
    congr 1
    omega
  · rw [if_neg h, if_neg h]

theorem back_val {M : Mem} (h : Op16 M) {off v : Int} (v0 : 0 ≤ v) (v1 : v < 4294967296) (n : Nat) (o0 : 0 ≤ off) (o1 : off + 4 ≤ 65536) (hn : n = 1 ∨ n = 2 ∨ n = 4) : (M.wrS ⟨off, 0, n, n⟩ v).rdS ⟨off, 0, n, n⟩ = v % 256 ^ n := by
  have b := fun i hi => back_one h (v := v) n o0 o1 (by omega) i hi
  have s := fun j => spB_one (M.wrS ⟨off, 0, n, n⟩ v) n o0 o1 (by omega) j
  unfold Mem.rdS
  rw [s 0, s 1, s 2, s 3]
  rcases hn with rfl | rfl | rfl
  · rw [if_pos (by omega), if_neg (by omega), if_neg (by omega), if_neg (by omega), b 0 (by omega)]
    show v % 256 + 0 * 256 + 0 * 65536 + 0 * 16777216 = v % 256
    omega
  · rw [if_pos (by omega), if_pos (by omega), if_neg (by omega), if_neg (by omega), b 0 (by omega), b 1 (by omega)]
    show v % 256 + v / 256 % 256 * 256 + 0 * 65536 + 0 * 16777216 = v % 65536
    omega
  · rw [if_pos (by omega), if_pos (by omega), if_pos (by omega), if_pos (by omega), b 0 (by omega), b 1 (by omega), b 2 (by omega), b 3 (by omega)]
    show v % 256 + v / 256 % 256 * 256 + v / 65536 % 256 * 65536 + v / 16777216 * 16777216 = v % 4294967296
    omega

theorem back_byte {M : Mem} (h : Op16 M) {off v : Int} (v0 : 0 ≤ v) (v1 : v < 4294967296) (n : Nat) (o0 : 0 ≤ off) (o1 : off + 4 ≤ 65536) (hn : n ≤ 4) (i : Nat) (hi : i < n) : (M.wrS ⟨off, 0, n, n⟩ v).rdS ⟨off + i, 0, 1, 1⟩ = v / 256 ^ i % 256 := by
  rw [rdS1, show (off + (i : Int)) % 4294967296 = off + i by omega, back_one h n o0 o1 hn i hi, byteV_is v0 v1 i (by omega)]

/-! ### segments -/
theorem rW_rR {s : Bool} {t : Int} (h : Sg.rW s t = true) : Sg.rR s t = true := by
  unfold Sg.rW at h
  unfold Sg.rR
  simp at h
  simp [h.1]
theorem reach_less {l t : Int} {s p g : Bool} {off z : Int} (h : Sg.reachB l t s p g off z true = true) : Sg.reachB l t s p g off z false = true := by
  unfold Sg.reachB Sg.reachX at h ⊢
  simp only [Bool.and_eq_true, if_true] at h
  obtain ⟨⟨⟨h1, h2⟩, h3⟩, h4⟩ := h
  simp [rW_rR h1, h2, h3]
  simpa using h4
theorem reach_byte {l t : Int} {s p g : Bool} {off z : Int} (h : Sg.reachB l t s p g off z false = true) (o : Int) (a : off ≤ o) (b : o + 1 ≤ off + z) : Sg.reachB l t s p g o 1 false = true := by
  unfold Sg.reachB Sg.reachX at h ⊢
  simp only [Bool.and_eq_true] at h
  obtain ⟨⟨⟨h1, h2⟩, h3⟩, h4⟩ := h
  have hz : Sg.szB 1 = true := by decide
  simp at h1
  cases hd : Sg.rD s t
  all_goals
    rw [hd] at h4
    simp at h4
    simp [h1, h2, hz]
    omega

theorem seg_inv {M : Mem} {c : Cp} {k off z : Int} {wr : Bool} (h : (segQ M c k off z wr).f = none) : (z = 1 ∨ z = 2 ∨ z = 4) ∧ 0 ≤ k ∧ k < 6 ∧ (c.seg k.toNat).nl = false ∧ Sg.reachB (c.seg k.toNat).l (c.seg k.toNat).t (c.seg k.toNat).s (c.seg k.toNat).p (c.seg k.toNat).g off z wr = true := by
  unfold segQ at h
  split at h
  · simp at h
  · rename_i h1
    split at h
    · simp at h
    · rename_i h2
      have hz : okS z = true := by cases e : okS z <;> simp_all
      refine ⟨of_decide_eq_true hz, ?_, ?_, ?_, ?_⟩
      · rcases Int.lt_or_le k 0 with e | e
        · exact absurd (.inr (.inl e)) h1
        · exact e
      · rcases Int.lt_or_le k 6 with e | e
        · exact e
        · exact absurd (.inr (.inr e)) h1
      · cases e : (c.seg k.toNat).nl with
        | false => rfl
        | true => exact absurd (.inl e) h2
      · cases e : Sg.reachB (c.seg k.toNat).l (c.seg k.toNat).t (c.seg k.toNat).s (c.seg k.toNat).p (c.seg k.toNat).g off z wr with
        | true => rfl
        | false => exact absurd (.inr e) h2

theorem seg_plain (M : Mem) {c : Cp} {k off z : Int} {wr : Bool} (hz : z = 1 ∨ z = 2 ∨ z = 4) (k0 : 0 ≤ k) (k1 : k < 6) (hn : (c.seg k.toNat).nl = false) (hr : Sg.reachB (c.seg k.toNat).l (c.seg k.toNat).t (c.seg k.toNat).s (c.seg k.toNat).p (c.seg k.toNat).g off z wr = true) (hp : c.pg = false) (hb : (c.seg k.toNat).b = 0) (o0 : 0 ≤ off) (o1 : off < 4294967296) : segQ M c k off z wr = ⟨none, M, ⟨off, 0, z.toNat, z.toNat⟩⟩ := by
  have ho : okS z = true := decide_eq_true hz
  unfold segQ
  rw [if_neg (by rw [ho]; simp; omega), if_neg (by rw [hn, hr]; simp)]
  unfold findQ
  rw [if_pos hp, hb, linB_zero o0 o1]

structure BackQ (M : Mem) (c : Cp) (k off z v : Int) (M1 : Mem) : Prop where
  hz : z = 1 ∨ z = 2 ∨ z = 4
  n : M1.n = 16
  m : (segQ M1 c k off z false).m = M1
  hf : (segQ M1 c k off z false).ft = noFt
  vv : (segQ M1 c k off z false).val = v % 256 ^ z.toNat
  bm : ∀ i : Nat, i < z.toNat → (segQ M1 c k (off + i) 1 false).m = M1
  bf : ∀ i : Nat, i < z.toNat → (segQ M1 c k (off + i) 1 false).ft = noFt
  bv : ∀ i : Nat, i < z.toNat → (segQ M1 c k (off + i) 1 false).val = v / 256 ^ i % 256

theorem back_all {M : Mem} (h : Op16 M) {c : Cp} {k off z v : Int} (v0 : 0 ≤ v) (v1 : v < 4294967296) (hf : (segQ M c k off z true).f = none) (hp : c.pg = false) (hb : (c.seg k.toNat).b = 0) (o0 : 0 ≤ off) (o1 : off ≤ 65280) : BackQ M c k off z v ((segQ M c k off z true).put v) := by
  obtain ⟨hz, k0, k1, hn, hr⟩ := seg_inv hf
  have e := seg_plain M (wr := true) hz k0 k1 hn hr hp hb o0 (by omega)
  have ep : (segQ M c k off z true).put v = M.wrS ⟨off, 0, z.toNat, z.toNat⟩ v := by rw [e]; rfl
  have r := reach_less hr
  have hzn : z.toNat = 1 ∨ z.toNat = 2 ∨ z.toNat = 4 := by omega
  have hn4 : z.toNat ≤ 4 := by omega
  rw [ep]
  obtain ⟨M1, hM1⟩ : ∃ M1, M1 = M.wrS ⟨off, 0, z.toNat, z.toNat⟩ v := ⟨_, rfl⟩
  have l := seg_plain M1 (wr := false) hz k0 k1 hn r hp hb o0 (by omega)
  have lb := fun (i : Nat) (hi : i < z.toNat) => seg_plain M1 (off := off + i) (z := 1) (wr := false) (.inl rfl) k0 k1 hn (reach_byte r (off + i) (by omega) (by omega)) hp hb (by omega) (by omega)
  have bv := back_val h v0 v1 z.toNat o0 (by omega) hzn
  have bb := fun i hi => back_byte h v0 v1 z.toNat o0 (by omega) hn4 i hi
  rw [← hM1] at bv bb ⊢
  refine ⟨hz, by rw [hM1]; exact (wrK_same _ _ _ _).1.trans h.n, by rw [l], by rw [l]; rfl, by rw [l]; exact bv, fun i hi => by rw [lb i hi], fun i hi => by rw [lb i hi]; rfl, fun i hi => by rw [lb i hi]; exact bb i hi⟩

/-- With a fault: both memories are told, byte by byte. -/
structure BkD (w : World) (B b0 : Nat) (M : Mem) (N : Nat) (cs0 : Array Value) (t : Nat) (a : Bool) (W : World) : Prop where
  r : RamAt W B M
  h : W.heap[b0]? = some (.cells cs0 5 (0, 0))
  k : Kp noB w W
  d : a = true → ∃ cs, W.heap[t]? = some (.cells cs 5 (0, 0)) ∧ ∀ j, j < N → cs[j]? = some (.int .u8 (M.rd ((0 + j) % 4294967296)))
theorem BkD.kp {w W W' : World} {B b0 : Nat} {M : Mem} {N : Nat} {cs0 : Array Value} {t : Nat} {a : Bool} (h : BkD w B b0 M N cs0 t a W) (k : Kp noB W W') : BkD w B b0 M N cs0 t a W' :=
  ⟨h.r.kp k (fun _ _ f => f), (k.block b0 (Array.getElem?_eq_some_iff.1 h.h).1 (fun f => f)).trans h.h, h.k.trans k, fun e => by
    obtain ⟨cs, h1, h2⟩ := h.d e
    exact ⟨cs, (k.block t (Array.getElem?_eq_some_iff.1 h1).1 (fun f => f)).trans h1, h2⟩⟩
theorem BkD.dump {w W : World} {B b0 : Nat} {M : Mem} {N : Nat} {cs0 : Array Value} {t : Nat} {a : Bool} (h : BkD w B b0 M N cs0 t a W) (n0 : 1 ≤ N) (n1 : N ≤ 2147483647) :
    Calls Try.prog 13 #[.pointer (some ⟨B + 3, 0, none⟩), .int .u32 0, .int .i64 N] W fun e w' => e = .returned (.slice (some ⟨W.heap.size, 0, none⟩) N N) ∧ BkD w B b0 M N cs0 W.heap.size true w' :=
  (dump_ok W B M h.r 0 (by omega) (by omega) N n0 n1).mono fun e w' ⟨cs, e1, h1, h2, h3, k⟩ => by
    have q := h.kp k
    exact ⟨e1, q.r, q.h, q.k, fun _ => ⟨cs, h1, h3⟩⟩

/-- Without one: a loop of bytes. -/
structure BkQ (w : World) (V K B C : Nat) (c : Cp) (M : Mem) (kd sg off z v : Int) (n k : Nat) (si : Value) (wr : World) (i tn : Nat) : Prop where
  ei : si = .int .i64 i
  i4 : i ≤ n
  ik : n - i ≤ k
  vm : VmAt wr V K B 8 tn M
  t : tn ≤ 4 + 2 * i
  cp : CpAt wr C c
  o : RowO wr (C + 1) kd sg off z v
  k : Kp noB w wr
def BkL (w : World) (V K B C : Nat) (c : Cp) (M : Mem) (kd sg off z v : Int) (n k : Nat) (si : Value) (wr : World) : Prop := ∃ i tn, BkQ w V K B C c M kd sg off z v n k si wr i tn
end Go.Proofs.Ytmmnnafjikilpaa

/- What is held through the statement VmemNil: a call's row, four faults. -/
namespace Go.Proofs.Ytmmnnafjikilpaa
open Go.ChangeShapes Go.WideShapes Go.ChangeAt Go.RowKit Go.Maps
set_option linter.unusedVariables false
set_option maxRecDepth 20000

theorem needN (w : World) (pc : Option Addr) : Hid (∀ W, Kp noB w W → Calls Try.prog 50 #[.pointer none, .pointer pc] W fun e w' => e = .panicked (pan (ftV 13)) ∧ Kp noB W w') := fun W _ => need_nil W pc
theorem needC {w : World} {V K B pl tn : Nat} {M : Mem} (h : VmAt w V K B pl tn M) : Hid (∀ W, Kp noB w W → Calls Try.prog 50 #[.pointer (some ⟨V, 0, none⟩), .pointer none] W fun e w' => e = .panicked (pan (ftV 13)) ∧ Kp noB W w') := fun W k => need_cpu W V B (h.kp0 k).c0

structure NlI (w : World) (X a b c d : Nat) (kd sg off z v : Int) (W : World) : Prop where
  o : RowO W X kd sg off z v
  a : RowT W a (ftV 13)
  b : RowT W b (ftV 13)
  c : RowT W c (ftV 13)
  d : RowT W d (ftV 13)
  k : Kp noB w W
section
variable {w W W' : World} {X a b c d : Nat} {kd sg off z v : Int}
theorem NlI.kp (h : NlI w X a b c d kd sg off z v W) (k : Kp noB W W') : NlI w X a b c d kd sg off z v W' :=
  ⟨h.o.kp k (fun f => f), h.a.kp k (fun f => f), h.b.kp k (fun f => f), h.c.kp k (fun f => f), h.d.kp k (fun f => f), h.k.trans k⟩
theorem RowT.again {W : World} {X y : Nat} {f : Ft} (h : RowT W X f) : RowT (setFt W y f) X f ∨ X = y := by
  by_cases e : X = y
  · exact .inr e
  · exact .inl (h.kp (kp_setFt W y f) e)
theorem NlI.set (h : NlI w X a b c d kd sg off z v W) {y : Nat} (hy : RowT W y (ftV 13)) (h1 : w.heap.size ≤ y) (h2 : X ≠ y) : NlI w X a b c d kd sg off z v (setFt W y (ftV 13)) := by
  have q : ∀ x, RowT W x (ftV 13) → RowT (setFt W y (ftV 13)) x (ftV 13) := fun x hx => by
    rcases RowT.again (y := y) hx with e | e
    · exact e
    · subst e; exact hx.set _
  exact ⟨h.o.kp (kp_setFt W y _) h2, q _ h.a, q _ h.b, q _ h.c, q _ h.d, h.k.over (kp_setFt W y _) (fun j hj e => absurd hj (by omega))⟩
structure NlZ (w : World) (X x2 x3 x4 : Nat) : Prop where
  a1 : w.heap.size ≤ x2
  a2 : X + 1 ≠ x2
  b1 : w.heap.size ≤ x3
  b2 : X + 1 ≠ x3
  c1 : w.heap.size ≤ x4
  c2 : X + 1 ≠ x4
structure NlV (w : World) (X a b c : Nat) (kd sg off z v : Int) (V K B : Nat) (W : World) : Prop where
  n : NlI w X a b c (c + 1) kd sg off z v W
  v : VmAt W V K B 3 0 mA
theorem NlV.kp {V K B : Nat} (h : NlV w X a b c kd sg off z v V K B W) (k : Kp noB W W') : NlV w X a b c kd sg off z v V K B W' := ⟨h.n.kp k, h.v.kp0 k⟩
theorem RowT.c13 {W : World} {X : Nat} (h : RowT W X (ftV 13)) : W.cell? ⟨X, 0, none⟩ = some (.int .i64 13) ∧ W.cell? ⟨X, 1, none⟩ = some (.int .i64 0) ∧ W.cell? ⟨X, 2, none⟩ = some (.int .u32 0) := ⟨h.c0, h.c1, h.c2⟩
end
end Go.Proofs.Ytmmnnafjikilpaa
