/- Pages that are kept: plain facts. What is kept of a walk, when it is good, and that a good one answers as a walk does. -/
import Derived.Test.YtmmnnafjikilpaaPgMoves
namespace Go.Proofs.Ytmmnnafjikilpaa
open Go.ChangeShapes Go.WideShapes Go.ChangeAt Go.RowKit Go.Maps
set_option linter.unusedVariables false

/-- What is kept of a page: the walk, the words that it came by, its turn. -/
structure Ent where
  fr : Int
  p : Int
  q : Int
  bw : Bool
  bu : Bool
  o : Int
  t : Int
  tn : Int

def Good (a b : Int) (e : Ent) : Prop :=
  (0 ≤ e.o ∧ e.o < 4294967296 ∧ 0 ≤ e.t ∧ e.t < 4294967296) ∧ (hasF e.o 1 = true ∧ hasF e.t 1 = true) ∧ e.p = pdeA a b ∧ e.q = pteA e.o b ∧ e.fr = e.t - e.t % 4096 ∧ e.bw = (hasF e.o 2 && hasF e.t 2) ∧ e.bu = (hasF e.o 4 && hasF e.t 4)

def servesB (e : Ent) (wr us : Bool) : Bool := !(us && !e.bu || wr && !e.bw) && (!(wr && !hasF e.t 64) && (hasF e.o 32 && hasF e.t 32))

theorem pde_low (c l : Int) : pdeA (c - c % 4096) (l - l % 4096) = pdeA c l := by
  unfold pdeA
  have h1 : (c - c % 4096) % 4096 = 0 := by omega
  have h2 : (l - l % 4096) / 4194304 = l / 4194304 := by omega
  rw [h1, h2]; omega

theorem pte_low (o l : Int) : pteA o (l - l % 4096) = pteA o l := by
  unfold pteA
  have h2 : (l - l % 4096) / 4096 % 1024 = l / 4096 % 1024 := by omega
  rw [h2]

theorem mark_has {M : Mem} (h : RdB M) (a : Int) (wr : Bool) (h1 : hasF (M.read a 4) 32 = true) (h2 : wr = true → hasF (M.read a 4) 64 = true) : markM M a wr = M := by
  have b := h.read a
  unfold markM
  rw [if_pos ((mark_asks b.1 b.2 wr).2 ⟨h1, h2⟩)]

theorem hit {M : Mem} (h : RdB M) {c l : Int} {e : Ent} (g : Good (c - c % 4096) (l - l % 4096) e) (h1 : M.read e.p 4 = e.o) (h2 : M.read e.q 4 = e.t) {wr us wp : Bool} (hs : servesB e wr us = true) :
    fWalk M c l wr us wp = walkV e.fr e.p e.q e.bw e.bu ∧ fCode M c l wr us wp = -1 ∧ fMem M c l wr us wp = M := by
  obtain ⟨_, ⟨p1, p2⟩, gp, gq, gf, gw, gu⟩ := g
  rw [pde_low] at gp
  rw [pte_low] at gq
  have e1 : fOne M c l = e.o := by unfold fOne; rw [← gp]; exact h1
  have e2 : fPte M c l = e.q := by unfold fPte; rw [e1]; exact gq.symm
  have e3 : fTwo M c l = e.t := by unfold fTwo; rw [e2]; exact h2
  have e4 : fW M c l = e.bw := by unfold fW; rw [e1, e3]; exact gw.symm
  have e5 : fU M c l = e.bu := by unfold fU; rw [e1, e3]; exact gu.symm
  have e6 : fHere M c l = true := by unfold fHere; rw [e1, e3, p1, p2]; rfl
  have e7 : fFr M c l = e.fr := by unfold fFr; rw [e3]; exact gf.symm
  unfold servesB at hs
  have hl : letsB e.bw e.bu wr us wp = true := by
    unfold letsB
    revert hs
    cases e.bw <;> cases e.bu <;> cases wr <;> cases us <;> simp
  have ho : fOk M c l wr us wp = true := by unfold fOk; rw [e6, e4, e5, hl]; rfl
  have s1 : hasF e.o 32 = true := by revert hs; cases hasF e.o 32 <;> simp
  have s2 : hasF e.t 32 = true := by revert hs; cases hasF e.t 32 <;> simp
  have s3 : wr = true → hasF e.t 64 = true := by intro hw; revert hs; rw [hw]; cases hasF e.t 64 <;> simp
  refine ⟨?_, ?_, ?_⟩
  · unfold fWalk; rw [if_pos ho, e7, e2, e4, e5, gp]
  · unfold fCode; rw [if_pos e6, e4, e5, if_pos hl]
  · unfold fMem
    rw [if_pos ho, ← gp, e2, mark_has h e.p false (by rw [h1]; exact s1) (fun f => by cases f), mark_has h e.q wr (by rw [h2]; exact s2) (fun f => by rw [h2]; exact s3 f)]

/-! ### what a walk leaves -/
def Lik (n m : Int) : Prop := (0 ≤ m ∧ m < 4294967296) ∧ n - n % 4096 = m - m % 4096 ∧ n % 8 = m % 8

theorem Lik.same {n : Int} (n0 : 0 ≤ n) (n1 : n < 4294967296) : Lik n n := ⟨⟨n0, n1⟩, rfl, rfl⟩
theorem Lik.trans {a b c : Int} (h : Lik a b) (k : Lik b c) : Lik a c := ⟨k.1, h.2.1.trans k.2.1, h.2.2.trans k.2.2⟩

theorem set_eight {n k : Int} (hk : k = 32 ∨ k = 64) : n % 8 = setF n k true % 8 := by
  unfold setF flg
  rw [if_pos rfl]
  rcases hk with rfl | rfl
  · split <;> omega
  · split <;> omega

theorem lik_markW {n : Int} (n0 : 0 ≤ n) (n1 : n < 4294967296) (wr : Bool) : Lik n (markW n wr) := by
  refine ⟨markW_bd n0 n1 wr, (markW_high n0 n1 wr).symm, ?_⟩
  unfold markW
  split
  · rw [← set_eight (Or.inr rfl), ← set_eight (Or.inl rfl)]
  · exact set_eight (Or.inl rfl)

theorem lik_markM {M : Mem} (h : RdB M) (hc : M.closed = false) {a b : Int} (a0 : 0 ≤ a) (a1 : a < 4294967296) (ha : a % 4 = 0) (b0 : 0 ≤ b) (b1 : b < 4294967296) (hb : b % 4 = 0) (wr : Bool) :
    Lik (M.read b 4) ((markM M a wr).read b 4) := by
  have r := h.read a
  have rb := h.read b
  have w := markW_bd r.1 r.2 wr
  unfold markM
  split
  · exact Lik.same rb.1 rb.2
  · rw [lay4_read hc a0 a1 ha b0 b1 hb w.1 w.2]
    split
    · rename_i e
      rw [← e.1]
      exact lik_markW r.1 r.2 wr
    · exact Lik.same rb.1 rb.2

theorem lik_fMem {M : Mem} (h : RdB M) (hc : M.closed = false) {c l : Int} (c0 : 0 ≤ c) (c1 : c < 4294967296) (l0 : 0 ≤ l) (l1 : l < 4294967296) (wr us wp : Bool) {b : Int} (b0 : 0 ≤ b) (b1 : b < 4294967296) (hb : b % 4 = 0) :
    Lik (M.read b 4) ((fMem M c l wr us wp).read b 4) := by
  have p := pdeA_bd c0 c1 l0 l1
  have q := fPte_bd h c l l0 l1
  have pa : pdeA c l % 4 = 0 := by unfold pdeA; omega
  have qa : fPte M c l % 4 = 0 := by unfold fPte pteA; omega
  have rb := h.read b
  unfold fMem
  split
  · exact (lik_markM h hc p.1 p.2 pa b0 b1 hb false).trans (lik_markM (h.mark _ _) ((mark_same _ _ _).2.2.trans hc) q.1 q.2 qa b0 b1 hb wr)
  · exact Lik.same rb.1 rb.2

theorem has_lik {n m k : Int} (h : n % 8 = m % 8) (hk : k = 1 ∨ k = 2 ∨ k = 4) : hasF n k = hasF m k := by
  have e : n / k % 2 = m / k % 2 := by
    rcases hk with rfl | rfl | rfl <;> omega
  unfold hasF
  rw [e]

/-- What is kept behind a walk. -/
def entOf (M : Mem) (c l : Int) (wr us wp : Bool) (tn : Int) : Ent :=
  ⟨fFr M c l, pdeA c l, fPte M c l, fW M c l, fU M c l, (fMem M c l wr us wp).read (pdeA c l) 4, (fMem M c l wr us wp).read (fPte M c l) 4, tn⟩

theorem ok_here {M : Mem} {c l : Int} {wr us wp : Bool} (ho : fOk M c l wr us wp = true) : hasF (fOne M c l) 1 = true ∧ hasF (fTwo M c l) 1 = true := by
  unfold fOk fHere at ho
  revert ho
  cases hasF (fOne M c l) 1 <;> cases hasF (fTwo M c l) 1 <;> simp

theorem entOf_good {M : Mem} (h : RdB M) (hc : M.closed = false) {c l : Int} (c0 : 0 ≤ c) (c1 : c < 4294967296) (l0 : 0 ≤ l) (l1 : l < 4294967296) {wr us wp : Bool} (ho : fOk M c l wr us wp = true) (tn : Int) :
    Good (c - c % 4096) (l - l % 4096) (entOf M c l wr us wp tn) := by
  have p := pdeA_bd c0 c1 l0 l1
  have q := fPte_bd h c l l0 l1
  have pa : pdeA c l % 4 = 0 := by unfold pdeA; omega
  have qa : fPte M c l % 4 = 0 := by unfold fPte pteA; omega
  obtain ⟨a1, a2, a3⟩ := lik_fMem h hc c0 c1 l0 l1 wr us wp p.1 p.2 pa
  obtain ⟨b1, b2, b3⟩ := lik_fMem h hc c0 c1 l0 l1 wr us wp q.1 q.2 qa
  obtain ⟨h1, h2⟩ := ok_here ho
  have o1 : M.read (pdeA c l) 4 = fOne M c l := rfl
  have t1 : M.read (fPte M c l) 4 = fTwo M c l := rfl
  rw [o1] at a2 a3
  rw [t1] at b2 b3
  refine ⟨⟨a1.1, a1.2, b1.1, b1.2⟩, ⟨?_, ?_⟩, (pde_low c l).symm, ?_, ?_, ?_, ?_⟩
  · show hasF ((fMem M c l wr us wp).read (pdeA c l) 4) 1 = true
    rw [← has_lik a3 (.inl rfl)]; exact h1
  · show hasF ((fMem M c l wr us wp).read (fPte M c l) 4) 1 = true
    rw [← has_lik b3 (.inl rfl)]; exact h2
  · show fPte M c l = pteA ((fMem M c l wr us wp).read (pdeA c l) 4) (l - l % 4096)
    rw [pte_low]
    unfold fPte pteA
    rw [a2]
  · exact b2
  · show (hasF (fOne M c l) 2 && hasF (fTwo M c l) 2) = (hasF ((fMem M c l wr us wp).read (pdeA c l) 4) 2 && hasF ((fMem M c l wr us wp).read (fPte M c l) 4) 2)
    rw [has_lik a3 (.inr (.inl rfl)), has_lik b3 (.inr (.inl rfl))]
  · show (hasF (fOne M c l) 4 && hasF (fTwo M c l) 4) = (hasF ((fMem M c l wr us wp).read (pdeA c l) 4) 4 && hasF ((fMem M c l wr us wp).read (fPte M c l) 4) 4)
    rw [has_lik a3 (.inr (.inr rfl)), has_lik b3 (.inr (.inr rfl))]

/-- The code says -1 just where a page was found. -/
theorem code_ok {M : Mem} {c l : Int} {wr us wp : Bool} : (fCode M c l wr us wp == -1) = fOk M c l wr us wp := by
  unfold fCode fOk
  have k : 0 ≤ codeW wr us := by cases wr <;> cases us <;> decide
  cases fHere M c l
  · simp; omega
  · cases letsB (fW M c l) (fU M c l) wr us wp
    · simp; omega
    · simp
end Go.Proofs.Ytmmnnafjikilpaa
