/- Plain facts behind PageMoves: what a walk finds hangs on no lowest bit; what it leaves keeps the words' addresses. -/
import Derived.Test.YtmmnnafjikilpaaPgMath
namespace Go.Proofs.Ytmmnnafjikilpaa
open Go.ChangeShapes Go.WideShapes Go.ChangeAt Go.RowKit Go.Maps
set_option linter.unusedVariables false

theorem or_low {x h : Int} (x0 : 0 ≤ x) (x1 : x < 4294967296) (h0 : 0 ≤ h) (h1 : h < 4096) : bits .or .u32 (x - x % 4096) h = x - x % 4096 + h := by
  rw [u32_or _ _ (by omega) (by omega) h0 (by omega)]
  obtain ⟨q, hq⟩ : ∃ q : Nat, x - x % 4096 = ((2 ^ 12 * q : Nat) : Int) := ⟨(x / 4096).toNat, by
    have e : (2 : Nat) ^ 12 = 4096 := by decide
    rw [e]; omega⟩
  obtain ⟨k, rfl⟩ := Int.eq_ofNat_of_zero_le h0
  rw [hq, Int.toNat_natCast, Int.toNat_natCast]
  have := Nat.two_pow_add_eq_or_of_lt (b := k) (i := 12) (by omega) q
  rw [← this]
  omega

theorem closed_place {M : Mem} (hc : M.closed = false) (a : Int) : M.place a = a := by
  unfold Mem.place
  rw [hc, if_neg (fun f => by cases f.1)]

theorem lay4_rd {M : Mem} (hc : M.closed = false) {a v : Int} (a0 : 0 ≤ a) (a1 : a < 4294967296) (ha : a % 4 = 0) (x : Int) (x0 : 0 ≤ x) (x1 : x < 4294967296) :
    (M.lay false a (bytesV v)).rd x = if (a ≤ x ∧ x < a + 4) ∧ a < 4096 * M.n ∧ M.only (a / 4096).toNat = false then (bytesV v).getD (x - a).toNat 0 else M.rd x := by
  have hp := closed_place hc a
  have hl : (bytesV v).length = 4 := rfl
  have e := lay_page false (bytesV v) M a (by simp [bytesV]) a0 a1 (by rw [hp, hl]; omega) (by rw [hp]; exact a0)
  rw [hp, hl] at e
  have hn : (M.lay false a (bytesV v)).n = M.n := (lay_same _ _ _ _).1
  have hpx : (M.lay false a (bytesV v)).place x = x := closed_place ((lay_same _ _ _ _).2.2.trans hc) x
  have hpm := closed_place hc x
  unfold Mem.rd
  rw [hn, hpx, hpm]
  by_cases hw : a < 4096 * M.n ∧ M.only (a / 4096).toNat = false
  · rw [if_pos ⟨hw.1, Or.inr hw.2⟩] at e
    rw [e]
    by_cases hx : a ≤ x ∧ x < a + 4
    · rw [if_pos (by omega), if_pos ⟨hx, hw⟩]
      simp only
      rw [if_pos (by omega)]
      congr 1
      omega
    · have hN : ¬ ((a ≤ x ∧ x < a + 4) ∧ a < 4096 * M.n ∧ M.only (a / 4096).toNat = false) := fun f => hx f.1
      rw [if_neg hN]
      split
      · simp only
        rw [if_neg (by omega)]
      · rfl
  · rw [if_neg (fun f => hw ⟨f.1, f.2.resolve_left (by decide)⟩)] at e
    have hN : ¬ ((a ≤ x ∧ x < a + 4) ∧ a < 4096 * M.n ∧ M.only (a / 4096).toNat = false) := fun f => hw f.2
    rw [e, if_neg hN]

theorem read4 (M : Mem) (x : Int) : M.read x 4 = M.rd ((x + 0) % 4294967296) + M.rd ((x + 1) % 4294967296) * 256 + M.rd ((x + 2) % 4294967296) * 65536 + M.rd ((x + 3) % 4294967296) * 16777216 := rfl

theorem lay4_read {M : Mem} (hc : M.closed = false) {a b v : Int} (a0 : 0 ≤ a) (a1 : a < 4294967296) (ha : a % 4 = 0) (b0 : 0 ≤ b) (b1 : b < 4294967296) (hb : b % 4 = 0) (v0 : 0 ≤ v) (v1 : v < 4294967296) :
    (M.lay false a (bytesV v)).read b 4 = if a = b ∧ a < 4096 * M.n ∧ M.only (a / 4096).toNat = false then v else M.read b 4 := by
  have e0 : (b + 0) % 4294967296 = b := by omega
  have e1 : (b + 1) % 4294967296 = b + 1 := by omega
  have e2 : (b + 2) % 4294967296 = b + 2 := by omega
  have e3 : (b + 3) % 4294967296 = b + 3 := by omega
  rw [read4, read4, e0, e1, e2, e3, lay4_rd hc a0 a1 ha b b0 b1, lay4_rd hc a0 a1 ha (b + 1) (by omega) (by omega), lay4_rd hc a0 a1 ha (b + 2) (by omega) (by omega), lay4_rd hc a0 a1 ha (b + 3) (by omega) (by omega)]
  by_cases h : a = b ∧ a < 4096 * M.n ∧ M.only (a / 4096).toNat = false
  · obtain ⟨rfl, hw⟩ := h
    rw [if_pos ⟨by omega, hw⟩, if_pos ⟨by omega, hw⟩, if_pos ⟨by omega, hw⟩, if_pos ⟨by omega, hw⟩, if_pos ⟨rfl, hw⟩]
    have t0 : (a - a).toNat = 0 := by omega
    have t1 : (a + 1 - a).toNat = 1 := by omega
    have t2 : (a + 2 - a).toNat = 2 := by omega
    have t3 : (a + 3 - a).toNat = 3 := by omega
    rw [t0, t1, t2, t3]
    show v % 256 + v / 256 % 256 * 256 + v / 65536 % 256 * 65536 + v / 16777216 * 16777216 = v
    omega
  · rw [if_neg h]
    by_cases hw : a < 4096 * M.n ∧ M.only (a / 4096).toNat = false
    · have hne : a ≠ b := fun f => h ⟨f, hw⟩
      rw [if_neg (fun f => by have := f.1; omega), if_neg (fun f => by have := f.1; omega), if_neg (fun f => by have := f.1; omega), if_neg (fun f => by have := f.1; omega)]
    · rw [if_neg (fun f => hw f.2), if_neg (fun f => hw f.2), if_neg (fun f => hw f.2), if_neg (fun f => hw f.2)]

theorem set_high {n k : Int} (n0 : 0 ≤ n) (hk : k = 32 ∨ k = 64) : setF n k true - setF n k true % 4096 = n - n % 4096 := by
  unfold setF flg
  rw [if_pos rfl]
  rcases hk with rfl | rfl
  · split <;> omega
  · split <;> omega

theorem markW_high {n : Int} (n0 : 0 ≤ n) (n1 : n < 4294967296) (wr : Bool) : markW n wr - markW n wr % 4096 = n - n % 4096 := by
  unfold markW
  split
  · rw [set_high (set32_bd n0 n1).1 (Or.inr rfl), set_high n0 (Or.inl rfl)]
  · exact set_high n0 (Or.inl rfl)

theorem mark_high {M : Mem} (h : RdB M) (hc : M.closed = false) {a b : Int} (a0 : 0 ≤ a) (a1 : a < 4294967296) (ha : a % 4 = 0) (b0 : 0 ≤ b) (b1 : b < 4294967296) (hb : b % 4 = 0) (wr : Bool) :
    (markM M a wr).read b 4 - (markM M a wr).read b 4 % 4096 = M.read b 4 - M.read b 4 % 4096 := by
  have r := h.read a
  have w := markW_bd r.1 r.2 wr
  unfold markM
  split
  · rfl
  · rw [lay4_read hc a0 a1 ha b0 b1 hb w.1 w.2]
    split
    · rename_i e
      rw [← e.1]
      exact markW_high r.1 r.2 wr
    · rfl

/-- What was found is still there. -/
theorem found_high {M : Mem} (h : RdB M) (hc : M.closed = false) {c l : Int} (c0 : 0 ≤ c) (c1 : c < 4294967296) (l0 : 0 ≤ l) (l1 : l < 4294967296) (wr us wp : Bool) :
    (fMem M c l wr us wp).read (fPte M c l) 4 - (fMem M c l wr us wp).read (fPte M c l) 4 % 4096 = fFr M c l := by
  have p := pdeA_bd c0 c1 l0 l1
  have q := fPte_bd h c l l0 l1
  have o := fOne_bd h c l
  have pa : pdeA c l % 4 = 0 := by unfold pdeA; omega
  have qa : fPte M c l % 4 = 0 := by unfold fPte pteA; omega
  unfold fMem
  split
  · rw [mark_high (h.mark _ _) ((mark_same _ _ _).2.2.trans hc) q.1 q.2 qa q.1 q.2 qa, mark_high h hc p.1 p.2 pa q.1 q.2 qa]
    rfl
  · rfl

/-- An address, and Cr3, with other lowest bits. -/
def lowed (x h : Int) : Int := x - x % 4096 + h

theorem lowed_bd {x h : Int} (x0 : 0 ≤ x) (x1 : x < 4294967296) (h0 : 0 ≤ h) (h1 : h < 4096) : 0 ≤ lowed x h ∧ lowed x h < 4294967296 := by unfold lowed; omega

theorem moves {M : Mem} {c l hi lo : Int} (h0 : 0 ≤ hi) (h1 : hi < 4096) (g0 : 0 ≤ lo) (g1 : lo < 4096) :
    pdeA (lowed c hi) (lowed l lo) = pdeA c l ∧ fOne M (lowed c hi) (lowed l lo) = fOne M c l ∧ fPte M (lowed c hi) (lowed l lo) = fPte M c l ∧ fTwo M (lowed c hi) (lowed l lo) = fTwo M c l := by
  have e1 : pdeA (lowed c hi) (lowed l lo) = pdeA c l := by
    unfold pdeA lowed
    have h1 : (c - c % 4096 + hi) % 4096 = hi := by omega
    have h2 : (l - l % 4096 + lo) / 4194304 = l / 4194304 := by omega
    rw [h1, h2]; omega
  have e2 : fOne M (lowed c hi) (lowed l lo) = fOne M c l := by unfold fOne; rw [e1]
  have e3 : fPte M (lowed c hi) (lowed l lo) = fPte M c l := by
    unfold fPte
    rw [e2]
    unfold pteA lowed
    have h2 : (l - l % 4096 + lo) / 4096 % 1024 = l / 4096 % 1024 := by omega
    rw [h2]
  have e4 : fTwo M (lowed c hi) (lowed l lo) = fTwo M c l := by unfold fTwo; rw [e3]
  exact ⟨e1, e2, e3, e4⟩

theorem moves_all {M : Mem} {c l hi lo : Int} (h0 : 0 ≤ hi) (h1 : hi < 4096) (g0 : 0 ≤ lo) (g1 : lo < 4096) (wr us wp : Bool) :
    fWalk M (lowed c hi) (lowed l lo) wr us wp = fWalk M c l wr us wp ∧ fCode M (lowed c hi) (lowed l lo) wr us wp = fCode M c l wr us wp := by
  obtain ⟨e1, e2, e3, e4⟩ := moves (M := M) (c := c) (l := l) h0 h1 g0 g1
  have w : fW M (lowed c hi) (lowed l lo) = fW M c l := by unfold fW; rw [e2, e4]
  have u : fU M (lowed c hi) (lowed l lo) = fU M c l := by unfold fU; rw [e2, e4]
  have hh : fHere M (lowed c hi) (lowed l lo) = fHere M c l := by unfold fHere; rw [e2, e4]
  have fr : fFr M (lowed c hi) (lowed l lo) = fFr M c l := by unfold fFr; rw [e4]
  constructor
  · unfold fWalk fOk; rw [w, u, hh, fr, e1, e3]
  · unfold fCode; rw [w, u, hh]

/-- The words stand where the address says. -/
theorem stands {M : Mem} (h : RdB M) {c l : Int} (c0 : 0 ≤ c) (c1 : c < 4294967296) (l0 : 0 ≤ l) (l1 : l < 4294967296) :
    fFr M c l % 4096 = 0 ∧ fPte M c l % 4096 / 4 = l / 4096 % 1024 ∧ pdeA c l % 4096 / 4 = l / 4194304 := by
  have o := fOne_bd h c l
  refine ⟨?_, ?_, ?_⟩
  · unfold fFr; omega
  · unfold fPte pteA; omega
  · unfold pdeA; omega
end Go.Proofs.Ytmmnnafjikilpaa
