/- Pages: a plain model of a walk through two tables, over memory's; and plain facts on the words' bits. -/
import Derived.Test.YtmmnnafjikilpaaShiftMath
import Derived.Test.YtmmnnafjikilpaaRamOps2
namespace Go.Proofs.Ytmmnnafjikilpaa
open Go.ChangeShapes Go.WideShapes Go.ChangeAt Go.RowKit Go.Maps
set_option linter.unusedVariables false

/-! ### bits -/
theorem pw12 : ((2 ^ 12 : Nat) : Int) = 4096 := by decide
theorem tb_4095 (i : Nat) : tb 4095 i = decide (i < 12) := by
  unfold tb
  show (2 ^ 12 - 1 : Nat).testBit i = _
  rw [Nat.testBit_two_pow_sub_one]

theorem not4095 {x : Int} (x0 : 0 ≤ x) (x1 : x < 4294967296) : bits .andNot .u32 x 4095 = x - x % 4096 := by
  have a1 := andNot_bd x0 x1 (b := 4095) (by decide) (by decide)
  have e : x - x % 4096 = x / 4096 * 4096 := by omega
  rw [e]
  refine tb_ext a1.1 (by omega) fun i => ?_
  have h1 := tb_shl (x := x / 4096) (by omega) 12 i
  have h2 := tb_shr x0 12 (i - 12)
  rw [pw12] at h1 h2
  rw [tb_andNot x0 x1 (by decide) (by decide), tb_4095, h1, h2]
  by_cases h : i < 12
  · have h' : ¬ 12 ≤ i := by omega
    simp [h, h']
  · have h' : 12 ≤ i := by omega
    have e : 12 + (i - 12) = i := by omega
    rw [e]; simp [h, h']

theorem tb_pw (j i : Nat) : tb ((2 ^ j : Nat) : Int) i = decide (i = j) := by
  have h := tb_flg true j i
  simpa [flg] using h

theorem pw_lt {j : Nat} (h : j < 32) : ((2 ^ j : Nat) : Int) < 4294967296 := by
  have : (2 : Nat) ^ j < 2 ^ 32 := Nat.pow_lt_pow_right (by decide) h
  have e : (2 : Nat) ^ 32 = 4294967296 := by decide
  omega

theorem has_tb {x : Int} (x0 : 0 ≤ x) (j : Nat) : hasF x ((2 ^ j : Nat) : Int) = tb x j := by
  unfold hasF
  rw [flg_tb x0 j]
  cases tb x j <;> rfl

theorem and_pw {x : Int} (x0 : 0 ≤ x) (x1 : x < 4294967296) (j : Nat) (hj : j < 32) : bits .and .u32 x ((2 ^ j : Nat) : Int) = flg (hasF x ((2 ^ j : Nat) : Int)) ((2 ^ j : Nat) : Int) := by
  have k0 := pw_pos j
  have k1 := pw_lt hj
  have a1 := and_bd x0 x1 (Int.le_of_lt k0) k1
  rw [has_tb x0 j]
  refine tb_ext a1.1 (by unfold flg; split <;> omega) fun i => ?_
  rw [tb_and x0 x1 (Int.le_of_lt k0) k1, tb_pw, tb_flg]
  by_cases h : i = j
  · simp [h]
  · simp [h]

theorem or_pw {x : Int} (x0 : 0 ≤ x) (x1 : x < 4294967296) (j : Nat) (hj : j < 32) : bits .or .u32 x ((2 ^ j : Nat) : Int) = setF x ((2 ^ j : Nat) : Int) true := by
  have k0 := pw_pos j
  have k1 := pw_lt hj
  have a1 := or_bd x0 x1 (Int.le_of_lt k0) k1
  have s0 : 0 ≤ setF x ((2 ^ j : Nat) : Int) true := by
    clear k1 a1
    revert k0
    generalize ((2 ^ j : Nat) : Int) = k
    intro k0
    unfold setF flg
    rw [if_pos rfl]
    split <;> omega
  refine tb_ext a1.1 s0 fun i => ?_
  rw [tb_or x0 x1 (Int.le_of_lt k0) k1, tb_pw, tb_setF x x0 j]
  by_cases h : i = j
  · simp [h]
  · simp [h]

theorem and1 {x : Int} (x0 : 0 ≤ x) (x1 : x < 4294967296) : bits .and .u32 x 1 = flg (hasF x 1) 1 := and_pw x0 x1 0 (by decide)
theorem and2 {x : Int} (x0 : 0 ≤ x) (x1 : x < 4294967296) : bits .and .u32 x 2 = flg (hasF x 2) 2 := and_pw x0 x1 1 (by decide)
theorem and4 {x : Int} (x0 : 0 ≤ x) (x1 : x < 4294967296) : bits .and .u32 x 4 = flg (hasF x 4) 4 := and_pw x0 x1 2 (by decide)
theorem and32 {x : Int} (x0 : 0 ≤ x) (x1 : x < 4294967296) : bits .and .u32 x 32 = flg (hasF x 32) 32 := and_pw x0 x1 5 (by decide)
theorem or32 {x : Int} (x0 : 0 ≤ x) (x1 : x < 4294967296) : bits .or .u32 x 32 = setF x 32 true := or_pw x0 x1 5 (by decide)

theorem setT_bd {x : Int} (x0 : 0 ≤ x) (x1 : x < 4294967296) (j : Nat) (hj : j < 32) : 0 ≤ setF x ((2 ^ j : Nat) : Int) true ∧ setF x ((2 ^ j : Nat) : Int) true < 4294967296 := by
  rw [← or_pw x0 x1 j hj]
  exact or_bd x0 x1 (Int.le_of_lt (pw_pos j)) (pw_lt hj)
theorem set32_bd {x : Int} (x0 : 0 ≤ x) (x1 : x < 4294967296) : 0 ≤ setF x 32 true ∧ setF x 32 true < 4294967296 := setT_bd x0 x1 5 (by decide)
theorem set64_bd {x : Int} (x0 : 0 ≤ x) (x1 : x < 4294967296) : 0 ≤ setF x 64 true ∧ setF x 64 true < 4294967296 := setT_bd x0 x1 6 (by decide)

theorem tb_96 (i : Nat) : tb 96 i = (decide (i = 5) || decide (i = 6)) := by
  by_cases h : i < 7
  · rcases (by omega : i = 0 ∨ i = 1 ∨ i = 2 ∨ i = 3 ∨ i = 4 ∨ i = 5 ∨ i = 6) with rfl | rfl | rfl | rfl | rfl | rfl | rfl <;> rfl
  · have e : tb 96 i = false := by
      unfold tb
      apply Nat.testBit_lt_two_pow
      have : (2 : Nat) ^ 7 ≤ 2 ^ i := Nat.pow_le_pow_right (by decide) (by omega)
      have e : (2 : Nat) ^ 7 = 128 := by decide
      show 96 < 2 ^ i
      omega
    rw [e]
    have h5 : ¬ i = 5 := by omega
    have h6 : ¬ i = 6 := by omega
    simp [h5, h6]

theorem or96 {x : Int} (x0 : 0 ≤ x) (x1 : x < 4294967296) : bits .or .u32 x 96 = setF (setF x 32 true) 64 true := by
  have b := set32_bd x0 x1
  have c := set64_bd b.1 b.2
  have a1 := or_bd x0 x1 (b := 96) (by decide) (by decide)
  refine tb_ext a1.1 c.1 fun i => ?_
  have h6 := tb_setF (setF x 32 true) b.1 6 true i
  have h5 := tb_setF x x0 5 true i
  rw [show ((2 ^ 6 : Nat) : Int) = 64 by decide] at h6
  rw [show ((2 ^ 5 : Nat) : Int) = 32 by decide] at h5
  rw [tb_or x0 x1 (by decide) (by decide), tb_96, h6, h5]
  by_cases e5 : i = 5
  · simp [e5]
  · by_cases e6 : i = 6
    · simp [e6]
    · simp [e5, e6]

theorem and96 {x : Int} (x0 : 0 ≤ x) (x1 : x < 4294967296) : bits .and .u32 x 96 = flg (hasF x 32) 32 + flg (hasF x 64) 64 := by
  have a1 := and_bd x0 x1 (b := 96) (by decide) (by decide)
  have h5 := has_tb x0 5
  have h6 := has_tb x0 6
  rw [show ((2 ^ 6 : Nat) : Int) = 64 by decide] at h6
  rw [show ((2 ^ 5 : Nat) : Int) = 32 by decide] at h5
  rw [h5, h6]
  refine tb_ext a1.1 (by unfold flg; split <;> split <;> omega) fun i => ?_
  rw [tb_and x0 x1 (by decide) (by decide), tb_96]
  cases e5 : tb x 5 <;> cases e6 : tb x 6
  · show _ = tb 0 i
    have : tb 0 i = false := by simp [tb]
    rw [this]
    by_cases g5 : i = 5
    · subst g5; simp [e5]
    · by_cases g6 : i = 6
      · subst g6; simp [e6]
      · simp [g5, g6]
  · show _ = tb ((2 ^ 6 : Nat) : Int) i
    rw [tb_pw]
    by_cases g5 : i = 5
    · subst g5; simp [e5]
    · by_cases g6 : i = 6
      · subst g6; simp [e6]
      · simp [g5, g6]
  · show _ = tb ((2 ^ 5 : Nat) : Int) i
    rw [tb_pw]
    by_cases g5 : i = 5
    · subst g5; simp [e5]
    · by_cases g6 : i = 6
      · subst g6; simp [e6]
      · simp [g5, g6]
  · show _ = tb 96 i
    rw [tb_96]
    by_cases g5 : i = 5
    · subst g5; simp [e5]
    · by_cases g6 : i = 6
      · subst g6; simp [e6]
      · simp [g5, g6]

theorem and_both {x y : Int} (x0 : 0 ≤ x) (x1 : x < 4294967296) (y0 : 0 ≤ y) (y1 : y < 4294967296) (j : Nat) (hj : j < 32) : bits .and .u32 (bits .and .u32 x y) ((2 ^ j : Nat) : Int) = flg (hasF x ((2 ^ j : Nat) : Int) && hasF y ((2 ^ j : Nat) : Int)) ((2 ^ j : Nat) : Int) := by
  have b := and_bd x0 x1 y0 y1
  rw [and_pw b.1 b.2 j hj, has_tb b.1, has_tb x0, has_tb y0, tb_and x0 x1 y0 y1]
theorem and_both2 {x y : Int} (x0 : 0 ≤ x) (x1 : x < 4294967296) (y0 : 0 ≤ y) (y1 : y < 4294967296) : bits .and .u32 (bits .and .u32 x y) 2 = flg (hasF x 2 && hasF y 2) 2 := and_both x0 x1 y0 y1 1 (by decide)
theorem and_both4 {x y : Int} (x0 : 0 ≤ x) (x1 : x < 4294967296) (y0 : 0 ≤ y) (y1 : y < 4294967296) : bits .and .u32 (bits .and .u32 x y) 4 = flg (hasF x 4 && hasF y 4) 4 := and_both x0 x1 y0 y1 2 (by decide)

/-! ### the walk -/
def pdeA (c l : Int) : Int := c - c % 4096 + l / 4194304 * 4
def pteA (one l : Int) : Int := one - one % 4096 + l / 4096 % 1024 * 4
def fOne (M : Mem) (c l : Int) : Int := M.read (pdeA c l) 4
def fPte (M : Mem) (c l : Int) : Int := pteA (fOne M c l) l
def fTwo (M : Mem) (c l : Int) : Int := M.read (fPte M c l) 4
def fW (M : Mem) (c l : Int) : Bool := hasF (fOne M c l) 2 && hasF (fTwo M c l) 2
def fU (M : Mem) (c l : Int) : Bool := hasF (fOne M c l) 4 && hasF (fTwo M c l) 4
def letsB (w u wr us wp : Bool) : Bool := !(us && !u || wr && !w && (us || wp))
def codeW (wr us : Bool) : Int := flg wr 2 + flg us 4
def fHere (M : Mem) (c l : Int) : Bool := hasF (fOne M c l) 1 && hasF (fTwo M c l) 1
def fOk (M : Mem) (c l : Int) (wr us wp : Bool) : Bool := fHere M c l && letsB (fW M c l) (fU M c l) wr us wp
def fCode (M : Mem) (c l : Int) (wr us wp : Bool) : Int := if fHere M c l = true then (if letsB (fW M c l) (fU M c l) wr us wp = true then -1 else 1 + codeW wr us) else codeW wr us
def walkV (f p q : Int) (w u : Bool) : Value := .agg #[.int .u32 f, .int .u32 p, .int .u32 q, .bool w, .bool u]
def fFr (M : Mem) (c l : Int) : Int := fTwo M c l - fTwo M c l % 4096
def fWalk (M : Mem) (c l : Int) (wr us wp : Bool) : Value := if fOk M c l wr us wp = true then walkV (fFr M c l) (pdeA c l) (fPte M c l) (fW M c l) (fU M c l) else walkV 0 0 0 false false
def markW (n : Int) (wr : Bool) : Int := if wr = true then setF (setF n 32 true) 64 true else setF n 32 true
def markM (M : Mem) (a : Int) (wr : Bool) : Mem := if markW (M.read a 4) wr = M.read a 4 then M else M.lay false a (bytesV (markW (M.read a 4) wr))
def fMem (M : Mem) (c l : Int) (wr us wp : Bool) : Mem := if fOk M c l wr us wp = true then markM (markM M (pdeA c l) false) (fPte M c l) wr else M

/-! ### bounds -/
def RdB (M : Mem) : Prop := ∀ a : Int, 0 ≤ a → a < 4294967296 → 0 ≤ M.rd a ∧ M.rd a < 256

theorem RamAt.rdB {w : World} {B : Nat} {M : Mem} (h : RamAt w B M) : RdB M := fun a a0 a1 => rd_bd h a a0 a1

theorem RdB.put {M : Mem} (h : RdB M) (all : Bool) (a v : Int) (v0 : 0 ≤ v) (v1 : v < 256) : RdB (M.put all a v) := by
  intro x x0 x1
  have hx := h x x0 x1
  unfold Mem.rd at hx ⊢
  rw [put_place, put_n]
  by_cases hlt : M.place x < 4096 * M.n
  · rw [if_pos hlt] at hx ⊢
    unfold Mem.put
    split
    · simp only
      split
      · exact ⟨v0, v1⟩
      · exact hx
    · exact hx
  · rw [if_neg hlt]
    omega

theorem RdB.lay (all : Bool) : ∀ (vs : List Int) (M : Mem) (a : Int), RdB M → (∀ v ∈ vs, 0 ≤ v ∧ v < 256) → RdB (M.lay all a vs)
  | [], M, a, h, _ => h
  | v :: r, M, a, h, hv => RdB.lay all r (M.put all a v) ((a + 1) % 4294967296) (h.put all a v (hv v (by simp)).1 (hv v (by simp)).2) (fun x hx => hv x (by simp [hx]))

theorem bytesV_bd {v : Int} (v0 : 0 ≤ v) (v1 : v < 4294967296) : ∀ x ∈ bytesV v, 0 ≤ x ∧ x < 256 := by
  intro x hx
  simp only [bytesV, List.mem_cons, List.not_mem_nil, or_false] at hx
  rcases hx with rfl | rfl | rfl | rfl <;> omega

theorem RdB.read {M : Mem} (h : RdB M) (x : Int) : 0 ≤ M.read x 4 ∧ M.read x 4 < 4294967296 := by
  have r0 := h ((x + 0) % 4294967296) (by omega) (by omega)
  have r1 := h ((x + 1) % 4294967296) (by omega) (by omega)
  have r2 := h ((x + 2) % 4294967296) (by omega) (by omega)
  have r3 := h ((x + 3) % 4294967296) (by omega) (by omega)
  show 0 ≤ M.rd ((x + 0) % 4294967296) + M.rd ((x + 1) % 4294967296) * 256 + M.rd ((x + 2) % 4294967296) * 65536 + M.rd ((x + 3) % 4294967296) * 16777216 ∧ M.rd ((x + 0) % 4294967296) + M.rd ((x + 1) % 4294967296) * 256 + M.rd ((x + 2) % 4294967296) * 65536 + M.rd ((x + 3) % 4294967296) * 16777216 < 4294967296
  omega

theorem markW_bd {n : Int} (n0 : 0 ≤ n) (n1 : n < 4294967296) (wr : Bool) : 0 ≤ markW n wr ∧ markW n wr < 4294967296 := by
  unfold markW
  have b := set32_bd n0 n1
  split
  · exact set64_bd b.1 b.2
  · exact b

theorem RdB.mark {M : Mem} (h : RdB M) (a : Int) (wr : Bool) : RdB (markM M a wr) := by
  unfold markM
  split
  · exact h
  · have b := h.read a
    have c := markW_bd b.1 b.2 wr
    exact RdB.lay false _ _ _ h (bytesV_bd c.1 c.2)

theorem mark_same (M : Mem) (a : Int) (wr : Bool) : (markM M a wr).n = M.n ∧ (markM M a wr).only = M.only ∧ (markM M a wr).closed = M.closed := by
  unfold markM
  split
  · exact ⟨rfl, rfl, rfl⟩
  · exact lay_same _ _ _ _

theorem fMem_same (M : Mem) (c l : Int) (wr us wp : Bool) : (fMem M c l wr us wp).n = M.n ∧ (fMem M c l wr us wp).only = M.only ∧ (fMem M c l wr us wp).closed = M.closed := by
  unfold fMem
  split
  · have h1 := mark_same M (pdeA c l) false
    have h2 := mark_same (markM M (pdeA c l) false) (fPte M c l) wr
    exact ⟨h2.1.trans h1.1, h2.2.1.trans h1.2.1, h2.2.2.trans h1.2.2⟩
  · exact ⟨rfl, rfl, rfl⟩

theorem pdeA_bd {c l : Int} (c0 : 0 ≤ c) (c1 : c < 4294967296) (l0 : 0 ≤ l) (l1 : l < 4294967296) : 0 ≤ pdeA c l ∧ pdeA c l < 4294967296 := by unfold pdeA; omega
theorem pteA_bd {o l : Int} (c0 : 0 ≤ o) (c1 : o < 4294967296) (l0 : 0 ≤ l) (l1 : l < 4294967296) : 0 ≤ pteA o l ∧ pteA o l < 4294967296 := by unfold pteA; omega
theorem fOne_bd {M : Mem} (h : RdB M) (c l : Int) : 0 ≤ fOne M c l ∧ fOne M c l < 4294967296 := h.read _
theorem fTwo_bd {M : Mem} (h : RdB M) (c l : Int) : 0 ≤ fTwo M c l ∧ fTwo M c l < 4294967296 := h.read _
theorem fPte_bd {M : Mem} (h : RdB M) (c l : Int) (l0 : 0 ≤ l) (l1 : l < 4294967296) : 0 ≤ fPte M c l ∧ fPte M c l < 4294967296 := pteA_bd (fOne_bd h c l).1 (fOne_bd h c l).2 l0 l1

/-- What is written, or not, whatever is asked of the bits. -/
theorem mark_asks {n : Int} (n0 : 0 ≤ n) (n1 : n < 4294967296) (wr : Bool) : (markW n wr = n) ↔ (hasF n 32 = true ∧ (wr = true → hasF n 64 = true)) := by
  have k : ∀ (x k : Int), 0 < k → (setF x k true = x ↔ hasF x k = true) := fun x k hk => by
    unfold setF hasF flg
    by_cases h : x / k % 2 = 1
    · simp [h]
    · simp [h]; omega
  have m : ∀ (x : Int), x ≤ setF x 32 true := fun x => by unfold setF flg; split <;> simp <;> omega
  have m6 : ∀ (x : Int), x ≤ setF x 64 true := fun x => by unfold setF flg; split <;> simp <;> omega
  unfold markW
  cases wr
  · simp [k n 32 (by decide)]
  · simp only [if_true, true_imp_iff]
    constructor
    · intro h
      have h1 := m n
      have h2 := m6 (setF n 32 true)
      have e : setF n 32 true = n := by omega
      rw [e] at h
      exact ⟨(k n 32 (by decide)).1 e, (k n 64 (by decide)).1 h⟩
    · rintro ⟨h1, h2⟩
      rw [(k n 32 (by decide)).2 h1, (k n 64 (by decide)).2 h2]
end Go.Proofs.Ytmmnnafjikilpaa
