/- Texts on vmem, joined: PgMath, PgLeaf, PgFollow, PgMark, PgFind, PgMoves. -/
import Derived.Test.YtmmnnafjikilpaaGreatVa
import Derived.LoopN
import Derived.Test.YtmmnnafjikilpaaGreatVd
import Derived.Deep.RegionWith
import Derived.Deep.Cut
/- Pages: a plain model of a walk through two tables, over memory's; and plain facts on the words' bits. -/
namespace Go.Proofs.YtmmnnafjikilpaaGreat
open Go.ChangeShapes Go.WideShapes Go.ChangeAt Go.RowKit Go.Maps
set_option linter.unusedVariables false

/-! ### bits -/
theorem pw12 : ((2 ^ 12 : Nat) : Int) = 4096 := by decide
theorem tb_4095 (i : Nat) : tb 4095 i = decide (i < 12) := by
  unfold tb
  show (2 ^ 12 - 1 : Nat).testBit i = _
  rw [Nat.testBit_two_pow_sub_one]

theorem not4095 {x : Int} (x0 : 0 ≤ x) (x1 : x < 4294967296) : bits .andNot .u32 x 4095 = x - x % 4096 := by
  have a1 := andNot_bd x0 x1 (b := 4095) (by decide) (by decide)
  have e : x - x % 4096 = x / 4096 * 4096 := by omega
  rw [e]
  refine tb_ext a1.1 (by omega) fun i => ?_
  have h1 := tb_shl (x := x / 4096) (by omega) 12 i
  have h2 := tb_shr x0 12 (i - 12)
  rw [pw12] at h1 h2
  rw [tb_andNot x0 x1 (by decide) (by decide), tb_4095, h1, h2]
  by_cases h : i < 12
  · have h' : ¬ 12 ≤ i := by omega
    simp [h, h']
  · have h' : 12 ≤ i := by omega
    have e : 12 + (i - 12) = i := by omega
    rw [e]; simp [h, h']

theorem tb_pw (j i : Nat) : tb ((2 ^ j : Nat) : Int) i = decide (i = j) := by
  have h := tb_flg true j i
  simpa [flg] using h

theorem pw_lt {j : Nat} (h : j < 32) : ((2 ^ j : Nat) : Int) < 4294967296 := by
  have : (2 : Nat) ^ j < 2 ^ 32 := Nat.pow_lt_pow_right (by decide) h
  have e : (2 : Nat) ^ 32 = 4294967296 := by decide
  omega

theorem has_tb {x : Int} (x0 : 0 ≤ x) (j : Nat) : hasF x ((2 ^ j : Nat) : Int) = tb x j := by
  unfold hasF
  rw [flg_tb x0 j]
  cases tb x j <;> rfl

theorem and_pw {x : Int} (x0 : 0 ≤ x) (x1 : x < 4294967296) (j : Nat) (hj : j < 32) : bits .and .u32 x ((2 ^ j : Nat) : Int) = flg (hasF x ((2 ^ j : Nat) : Int)) ((2 ^ j : Nat) : Int) := by
  have k0 := pw_pos j
  have k1 := pw_lt hj
  have a1 := and_bd x0 x1 (Int.le_of_lt k0) k1
  rw [has_tb x0 j]
  refine tb_ext a1.1 (by unfold flg; split <;> omega) fun i => ?_
  rw [tb_and x0 x1 (Int.le_of_lt k0) k1, tb_pw, tb_flg]
  by_cases h : i = j
  · simp [h]
  · simp [h]

theorem or_pw {x : Int} (x0 : 0 ≤ x) (x1 : x < 4294967296) (j : Nat) (hj : j < 32) : bits .or .u32 x ((2 ^ j : Nat) : Int) = setF x ((2 ^ j : Nat) : Int) true := by
  have k0 := pw_pos j
  have k1 := pw_lt hj
  have a1 := or_bd x0 x1 (Int.le_of_lt k0) k1
  have s0 : 0 ≤ setF x ((2 ^ j : Nat) : Int) true := by
    clear k1 a1
    revert k0
    generalize ((2 ^ j : Nat) : Int) = k
    intro k0
    unfold setF flg
    rw [if_pos rfl]
    split <;> omega
  refine tb_ext a1.1 s0 fun i => ?_
  rw [tb_or x0 x1 (Int.le_of_lt k0) k1, tb_pw, tb_setF x x0 j]
  by_cases h : i = j
  · simp [h]
  · simp [h]

theorem and1 {x : Int} (x0 : 0 ≤ x) (x1 : x < 4294967296) : bits .and .u32 x 1 = flg (hasF x 1) 1 := and_pw x0 x1 0 (by decide)
theorem and32 {x : Int} (x0 : 0 ≤ x) (x1 : x < 4294967296) : bits .and .u32 x 32 = flg (hasF x 32) 32 := and_pw x0 x1 5 (by decide)
theorem or32 {x : Int} (x0 : 0 ≤ x) (x1 : x < 4294967296) : bits .or .u32 x 32 = setF x 32 true := or_pw x0 x1 5 (by decide)

theorem setT_bd {x : Int} (x0 : 0 ≤ x) (x1 : x < 4294967296) (j : Nat) (hj : j < 32) : 0 ≤ setF x ((2 ^ j : Nat) : Int) true ∧ setF x ((2 ^ j : Nat) : Int) true < 4294967296 := by
  rw [← or_pw x0 x1 j hj]
  exact or_bd x0 x1 (Int.le_of_lt (pw_pos j)) (pw_lt hj)
theorem set32_bd {x : Int} (x0 : 0 ≤ x) (x1 : x < 4294967296) : 0 ≤ setF x 32 true ∧ setF x 32 true < 4294967296 := setT_bd x0 x1 5 (by decide)
theorem set64_bd {x : Int} (x0 : 0 ≤ x) (x1 : x < 4294967296) : 0 ≤ setF x 64 true ∧ setF x 64 true < 4294967296 := setT_bd x0 x1 6 (by decide)

theorem tb_96 (i : Nat) : tb 96 i = (decide (i = 5) || decide (i = 6)) := by
  by_cases h : i < 7
  · rcases (by omega : i = 0 ∨ i = 1 ∨ i = 2 ∨ i = 3 ∨ i = 4 ∨ i = 5 ∨ i = 6) with rfl | rfl | rfl | rfl | rfl | rfl | rfl <;> rfl
  · have e : tb 96 i = false := by
      unfold tb
      apply Nat.testBit_lt_two_pow
      have : (2 : Nat) ^ 7 ≤ 2 ^ i := Nat.pow_le_pow_right (by decide) (by omega)
      have e : (2 : Nat) ^ 7 = 128 := by decide
      show 96 < 2 ^ i
      omega
    rw [e]
    have h5 : ¬ i = 5 := by omega
    have h6 : ¬ i = 6 := by omega
    simp [h5, h6]

theorem or96 {x : Int} (x0 : 0 ≤ x) (x1 : x < 4294967296) : bits .or .u32 x 96 = setF (setF x 32 true) 64 true := by
  have b := set32_bd x0 x1
  have c := set64_bd b.1 b.2
  have a1 := or_bd x0 x1 (b := 96) (by decide) (by decide)
  refine tb_ext a1.1 c.1 fun i => ?_
  have h6 := tb_setF (setF x 32 true) b.1 6 true i
  have h5 := tb_setF x x0 5 true i
  rw [show ((2 ^ 6 : Nat) : Int) = 64 by decide] at h6
  rw [show ((2 ^ 5 : Nat) : Int) = 32 by decide] at h5
  rw [tb_or x0 x1 (by decide) (by decide), tb_96, h6, h5]
  by_cases e5 : i = 5
  · simp [e5]
  · by_cases e6 : i = 6
    · simp [e6]
    · simp [e5, e6]

theorem and96 {x : Int} (x0 : 0 ≤ x) (x1 : x < 4294967296) : bits .and .u32 x 96 = flg (hasF x 32) 32 + flg (hasF x 64) 64 := by
  have a1 := and_bd x0 x1 (b := 96) (by decide) (by decide)
  have h5 := has_tb x0 5
  have h6 := has_tb x0 6
  rw [show ((2 ^ 6 : Nat) : Int) = 64 by decide] at h6
  rw [show ((2 ^ 5 : Nat) : Int) = 32 by decide] at h5
  rw [h5, h6]
  refine tb_ext a1.1 (by unfold flg; split <;> split <;> omega) fun i => ?_
  rw [tb_and x0 x1 (by decide) (by decide), tb_96]
  cases e5 : tb x 5 <;> cases e6 : tb x 6
  · show _ = tb 0 i
    have : tb 0 i = false := by simp [tb]
    rw [this]
    by_cases g5 : i = 5
    · subst g5; simp [e5]
    · by_cases g6 : i = 6
      · subst g6; simp [e6]
      · simp [g5, g6]
  · show _ = tb ((2 ^ 6 : Nat) : Int) i
    rw [tb_pw]
    by_cases g5 : i = 5
    · subst g5; simp [e5]
    · by_cases g6 : i = 6
      · subst g6; simp [e6]
      · simp [g5, g6]
  · show _ = tb ((2 ^ 5 : Nat) : Int) i
    rw [tb_pw]
    by_cases g5 : i = 5
    · subst g5; simp [e5]
    · by_cases g6 : i = 6
      · subst g6; simp [e6]
      · simp [g5, g6]
  · show _ = tb 96 i
    rw [tb_96]
    by_cases g5 : i = 5
    · subst g5; simp [e5]
    · by_cases g6 : i = 6
      · subst g6; simp [e6]
      · simp [g5, g6]

theorem and_both {x y : Int} (x0 : 0 ≤ x) (x1 : x < 4294967296) (y0 : 0 ≤ y) (y1 : y < 4294967296) (j : Nat) (hj : j < 32) : bits .and .u32 (bits .and .u32 x y) ((2 ^ j : Nat) : Int) = flg (hasF x ((2 ^ j : Nat) : Int) && hasF y ((2 ^ j : Nat) : Int)) ((2 ^ j : Nat) : Int) := by
  have b := and_bd x0 x1 y0 y1
  rw [and_pw b.1 b.2 j hj, has_tb b.1, has_tb x0, has_tb y0, tb_and x0 x1 y0 y1]
theorem and_both2 {x y : Int} (x0 : 0 ≤ x) (x1 : x < 4294967296) (y0 : 0 ≤ y) (y1 : y < 4294967296) : bits .and .u32 (bits .and .u32 x y) 2 = flg (hasF x 2 && hasF y 2) 2 := and_both x0 x1 y0 y1 1 (by decide)
theorem and_both4 {x y : Int} (x0 : 0 ≤ x) (x1 : x < 4294967296) (y0 : 0 ≤ y) (y1 : y < 4294967296) : bits .and .u32 (bits .and .u32 x y) 4 = flg (hasF x 4 && hasF y 4) 4 := and_both x0 x1 y0 y1 2 (by decide)

/-! ### the walk -/
def pdeA (c l : Int) : Int := c - c % 4096 + l / 4194304 * 4
def pteA (one l : Int) : Int := one - one % 4096 + l / 4096 % 1024 * 4
def fOne (M : Mem) (c l : Int) : Int := M.read (pdeA c l) 4
def fPte (M : Mem) (c l : Int) : Int := pteA (fOne M c l) l
def fTwo (M : Mem) (c l : Int) : Int := M.read (fPte M c l) 4
def fW (M : Mem) (c l : Int) : Bool := hasF (fOne M c l) 2 && hasF (fTwo M c l) 2
def fU (M : Mem) (c l : Int) : Bool := hasF (fOne M c l) 4 && hasF (fTwo M c l) 4
def letsB (w u wr us wp : Bool) : Bool := !(us && !u || wr && !w && (us || wp))
def codeW (wr us : Bool) : Int := flg wr 2 + flg us 4
def fHere (M : Mem) (c l : Int) : Bool := hasF (fOne M c l) 1 && hasF (fTwo M c l) 1
def fOk (M : Mem) (c l : Int) (wr us wp : Bool) : Bool := fHere M c l && letsB (fW M c l) (fU M c l) wr us wp
def fCode (M : Mem) (c l : Int) (wr us wp : Bool) : Int := if fHere M c l = true then (if letsB (fW M c l) (fU M c l) wr us wp = true then -1 else 1 + codeW wr us) else codeW wr us
def walkV (f p q : Int) (w u : Bool) : Value := .agg #[.int .u32 f, .int .u32 p, .int .u32 q, .bool w, .bool u]
def fFr (M : Mem) (c l : Int) : Int := fTwo M c l - fTwo M c l % 4096
def fWalk (M : Mem) (c l : Int) (wr us wp : Bool) : Value := if fOk M c l wr us wp = true then walkV (fFr M c l) (pdeA c l) (fPte M c l) (fW M c l) (fU M c l) else walkV 0 0 0 false false
def markW (n : Int) (wr : Bool) : Int := if wr = true then setF (setF n 32 true) 64 true else setF n 32 true
def markM (M : Mem) (a : Int) (wr : Bool) : Mem := if markW (M.read a 4) wr = M.read a 4 then M else M.lay false a (bytesV (markW (M.read a 4) wr))
def fMem (M : Mem) (c l : Int) (wr us wp : Bool) : Mem := if fOk M c l wr us wp = true then markM (markM M (pdeA c l) false) (fPte M c l) wr else M

/-! ### bounds -/
def RdB (M : Mem) : Prop := ∀ a : Int, 0 ≤ a → a < 4294967296 → 0 ≤ M.rd a ∧ M.rd a < 256

theorem RamAt.rdB {w : World} {B : Nat} {M : Mem} (h : RamAt w B M) : RdB M := fun a a0 a1 => rd_bd h a a0 a1

theorem RdB.put {M : Mem} (h : RdB M) (all : Bool) (a v : Int) (v0 : 0 ≤ v) (v1 : v < 256) : RdB (M.put all a v) := by
  intro x x0 x1
  have hx := h x x0 x1
  unfold Mem.rd at hx ⊢
  rw [put_place, put_n]
  by_cases hlt : M.place x < 4096 * M.n
  · rw [if_pos hlt] at hx ⊢
    unfold Mem.put
    split
    · simp only
      split
      · exact ⟨v0, v1⟩
      · exact hx
    · exact hx
  · rw [if_neg hlt]
    omega

theorem RdB.lay (all : Bool) : ∀ (vs : List Int) (M : Mem) (a : Int), RdB M → (∀ v ∈ vs, 0 ≤ v ∧ v < 256) → RdB (M.lay all a vs)
  | [], M, a, h, _ => h
  | v :: r, M, a, h, hv => RdB.lay all r (M.put all a v) ((a + 1) % 4294967296) (h.put all a v (hv v (by simp)).1 (hv v (by simp)).2) (fun x hx => hv x (by simp [hx]))

theorem bytesV_bd {v : Int} (v0 : 0 ≤ v) (v1 : v < 4294967296) : ∀ x ∈ bytesV v, 0 ≤ x ∧ x < 256 := by
  intro x hx
  simp only [bytesV, List.mem_cons, List.not_mem_nil, or_false] at hx
  rcases hx with rfl | rfl | rfl | rfl <;> omega

theorem RdB.read {M : Mem} (h : RdB M) (x : Int) : 0 ≤ M.read x 4 ∧ M.read x 4 < 4294967296 := by
  have r0 := h ((x + 0) % 4294967296) (by omega) (by omega)
  have r1 := h ((x + 1) % 4294967296) (by omega) (by omega)
  have r2 := h ((x + 2) % 4294967296) (by omega) (by omega)
  have r3 := h ((x + 3) % 4294967296) (by omega) (by omega)
  show 0 ≤ M.rd ((x + 0) % 4294967296) + M.rd ((x + 1) % 4294967296) * 256 + M.rd ((x + 2) % 4294967296) * 65536 + M.rd ((x + 3) % 4294967296) * 16777216 ∧ M.rd ((x + 0) % 4294967296) + M.rd ((x + 1) % 4294967296) * 256 + M.rd ((x + 2) % 4294967296) * 65536 + M.rd ((x + 3) % 4294967296) * 16777216 < 4294967296
  omega

theorem markW_bd {n : Int} (n0 : 0 ≤ n) (n1 : n < 4294967296) (wr : Bool) : 0 ≤ markW n wr ∧ markW n wr < 4294967296 := by
  unfold markW
  have b := set32_bd n0 n1
  split
  · exact set64_bd b.1 b.2
  · exact b

theorem RdB.mark {M : Mem} (h : RdB M) (a : Int) (wr : Bool) : RdB (markM M a wr) := by
  unfold markM
  split
  · exact h
  · have b := h.read a
    have c := markW_bd b.1 b.2 wr
    exact RdB.lay false _ _ _ h (bytesV_bd c.1 c.2)

theorem mark_same (M : Mem) (a : Int) (wr : Bool) : (markM M a wr).n = M.n ∧ (markM M a wr).only = M.only ∧ (markM M a wr).closed = M.closed := by
  unfold markM
  split
  · exact ⟨rfl, rfl, rfl⟩
  · exact lay_same _ _ _ _

theorem fMem_same (M : Mem) (c l : Int) (wr us wp : Bool) : (fMem M c l wr us wp).n = M.n ∧ (fMem M c l wr us wp).only = M.only ∧ (fMem M c l wr us wp).closed = M.closed := by
  unfold fMem
  split
  · have h1 := mark_same M (pdeA c l) false
    have h2 := mark_same (markM M (pdeA c l) false) (fPte M c l) wr
    exact ⟨h2.1.trans h1.1, h2.2.1.trans h1.2.1, h2.2.2.trans h1.2.2⟩
  · exact ⟨rfl, rfl, rfl⟩

theorem pdeA_bd {c l : Int} (c0 : 0 ≤ c) (c1 : c < 4294967296) (l0 : 0 ≤ l) (l1 : l < 4294967296) : 0 ≤ pdeA c l ∧ pdeA c l < 4294967296 := by unfold pdeA; omega
theorem pteA_bd {o l : Int} (c0 : 0 ≤ o) (c1 : o < 4294967296) (l0 : 0 ≤ l) (l1 : l < 4294967296) : 0 ≤ pteA o l ∧ pteA o l < 4294967296 := by unfold pteA; omega
theorem fOne_bd {M : Mem} (h : RdB M) (c l : Int) : 0 ≤ fOne M c l ∧ fOne M c l < 4294967296 := h.read _
theorem fTwo_bd {M : Mem} (h : RdB M) (c l : Int) : 0 ≤ fTwo M c l ∧ fTwo M c l < 4294967296 := h.read _
theorem fPte_bd {M : Mem} (h : RdB M) (c l : Int) (l0 : 0 ≤ l) (l1 : l < 4294967296) : 0 ≤ fPte M c l ∧ fPte M c l < 4294967296 := pteA_bd (fOne_bd h c l).1 (fOne_bd h c l).2 l0 l1

/-- What is written, or not, whatever is asked of the bits. -/
theorem mark_asks {n : Int} (n0 : 0 ≤ n) (n1 : n < 4294967296) (wr : Bool) : (markW n wr = n) ↔ (hasF n 32 = true ∧ (wr = true → hasF n 64 = true)) := by
  have k : ∀ (x k : Int), 0 < k → (setF x k true = x ↔ hasF x k = true) := fun x k hk => by
    unfold setF hasF flg
    by_cases h : x / k % 2 = 1
    · simp [h]
    · simp [h]; omega
  have m : ∀ (x : Int), x ≤ setF x 32 true := fun x => by unfold setF flg; split <;> simp <;> omega
  have m6 : ∀ (x : Int), x ≤ setF x 64 true := fun x => by unfold setF flg; split <;> simp <;> omega
  unfold markW
  cases wr
  · simp [k n 32 (by decide)]
  · simp only [if_true, true_imp_iff]
    constructor
    · intro h
      have h1 := m n
      have h2 := m6 (setF n 32 true)
      have e : setF n 32 true = n := by omega
      rw [e] at h
      exact ⟨(k n 32 (by decide)).1 e, (k n 64 (by decide)).1 h⟩
    · rintro ⟨h1, h2⟩
      rw [(k n 32 (by decide)).2 h1, (k n 64 (by decide)).2 h2]
end Go.Proofs.YtmmnnafjikilpaaGreat

/- Contracts of page's small functions. -/
namespace Go.Proofs.YtmmnnafjikilpaaGreat
open Go.ChangeShapes Go.WideShapes Go.ChangeAt Go.RowKit Go.Maps
set_option linter.unusedVariables false

theorem pgIndex0 (w : World) (l : Int) (l0 : 0 ≤ l) (l1 : l < 4294967296) :
    Calls Tryz.prog 105 #[.int .u32 l, .int .i64 0] w fun e w' => e = .returned (.int .u32 (l / 4194304)) ∧ w' = w := by
  go_enter Tryz.func105, Tryz.ntmps105
  go_wp2
  go_ret
  exact ⟨ret_int (by omega), rfl⟩

theorem pgIndex1 (w : World) (l : Int) (l0 : 0 ≤ l) (l1 : l < 4294967296) :
    Calls Tryz.prog 105 #[.int .u32 l, .int .i64 1] w fun e w' => e = .returned (.int .u32 (l / 4096 % 1024)) ∧ w' = w := by
  go_enter Tryz.func105, Tryz.ntmps105
  go_wp2
  go_ret
  exact ⟨ret_int (by omega), rfl⟩

theorem pgRead_any (w : World) (B : Nat) (M : Mem) (h : RamAt w B M) (x : Int) (x0 : 0 ≤ x) (x1 : x < 4294967296) :
    Calls Tryz.prog 106 #[.pointer (some ⟨B + 3, 0, none⟩), .int .u32 x] w fun e w' => e = .returned (.int .u32 (M.read x 4)) ∧ Kp noB w w' := by
  have cR := read_ok w B M h x 4 x0 x1 rfl
  rw [show (4 : Int).toNat = 4 from rfl] at cR
  obtain ⟨v, hv⟩ : ∃ v, v = M.read x 4 := ⟨_, rfl⟩
  rw [← hv] at cR ⊢
  clear hv
  go_enter Tryz.func106, Tryz.ntmps106
  go_wp2_with fail
  refine cR.mono ?_; rintro e w1 ⟨rfl, k1⟩
  go_wp2
  go_ret
  exact ⟨rfl, k1⟩

theorem pgAsked_any (w : World) (wr us wp : Bool) :
    Calls Tryz.prog 100 #[.agg #[.bool wr, .bool us, .bool wp]] w fun e w' => e = .returned (.int .i64 (codeW wr us)) ∧ Kp noB w w' := by
  cases wr <;> cases us
  all_goals
    go_enter Tryz.func100, Tryz.ntmps100
    go_wp2
    go_ret
    exact ⟨rfl, Kp.alloc _ _ _⟩

theorem pgLets_any (w : World) (f p q : Int) (pw pu wr us wp : Bool) :
    Calls Tryz.prog 102 #[walkV f p q pw pu, .agg #[.bool wr, .bool us, .bool wp]] w fun e w' => e = .returned (.bool (letsB pw pu wr us wp)) ∧ Kp noB w w' := by
  unfold walkV
  go_enter Tryz.func102, Tryz.ntmps102
  go_wp2
  all_goals go_ret
  all_goals refine ⟨ret_bool ?_, by first | exact (Kp.alloc _ _ _).trans (Kp.alloc _ _ _) | exact Kp.alloc _ _ _⟩
  all_goals (cases wr <;> cases us <;> cases wp <;> cases pw <;> cases pu <;> first | rfl | contradiction)

theorem flg_ne (b : Bool) {k : Int} (hk : 0 < k) : (flg b k != 0) = b := by
  have h : ¬ k = 0 := by omega
  cases b <;> simp [flg, h]

/-- Two words and where they lie. -/
def wordsV (p q o t : Int) : Value := .agg #[.int .u32 p, .int .u32 q, .int .u32 o, .int .u32 t]

theorem pgWalk_any (w : World) (p q o t : Int) (o0 : 0 ≤ o) (o1 : o < 4294967296) (t0 : 0 ≤ t) (t1 : t < 4294967296) :
    Calls Tryz.prog 101 #[wordsV p q o t] w fun e w' => e = .returned (walkV (t - t % 4096) p q (hasF o 2 && hasF t 2) (hasF o 4 && hasF t 4)) ∧ Kp noB w w' := by
  have e1 := not4095 t0 t1
  have e2 := and_both2 o0 o1 t0 t1
  have e4 := and_both4 o0 o1 t0 t1
  have n2 := flg_ne (hasF o 2 && hasF t 2) (k := 2) (by decide)
  have n4 := flg_ne (hasF o 4 && hasF t 4) (k := 4) (by decide)
  rw [← e2] at n2
  rw [← e4] at n4
  obtain ⟨u, hu⟩ : ∃ u, u = t - t % 4096 := ⟨_, rfl⟩
  obtain ⟨bw, hbw⟩ : ∃ bw, bw = (hasF o 2 && hasF t 2) := ⟨_, rfl⟩
  obtain ⟨bu, hbu⟩ : ∃ bu, bu = (hasF o 4 && hasF t 4) := ⟨_, rfl⟩
  rw [← hu] at e1 ⊢
  rw [← hbw] at n2 ⊢
  rw [← hbu] at n4 ⊢
  clear hu hbw hbu e2 e4
  unfold wordsV walkV
  go_enter Tryz.func101, Tryz.ntmps101
  go_wp2
  refine bodyPost_ret (v := .agg #[.int .u32 u, .int .u32 p, .int .u32 q, .bool bw, .bool bu]) ?_ rfl ⟨rfl, ?_⟩
  · simp [results, Tryz.results101, go_sem]
  · exact (((Kp.alloc _ _ _).trans (Kp.alloc _ _ _)))
end Go.Proofs.YtmmnnafjikilpaaGreat

/- page.follow: both words are read. -/
namespace Go.Proofs.YtmmnnafjikilpaaGreat
open Go.ChangeShapes Go.WideShapes Go.ChangeAt Go.RowKit Go.Maps
set_option linter.unusedVariables false

theorem Kp.own {w W : World} (h : Kp noB w W) {b i : Nat} (hb : w.heap.size ≤ b) (v : Value) : Kp noB w (W.setCell ⟨b, i, none⟩ v) :=
  h.over (Kp.setCell (S := fun j => j = b) W (p := ⟨b, i, none⟩) rfl v) (fun j hj e => by omega)

/-- A block of four words. -/
def Row4 (W : World) (X : Nat) (a b c d : Int) : Prop := W.heap[X]? = some (.cells #[.int .u32 a, .int .u32 b, .int .u32 c, .int .u32 d] 176 (0, 0))

theorem Row4.c0 {W : World} {X : Nat} {a b c d : Int} (h : Row4 W X a b c d) : W.cell? ⟨X, 0, none⟩ = some (.int .u32 a) := by rw [cell_at h]; rfl
theorem Row4.c1 {W : World} {X : Nat} {a b c d : Int} (h : Row4 W X a b c d) : W.cell? ⟨X, 1, none⟩ = some (.int .u32 b) := by rw [cell_at h]; rfl
theorem Row4.c2 {W : World} {X : Nat} {a b c d : Int} (h : Row4 W X a b c d) : W.cell? ⟨X, 2, none⟩ = some (.int .u32 c) := by rw [cell_at h]; rfl
theorem Row4.c3 {W : World} {X : Nat} {a b c d : Int} (h : Row4 W X a b c d) : W.cell? ⟨X, 3, none⟩ = some (.int .u32 d) := by rw [cell_at h]; rfl
theorem Row4.fz {W : World} {X : Nat} {a b c d : Int} (h : Row4 W X a b c d) (j : Nat) : W.frozen? ⟨X, j, none⟩ = false := frozen_at h
theorem Row4.s0 {W : World} {X : Nat} {a b c d : Int} (h : Row4 W X a b c d) (v : Int) : Row4 (W.setCell ⟨X, 0, none⟩ (.int .u32 v)) X v b c d := heap_setCell_at h _
theorem Row4.s1 {W : World} {X : Nat} {a b c d : Int} (h : Row4 W X a b c d) (v : Int) : Row4 (W.setCell ⟨X, 1, none⟩ (.int .u32 v)) X a v c d := heap_setCell_at h _
theorem Row4.s2 {W : World} {X : Nat} {a b c d : Int} (h : Row4 W X a b c d) (v : Int) : Row4 (W.setCell ⟨X, 2, none⟩ (.int .u32 v)) X a b v d := heap_setCell_at h _
theorem Row4.s3 {W : World} {X : Nat} {a b c d : Int} (h : Row4 W X a b c d) (v : Int) : Row4 (W.setCell ⟨X, 3, none⟩ (.int .u32 v)) X a b c v := heap_setCell_at h _
theorem Row4.lt {W : World} {X : Nat} {a b c d : Int} (h : Row4 W X a b c d) : X < W.heap.size := (Array.getElem?_eq_some_iff.1 h).1
theorem Row4.kp {S : Nat → Prop} {W W' : World} {X : Nat} {a b c d : Int} (h : Row4 W X a b c d) (k : Kp S W W') (hS : ¬ S X) : Row4 W' X a b c d := (k.block X h.lt hS).trans h

theorem Row4.other {W : World} {X Y i : Nat} {a b c d : Int} {v : Value} (h : Row4 W X a b c d) (hne : X ≠ Y) : Row4 (W.setCell ⟨Y, i, none⟩ v) X a b c d := (heap_set_other hne).trans h

def FolPost (w : World) (M : Mem) (c l : Int) (e : Ending) (w' : World) : Prop :=
  e = .returned (.tuple #[if fHere M c l = true then wordsV (pdeA c l) (fPte M c l) (fOne M c l) (fTwo M c l) else wordsV 0 0 0 0, .bool (fHere M c l)]) ∧ Kp noB w w'

set_option maxRecDepth 100000 in
set_option maxHeartbeats 1000000 in
theorem follow_any (w : World) (B : Nat) (M : Mem) (h : RamAt w B M) (c l : Int) (c0 : 0 ≤ c) (c1 : c < 4294967296) (l0 : 0 ≤ l) (l1 : l < 4294967296) :
    Calls Tryz.prog 99 #[.pointer (some ⟨B + 3, 0, none⟩), .int .u32 c, .int .u32 l] w (FolPost w M c l) := by
  have hr := h.rdB
  obtain ⟨o0, o1⟩ := fOne_bd hr c l
  obtain ⟨t0, t1⟩ := fTwo_bd hr c l
  obtain ⟨p0, p1⟩ := pdeA_bd c0 c1 l0 l1
  obtain ⟨q0, q1⟩ := fPte_bd hr c l l0 l1
  have eP : pdeA c l = c - c % 4096 + l / 4194304 * 4 := rfl
  have eQ : fPte M c l = fOne M c l - fOne M c l % 4096 + l / 4096 % 1024 * 4 := rfl
  have HP : Hid (∀ W, RamAt W B M → Calls Tryz.prog 106 #[.pointer (some ⟨B + 3, 0, none⟩), .int .u32 (pdeA c l)] W fun e w' => e = .returned (.int .u32 (fOne M c l)) ∧ Kp noB W w') := fun W hW => pgRead_any W B M hW _ p0 p1
  have HQ : Hid (∀ W, RamAt W B M → Calls Tryz.prog 106 #[.pointer (some ⟨B + 3, 0, none⟩), .int .u32 (fPte M c l)] W fun e w' => e = .returned (.int .u32 (fTwo M c l)) ∧ Kp noB W w') := fun W hW => pgRead_any W B M hW _ q0 q1
  have aO := and1 o0 o1
  have aT := and1 t0 t1
  have nC := not4095 c0 c1
  have nO := not4095 o0 o1
  have hF : fHere M c l = (hasF (fOne M c l) 1 && hasF (fTwo M c l) 1) := rfl
  unfold FolPost
  rw [hF]
  generalize fTwo M c l = t at *
  generalize fOne M c l = o at *
  generalize fPte M c l = q at *
  generalize pdeA c l = p at *
  clear hF hr
  have HI0 : Hid (∀ W, Calls Tryz.prog 105 #[.int .u32 l, .int .i64 0] W fun e w' => e = .returned (.int .u32 (l / 4194304)) ∧ w' = W) := fun W => pgIndex0 W l l0 l1
  have HI1 : Hid (∀ W, Calls Tryz.prog 105 #[.int .u32 l, .int .i64 1] W fun e w' => e = .returned (.int .u32 (l / 4096 % 1024)) ∧ w' = W) := fun W => pgIndex1 W l l0 l1
  have i00 : 0 ≤ l / 4194304 ∧ l / 4194304 < 1024 := by omega
  have i10 : 0 ≤ l / 4096 % 1024 ∧ l / 4096 % 1024 < 1024 := by omega
  have cd : 0 ≤ c - c % 4096 ∧ c - c % 4096 ≤ 4294963200 := by omega
  have od : 0 ≤ o - o % 4096 ∧ o - o % 4096 ≤ 4294963200 := by omega
  generalize l / 4194304 = i0 at *
  generalize l / 4096 % 1024 = i1 at *
  generalize c - c % 4096 = ca at *
  generalize o - o % 4096 = oa at *
  obtain ⟨i00, i01⟩ := i00
  obtain ⟨i10, i11⟩ := i10
  obtain ⟨cd0, cd1⟩ := cd
  obtain ⟨od0, od1⟩ := od
  have eP' : ca + 4 * i0 = p := by omega
  have eQ' : oa + 4 * i1 = q := by omega
  clear eP eQ
  obtain ⟨b0, hb0⟩ : ∃ b, b = hasF o 1 := ⟨_, rfl⟩
  obtain ⟨b1, hb1⟩ : ∃ b, b = hasF t 1 := ⟨_, rfl⟩
  rw [← hb0] at aO ⊢
  rw [← hb1] at aT ⊢
  clear hb0 hb1
  unfold wordsV
  have hlt := h.lt
  obtain ⟨X, hX⟩ : ∃ X, w.heap.size = X := ⟨_, rfl⟩
  have HX : Hid (w.heap.size = X) := hX
  have HA : Hid (∀ y : Int, RamAt ((w.alloc (.cells #[.int .u32 0, .int .u32 0, .int .u32 0, .int .u32 0] 176)).alloc (.cells #[.int .u32 y, .int .u32 0, .int .u32 0, .int .u32 0] 176)) B M) := fun y => (h.alloc _).alloc _
  have HK : Hid (∀ y : Int, Kp noB w ((w.alloc (.cells #[.int .u32 0, .int .u32 0, .int .u32 0, .int .u32 0] 176)).alloc (.cells #[.int .u32 y, .int .u32 0, .int .u32 0, .int .u32 0] 176))) := fun y => (Kp.alloc _ _ _).trans (Kp.alloc _ _ _)
  have HR0 : Hid (∀ y : Int, Row4 ((w.alloc (.cells #[.int .u32 0, .int .u32 0, .int .u32 0, .int .u32 0] 176)).alloc (.cells #[.int .u32 y, .int .u32 0, .int .u32 0, .int .u32 0] 176)) X 0 0 0 0) := fun y => by
    have e0 := (MapKept.heap_alloc w (.cells #[.int .u32 0, .int .u32 0, .int .u32 0, .int .u32 0] 176)).1
    rw [hX] at e0
    exact (Below.heap_alloc _ _ _ (by simp; omega)).trans e0
  have HR1 : Hid (∀ y : Int, Row4 ((w.alloc (.cells #[.int .u32 0, .int .u32 0, .int .u32 0, .int .u32 0] 176)).alloc (.cells #[.int .u32 y, .int .u32 0, .int .u32 0, .int .u32 0] 176)) (X + 1) y 0 0 0) := fun y => by
    have e0 := (MapKept.heap_alloc (w.alloc (.cells #[.int .u32 0, .int .u32 0, .int .u32 0, .int .u32 0] 176)) (.cells #[.int .u32 y, .int .u32 0, .int .u32 0, .int .u32 0] 176)).1
    have e1 : (w.alloc (.cells #[.int .u32 0, .int .u32 0, .int .u32 0, .int .u32 0] 176)).heap.size = X + 1 := by simp [hX]
    rw [e1] at e0
    exact e0
  clear hX hlt
  cases b0
  · have aO' : bits .and .u32 o 1 = 0 := aO
    clear aO
    go_enter Tryz.func99, Tryz.ntmps99
    go_wp2_with fail
    refine wp_loop_rounds 3 ?_
    rw [rounds_succ]
    go_wp2_with fail
    refine (HI0.out _).mono ?_; rintro e w' ⟨rfl, hw⟩; replace hw := hw.symm; subst hw
    go_wp2_with fail
    refine (HP.out _ (HA.out _)).mono ?_; rintro e w1 ⟨rfl, k1⟩
    have r0 := (HR0.out p).kp k1 (fun f => f)
    have r1 := (HR1.out p).kp k1 (fun f => f)
    have k2 := (HK.out p).trans k1
    rw [HX.out]
    have a0 := r0.c0; have a1 := r0.c1; have a2 := r0.c2; have a3 := r0.c3
    have f0 := r0.fz 0; have f1 := r0.fz 1; have f2 := r0.fz 2; have f3 := r0.fz 3
    have d2 := r1.c2; have g2 := r1.fz 2
    have HXX : Hid (X = w.heap.size) := HX.out.symm
    go_wp2
    have z0 := (r0.other (Y := X + 1) (i := 2) (v := .int .u32 o) (by omega)).s0 0
    have z1 := z0.s1 0
    have z2 := z1.s2 0
    have z3 := z2.s3 0
    refine bodyPost_ret (v := .tuple #[.agg #[.int .u32 0, .int .u32 0, .int .u32 0, .int .u32 0], .bool false]) ?_ rfl ⟨rfl, ?_⟩
    · simp [results, Tryz.results99, go_sem, z0.c0, z1.c1, z2.c2, z3.c3]
    · have hx := HX.out
      exact ((((k2.own (by omega) _).own (by omega) _).own (by omega) _).own (by omega) _).own (by omega) _
  · have aO' : bits .and .u32 o 1 = 1 := aO
    clear aO
    go_enter Tryz.func99, Tryz.ntmps99
    go_wp2_with fail
    refine wp_loop_rounds 3 ?_
    rw [rounds_succ]
    go_wp2_with fail
    refine (HI0.out _).mono ?_; rintro e w' ⟨rfl, hw⟩; replace hw := hw.symm; subst hw
    go_wp2_with fail
    refine (HP.out _ (HA.out _)).mono ?_; rintro e w1 ⟨rfl, k1⟩
    have r0 := (HR0.out p).kp k1 (fun f => f)
    have r1 := (HR1.out p).kp k1 (fun f => f)
    have k2 := (HK.out p).trans k1
    rw [HX.out]
    have d2 := r1.c2; have g2 := r1.fz 2
    go_wp2_with fail
    have hx := HX.out
    have k3 : Kp noB w (w1.setCell ⟨X + 1, 2, none⟩ (.int .u32 o)) := k2.own (by omega) _
    replace r0 := r0.other (Y := X + 1) (i := 2) (v := .int .u32 o) (by omega)
    replace r1 := r1.s2 o
    clear hx k1 k2 d2 g2
    obtain ⟨w2, hgen⟩ : ∃ W, W = w1.setCell ⟨X + 1, 2, none⟩ (.int .u32 o) := ⟨_, rfl⟩
    rw [← hgen] at r0 r1 k3 ⊢
    clear hgen
    rw [rounds_succ]
    go_wp2_with fail
    refine (HI1.out _).mono ?_; rintro e w' ⟨rfl, hw⟩; replace hw := hw.symm; subst hw
    have d1 := r1.c1; have g1 := r1.fz 1
    go_wp2_with fail
    have k4 : Kp noB w (w2.setCell ⟨X + 1, 1, none⟩ (.int .u32 q)) := k3.own (by have := HX.out; omega) _
    replace r0 := r0.other (Y := X + 1) (i := 1) (v := .int .u32 q) (by omega)
    replace r1 := r1.s1 q
    clear d1 g1 k3
    obtain ⟨w3, hgen⟩ : ∃ W, W = w2.setCell ⟨X + 1, 1, none⟩ (.int .u32 q) := ⟨_, rfl⟩
    rw [← hgen] at r0 r1 k4 ⊢
    clear hgen
    refine (HQ.out _ (h.kp k4 (fun _ _ f => f))).mono ?_; rintro e w4 ⟨rfl, k5⟩
    replace r0 := r0.kp k5 (fun f => f)
    replace r1 := r1.kp k5 (fun f => f)
    replace k5 := k4.trans k5
    clear k4
    have d3 := r1.c3; have g3 := r1.fz 3
    cases b1
    · have aT' : bits .and .u32 t 1 = 0 := aT
      clear aT
      have a0 := r0.c0; have a1 := r0.c1; have a2 := r0.c2; have a3 := r0.c3
      have f0 := r0.fz 0; have f1 := r0.fz 1; have f2 := r0.fz 2; have f3 := r0.fz 3
      go_wp2
      have z0 := (r0.other (Y := X + 1) (i := 3) (v := .int .u32 t) (by omega)).s0 0
      have z1 := z0.s1 0
      have z2 := z1.s2 0
      have z3 := z2.s3 0
      refine bodyPost_ret (v := .tuple #[.agg #[.int .u32 0, .int .u32 0, .int .u32 0, .int .u32 0], .bool false]) ?_ rfl ⟨rfl, ?_⟩
      · simp [results, Tryz.results99, go_sem, z0.c0, z1.c1, z2.c2, z3.c3]
      · have hx := HX.out
        exact ((((k5.own (by omega) _).own (by omega) _).own (by omega) _).own (by omega) _).own (by omega) _
    · have aT' : bits .and .u32 t 1 = 1 := aT
      clear aT
      go_wp2_with fail
      have k6 : Kp noB w (w4.setCell ⟨X + 1, 3, none⟩ (.int .u32 t)) := k5.own (by have := HX.out; omega) _
      replace r0 := r0.other (Y := X + 1) (i := 3) (v := .int .u32 t) (by omega)
      replace r1 := r1.s3 t
      clear d3 g3 k5
      obtain ⟨w5, hgen⟩ : ∃ W, W = w4.setCell ⟨X + 1, 3, none⟩ (.int .u32 t) := ⟨_, rfl⟩
      rw [← hgen] at r0 r1 k6 ⊢
      clear hgen
      rw [rounds_succ]
      have a0 := r0.c0; have a1 := r0.c1; have a2 := r0.c2; have a3 := r0.c3
      have f0 := r0.fz 0; have f1 := r0.fz 1; have f2 := r0.fz 2; have f3 := r0.fz 3
      have e0 := r1.c0; have e1 := r1.c1; have e2 := r1.c2; have e3 := r1.c3
      go_wp2
      have z0 := r0.s0 p
      have z1 := z0.s1 q
      have z2 := z1.s2 o
      have z3 := z2.s3 t
      refine bodyPost_ret (v := .tuple #[.agg #[.int .u32 p, .int .u32 q, .int .u32 o, .int .u32 t], .bool true]) ?_ rfl ⟨rfl, ?_⟩
      · simp [results, Tryz.results99, go_sem, z0.c0, z1.c1, z2.c2, z3.c3]
      · have hx := HX.out
        exact (((k6.own (by omega) _).own (by omega) _).own (by omega) _).own (by omega) _
end Go.Proofs.YtmmnnafjikilpaaGreat

/- page.words.mark: what a walk leaves in its words. -/
namespace Go.Proofs.YtmmnnafjikilpaaGreat
open Go.ChangeShapes Go.WideShapes Go.ChangeAt Go.RowKit Go.Maps
set_option linter.unusedVariables false

def Row2 (W : World) (X : Nat) (a b : Int) : Prop := W.heap[X]? = some (.cells #[.int .u32 a, .int .u32 b] 174 (0, 0))
theorem Row2.c0 {W : World} {X : Nat} {a b : Int} (h : Row2 W X a b) : W.cell? ⟨X, 0, none⟩ = some (.int .u32 a) := by rw [cell_at h]; rfl
theorem Row2.c1 {W : World} {X : Nat} {a b : Int} (h : Row2 W X a b) : W.cell? ⟨X, 1, none⟩ = some (.int .u32 b) := by rw [cell_at h]; rfl
theorem Row2.lt {W : World} {X : Nat} {a b : Int} (h : Row2 W X a b) : X < W.heap.size := (Array.getElem?_eq_some_iff.1 h).1
theorem Row2.kp {S : Nat → Prop} {W W' : World} {X : Nat} {a b : Int} (h : Row2 W X a b) (k : Kp S W W') (hS : ¬ S X) : Row2 W' X a b := (k.block X h.lt hS).trans h

theorem ask32 {n : Int} (n0 : 0 ≤ n) (n1 : n < 4294967296) : (bits .and .u32 n 32 != 32) = !decide (markW n false = n) := by
  have h := mark_asks n0 n1 false
  rw [and32 n0 n1]
  cases e : hasF n 32
  · have : ¬ markW n false = n := fun f => by have := h.1 f; rw [e] at this; exact Bool.noConfusion this.1
    simp [this, flg]
  · have : markW n false = n := h.2 ⟨e, fun f => by cases f⟩
    simp [this, flg]

theorem ask96 {n : Int} (n0 : 0 ≤ n) (n1 : n < 4294967296) : (bits .and .u32 n 96 != 96) = !decide (markW n true = n) := by
  have h := mark_asks n0 n1 true
  rw [and96 n0 n1]
  cases e : hasF n 32 <;> cases e6 : hasF n 64
  · have : ¬ markW n true = n := fun f => by have := h.1 f; rw [e] at this; exact Bool.noConfusion this.1
    simp [this, flg]
  · have : ¬ markW n true = n := fun f => by have := h.1 f; rw [e] at this; exact Bool.noConfusion this.1
    simp [this, flg]
  · have : ¬ markW n true = n := fun f => by have := (h.1 f).2 rfl; rw [e6] at this; exact Bool.noConfusion this
    simp [this, flg]
  · have : markW n true = n := h.2 ⟨e, fun f => e6⟩
    simp [this, flg]

/-- What one round does: the word n at a, the bits bt; b: it is written. -/
structure OneM (M M' : Mem) (a bt n : Int) (b : Bool) (v : Int) : Prop where
  rd : M.read a 4 = n
  n0 : 0 ≤ n
  n1 : n < 4294967296
  ask : (bits .and .u32 n bt != bt) = b
  or : bits .or .u32 n bt = v
  v0 : 0 ≤ v
  v1 : v < 4294967296
  yes : b = true → M' = M.lay false a (bytesV v)
  no : b = false → M' = M
  nn : M'.n = M.n

def btOf (wr : Bool) : Int := if wr = true then 96 else 32

theorem one_of {M : Mem} (h : RdB M) (a : Int) (wr : Bool) : ∃ n b v, OneM M (markM M a wr) a (btOf wr) n b v := by
  obtain ⟨n0, n1⟩ := h.read a
  have w := markW_bd n0 n1 wr
  refine ⟨M.read a 4, !decide (markW (M.read a 4) wr = M.read a 4), markW (M.read a 4) wr, rfl, n0, n1, ?_, ?_, w.1, w.2, ?_, ?_, (mark_same _ _ _).1⟩
  · cases wr
    · exact ask32 n0 n1
    · exact ask96 n0 n1
  · cases wr
    · exact or32 n0 n1
    · exact or96 n0 n1
  · intro e
    have : ¬ markW (M.read a 4) wr = M.read a 4 := by simpa using e
    unfold markM
    rw [if_neg this]
  · intro e
    have : markW (M.read a 4) wr = M.read a 4 := by simpa using e
    unfold markM
    rw [if_pos this]

theorem one_read {M M' : Mem} {a bt n v : Int} {b : Bool} (h : OneM M M' a bt n b v) {B : Nat} (a0 : 0 ≤ a) (a1 : a < 4294967296) : ∀ W, RamAt W B M → Calls Tryz.prog 106 #[.pointer (some ⟨B + 3, 0, none⟩), .int .u32 a] W fun e w' => e = .returned (.int .u32 n) ∧ Kp noB W w' := fun W hW => by
  have := pgRead_any W B M hW a a0 a1
  rw [h.rd] at this
  exact this

theorem one_write {M M' : Mem} {a bt n v : Int} (h : OneM M M' a bt n true v) {B : Nat} (a0 : 0 ≤ a) (a1 : a < 4294967296) : ∀ W, RamAt W B M → Calls Tryz.prog 15 #[.pointer (some ⟨B + 3, 0, none⟩), .int .u32 a, .int .i64 4, .int .u32 v] W fun e w' => e = .returned (.int .i64 0) ∧ RamAt w' B M' ∧ Kp (inRam B M.n) W w' := fun W hW => by
  have := write_ok W B M hW a 4 v a0 a1 h.v0 h.v1 rfl
  rw [h.yes rfl]
  exact this

theorem Kp.ofDrew2 {S : Nat → Prop} {w w' : World} (h : Kp S (w.drewN 2) w') : Kp S w w' := ⟨h.os, h.tape, h.output, h.size, h.block⟩

set_option maxRecDepth 100000 in
set_option maxHeartbeats 4000000 in
theorem mark_walk (w : World) (B : Nat) (M M1 M2 : Mem) (h : RamAt w B M) (p q o t n1 v1 n2 v2 : Int) (b1 b2 : Bool) (wr : Bool) (p0 : 0 ≤ p) (p1 : p < 4294967296) (q0 : 0 ≤ q) (q1 : q < 4294967296) (h1 : OneM M M1 p 32 n1 b1 v1) (h2 : OneM M1 M2 q (btOf wr) n2 b2 v2) :
    Calls Tryz.prog 103 #[wordsV p q o t, .pointer (some ⟨B + 3, 0, none⟩), .bool wr] w fun e w' => e = .returned (.tuple #[]) ∧ RamAt w' B M2 ∧ Kp (inRam B M.n) w w' := by
  have R1 := one_read (B := B) h1 p0 p1
  have R2 := one_read (B := B) h2 q0 q1
  have HR1 : Hid (∀ W, RamAt W B M → Calls Tryz.prog 106 #[.pointer (some ⟨B + 3, 0, none⟩), .int .u32 p] W fun e w' => e = .returned (.int .u32 n1) ∧ Kp noB W w') := R1
  have HR2 : Hid (∀ W, RamAt W B M1 → Calls Tryz.prog 106 #[.pointer (some ⟨B + 3, 0, none⟩), .int .u32 q] W fun e w' => e = .returned (.int .u32 n2) ∧ Kp noB W w') := R2
  clear R1 R2
  have a1 := h1.ask
  have a2 := h2.ask
  have o1 := h1.or
  have o2 := h2.or
  have m0 := h1.n0; have m1 := h1.n1
  have s0 := h2.n0; have s1 := h2.n1
  have hlt := h.lt
  obtain ⟨X, hX⟩ : ∃ X, w.heap.size = X := ⟨_, rfl⟩
  have HX : Hid (w.heap.size = X) := hX
  have nXX : Hid (¬ inRam B M.n X ∧ ¬ inRam B M.n (X + 1)) := ⟨fun f => by have := f.2; omega, fun f => by have := f.2; omega⟩
  clear hX hlt
  cases wr
  · have e32 : btOf false = 32 := rfl
    rw [e32] at a2 o2
    unfold wordsV
    have k0 : Kp noB w ((w.alloc (.cells #[.int .u32 p, .int .u32 q, .int .u32 o, .int .u32 t] 176)).alloc (.cells #[.int .u32 32, .int .u32 32] 174)) := (Kp.alloc _ _ _).trans (Kp.alloc _ _ _)
    have r0 : Row4 ((w.alloc (.cells #[.int .u32 p, .int .u32 q, .int .u32 o, .int .u32 t] 176)).alloc (.cells #[.int .u32 32, .int .u32 32] 174)) X p q o t := by
      have e0 := (MapKept.heap_alloc w (.cells #[.int .u32 p, .int .u32 q, .int .u32 o, .int .u32 t] 176)).1
      rw [HX.out] at e0
      exact (Below.heap_alloc _ _ _ (by simp; have := HX.out; omega)).trans e0
    have s0' : Row2 ((w.alloc (.cells #[.int .u32 p, .int .u32 q, .int .u32 o, .int .u32 t] 176)).alloc (.cells #[.int .u32 32, .int .u32 32] 174)) (X + 1) 32 32 := by
      have e0 := (MapKept.heap_alloc (w.alloc (.cells #[.int .u32 p, .int .u32 q, .int .u32 o, .int .u32 t] 176)) (.cells #[.int .u32 32, .int .u32 32] 174)).1
      have e1 : (w.alloc (.cells #[.int .u32 p, .int .u32 q, .int .u32 o, .int .u32 t] 176)).heap.size = X + 1 := by simp [HX.out]
      rw [e1] at e0
      exact e0
    have h0 : RamAt ((w.alloc (.cells #[.int .u32 p, .int .u32 q, .int .u32 o, .int .u32 t] 176)).alloc (.cells #[.int .u32 32, .int .u32 32] 174)) B M := (h.alloc _).alloc _
    have eor : bits .or .u32 32 64 = 96 := by decide
    go_enter Tryz.func103, Tryz.ntmps103
    go_wp2_with fail
    refine wp_loop_rounds 3 ?_
    rw [rounds_succ]
    go_wp2_with fail
    refine (HR1.out _ h0).mono ?_; rintro e w1 ⟨rfl, k1⟩
    replace r0 := r0.kp k1 (fun f => f)
    replace s0' := s0'.kp k1 (fun f => f)
    replace h0 := h0.kp k1 (fun _ _ f => f)
    replace k0 := k0.trans k1
    replace k0 : Kp (inRam B M.n) w w1 := kp_no k0
    clear k1
    rw [HX.out]
    cases hb0 : b1
    · rw [hb0] at a1
      have c0 := r0.c0
      have d0 := s0'.c0
      have eM := h1.no hb0
      go_upto_region 8 with fail
      go_region
      all_goals go_wp2_with fail
      all_goals
        replace h0 : RamAt w1.drew B M1 := by rw [eM]; exact h0.drewN 1
        replace r0 : Row4 w1.drew X p q o t := r0
        replace s0' : Row2 w1.drew (X + 1) 32 32 := s0'
        replace k0 := k0.drew
        rw [rounds_succ]
        clear c0 d0
        have c0 := r0.c1
        go_wp2_with fail
        refine (HR2.out _ h0).mono ?_; rintro e w2 ⟨rfl, k1⟩
        replace r0 := r0.kp k1 (fun f => f)
        replace s0' := s0'.kp k1 (fun f => f)
        replace h0 := h0.kp k1 (fun _ _ f => f)
        replace k0 := k0.trans (kp_no k1)
        clear k1 c0
        cases hb1 : b2
        · rw [hb1] at a2
          have c0 := r0.c1
          have d0 := s0'.c1
          have eM := h2.no hb1
          go_upto_region 8 with fail
          go_region
          all_goals go_wp2_with fail
          all_goals
            replace h0 : RamAt w2.drew B M2 := by rw [eM]; exact h0.drewN 1
            replace r0 : Row4 w2.drew X p q o t := r0
            replace s0' : Row2 w2.drew (X + 1) 32 32 := s0'
            replace k0 := k0.drew
            rw [rounds_succ]
            go_wp2
            go_end0
            exact ⟨rfl, h0, k0⟩
        · rw [hb1] at a2
          have c0 := r0.c1
          have d0 := s0'.c1
          rw [hb1] at h2
          have HW2 : Hid (∀ W, _) := one_write (B := B) h2 q0 q1
          go_upto_region 9 with go_region
          go_region_with (go_at_call 15; refine (HW2.out _ (h0.drewN 2)).mono ?_; rintro e w9 ⟨rfl, hr9, k9⟩)
          all_goals go_wp2_with fail
          all_goals
            have nX : ¬ inRam B M.n X ∧ ¬ inRam B M.n (X + 1) := nXX.out
            rw [h1.nn] at k9
            replace r0 := Row4.kp (W' := w9) r0 k9.ofDrew2 nX.1
            replace s0' := Row2.kp (W' := w9) s0' k9.ofDrew2 nX.2
            replace k0 := k0.trans k9.ofDrew2
            replace h0 := hr9
            rw [rounds_succ]
            go_wp2
            go_end0
            exact ⟨rfl, h0, k0⟩
    · rw [hb0] at a1
      have c0 := r0.c0
      have d0 := s0'.c0
      rw [hb0] at h1
      have HW1 : Hid (∀ W, _) := one_write (B := B) h1 p0 p1
      go_upto_region 9 with go_region
      go_region_with (go_at_call 15; refine (HW1.out _ (h0.drewN 2)).mono ?_; rintro e w9 ⟨rfl, hr9, k9⟩)
      all_goals go_wp2_with fail
      all_goals
        have nX : ¬ inRam B M.n X ∧ ¬ inRam B M.n (X + 1) := nXX.out
        replace r0 := Row4.kp (W' := w9) r0 k9.ofDrew2 nX.1
        replace s0' := Row2.kp (W' := w9) s0' k9.ofDrew2 nX.2
        replace k0 := k0.trans k9.ofDrew2
        replace h0 := hr9
        rw [rounds_succ]
        clear c0 d0
        have c0 := r0.c1
        go_wp2_with fail
        refine (HR2.out _ h0).mono ?_; rintro e w2 ⟨rfl, k1⟩
        replace r0 := r0.kp k1 (fun f => f)
        replace s0' := s0'.kp k1 (fun f => f)
        replace h0 := h0.kp k1 (fun _ _ f => f)
        replace k0 := k0.trans (kp_no k1)
        clear k1 c0
        cases hb1 : b2
        · rw [hb1] at a2
          have c0 := r0.c1
          have d0 := s0'.c1
          have eM := h2.no hb1
          go_upto_region 8 with fail
          go_region
          all_goals go_wp2_with fail
          all_goals
            replace h0 : RamAt w2.drew B M2 := by rw [eM]; exact h0.drewN 1
            replace r0 : Row4 w2.drew X p q o t := r0
            replace s0' : Row2 w2.drew (X + 1) 32 32 := s0'
            replace k0 := k0.drew
            rw [rounds_succ]
            go_wp2
            go_end0
            exact ⟨rfl, h0, k0⟩
        · rw [hb1] at a2
          have c0 := r0.c1
          have d0 := s0'.c1
          rw [hb1] at h2
          have HW2 : Hid (∀ W, _) := one_write (B := B) h2 q0 q1
          go_upto_region 9 with go_region
          go_region_with (go_at_call 15; refine (HW2.out _ (h0.drewN 2)).mono ?_; rintro e w9 ⟨rfl, hr9, k9⟩)
          all_goals go_wp2_with fail
          all_goals
            have nX : ¬ inRam B M.n X ∧ ¬ inRam B M.n (X + 1) := nXX.out
            rw [h1.nn] at k9
            replace r0 := Row4.kp (W' := w9) r0 k9.ofDrew2 nX.1
            replace s0' := Row2.kp (W' := w9) s0' k9.ofDrew2 nX.2
            replace k0 := k0.trans k9.ofDrew2
            replace h0 := hr9
            rw [rounds_succ]
            go_wp2
            go_end0
            exact ⟨rfl, h0, k0⟩
  · have e32 : btOf true = 96 := rfl
    rw [e32] at a2 o2
    unfold wordsV
    have k0 : Kp noB w ((w.alloc (.cells #[.int .u32 p, .int .u32 q, .int .u32 o, .int .u32 t] 176)).alloc (.cells #[.int .u32 32, .int .u32 96] 174)) := (Kp.alloc _ _ _).trans (Kp.alloc _ _ _)
    have r0 : Row4 ((w.alloc (.cells #[.int .u32 p, .int .u32 q, .int .u32 o, .int .u32 t] 176)).alloc (.cells #[.int .u32 32, .int .u32 96] 174)) X p q o t := by
      have e0 := (MapKept.heap_alloc w (.cells #[.int .u32 p, .int .u32 q, .int .u32 o, .int .u32 t] 176)).1
      rw [HX.out] at e0
      exact (Below.heap_alloc _ _ _ (by simp; have := HX.out; omega)).trans e0
    have s0' : Row2 ((w.alloc (.cells #[.int .u32 p, .int .u32 q, .int .u32 o, .int .u32 t] 176)).alloc (.cells #[.int .u32 32, .int .u32 96] 174)) (X + 1) 32 96 := by
      have e0 := (MapKept.heap_alloc (w.alloc (.cells #[.int .u32 p, .int .u32 q, .int .u32 o, .int .u32 t] 176)) (.cells #[.int .u32 32, .int .u32 96] 174)).1
      have e1 : (w.alloc (.cells #[.int .u32 p, .int .u32 q, .int .u32 o, .int .u32 t] 176)).heap.size = X + 1 := by simp [HX.out]
      rw [e1] at e0
      exact e0
    have h0 : RamAt ((w.alloc (.cells #[.int .u32 p, .int .u32 q, .int .u32 o, .int .u32 t] 176)).alloc (.cells #[.int .u32 32, .int .u32 96] 174)) B M := (h.alloc _).alloc _
    have eor : bits .or .u32 32 64 = 96 := by decide
    go_enter Tryz.func103, Tryz.ntmps103
    go_wp2_with fail
    refine wp_loop_rounds 3 ?_
    rw [rounds_succ]
    go_wp2_with fail
    refine (HR1.out _ h0).mono ?_; rintro e w1 ⟨rfl, k1⟩
    replace r0 := r0.kp k1 (fun f => f)
    replace s0' := s0'.kp k1 (fun f => f)
    replace h0 := h0.kp k1 (fun _ _ f => f)
    replace k0 := k0.trans k1
    replace k0 : Kp (inRam B M.n) w w1 := kp_no k0
    clear k1
    rw [HX.out]
    cases hb0 : b1
    · rw [hb0] at a1
      have c0 := r0.c0
      have d0 := s0'.c0
      have eM := h1.no hb0
      go_upto_region 8 with fail
      go_region
      all_goals go_wp2_with fail
      all_goals
        replace h0 : RamAt w1.drew B M1 := by rw [eM]; exact h0.drewN 1
        replace r0 : Row4 w1.drew X p q o t := r0
        replace s0' : Row2 w1.drew (X + 1) 32 96 := s0'
        replace k0 := k0.drew
        rw [rounds_succ]
        clear c0 d0
        have c0 := r0.c1
        go_wp2_with fail
        refine (HR2.out _ h0).mono ?_; rintro e w2 ⟨rfl, k1⟩
        replace r0 := r0.kp k1 (fun f => f)
        replace s0' := s0'.kp k1 (fun f => f)
        replace h0 := h0.kp k1 (fun _ _ f => f)
        replace k0 := k0.trans (kp_no k1)
        clear k1 c0
        cases hb1 : b2
        · rw [hb1] at a2
          have c0 := r0.c1
          have d0 := s0'.c1
          have eM := h2.no hb1
          go_upto_region 8 with fail
          go_region
          all_goals go_wp2_with fail
          all_goals
            replace h0 : RamAt w2.drew B M2 := by rw [eM]; exact h0.drewN 1
            replace r0 : Row4 w2.drew X p q o t := r0
            replace s0' : Row2 w2.drew (X + 1) 32 96 := s0'
            replace k0 := k0.drew
            rw [rounds_succ]
            go_wp2
            go_end0
            exact ⟨rfl, h0, k0⟩
        · rw [hb1] at a2
          have c0 := r0.c1
          have d0 := s0'.c1
          rw [hb1] at h2
          have HW2 : Hid (∀ W, _) := one_write (B := B) h2 q0 q1
          go_upto_region 9 with go_region
          go_region_with (go_at_call 15; refine (HW2.out _ (h0.drewN 2)).mono ?_; rintro e w9 ⟨rfl, hr9, k9⟩)
          all_goals go_wp2_with fail
          all_goals
            have nX : ¬ inRam B M.n X ∧ ¬ inRam B M.n (X + 1) := nXX.out
            rw [h1.nn] at k9
            replace r0 := Row4.kp (W' := w9) r0 k9.ofDrew2 nX.1
            replace s0' := Row2.kp (W' := w9) s0' k9.ofDrew2 nX.2
            replace k0 := k0.trans k9.ofDrew2
            replace h0 := hr9
            rw [rounds_succ]
            go_wp2
            go_end0
            exact ⟨rfl, h0, k0⟩
    · rw [hb0] at a1
      have c0 := r0.c0
      have d0 := s0'.c0
      rw [hb0] at h1
      have HW1 : Hid (∀ W, _) := one_write (B := B) h1 p0 p1
      go_upto_region 9 with go_region
      go_region_with (go_at_call 15; refine (HW1.out _ (h0.drewN 2)).mono ?_; rintro e w9 ⟨rfl, hr9, k9⟩)
      all_goals go_wp2_with fail
      all_goals
        have nX : ¬ inRam B M.n X ∧ ¬ inRam B M.n (X + 1) := nXX.out
        replace r0 := Row4.kp (W' := w9) r0 k9.ofDrew2 nX.1
        replace s0' := Row2.kp (W' := w9) s0' k9.ofDrew2 nX.2
        replace k0 := k0.trans k9.ofDrew2
        replace h0 := hr9
        rw [rounds_succ]
        clear c0 d0
        have c0 := r0.c1
        go_wp2_with fail
        refine (HR2.out _ h0).mono ?_; rintro e w2 ⟨rfl, k1⟩
        replace r0 := r0.kp k1 (fun f => f)
        replace s0' := s0'.kp k1 (fun f => f)
        replace h0 := h0.kp k1 (fun _ _ f => f)
        replace k0 := k0.trans (kp_no k1)
        clear k1 c0
        cases hb1 : b2
        · rw [hb1] at a2
          have c0 := r0.c1
          have d0 := s0'.c1
          have eM := h2.no hb1
          go_upto_region 8 with fail
          go_region
          all_goals go_wp2_with fail
          all_goals
            replace h0 : RamAt w2.drew B M2 := by rw [eM]; exact h0.drewN 1
            replace r0 : Row4 w2.drew X p q o t := r0
            replace s0' : Row2 w2.drew (X + 1) 32 96 := s0'
            replace k0 := k0.drew
            rw [rounds_succ]
            go_wp2
            go_end0
            exact ⟨rfl, h0, k0⟩
        · rw [hb1] at a2
          have c0 := r0.c1
          have d0 := s0'.c1
          rw [hb1] at h2
          have HW2 : Hid (∀ W, _) := one_write (B := B) h2 q0 q1
          go_upto_region 9 with go_region
          go_region_with (go_at_call 15; refine (HW2.out _ (h0.drewN 2)).mono ?_; rintro e w9 ⟨rfl, hr9, k9⟩)
          all_goals go_wp2_with fail
          all_goals
            have nX : ¬ inRam B M.n X ∧ ¬ inRam B M.n (X + 1) := nXX.out
            rw [h1.nn] at k9
            replace r0 := Row4.kp (W' := w9) r0 k9.ofDrew2 nX.1
            replace s0' := Row2.kp (W' := w9) s0' k9.ofDrew2 nX.2
            replace k0 := k0.trans k9.ofDrew2
            replace h0 := hr9
            rw [rounds_succ]
            go_wp2
            go_end0
            exact ⟨rfl, h0, k0⟩

theorem mark_any (w : World) (B : Nat) (M : Mem) (h : RamAt w B M) (p q o t : Int) (wr : Bool) (p0 : 0 ≤ p) (p1 : p < 4294967296) (q0 : 0 ≤ q) (q1 : q < 4294967296) :
    Calls Tryz.prog 103 #[wordsV p q o t, .pointer (some ⟨B + 3, 0, none⟩), .bool wr] w fun e w' => e = .returned (.tuple #[]) ∧ RamAt w' B (markM (markM M p false) q wr) ∧ Kp (inRam B M.n) w w' := by
  have hr := h.rdB
  obtain ⟨n1, b1, v1, h1⟩ := one_of hr p false
  obtain ⟨n2, b2, v2, h2⟩ := one_of (hr.mark p false) q wr
  exact mark_walk w B M _ _ h p q o t n1 v1 n2 v2 b1 b2 wr p0 p1 q0 q1 h1 h2
end Go.Proofs.YtmmnnafjikilpaaGreat

/- page.Find: a walk through two tables, whole. -/
namespace Go.Proofs.YtmmnnafjikilpaaGreat
open Go.ChangeShapes Go.WideShapes Go.ChangeAt Go.RowKit Go.Maps
set_option linter.unusedVariables false

def wayV (wr us wp : Bool) : Value := .agg #[.bool wr, .bool us, .bool wp]

def RowB (W : World) (X : Nat) (a b c : Bool) : Prop := W.heap[X]? = some (.cells #[.bool a, .bool b, .bool c] 132 (0, 0))
theorem RowB.c0 {W : World} {X : Nat} {a b c : Bool} (h : RowB W X a b c) : W.cell? ⟨X, 0, none⟩ = some (.bool a) := by rw [cell_at h]; rfl
theorem RowB.c1 {W : World} {X : Nat} {a b c : Bool} (h : RowB W X a b c) : W.cell? ⟨X, 1, none⟩ = some (.bool b) := by rw [cell_at h]; rfl
theorem RowB.c2 {W : World} {X : Nat} {a b c : Bool} (h : RowB W X a b c) : W.cell? ⟨X, 2, none⟩ = some (.bool c) := by rw [cell_at h]; rfl
theorem RowB.lt {W : World} {X : Nat} {a b c : Bool} (h : RowB W X a b c) : X < W.heap.size := (Array.getElem?_eq_some_iff.1 h).1
theorem RowB.kp {S : Nat → Prop} {W W' : World} {X : Nat} {a b c : Bool} (h : RowB W X a b c) (k : Kp S W W') (hS : ¬ S X) : RowB W' X a b c := (k.block X h.lt hS).trans h

def RowK (W : World) (X : Nat) (f p q : Int) (a b : Bool) : Prop := W.heap[X]? = some (.cells #[.int .u32 f, .int .u32 p, .int .u32 q, .bool a, .bool b] 145 (0, 0))
theorem RowK.c0 {W : World} {X : Nat} {f p q : Int} {a b : Bool} (h : RowK W X f p q a b) : W.cell? ⟨X, 0, none⟩ = some (.int .u32 f) := by rw [cell_at h]; rfl
theorem RowK.c1 {W : World} {X : Nat} {f p q : Int} {a b : Bool} (h : RowK W X f p q a b) : W.cell? ⟨X, 1, none⟩ = some (.int .u32 p) := by rw [cell_at h]; rfl
theorem RowK.c2 {W : World} {X : Nat} {f p q : Int} {a b : Bool} (h : RowK W X f p q a b) : W.cell? ⟨X, 2, none⟩ = some (.int .u32 q) := by rw [cell_at h]; rfl
theorem RowK.c3 {W : World} {X : Nat} {f p q : Int} {a b : Bool} (h : RowK W X f p q a b) : W.cell? ⟨X, 3, none⟩ = some (.bool a) := by rw [cell_at h]; rfl
theorem RowK.c4 {W : World} {X : Nat} {f p q : Int} {a b : Bool} (h : RowK W X f p q a b) : W.cell? ⟨X, 4, none⟩ = some (.bool b) := by rw [cell_at h]; rfl
theorem RowK.fz {W : World} {X : Nat} {f p q : Int} {a b : Bool} (h : RowK W X f p q a b) (j : Nat) : W.frozen? ⟨X, j, none⟩ = false := frozen_at h
theorem RowK.lt {W : World} {X : Nat} {f p q : Int} {a b : Bool} (h : RowK W X f p q a b) : X < W.heap.size := (Array.getElem?_eq_some_iff.1 h).1
theorem RowK.kp {S : Nat → Prop} {W W' : World} {X : Nat} {f p q : Int} {a b : Bool} (h : RowK W X f p q a b) (k : Kp S W W') (hS : ¬ S X) : RowK W' X f p q a b := (k.block X h.lt hS).trans h
theorem RowK.s0 {W : World} {X : Nat} {f p q : Int} {a b : Bool} (h : RowK W X f p q a b) (v : Int) : RowK (W.setCell ⟨X, 0, none⟩ (.int .u32 v)) X v p q a b := heap_setCell_at h _
theorem RowK.s1 {W : World} {X : Nat} {f p q : Int} {a b : Bool} (h : RowK W X f p q a b) (v : Int) : RowK (W.setCell ⟨X, 1, none⟩ (.int .u32 v)) X f v q a b := heap_setCell_at h _
theorem RowK.s2 {W : World} {X : Nat} {f p q : Int} {a b : Bool} (h : RowK W X f p q a b) (v : Int) : RowK (W.setCell ⟨X, 2, none⟩ (.int .u32 v)) X f p v a b := heap_setCell_at h _
theorem RowK.s3 {W : World} {X : Nat} {f p q : Int} {a b : Bool} (h : RowK W X f p q a b) (v : Bool) : RowK (W.setCell ⟨X, 3, none⟩ (.bool v)) X f p q v b := heap_setCell_at h _
theorem RowK.s4 {W : World} {X : Nat} {f p q : Int} {a b : Bool} (h : RowK W X f p q a b) (v : Bool) : RowK (W.setCell ⟨X, 4, none⟩ (.bool v)) X f p q a v := heap_setCell_at h _

theorem Kp.own' {S : Nat → Prop} {w W : World} (h : Kp S w W) {b i : Nat} (hb : w.heap.size ≤ b) (v : Value) : Kp S w (W.setCell ⟨b, i, none⟩ v) :=
  h.over (Kp.setCell (S := fun j => j = b) W (p := ⟨b, i, none⟩) rfl v) (fun j hj e => by omega)
theorem Kp.five {S : Nat → Prop} {w W : World} (h : Kp S w W) {b : Nat} (hb : w.heap.size ≤ b) (v0 v1 v2 v3 v4 : Value) : Kp S w (((((W.setCell ⟨b, 0, none⟩ v0).setCell ⟨b, 1, none⟩ v1).setCell ⟨b, 2, none⟩ v2).setCell ⟨b, 3, none⟩ v3).setCell ⟨b, 4, none⟩ v4) :=
  ((((h.own' hb _).own' hb _).own' hb _).own' hb _).own' hb _

theorem Kp.five_in (W : World) (b : Nat) (v0 v1 v2 v3 v4 : Value) : Kp (fun j => j = b) W (((((W.setCell ⟨b, 0, none⟩ v0).setCell ⟨b, 1, none⟩ v1).setCell ⟨b, 2, none⟩ v2).setCell ⟨b, 3, none⟩ v3).setCell ⟨b, 4, none⟩ v4) :=
  ((((Kp.setCell (S := fun j => j = b) W (p := ⟨b, 0, none⟩) rfl v0).trans (Kp.setCell (S := fun j => j = b) _ (p := ⟨b, 1, none⟩) rfl v1)).trans (Kp.setCell (S := fun j => j = b) _ (p := ⟨b, 2, none⟩) rfl v2)).trans (Kp.setCell (S := fun j => j = b) _ (p := ⟨b, 3, none⟩) rfl v3)).trans (Kp.setCell (S := fun j => j = b) _ (p := ⟨b, 4, none⟩) rfl v4)

def FdPost (w : World) (B : Nat) (M : Mem) (c l : Int) (wr us wp : Bool) (e : Ending) (w' : World) : Prop :=
  e = .returned (.tuple #[fWalk M c l wr us wp, .int .i64 (fCode M c l wr us wp), .int .i64 0]) ∧ RamAt w' B (fMem M c l wr us wp) ∧ Kp (inRam B M.n) w w'

theorem codeW_bd (wr us : Bool) : 0 ≤ codeW wr us ∧ codeW wr us ≤ 6 := by cases wr <;> cases us <;> decide

set_option maxRecDepth 100000 in
set_option maxHeartbeats 4000000 in
theorem find_ok (w : World) (B : Nat) (M : Mem) (h : RamAt w B M) (c l : Int) (wr us wp : Bool) (c0 : 0 ≤ c) (c1 : c < 4294967296) (l0 : 0 ≤ l) (l1 : l < 4294967296) :
    Calls Tryz.prog 97 #[.pointer (some ⟨B + 3, 0, none⟩), .int .u32 c, .int .u32 l, wayV wr us wp] w (FdPost w B M c l wr us wp) := by
  have hr := h.rdB
  obtain ⟨o0, o1⟩ := fOne_bd hr c l
  obtain ⟨t0, t1⟩ := fTwo_bd hr c l
  obtain ⟨p0, p1⟩ := pdeA_bd c0 c1 l0 l1
  obtain ⟨q0, q1⟩ := fPte_bd hr c l l0 l1
  have hlt := h.lt
  have HF : Hid (∀ W, RamAt W B M → Calls Tryz.prog 99 #[.pointer (some ⟨B + 3, 0, none⟩), .int .u32 c, .int .u32 l] W (FolPost W M c l)) := fun W hW => follow_any W B M hW c l c0 c1 l0 l1
  have HAs : Hid (∀ W, Calls Tryz.prog 100 #[wayV wr us wp] W fun e w' => e = .returned (.int .i64 (codeW wr us)) ∧ Kp noB W w') := fun W => pgAsked_any W wr us wp
  have HWk : Hid (∀ W, Calls Tryz.prog 101 #[wordsV (pdeA c l) (fPte M c l) (fOne M c l) (fTwo M c l)] W fun e w' => e = .returned (walkV (fFr M c l) (pdeA c l) (fPte M c l) (fW M c l) (fU M c l)) ∧ Kp noB W w') := fun W => pgWalk_any W _ _ _ _ o0 o1 t0 t1
  have HLt : Hid (∀ W, Calls Tryz.prog 102 #[walkV (fFr M c l) (pdeA c l) (fPte M c l) (fW M c l) (fU M c l), wayV wr us wp] W fun e w' => e = .returned (.bool (letsB (fW M c l) (fU M c l) wr us wp)) ∧ Kp noB W w') := fun W => pgLets_any W _ _ _ _ _ wr us wp
  have HMk : Hid (∀ W, RamAt W B M → Calls Tryz.prog 103 #[wordsV (pdeA c l) (fPte M c l) (fOne M c l) (fTwo M c l), .pointer (some ⟨B + 3, 0, none⟩), .bool wr] W fun e w' => e = .returned (.tuple #[]) ∧ RamAt w' B (markM (markM M (pdeA c l) false) (fPte M c l) wr) ∧ Kp (inRam B M.n) W w') := fun W hW => mark_any W B M hW _ _ _ _ wr p0 p1 q0 q1
  have hn2 : Hid ((markM (markM M (pdeA c l) false) (fPte M c l) wr).n = M.n) := (mark_same _ _ _).1.trans (mark_same _ _ _).1
  unfold FdPost fWalk fCode fMem fOk
  unfold FolPost at HF
  obtain ⟨lt, hle⟩ : ∃ b, b = letsB (fW M c l) (fU M c l) wr us wp := ⟨_, rfl⟩
  obtain ⟨hh, hhe⟩ : ∃ b, b = fHere M c l := ⟨_, rfl⟩
  rw [← hle] at HLt
  rw [← hle, ← hhe]
  rw [← hhe] at HF
  clear hle hhe hr o0 o1 t0 t1
  generalize markM (markM M (pdeA c l) false) (fPte M c l) wr = M2 at *
  generalize fFr M c l = fr at *
  generalize fW M c l = bw at *
  generalize fU M c l = bu at *
  generalize fOne M c l = o at *
  generalize fTwo M c l = t at *
  generalize fPte M c l = q at *
  generalize pdeA c l = p at *
  obtain ⟨cw0, cw1⟩ := codeW_bd wr us
  generalize codeW wr us = cw at *
  unfold wayV wordsV walkV at *
  obtain ⟨X, hX⟩ : ∃ X, w.heap.size = X := ⟨_, rfl⟩
  have HX : Hid (w.heap.size = X) := hX
  have k0 : Kp noB w ((w.alloc (.cells #[.bool wr, .bool us, .bool wp] 132)).alloc (.cells #[.int .u32 0, .int .u32 0, .int .u32 0, .bool false, .bool false] 145)) := (Kp.alloc _ _ _).trans (Kp.alloc _ _ _)
  have rB : RowB ((w.alloc (.cells #[.bool wr, .bool us, .bool wp] 132)).alloc (.cells #[.int .u32 0, .int .u32 0, .int .u32 0, .bool false, .bool false] 145)) X wr us wp := by
    have e0 := (MapKept.heap_alloc w (.cells #[.bool wr, .bool us, .bool wp] 132)).1
    rw [hX] at e0
    exact (Below.heap_alloc _ _ _ (by simp; omega)).trans e0
  have rK : RowK ((w.alloc (.cells #[.bool wr, .bool us, .bool wp] 132)).alloc (.cells #[.int .u32 0, .int .u32 0, .int .u32 0, .bool false, .bool false] 145)) (X + 1) 0 0 0 false false := by
    have e0 := (MapKept.heap_alloc (w.alloc (.cells #[.bool wr, .bool us, .bool wp] 132)) (.cells #[.int .u32 0, .int .u32 0, .int .u32 0, .bool false, .bool false] 145)).1
    have e1 : (w.alloc (.cells #[.bool wr, .bool us, .bool wp] 132)).heap.size = X + 1 := by simp [hX]
    rw [e1] at e0
    exact e0
  have h0 : RamAt ((w.alloc (.cells #[.bool wr, .bool us, .bool wp] 132)).alloc (.cells #[.int .u32 0, .int .u32 0, .int .u32 0, .bool false, .bool false] 145)) B M := (h.alloc _).alloc _
  have nX : Hid (∀ j, X ≤ j → ¬ inRam B M.n j) := fun j hj f => by have := f.2; omega
  clear hX hlt h
  cases hh
  · go_enter Tryz.func97, Tryz.ntmps97
    go_wp2_with fail
    refine (HF.out _ h0).mono ?_; rintro e w1 ⟨rfl, k1⟩
    replace rB := rB.kp k1 (fun f => f)
    replace rK := rK.kp k1 (fun f => f)
    replace h0 := h0.kp k1 (fun _ _ f => f)
    replace k0 := k0.trans k1
    clear k1
    rw [HX.out]
    have ra := fun O => rB.kp (Kp.alloc noB w1 O) (fun f => f)
    have b0 := fun O => (ra O).c0
    have b1 := fun O => (ra O).c1
    have b2 := fun O => (ra O).c2
    clear ra
    go_wp2_with fail
    refine (HAs.out _).mono ?_; rintro e w2 ⟨rfl, k2⟩
    replace k2 := (Kp.alloc noB w1 _).trans k2
    replace rK := rK.kp k2 (fun f => f)
    replace h0 := h0.kp k2 (fun _ _ f => f)
    replace k0 := k0.trans k2
    clear k2 b0 b1 b2 rB
    have d0 := rK.c0; have d1 := rK.c1; have d2 := rK.c2; have d3 := rK.c3; have d4 := rK.c4
    have f0 := rK.fz 0; have f1 := rK.fz 1; have f2 := rK.fz 2; have f3 := rK.fz 3; have f4 := rK.fz 4
    go_wp2
    have z0 := rK.s0 0
    have z1 := z0.s1 0
    have z2 := z1.s2 0
    have z3 := z2.s3 false
    have z4 := z3.s4 false
    refine bodyPost_ret (v := .tuple #[.agg #[.int .u32 0, .int .u32 0, .int .u32 0, .bool false, .bool false], .int .i64 cw, .int .i64 0]) ?_ rfl ⟨rfl, ?_, ?_⟩
    · simp [results, Tryz.results97, go_sem, z0.c0, z1.c1, z2.c2, z3.c3, z4.c4]
    · exact h0.kp (Kp.five_in _ (X + 1) _ _ _ _ _) (fun j hj e => nX.out j (by omega) hj)
    · exact kp_no (k0.five (by have := HX.out; omega) _ _ _ _ _)
  · go_enter Tryz.func97, Tryz.ntmps97
    go_wp2_with fail
    refine (HF.out _ h0).mono ?_; rintro e w1 ⟨rfl, k1⟩
    replace rB := rB.kp k1 (fun f => f)
    replace rK := rK.kp k1 (fun f => f)
    replace h0 := h0.kp k1 (fun _ _ f => f)
    replace k0 := k0.trans k1
    clear k1
    rw [HX.out]
    go_wp2_with fail
    refine (HWk.out _).mono ?_; rintro e w2 ⟨rfl, k2⟩
    have hY : w.heap.size ≤ w1.heap.size := k0.size
    have r4 : Row4 (w1.alloc (.cells #[.int .u32 p, .int .u32 q, .int .u32 o, .int .u32 t] 176)) w1.heap.size p q o t := (MapKept.heap_alloc w1 _).1
    replace r4 := r4.kp k2 (fun f => f)
    obtain ⟨Y, hYe⟩ : ∃ Y, Y = w1.heap.size := ⟨_, rfl⟩
    rw [← hYe] at r4 hY ⊢
    have nY : ¬ inRam B M.n Y := nX.out Y (by have := HX.out; omega)
    replace k2 := (Kp.alloc noB w1 _).trans k2
    replace rB := rB.kp k2 (fun f => f)
    replace rK := rK.kp k2 (fun f => f)
    replace h0 := h0.kp k2 (fun _ _ f => f)
    replace k0 := k0.trans k2
    clear k2 hYe hY
    have ra := fun O => rB.kp (Kp.alloc noB w2 O) (fun f => f)
    have b0 := fun O => (ra O).c0
    have b1 := fun O => (ra O).c1
    have b2 := fun O => (ra O).c2
    clear ra
    go_wp2_with fail
    refine (HLt.out _).mono ?_; rintro e w3 ⟨rfl, k3⟩
    have rZ : RowK (w2.alloc (.cells #[.int .u32 fr, .int .u32 p, .int .u32 q, .bool bw, .bool bu] 145)) w2.heap.size fr p q bw bu := (MapKept.heap_alloc w2 _).1
    replace rZ := rZ.kp k3 (fun f => f)
    have hZ : w.heap.size ≤ w2.heap.size := k0.size
    have hZX : X + 1 < w2.heap.size := rK.lt
    obtain ⟨Z, hZe⟩ : ∃ Z, Z = w2.heap.size := ⟨_, rfl⟩
    rw [← hZe] at rZ hZ hZX ⊢
    have nZ : ¬ inRam B M.n Z := nX.out Z (by have := HX.out; omega)
    replace k3 := (Kp.alloc noB w2 _).trans k3
    replace r4 := r4.kp k3 (fun f => f)
    replace rB := rB.kp k3 (fun f => f)
    replace rK := rK.kp k3 (fun f => f)
    replace h0 := h0.kp k3 (fun _ _ f => f)
    replace k0 := k0.trans k3
    clear k3 b0 b1 b2 hZe hZ
    have b0 := rB.c0; have b1 := rB.c1; have b2 := rB.c2
    cases lt
    · go_wp2_with fail
      refine (HAs.out _).mono ?_; rintro e w4 ⟨rfl, k4⟩
      replace rK := rK.kp k4 (fun f => f)
      replace h0 := h0.kp k4 (fun _ _ f => f)
      replace k0 := k0.trans k4
      clear k4 b0 b1 b2 rB r4 rZ
      have d0 := rK.c0; have d1 := rK.c1; have d2 := rK.c2; have d3 := rK.c3; have d4 := rK.c4
      have f0 := rK.fz 0; have f1 := rK.fz 1; have f2 := rK.fz 2; have f3 := rK.fz 3; have f4 := rK.fz 4
      go_wp2
      have z0 := rK.s0 0
      have z1 := z0.s1 0
      have z2 := z1.s2 0
      have z3 := z2.s3 false
      have z4 := z3.s4 false
      refine bodyPost_ret (v := .tuple #[.agg #[.int .u32 0, .int .u32 0, .int .u32 0, .bool false, .bool false], .int .i64 (1 + cw), .int .i64 0]) ?_ rfl ⟨rfl, ?_, ?_⟩
      · simp [results, Tryz.results97, go_sem, z0.c0, z1.c1, z2.c2, z3.c3, z4.c4]
      · exact h0.kp (Kp.five_in _ (X + 1) _ _ _ _ _) (fun j hj e => nX.out j (by omega) hj)
      · exact kp_no (k0.five (by have := HX.out; omega) _ _ _ _ _)
    · have a0 := r4.c0; have a1 := r4.c1; have a2 := r4.c2; have a3 := r4.c3
      go_wp2_with fail
      refine (HMk.out _ h0).mono ?_; rintro e w4 ⟨rfl, h4, k4⟩
      replace rK := rK.kp k4 (nX.out _ (by omega))
      replace rZ := rZ.kp k4 nZ
      replace k0 := (kp_no (S := inRam B M.n) k0).trans k4
      clear k4 b0 b1 b2 rB r4 h0 a0 a1 a2 a3
      have d0 := rK.c0; have d1 := rK.c1; have d2 := rK.c2; have d3 := rK.c3; have d4 := rK.c4
      have f0 := rK.fz 0; have f1 := rK.fz 1; have f2 := rK.fz 2; have f3 := rK.fz 3; have f4 := rK.fz 4
      have g0 := rZ.c0; have g1 := rZ.c1; have g2 := rZ.c2; have g3 := rZ.c3; have g4 := rZ.c4
      go_wp2
      have z0 := rK.s0 fr
      have z1 := z0.s1 p
      have z2 := z1.s2 q
      have z3 := z2.s3 bw
      have z4 := z3.s4 bu
      refine bodyPost_ret (v := .tuple #[.agg #[.int .u32 fr, .int .u32 p, .int .u32 q, .bool bw, .bool bu], .int .i64 (-1), .int .i64 0]) ?_ rfl ⟨rfl, ?_, ?_⟩
      · simp [results, Tryz.results97, go_sem, z0.c0, z1.c1, z2.c2, z3.c3, z4.c4]
      · exact h4.kp (Kp.five_in _ (X + 1) _ _ _ _ _) (fun j hj e => nX.out j (by omega) (by rw [hn2.out] at hj; exact hj))
      · exact k0.five (by have := HX.out; omega) _ _ _ _ _
end Go.Proofs.YtmmnnafjikilpaaGreat

/- Plain facts behind PageMoves: what a walk finds hangs on no lowest bit; what it leaves keeps the words' addresses. -/
namespace Go.Proofs.YtmmnnafjikilpaaGreat
open Go.ChangeShapes Go.WideShapes Go.ChangeAt Go.RowKit Go.Maps
set_option linter.unusedVariables false

theorem closed_place {M : Mem} (hc : M.closed = false) (a : Int) : M.place a = a := by
  unfold Mem.place
  rw [hc, if_neg (fun f => by cases f.1)]

theorem lay4_rd {M : Mem} (hc : M.closed = false) {a v : Int} (a0 : 0 ≤ a) (a1 : a < 4294967296) (ha : a % 4 = 0) (x : Int) (x0 : 0 ≤ x) (x1 : x < 4294967296) :
    (M.lay false a (bytesV v)).rd x = if (a ≤ x ∧ x < a + 4) ∧ a < 4096 * M.n ∧ M.only (a / 4096).toNat = false then (bytesV v).getD (x - a).toNat 0 else M.rd x := by
  have hp := closed_place hc a
  have hl : (bytesV v).length = 4 := rfl
  have e := lay_page false (bytesV v) M a (by simp [bytesV]) a0 a1 (by rw [hp, hl]; omega) (by rw [hp]; exact a0)
  rw [hp, hl] at e
  have hn : (M.lay false a (bytesV v)).n = M.n := (lay_same _ _ _ _).1
  have hpx : (M.lay false a (bytesV v)).place x = x := closed_place ((lay_same _ _ _ _).2.2.trans hc) x
  have hpm := closed_place hc x
  unfold Mem.rd
  rw [hn, hpx, hpm]
  by_cases hw : a < 4096 * M.n ∧ M.only (a / 4096).toNat = false
  · rw [if_pos ⟨hw.1, Or.inr hw.2⟩] at e
    rw [e]
    by_cases hx : a ≤ x ∧ x < a + 4
    · rw [if_pos (by omega), if_pos ⟨hx, hw⟩]
      simp only
      rw [if_pos (by omega)]
      congr 1
      omega
    · have hN : ¬ ((a ≤ x ∧ x < a + 4) ∧ a < 4096 * M.n ∧ M.only (a / 4096).toNat = false) := fun f => hx f.1
      rw [if_neg hN]
      split
      · simp only
        rw [if_neg (by omega)]
      · rfl
  · rw [if_neg (fun f => hw ⟨f.1, f.2.resolve_left (by decide)⟩)] at e
    have hN : ¬ ((a ≤ x ∧ x < a + 4) ∧ a < 4096 * M.n ∧ M.only (a / 4096).toNat = false) := fun f => hw f.2
    rw [e, if_neg hN]

theorem read4 (M : Mem) (x : Int) : M.read x 4 = M.rd ((x + 0) % 4294967296) + M.rd ((x + 1) % 4294967296) * 256 + M.rd ((x + 2) % 4294967296) * 65536 + M.rd ((x + 3) % 4294967296) * 16777216 := rfl

theorem lay4_read {M : Mem} (hc : M.closed = false) {a b v : Int} (a0 : 0 ≤ a) (a1 : a < 4294967296) (ha : a % 4 = 0) (b0 : 0 ≤ b) (b1 : b < 4294967296) (hb : b % 4 = 0) (v0 : 0 ≤ v) (v1 : v < 4294967296) :
    (M.lay false a (bytesV v)).read b 4 = if a = b ∧ a < 4096 * M.n ∧ M.only (a / 4096).toNat = false then v else M.read b 4 := by
  have e0 : (b + 0) % 4294967296 = b := by omega
  have e1 : (b + 1) % 4294967296 = b + 1 := by omega
  have e2 : (b + 2) % 4294967296 = b + 2 := by omega
  have e3 : (b + 3) % 4294967296 = b + 3 := by omega
  rw [read4, read4, e0, e1, e2, e3, lay4_rd hc a0 a1 ha b b0 b1, lay4_rd hc a0 a1 ha (b + 1) (by omega) (by omega), lay4_rd hc a0 a1 ha (b + 2) (by omega) (by omega), lay4_rd hc a0 a1 ha (b + 3) (by omega) (by omega)]
  by_cases h : a = b ∧ a < 4096 * M.n ∧ M.only (a / 4096).toNat = false
  · obtain ⟨rfl, hw⟩ := h
    rw [if_pos ⟨by omega, hw⟩, if_pos ⟨by omega, hw⟩, if_pos ⟨by omega, hw⟩, if_pos ⟨by omega, hw⟩, if_pos ⟨rfl, hw⟩]
    have t0 : (a - a).toNat = 0 := by omega
    have t1 : (a + 1 - a).toNat = 1 := by omega
    have t2 : (a + 2 - a).toNat = 2 := by omega
    have t3 : (a + 3 - a).toNat = 3 := by omega
    rw [t0, t1, t2, t3]
    show v % 256 + v / 256 % 256 * 256 + v / 65536 % 256 * 65536 + v / 16777216 * 16777216 = v
    omega
  · rw [if_neg h]
    by_cases hw : a < 4096 * M.n ∧ M.only (a / 4096).toNat = false
    · have hne : a ≠ b := fun f => h ⟨f, hw⟩
      rw [if_neg (fun f => by have := f.1; omega), if_neg (fun f => by have := f.1; omega), if_neg (fun f => by have := f.1; omega), if_neg (fun f => by have := f.1; omega)]
    · rw [if_neg (fun f => hw f.2), if_neg (fun f => hw f.2), if_neg (fun f => hw f.2), if_neg (fun f => hw f.2)]

theorem set_high {n k : Int} (n0 : 0 ≤ n) (hk : k = 32 ∨ k = 64) : setF n k true - setF n k true % 4096 = n - n % 4096 := by
  unfold setF flg
  rw [if_pos rfl]
  rcases hk with rfl | rfl
  · split <;> omega
  · split <;> omega

theorem markW_high {n : Int} (n0 : 0 ≤ n) (n1 : n < 4294967296) (wr : Bool) : markW n wr - markW n wr % 4096 = n - n % 4096 := by
  unfold markW
  split
  · rw [set_high (set32_bd n0 n1).1 (Or.inr rfl), set_high n0 (Or.inl rfl)]
  · exact set_high n0 (Or.inl rfl)

/-- The words stand where the address says. -/
theorem stands {M : Mem} (h : RdB M) {c l : Int} (c0 : 0 ≤ c) (c1 : c < 4294967296) (l0 : 0 ≤ l) (l1 : l < 4294967296) :
    fFr M c l % 4096 = 0 ∧ fPte M c l % 4096 / 4 = l / 4096 % 1024 ∧ pdeA c l % 4096 / 4 = l / 4194304 := by
  have o := fOne_bd h c l
  refine ⟨?_, ?_, ?_⟩
  · unfold fFr; omega
  · unfold fPte pteA; omega
  · unfold pdeA; omega
end Go.Proofs.YtmmnnafjikilpaaGreat
