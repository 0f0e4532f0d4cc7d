/- Plain facts for IdeBack. -/
import Derived.Test.YtlgbbgodffkimaaIdTl
namespace Go.Proofs.Ytlgbbgodffkimaa
open Go.RowKit
set_option linter.unusedVariables false

/-- The number of k bytes from the i-th on. -/
def vS (bt : Nat → Int) (i : Nat) : Nat → Int
  | 0 => 0
  | k + 1 => vS bt i k + bt (i + k) * 2 ^ (8 * k)

theorem vS_1 (bt : Nat → Int) (i : Nat) : vS bt i 1 = bt i := by
  show 0 + bt (i + 0) * 2 ^ (8 * 0) = _
  rw [Nat.add_zero]
  omega
theorem vS_2 (bt : Nat → Int) (i : Nat) : vS bt i 2 = bt i + bt (i + 1) * 256 := by
  show vS bt i 1 + bt (i + 1) * 2 ^ (8 * 1) = _
  rw [vS_1]
  omega
theorem vS_3 (bt : Nat → Int) (i : Nat) : vS bt i 3 = bt i + bt (i + 1) * 256 + bt (i + 2) * 65536 := by
  show vS bt i 2 + bt (i + 2) * 2 ^ (8 * 2) = _
  rw [vS_2]
  omega
theorem vS_4 (bt : Nat → Int) (i : Nat) : vS bt i 4 = bt i + bt (i + 1) * 256 + bt (i + 2) * 65536 + bt (i + 3) * 16777216 := by
  show vS bt i 3 + bt (i + 3) * 2 ^ (8 * 3) = _
  rw [vS_3]
  omega

theorem vS_byte {bt : Nat → Int} (hb : ∀ j, byt (bt j)) (i : Nat) {s : Nat} (hs : s = 2 ∨ s = 4) : (0 ≤ vS bt i s ∧ vS bt i s < 4294967296) ∧ ∀ j, j < s → vS bt i s / 2 ^ (8 * j) % 256 = bt (i + j) := by
  obtain ⟨a0, a1⟩ := hb i
  obtain ⟨b0, b1⟩ := hb (i + 1)
  obtain ⟨c0, c1⟩ := hb (i + 2)
  obtain ⟨e0, e1⟩ := hb (i + 3)
  rcases hs with rfl | rfl
  · rw [vS_2]
    refine ⟨by omega, fun j hj => ?_⟩
    rcases (by omega : j = 0 ∨ j = 1) with rfl | rfl
    · show (_ : Int) / 1 % 256 = bt i
      rw [Int.ediv_one]
      omega
    · show (_ : Int) / 256 % 256 = _
      omega
  · rw [vS_4]
    refine ⟨by omega, fun j hj => ?_⟩
    rcases (by omega : j = 0 ∨ j = 1 ∨ j = 2 ∨ j = 3) with rfl | rfl | rfl | rfl
    · show (_ : Int) / 1 % 256 = bt i
      rw [Int.ediv_one]
      omega
    · show (_ : Int) / 256 % 256 = _
      omega
    · show (_ : Int) / 65536 % 256 = _
      omega
    · show (_ : Int) / 16777216 % 256 = _
      omega

theorem vS_bd {bt : Nat → Int} (hb : ∀ j, byt (bt j)) (i : Nat) : ∀ k : Nat, 0 ≤ vS bt i k ∧ vS bt i k < 2 ^ (8 * k)
  | 0 => ⟨Int.le_refl _, by show (0 : Int) < 1; decide⟩
  | k + 1 => by
    have h := vS_bd hb i k
    obtain ⟨b0, b1⟩ := hb (i + k)
    have e : (2 : Int) ^ (8 * (k + 1)) = 256 * 2 ^ (8 * k) := by
      rw [show 8 * (k + 1) = 8 * k + 8 by omega, Int.pow_add]
      omega
    rw [e]
    show 0 ≤ vS bt i k + bt (i + k) * 2 ^ (8 * k) ∧ vS bt i k + bt (i + k) * 2 ^ (8 * k) < 256 * 2 ^ (8 * k)
    have hp : (0 : Int) < 2 ^ (8 * k) := by omega
    generalize (2 : Int) ^ (8 * k) = P at *
    have h1 : 0 ≤ bt (i + k) * P := Int.mul_nonneg b0 (by omega)
    have h2 : bt (i + k) * P ≤ 255 * P := Int.mul_le_mul_of_nonneg_right (by omega) (by omega)
    omega

/-- The row with x bytes of a sector turned. -/
def rwF (p : Nat) (bt f : Nat → Int) (x : Nat) : Nat → Int := fun j => if p * 512 ≤ j ∧ j < p * 512 + x then bt (j - p * 512) else f j

theorem rwF_0 (p : Nat) (bt f : Nat → Int) : rwF p bt f 0 = f := by
  funext j
  unfold rwF
  rw [if_neg (by omega)]

theorem rwF_set (p : Nat) (bt f : Nat → Int) (x : Nat) : setB (rwF p bt f x) (p * 512 + x) (bt x) = rwF p bt f (x + 1) := by
  funext j
  unfold setB rwF
  by_cases a : j = p * 512 + x
  · subst a
    rw [if_pos rfl, if_pos (by omega), show p * 512 + x - p * 512 = x by omega]
  · rw [if_neg a]
    by_cases b : p * 512 ≤ j ∧ j < p * 512 + x
    · rw [if_pos b, if_pos (by omega)]
    · rw [if_neg b, if_neg (by omega)]

/-- The disk, a sector of it to be written. -/
def dW (n : Nat) (D : Nat → Int) (p : Nat) : Id := { ((id0 n D).set p).clear with mode := 2, don := 0 }

theorem dW_cmd {n p : Nat} (hn : n < 5) (hp : p < n) (D : Nat → Int) : (id0 n D).sector 48 p = dW n D p := by
  rw [sector_is]
  exact cmd_write _ (by omega) (by omega) (by show (p : Int) + 1 ≤ (n : Int); omega)

theorem dW_there {n p : Nat} (hn : n < 5) (hp : p < n) (D : Nat → Int) : (dW n D p).there = true := by
  have := (set_there (d := id0 n D) (p := p) (by omega) (by omega)).2.1
  show ((id0 n D).set p).there = true
  rw [this, decide_eq_true_eq]
  show (p : Int) + 1 ≤ (n : Int)
  omega

theorem wT_step {n p : Nat} (hn : n < 5) (hp : p < n) (D : Nat → Int) {bt : Nat → Int} (hb : ∀ j, byt (bt j)) {i s : Nat} (hs : s = 2 ∨ s = 4) (hi : i + s ≤ 512) : (wT (dW n D p) bt i).o 0 s (vS bt i s) = wT (dW n D p) bt (i + s) := by
  have ho : (wT (dW n D p) bt i).off = false := by rw [wT_r6 _ _ _ (by omega)]; rfl
  rw [o0s ho (by omega), Int.toNat_natCast]
  exact wT_puts (dW n D p) bt rfl (dW_there hn hp D) (vS bt i s) i s hi (vS_byte hb i hs).2 s (Nat.le_refl _)

theorem wT_work {n p : Nat} (D : Nat → Int) (bt : Nat → Int) {i : Nat} (hi : i < 512) : (wT (dW n D p) bt i).work < 1000000 := by
  unfold wT
  rw [if_pos hi]
  show 512 * 0 + (if (2 : Int) = 2 then i else 0) < 1000000
  rw [if_pos rfl]
  omega

theorem wT_end {n p : Nat} (hn : n < 5) (hp : p < n) (D : Nat → Int) (bt : Nat → Int) :
    (wT (dW n D p) bt 512).n = n ∧ (wT (dW n D p) bt 512).log = [(p : Int)] ∧ (wT (dW n D p) bt 512).mode = 0 ∧ (wT (dW n D p) bt 512).failed = false ∧ (wT (dW n D p) bt 512).D = rwF p bt D 512 := by
  have e : wT (dW n D p) bt 512 = wF (dW n D p) bt := by unfold wT; rw [if_neg (by decide)]
  rw [e]
  have h := wF_is (id0 n D) bt (p := p) (by omega) (by omega)
  obtain ⟨h1, h2, h3, h4, h5, h6⟩ := h
  refine ⟨h1, h2, h3, h4, h6.trans ?_⟩
  funext i
  rw [Int.toNat_natCast]
  rfl

/-- A sector is being read, i bytes of it are. -/
def dR (x : Id) (p : Nat) : Id := { (x.set p).clear with mode := 1, don := 0, buf := fun i => x.D (p * 512 + i), mark := true }

theorem dR_cmd (x : Id) {p : Nat} (hx : x.n < 5) (hp : p < x.n) : x.sector 32 p = dR x p := by
  rw [sector_is]
  have := cmd_read x (p := p) (by omega) (by omega) (by omega)
  rw [Int.toNat_natCast] at this
  exact this

/-- i bytes of the one sector were read. -/
def rT (x : Id) (p i : Nat) : Id := if i < 512 then rS (dR x p) i else (rS (dR x p) 0).one

theorem rT_step (x : Id) (p i : Nat) (hi : i < 512) : (rT x p i).get = rT x p (i + 1) ∧ (rT x p i).getV = x.D (p * 512 + i) := by
  have e : rT x p i = rS (dR x p) i := by unfold rT; rw [if_pos hi]
  rw [e]
  by_cases q : i + 1 < 512
  · have h := rS_get (dR x p) (.inl rfl) i q
    refine ⟨?_, h.2⟩
    rw [h.1]
    unfold rT
    rw [if_pos q]
  · have e2 : i = 511 := by omega
    subst e2
    have h := rS_last (dR x p) rfl
    refine ⟨?_, h.2⟩
    rw [h.1]
    unfold rT
    rw [if_neg (by decide)]

theorem rT_off (x : Id) (p i : Nat) (hi : i < 512) : (rT x p i).off = false := by unfold rT; rw [if_pos hi]; rfl

theorem rT_one (x : Id) (p : Nat) : rT x p 512 = { (rS (dR x p) 0).next with mode := 0 } := by
  unfold rT
  rw [if_neg (by decide)]
  unfold Id.one
  rw [if_pos (show (rS (dR x p) 0).next.r2 = 0 from rfl)]

theorem rT_end (x : Id) {p : Nat} (hp : p < 4) : (rT x p 512).off = false ∧ (rT x p 512).status = 80 := by
  rw [rT_one]
  refine ⟨?_, rfl⟩
  have hpl : (rS (dR x p) 0).place = p := (set_there (d := x) (p := p) (by omega) (by omega)).1
  unfold Id.off
  show (((64 : Int) - 64 % 16 + ((rS (dR x p) 0).place + 1) / 16777216 % 16) / 16 % 2 == 1) = false
  rw [hpl]
  have : ((p : Int) + 1) / 16777216 % 16 = 0 := by omega
  rw [this]
  rfl
end Go.Proofs.Ytlgbbgodffkimaa
