/- Plain facts for IdeTells and IdeBack: calls of known registers. -/
import Derived.Test.YtlgbbgodffkimaaIdW
import Derived.Test.YtlgbbgodffkimaaIdFacts
namespace Go.Proofs.Ytlgbbgodffkimaa
open Go.RowKit
set_option linter.unusedVariables false

theorem o_of {d : Id} {reg size v : Int} (h : ck reg size = 0) : d.o reg size v = d.out reg size.toNat v := by unfold Id.o; rw [if_pos h]
theorem i_of {d : Id} {reg size : Int} (h : ck reg size = 0) : d.i reg size = d.inn reg size.toNat := by unfold Id.i; rw [if_pos h]
theorem iV_of {d : Id} {reg size : Int} (h : ck reg size = 0) : d.iV reg size = d.inV reg size.toNat := by unfold Id.iV; rw [if_pos h]

theorem sector_o (d : Id) (k p : Int) : ((((((d.o 6 1 64).o 5 1 0).o 4 1 0).o 3 1 p).o 2 1 1).o 7 1 k) = d.sector k p := by
  rw [o_of (by decide), o_of (by decide), o_of (by decide), o_of (by decide), o_of (by decide), o_of (by decide)]
  rfl

theorem i01 {d : Id} (h : d.off = false) : d.i 0 1 = d.get ∧ d.iV 0 1 = d.getV := by
  rw [i_of (by decide), iV_of (by decide)]
  unfold Id.inn Id.inV
  rw [if_neg (by rw [h]; decide), if_pos rfl, if_neg (by rintro ⟨a, _⟩; rw [a] at h; cases h), if_pos rfl]
  refine ⟨rfl, ?_⟩
  show 0 + d.getV * 2 ^ (8 * 0) = d.getV
  omega

theorem i02 {d : Id} (h : d.off = false) : d.i 0 2 = d.get.get ∧ d.iV 0 2 = d.getV + d.get.getV * 256 := by
  rw [i_of (by decide), iV_of (by decide)]
  unfold Id.inn Id.inV
  rw [if_neg (by rw [h]; decide), if_pos rfl, if_neg (by rintro ⟨a, _⟩; rw [a] at h; cases h), if_pos rfl]
  refine ⟨rfl, ?_⟩
  show 0 + d.getV * 2 ^ (8 * 0) + d.get.getV * 2 ^ (8 * 1) = d.getV + d.get.getV * 256
  omega

theorem i71 {d : Id} (h : d.off = false) : d.i 7 1 = { d with mark := false } ∧ d.iV 7 1 = d.status := by
  rw [i_of (by decide), iV_of (by decide)]
  unfold Id.inn Id.inV
  rw [if_neg (by rw [h]; decide), if_neg (by decide), if_pos rfl, if_neg (by rintro ⟨a, _⟩; rw [a] at h; cases h)]
  exact ⟨rfl, rfl⟩

theorem i11 {d : Id} (h : d.off = false) : d.i 1 1 = d ∧ d.iV 1 1 = d.r1 := by
  rw [i_of (by decide), iV_of (by decide)]
  unfold Id.inn Id.inV
  rw [if_neg (by rw [h]; decide), if_neg (by decide), if_neg (by decide), if_neg (by rintro ⟨a, _⟩; rw [a] at h; cases h)]
  exact ⟨rfl, rfl⟩

theorem o0s {d : Id} (h : d.off = false) {s : Int} (hs : s = 2 ∨ s = 4) (v : Int) : d.o 0 s v = d.puts v s.toNat := by
  have hc : ck 0 s = 0 := by unfold ck; rw [if_neg (by omega), if_neg (by omega)]
  rw [o_of hc]
  unfold Id.out
  rw [if_pos rfl, if_neg (by rw [h]; decide)]

/-- What EC tells, read by words. -/
def eE (d : Id) (i : Nat) : Id := if i < 256 then rS d (2 * i) else { rS d 0 with mode := 0 }

theorem eE_step (d : Id) (hm : d.mode = 3) (i : Nat) (hi : i < 256) : (eE d i).get.get = eE d (i + 1) ∧ (eE d i).getV = d.buf (2 * i) ∧ (eE d i).get.getV = d.buf (2 * i + 1) := by
  have e : eE d i = rS d (2 * i) := by unfold eE; rw [if_pos hi]
  rw [e]
  have h1 := rS_get d (.inr hm) (2 * i) (by omega)
  rw [h1.1]
  by_cases q : i + 1 < 256
  · have h2 := rS_get d (.inr hm) (2 * i + 1) (by omega)
    refine ⟨?_, h1.2, h2.2⟩
    rw [h2.1]
    unfold eE
    rw [if_pos q]
    rfl
  · have e2 : i = 255 := by omega
    subst e2
    have h2 := rS_ec d hm
    refine ⟨?_, h1.2, h2.2⟩
    rw [show 2 * 255 + 1 = 511 from rfl, h2.1]
    unfold eE
    rw [if_neg (by decide)]

theorem eE_off (d : Id) (i : Nat) : (eE d i).off = d.off := by unfold eE; split <;> rfl
theorem eE_work (d : Id) (hl : d.log = []) (hm : d.mode = 3) (i : Nat) : (eE d i).work = 0 := by
  unfold eE
  split
  · show 512 * d.log.length + (if d.mode = 2 then 2 * i else 0) = 0
    rw [hl, hm]
    rfl
  · show 512 * d.log.length + (if (0 : Int) = 2 then 0 else 0) = 0
    rw [hl]
    rfl
theorem eE_0 (d : Id) (h : d.don = 0) : eE d 0 = d := by
  unfold eE
  rw [if_pos (by decide)]
  obtain ⟨n, D, r1, r2, r3, r4, r5, r6, c, buf, don, mode, mark, failed, log⟩ := d
  simp only at h
  subst h
  rfl

/-- Byte i of the whole disk is read next. -/
def tT (d : Id) (i : Nat) : Id := if i < 512 * d.n then tS d (i / 512) (i % 512) else { tS d d.n 0 with mode := 0, buf := fun j => d.D ((d.n - 1) * 512 + j) }

theorem tT_step (d : Id) (hn : d.n ≤ 64) (i : Nat) (hi : i < 512 * d.n) : (tT d i).get = tT d (i + 1) ∧ (tT d i).getV = d.D i := by
  have e : tT d i = tS d (i / 512) (i % 512) := by unfold tT; rw [if_pos hi]
  rw [e]
  by_cases q : i % 512 + 1 < 512
  · have h1 := tS_get d (i / 512) (i % 512) q
    rw [h1.1, h1.2]
    refine ⟨?_, ?_⟩
    · unfold tT
      rw [if_pos (by omega), show (i + 1) / 512 = i / 512 by omega, show (i + 1) % 512 = i % 512 + 1 by omega]
    · rw [show i / 512 * 512 + i % 512 = i by omega]
  · have e5 : i % 512 = 511 := by omega
    rw [e5, tS_last d (i / 512) hn (by omega), tS_lastV]
    refine ⟨?_, ?_⟩
    · unfold tT
      by_cases g : i / 512 + 1 < d.n
      · rw [if_pos g, if_pos (by omega), show (i + 1) / 512 = i / 512 + 1 by omega, show (i + 1) % 512 = 0 by omega]
      · rw [if_neg g, if_neg (by omega), show i / 512 + 1 = d.n by omega, show i / 512 = d.n - 1 by omega]
    · rw [show i / 512 * 512 + 511 = i by omega]

theorem tT_off (d : Id) (i : Nat) : (tT d i).off = false := by unfold tT; split <;> rfl
theorem tT_end (d : Id) (hf : d.failed = false) : (tT d (512 * d.n)).status = 80 ∧ (tT d (512 * d.n)).getV = 255 := by
  have e : tT d (512 * d.n) = { tS d d.n 0 with mode := 0, buf := fun j => d.D ((d.n - 1) * 512 + j) } := by unfold tT; rw [if_neg (by omega)]
  rw [e]
  refine ⟨?_, rfl⟩
  show 80 + (if (0 : Int) = 0 then 0 else 8) + (if d.failed = true then 1 else 0) = (80 : Int)
  rw [hf]
  rfl
theorem tT_work (d : Id) (hl : d.log = []) (i : Nat) : (tT d i).work = 0 := by
  unfold tT
  split
  · show 512 * d.log.length + (if (1 : Int) = 2 then i % 512 else 0) = 0
    rw [hl]
    rfl
  · show 512 * d.log.length + (if (0 : Int) = 2 then 0 else 0) = 0
    rw [hl]
    rfl
end Go.Proofs.Ytlgbbgodffkimaa
