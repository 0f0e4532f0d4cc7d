/- The disk: plain facts for the statements without the document's answer. -/
import Derived.Test.YtddalplpmgmplaaIdMath
namespace Go.Proofs.Ytddalplpmgmplaa
open Go.RowKit
set_option linter.unusedVariables false

/-- The disk and the list of what was written are as they were; nothing is being written. -/
structure Quiet (d d' : Id) : Prop where
  n : d'.n = d.n
  D : d'.D = d.D
  log : d'.log = d.log
  mode : d'.mode ≠ 2

theorem Quiet.trans {a b c : Id} (h : Quiet a b) (k : Quiet b c) : Quiet a c := ⟨k.n.trans h.n, k.D.trans h.D, k.log.trans h.log, k.mode⟩

theorem two0 : (0 : Int) ≠ 2 := by decide

theorem quiet_begin (d : Id) {m : Int} (hm : m ≠ 2) : Quiet d (d.begin m) := by
  unfold Id.begin
  split
  · split
    · exact ⟨rfl, rfl, rfl, hm⟩
    · exact ⟨rfl, rfl, rfl, hm⟩
  · exact ⟨rfl, rfl, rfl, two0⟩

theorem quiet_command (d : Id) (hd : d.mode ≠ 2) {k : Int} (h1 : k ≠ 48) (h2 : k ≠ 49) : Quiet d (d.command k) := by
  have hc : Quiet d d.clear := ⟨rfl, rfl, rfl, two0⟩
  unfold Id.command
  split
  · exact ⟨rfl, rfl, rfl, hd⟩
  · split
    · rename_i hk
      split
      · rw [if_pos (by omega)]
        exact hc.trans (quiet_begin _ (by decide))
      · exact ⟨rfl, rfl, rfl, two0⟩
    · split
      · exact ⟨rfl, rfl, rfl, by show (3 : Int) ≠ 2; decide⟩
      · split
        · exact ⟨rfl, rfl, rfl, two0⟩
        · exact ⟨rfl, rfl, rfl, two0⟩

theorem quiet_puts (d : Id) (hd : d.mode ≠ 2) (v : Int) : ∀ k, d.puts v k = d
  | 0 => rfl
  | k + 1 => by
    show (d.puts v k).put _ = d
    rw [quiet_puts d hd v k]
    unfold Id.put
    rw [if_neg hd]

theorem quiet_get (d : Id) (hd : d.mode ≠ 2) : Quiet d d.get := by
  unfold Id.get
  split
  · split
    · exact ⟨rfl, rfl, rfl, hd⟩
    · split
      · exact ⟨rfl, rfl, rfl, two0⟩
      · unfold Id.one
        split
        · exact ⟨rfl, rfl, rfl, two0⟩
        · exact (⟨rfl, rfl, rfl, hd⟩ : Quiet d ({ d with don := 0 } : Id).next).trans (quiet_begin _ hd)
  · exact ⟨rfl, rfl, rfl, hd⟩

theorem quiet_gets (d : Id) (hd : d.mode ≠ 2) : ∀ k, Quiet d (d.gets k)
  | 0 => ⟨rfl, rfl, rfl, hd⟩
  | k + 1 => (quiet_gets d hd k).trans (quiet_get _ (quiet_gets d hd k).mode)

theorem quiet_out (d : Id) (hd : d.mode ≠ 2) (reg : Int) (size : Nat) (v : Int) (h : reg ≠ 7 ∨ (v % 256 ≠ 48 ∧ v % 256 ≠ 49)) : Quiet d (d.out reg size v) := by
  have hs : Quiet d d := ⟨rfl, rfl, rfl, hd⟩
  unfold Id.out
  split
  · split
    · exact hs
    · rw [quiet_puts d hd]; exact hs
  · split
    · exact hs
    · split
      · exact ⟨rfl, rfl, rfl, hd⟩
      · split
        · exact ⟨rfl, rfl, rfl, hd⟩
        · split
          · exact ⟨rfl, rfl, rfl, hd⟩
          · split
            · exact ⟨rfl, rfl, rfl, hd⟩
            · split
              · exact ⟨rfl, rfl, rfl, hd⟩
              · split
                · rename_i h7
                  have := h.resolve_left (fun g => g h7)
                  exact quiet_command d hd this.1 this.2
                · unfold Id.ctl
                  split
                  · exact ⟨rfl, rfl, rfl, two0⟩
                  · exact ⟨rfl, rfl, rfl, hd⟩

theorem quiet_inn (d : Id) (hd : d.mode ≠ 2) (reg : Int) (size : Nat) : Quiet d (d.inn reg size) := by
  unfold Id.inn
  split
  · exact ⟨rfl, rfl, rfl, hd⟩
  · split
    · exact quiet_gets d hd size
    · split
      · exact ⟨rfl, rfl, rfl, hd⟩
      · exact ⟨rfl, rfl, rfl, hd⟩

/-- A command at a place, of one sector. -/
def Id.sector (d : Id) (k p : Int) : Id := (((((d.out 6 1 64).out 5 1 0).out 4 1 0).out 3 1 p).out 2 1 1).out 7 1 k

/-- The registers as 'sector' leaves them ahead of the command. -/
def Id.set (d : Id) (p : Int) : Id := { d with r6 := 64, r5 := 0, r4 := 0, r3 := p % 256, r2 := 1 }

theorem sector_is (d : Id) (k p : Int) : d.sector k p = (d.set p).command (k % 256) := rfl

theorem set_there {d : Id} {p : Int} (h0 : 0 ≤ p) (h1 : p < 256) : (d.set p).place = p ∧ (d.set p).there = decide (p + 1 ≤ d.n) ∧ (d.set p).at = p.toNat * 512 := by
  have e : (d.set p).place = p := by
    show p % 256 + 0 * 256 + 0 * 65536 + 64 % 16 * 16777216 = p
    omega
  refine ⟨e, ?_, ?_⟩
  · unfold Id.there
    rw [e]
    rfl
  · unfold Id.at
    rw [e]

/-- k bytes of a sector are there. -/
def wS (d : Id) (bt : Nat → Int) (k : Nat) : Id := { d with buf := fun i => if i < k then bt i else d.buf i, don := k }
/-- All are. -/
def wF (d : Id) (bt : Nat → Int) : Id := { (({ d with buf := fun i => if i < 512 then bt i else d.buf i, don := 0 } : Id).lay.one) with mark := true }
def wT (d : Id) (bt : Nat → Int) (k : Nat) : Id := if k < 512 then wS d bt k else wF d bt

theorem set_if (f bt : Nat → Int) (k : Nat) : setB (fun i => if i < k then bt i else f i) k (bt k) = fun i => if i < k + 1 then bt i else f i := by
  funext i
  unfold setB
  rcases (by omega : i < k ∨ i = k ∨ k < i) with h | rfl | h
  · rw [if_neg (by omega)]
    show (if i < k then bt i else f i) = _
    rw [if_pos h, if_pos (by omega)]
  · rw [if_pos rfl, if_pos (by omega)]
  · rw [if_neg (by omega)]
    show (if i < k then bt i else f i) = _
    rw [if_neg (by omega), if_neg (by omega)]

theorem wT_put (d : Id) (bt : Nat → Int) (hm : d.mode = 2) (ht : d.there = true) (k : Nat) (hk : k < 512) : (wT d bt k).put (bt k) = wT d bt (k + 1) := by
  unfold wT
  rw [if_pos hk]
  unfold Id.put
  rw [if_pos (show (wS d bt k).mode = 2 from hm)]
  by_cases h : k + 1 < 512
  · rw [if_pos (show (wS d bt k).don + 1 < 512 from h), if_pos h]
    unfold wS
    simp only [set_if]
  · rw [if_neg (show ¬ (wS d bt k).don + 1 < 512 from h), if_neg h, if_pos (show (wS d bt k).there = true from ht)]
    have e : k + 1 = 512 := by omega
    unfold wS wF
    simp only [set_if, e]

theorem wT_puts (d : Id) (bt : Nat → Int) (hm : d.mode = 2) (ht : d.there = true) (v : Int) (k s : Nat) (hk : k + s ≤ 512) (hv : ∀ j, j < s → v / 2 ^ (8 * j) % 256 = bt (k + j)) : ∀ j, j ≤ s → (wT d bt k).puts v j = wT d bt (k + j)
  | 0, _ => rfl
  | j + 1, hj => by
    show ((wT d bt k).puts v j).put _ = _
    rw [wT_puts d bt hm ht v k s hk hv j (by omega), hv j (by omega), wT_put d bt hm ht (k + j) (by omega)]
    rfl

theorem wT_r6 (d : Id) (bt : Nat → Int) (k : Nat) (hk : k < 512) : (wT d bt k).off = d.off := by
  unfold wT
  rw [if_pos hk]
  rfl

theorem wT_0 (d : Id) (bt : Nat → Int) (h : d.don = 0) : wT d bt 0 = d := by
  unfold wT wS
  rw [if_pos (by decide)]
  obtain ⟨n, D, r1, r2, r3, r4, r5, r6, c, buf, don, mode, mark, failed, log⟩ := d
  simp only at h
  subst h
  simp

/-- i bytes of a buffer were read. -/
def rS (d : Id) (i : Nat) : Id := { d with don := i }

theorem rS_get (d : Id) (hm : d.mode = 1 ∨ d.mode = 3) (i : Nat) (hi : i + 1 < 512) : (rS d i).get = rS d (i + 1) ∧ (rS d i).getV = d.buf i := by
  unfold Id.get Id.getV
  rw [if_pos (show (rS d i).mode = 1 ∨ (rS d i).mode = 3 from hm), if_pos (show (rS d i).mode = 1 ∨ (rS d i).mode = 3 from hm), if_pos (show (rS d i).don + 1 < 512 from hi)]
  exact ⟨rfl, rfl⟩

theorem rS_last (d : Id) (hm : d.mode = 1) : (rS d 511).get = (rS d 0).one ∧ (rS d 511).getV = d.buf 511 := by
  unfold Id.get Id.getV
  rw [if_pos (show (rS d 511).mode = 1 ∨ (rS d 511).mode = 3 from .inl hm), if_pos (show (rS d 511).mode = 1 ∨ (rS d 511).mode = 3 from .inl hm), if_neg (show ¬ (rS d 511).don + 1 < 512 by show ¬ 511 + 1 < 512; decide), if_neg (show ¬ (rS d 511).mode = 3 by show ¬ d.mode = 3; omega)]
  exact ⟨rfl, rfl⟩

theorem rS_ec (d : Id) (hm : d.mode = 3) : (rS d 511).get = { rS d 0 with mode := 0 } ∧ (rS d 511).getV = d.buf 511 := by
  unfold Id.get Id.getV
  rw [if_pos (show (rS d 511).mode = 1 ∨ (rS d 511).mode = 3 from .inr hm), if_pos (show (rS d 511).mode = 1 ∨ (rS d 511).mode = 3 from .inr hm), if_neg (show ¬ (rS d 511).don + 1 < 512 by show ¬ 511 + 1 < 512; decide), if_pos (show (rS d 511).mode = 3 from hm)]
  exact ⟨rfl, rfl⟩

theorem off_set (d : Id) (p : Int) : (d.set p).off = false := rfl
theorem meant_set (d : Id) (p : Int) : (d.set p).meant = true := rfl

/-- A sector is to be written. -/
theorem cmd_write (d : Id) {p : Int} (h0 : 0 ≤ p) (h1 : p < 256) (hn : p + 1 ≤ d.n) : (d.set p).command 48 = { (d.set p).clear with mode := 2, don := 0 } := by
  have ht : (d.set p).clear.there = true := by
    have := (set_there (d := d) h0 h1).2.1
    show (d.set p).there = true
    rw [this, decide_eq_true_eq]
    exact hn
  unfold Id.command
  rw [off_set, if_neg (by decide), if_pos (by decide), meant_set, if_pos rfl, if_neg (by decide)]
  unfold Id.begin
  rw [if_pos ht, if_neg (by decide)]

/-- A sector is read. -/
theorem cmd_read (d : Id) {p : Int} (h0 : 0 ≤ p) (h1 : p < 256) (hn : p + 1 ≤ d.n) : (d.set p).command 32 = { (d.set p).clear with mode := 1, don := 0, buf := fun i => d.D (p.toNat * 512 + i), mark := true } := by
  have ht : (d.set p).clear.there = true := by
    have := (set_there (d := d) h0 h1).2.1
    show (d.set p).there = true
    rw [this, decide_eq_true_eq]
    exact hn
  have ha : (d.set p).clear.at = p.toNat * 512 := (set_there (d := d) h0 h1).2.2
  unfold Id.command
  rw [off_set, if_neg (by decide), if_pos (by decide), meant_set, if_pos rfl, if_pos (by decide)]
  unfold Id.begin
  rw [if_pos ht, if_pos rfl, ha]
  rfl

/-- There is no such sector. -/
theorem cmd_none (d : Id) {p : Int} (h0 : 0 ≤ p) (h1 : p < 256) (hn : (d.n : Int) < p + 1) : (d.set p).command 32 = (d.set p).clear.fail 16 := by
  have ht : ¬ (d.set p).clear.there = true := by
    have := (set_there (d := d) h0 h1).2.1
    show ¬ (d.set p).there = true
    rw [this, decide_eq_true_eq]
    omega
  unfold Id.command
  rw [off_set, if_neg (by decide), if_pos (by decide), meant_set, if_pos rfl, if_pos (by decide)]
  unfold Id.begin
  rw [if_neg ht]

/-- Behind the last byte of a sector that was written, one alone being asked for. -/
theorem wF_is (d : Id) (bt : Nat → Int) {p : Int} (h0 : 0 ≤ p) (h1 : p + 1 < 256) :
    let e : Id := { (d.set p).clear with mode := 2, don := 0 }
    (wF e bt).n = d.n ∧ (wF e bt).log = d.log ++ [p] ∧ (wF e bt).mode = 0 ∧ (wF e bt).failed = false ∧ (wF e bt).c = d.c ∧
      (wF e bt).D = (fun i => if p.toNat * 512 ≤ i ∧ i < p.toNat * 512 + 512 then bt (i - p.toNat * 512) else d.D i) := by
  intro e
  have hp : e.place = p := (set_there (d := d) h0 (by omega)).1
  have ha : e.at = p.toNat * 512 := (set_there (d := d) h0 (by omega)).2.2
  obtain ⟨f, hf⟩ : ∃ f : Id, f = ({ e with buf := fun i => if i < 512 then bt i else e.buf i, don := 0 } : Id).lay := ⟨_, rfl⟩
  have h2 : f.next.r2 = 0 := by rw [hf]; rfl
  have hw : wF e bt = { f.one with mark := true } := by unfold wF; rw [hf]
  have h1' : f.one = { f.next with mode := 0 } := by unfold Id.one; rw [if_pos h2]
  rw [hw, h1', hf]
  refine ⟨rfl, ?_, rfl, rfl, rfl, ?_⟩
  · show d.log ++ [e.place] = _
    rw [hp]
  · funext i
    show (if e.at ≤ i ∧ i < e.at + 512 then (if i - e.at < 512 then bt (i - e.at) else e.buf (i - e.at)) else d.D i) = _
    rw [ha]
    by_cases g : p.toNat * 512 ≤ i ∧ i < p.toNat * 512 + 512
    · rw [if_pos g, if_pos g, if_pos (by omega)]
    · rw [if_neg g, if_neg g]

/-- Sector s is being read, i bytes of it are. -/
def tS (d : Id) (s i : Nat) : Id := { d with r3 := s, r2 := ((d.n - s : Nat) : Int), r4 := 0, r5 := 0, r6 := 64, mode := 1, don := i, buf := fun j => d.D (s * 512 + j), mark := true }

theorem tS_get (d : Id) (s i : Nat) (hi : i + 1 < 512) : (tS d s i).get = tS d s (i + 1) ∧ (tS d s i).getV = d.D (s * 512 + i) := by
  unfold Id.get Id.getV
  rw [if_pos (show (tS d s i).mode = 1 ∨ (tS d s i).mode = 3 from .inl rfl), if_pos (show (tS d s i).mode = 1 ∨ (tS d s i).mode = 3 from .inl rfl), if_pos (show (tS d s i).don + 1 < 512 from hi)]
  exact ⟨rfl, rfl⟩

theorem tS_lastV (d : Id) (s : Nat) : (tS d s 511).getV = d.D (s * 512 + 511) := by
  unfold Id.getV
  rw [if_pos (show (tS d s 511).mode = 1 ∨ (tS d s 511).mode = 3 from .inl rfl)]
  rfl

theorem tS_last (d : Id) (s : Nat) (hn : d.n ≤ 64) (hs : s < d.n) : (tS d s 511).get = if s + 1 < d.n then tS d (s + 1) 0 else { tS d (s + 1) 0 with mode := 0, buf := fun j => d.D (s * 512 + j) } := by
  unfold Id.get
  rw [if_pos (show (tS d s 511).mode = 1 ∨ (tS d s 511).mode = 3 from .inl rfl), if_neg (show ¬ (tS d s 511).don + 1 < 512 by show ¬ 511 + 1 < 512; decide), if_neg (show ¬ (tS d s 511).mode = 3 by show ¬ (1 : Int) = 3; decide)]
  obtain ⟨e, he⟩ : ∃ e : Id, e = ({ tS d s 511 with don := 0 } : Id) := ⟨_, rfl⟩
  rw [← he]
  have hp : e.place = s := by
    rw [he]
    show (s : Int) + 0 * 256 + 0 * 65536 + 64 % 16 * 16777216 = s
    omega
  have hx : e.next = { e with r3 := ((s + 1 : Nat) : Int), r4 := 0, r5 := 0, r6 := 64, r2 := ((d.n - (s + 1) : Nat) : Int) } := by
    unfold Id.next
    rw [hp]
    have q3 : ((s : Int) + 1) % 256 = ((s + 1 : Nat) : Int) := by omega
    have q4 : ((s : Int) + 1) / 256 % 256 = 0 := by omega
    have q5 : ((s : Int) + 1) / 65536 % 256 = 0 := by omega
    have q6 : e.r6 - e.r6 % 16 + ((s : Int) + 1) / 16777216 % 16 = 64 := by
      rw [he]
      show (64 : Int) - 64 % 16 + ((s : Int) + 1) / 16777216 % 16 = 64
      omega
    have q2 : (e.r2 - 1) % 256 = ((d.n - (s + 1) : Nat) : Int) := by
      rw [he]
      show (((d.n - s : Nat) : Int) - 1) % 256 = _
      omega
    rw [q3, q4, q5, q6, q2]
  unfold Id.one
  rw [hx]
  by_cases g : s + 1 < d.n
  · rw [if_pos g]
    rw [if_neg (show ¬ (((d.n - (s + 1) : Nat) : Int) = 0) by omega)]
    obtain ⟨f, hf⟩ : ∃ f : Id, f = ({ e with r3 := ((s + 1 : Nat) : Int), r4 := 0, r5 := 0, r6 := 64, r2 := ((d.n - (s + 1) : Nat) : Int) } : Id) := ⟨_, rfl⟩
    rw [← hf]
    have fp : f.place = ((s + 1 : Nat) : Int) := by
      rw [hf]
      show ((s + 1 : Nat) : Int) + 0 * 256 + 0 * 65536 + 64 % 16 * 16777216 = _
      omega
    have ft : f.there = true := by
      unfold Id.there
      rw [fp, decide_eq_true_eq]
      have : f.n = d.n := by rw [hf, he]; rfl
      rw [this]
      omega
    have fa : f.at = (s + 1) * 512 := by
      unfold Id.at
      rw [fp]
      rfl
    have em : e.mode = 1 := by rw [he]; rfl
    rw [em]
    unfold Id.begin
    rw [if_pos ft, if_pos rfl, fa, hf, he]
    rfl
  · rw [if_neg g]
    have z : ((d.n - (s + 1) : Nat) : Int) = 0 := by omega
    rw [if_pos (show (((d.n - (s + 1) : Nat) : Int) = 0) from z), he]
    rfl
end Go.Proofs.Ytddalplpmgmplaa
