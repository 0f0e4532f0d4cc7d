/- Ticks at once are ticks one by one. -/
import Derived.Test.YtclejmdmbanedaaGreatBsLine
import Derived.Test.YtclejmdmbanedaaGreatBp33
import Derived.Test.YtclejmdmbanedaaGreatBp35
namespace Go.Proofs.YtclejmdmbanedaaGreat.Bs
open Go.ChangeShapes Go.WideShapes Go.ChangeAt Go.RowKit
open Go.Proofs.YtclejmdmbanedaaGreat.Ut (Kp heap_lt heap_kept heap_set heap_new noB isB kpB)
set_option linter.unusedVariables false
set_option maxRecDepth 20000

open Go.Proofs.YtclejmdmbanedaaGreat.Pc (M2)

/-- Telling one behind the other. -/
def foldB (P : M2) (l4 l14 : Bool) (c : Nat → Bool) : Nat → M2
  | 0 => P
  | n + 1 => say (foldB P l4 l14 c n) (c n) l4 l14

def anyF (c : Nat → Bool) : Nat → Bool
  | 0 => false
  | n + 1 => anyF c n || !c n

theorem anyF_false {c : Nat → Bool} : ∀ {n : Nat}, anyF c n = false → ∀ k, k < n → c k = true
  | 0, _, k, hk => absurd hk (by omega)
  | n + 1, h, k, hk => by
    unfold anyF at h
    rw [Bool.or_eq_false_iff] at h
    by_cases e : k = n
    · subst e
      have := h.2
      simpa using this
    · exact anyF_false h.1 k (by omega)
theorem anyF_true {c : Nat → Bool} : ∀ {n : Nat}, anyF c n = true → ∃ k, k < n ∧ c k = false
  | 0, h => by cases h
  | n + 1, h => by
    unfold anyF at h
    rw [Bool.or_eq_true] at h
    rcases h with h | h
    · obtain ⟨k, a, b⟩ := anyF_true h
      exact ⟨k, by omega, b⟩
    · exact ⟨n, by omega, by simpa using h⟩
theorem anyF_of {c : Nat → Bool} {n k : Nat} (hk : k < n) (h : c k = false) : anyF c n = true := by
  cases e : anyF c n with
  | true => rfl
  | false => rw [anyF_false e k hk] at h; cases h

/-- What is left by tellings hangs on whether one was down, and on the last. -/
def leftB (P : M2) (l4 l14 : Bool) (f last : Bool) : M2 := if f then (if last then say (say P false l4 l14) true l4 l14 else say P false l4 l14) else say P true l4 l14

theorem foldB_is {P : M2} (h : P.Ok) (l4 l14 : Bool) (c : Nat → Bool) : ∀ n, foldB P l4 l14 c (n + 1) = leftB P l4 l14 (anyF c (n + 1)) (c n)
  | 0 => by
    show say P (c 0) l4 l14 = _
    unfold leftB anyF anyF
    cases c 0 <;> rfl
  | n + 1 => by
    have ih := foldB_is h l4 l14 c n
    show say (foldB P l4 l14 c (n + 1)) (c (n + 1)) l4 l14 = leftB P l4 l14 (anyF c (n + 1) || !c (n + 1)) (c (n + 1))
    rw [ih]
    have o1 := say_ok h false l4 l14
    unfold leftB
    cases hf : anyF c (n + 1) <;> cases hl : c (n + 1) <;> cases hc : c n
    all_goals simp only [Bool.false_or, Bool.true_or, Bool.not_false, Bool.not_true, if_true, Bool.false_eq_true, if_false]
    · rw [say_down h]
    · rw [say_down h]
    · rw [say_twice h]
    · rw [say_twice h]
    · rw [say_twice h]
    · rw [say_down o1, say_twice h]
    · rw [say_twice o1]

theorem ticks_back : ∀ (n : Nat) (x : Bm), Bm.ticks (n + 1) x = (Bm.ticks n x).tick1
  | 0, _ => rfl
  | n + 1, x => by
    show Bm.ticks (n + 1) x.tick1 = _
    rw [ticks_back n x.tick1]
    rfl
theorem ticks_add (n : Nat) : ∀ (k : Nat) (x : Bm), Bm.ticks k (Bm.ticks n x) = Bm.ticks (n + k) x
  | 0, _ => rfl
  | k + 1, x => by rw [ticks_back, ticks_add n k x, ← ticks_back]; rfl

theorem ticks_form (x : Bm) (s : Nat) (hx : x.now = s) (n : Nat) (hn : (s : Int) + n < 18446744073709551616) : Bm.ticks n x = { x with now := s + n, p := foldB x.p x.u.ln x.d.line (fun k => (x.f 0).line (s + k + 1)) n } := by
  induction n with
  | zero =>
    have e : (s : Int) + ((0 : Nat) : Int) = x.now := by rw [hx]; exact Int.add_zero _
    rw [e]
    rfl
  | succ n ih =>
    have e : ((s : Int) + n + 1) % 18446744073709551616 = s + n + 1 := by omega
    have e2 : (s : Int) + ((n + 1 : Nat) : Int) = s + n + 1 := by omega
    rw [ticks_back, ih (by omega)]
    unfold Bm.tick1
    rw [tell_say]
    show ({ x with now := ((s : Int) + n + 1) % 18446744073709551616, p := say (foldB x.p x.u.ln x.d.line (fun k => (x.f 0).line (s + k + 1)) n) ((x.f 0).line (((s : Int) + n + 1) % 18446744073709551616)) x.u.ln x.d.line } : Bm) = _
    rw [e, e2]
    rfl

/-- A timer's line that is up at first, and up through one turn, was always up. -/
theorem line_turn {c : Pt.Cn} (k : c.Ok) (hb : c.began = 0) (n : Nat) (hn : 65536 < n) (h9 : (n : Int) < 18446744073709551616) (h0 : c.line 0 = true) (hw : ∀ j : Nat, j < 65536 → c.line ((n : Int) - 65536 + j + 1) = true) (t : Nat) (ht : t ≤ n) : c.line t = true := by
  have st : ∀ t : Int, 0 ≤ t → t ≤ n → c.steps t = t := fun t a b => by unfold Pt.Cn.steps; rw [hb]; omega
  have wl : 1 ≤ c.whole ∧ c.whole ≤ 65536 := by
    have := k.len
    unfold Pt.Cn.whole
    split <;> omega
  obtain ⟨l, hl⟩ : ∃ l, l = c.whole := ⟨_, rfl⟩
  rw [← hl] at wl
  -- the time in the turn that is one short of a whole length
  obtain ⟨j, hj1, hj2⟩ : ∃ j : Nat, j < 65536 ∧ ((n : Int) - 65536 + j + 1) % l = l - 1 := by
    obtain ⟨r, hr⟩ : ∃ r, r = (n : Int) % l := ⟨_, rfl⟩
    have r0 : 0 ≤ r := by rw [hr]; exact Int.emod_nonneg _ (by omega)
    have r1 : r < l := by rw [hr]; exact Int.emod_lt_of_pos _ (by omega)
    by_cases e : r = l - 1
    · exact ⟨65535, by omega, by rw [show (n : Int) - 65536 + ((65535 : Nat) : Int) + 1 = n by omega, ← hr]; exact e⟩
    · refine ⟨(65535 - (r + 1)).toNat, by omega, ?_⟩
      have e1 : (n : Int) - 65536 + ((65535 - (r + 1)).toNat : Int) + 1 = n - (r + 1) := by omega
      obtain ⟨q, hq⟩ : ∃ q, q = (n : Int) / l := ⟨_, rfl⟩
      have h1 : l * q + r = n := by rw [hq, hr]; exact Int.mul_ediv_add_emod _ _
      have h2 : l * (q - 1) = l * q - l := by rw [Int.mul_sub, Int.mul_one]
      have h3 : (n : Int) - (r + 1) = (l - 1) + l * (q - 1) := by omega
      rw [e1, h3, Int.add_mul_emod_self_left, Int.emod_eq_of_lt (by omega) (by omega)]
  have hwj := hw j hj1
  have sj := st ((n : Int) - 65536 + j + 1) (by omega) (by omega)
  have s0 := st 0 (by omega) (by omega)
  have stt := st t (by omega) (by omega)
  unfold Pt.Cn.line at h0 hwj ⊢
  rw [sj, ← hl] at hwj
  rw [s0, ← hl] at h0
  rw [stt, ← hl]
  by_cases hs : c.st = true
  · rw [if_pos hs] at h0 ⊢
    exact h0
  · rw [if_neg hs] at h0 hwj ⊢
    by_cases m0 : c.mode = 0
    · rw [if_pos m0, decide_eq_true_iff] at h0
      omega
    · rw [if_neg m0] at hwj ⊢
      by_cases m2 : c.mode = 2
      · rw [if_pos m2, hj2] at hwj
        simp at hwj
      · rw [if_neg m2] at hwj ⊢
        by_cases m3 : c.mode = 3
        · rw [if_pos m3, hj2, decide_eq_true_iff] at hwj
          rw [if_pos m3, decide_eq_true_iff]
          have l1 : l = 1 := by omega
          rw [l1]
          omega
        · rw [if_neg m3]

structure Qt (x : Bm) : Prop where
  ok : x.Ok
  told : x.tell = x
  now : x.now = 0
  began : ∀ i, (x.f i).began = 0

theorem fold_turn {P : M2} (h : P.Ok) (l4 l14 : Bool) (b : Nat → Bool) (K Z : Nat) (hT : say P (b 0) l4 l14 = P) (hl : b 0 = true → (∀ j, j < Z + 1 → b (K + j + 1) = true) → ∀ t, t ≤ K + Z + 1 → b t = true) : foldB P l4 l14 (fun k => b (K + k + 1)) (Z + 1) = foldB P l4 l14 (fun k => b (k + 1)) (K + Z + 1) := by
  rw [foldB_is h, foldB_is h]
  cases hw : anyF (fun k => b (K + k + 1)) (Z + 1) with
  | true =>
    obtain ⟨j, j1, j2⟩ := anyF_true hw
    have : anyF (fun k => b (k + 1)) (K + Z + 1) = true := anyF_of (k := K + j) (by omega) j2
    rw [this]
  | false =>
    cases hf : anyF (fun k => b (k + 1)) (K + Z + 1) with
    | false => rfl
    | true =>
      have hl' : b (K + Z + 1) = true := anyF_false hw Z (by omega)
      show say P true l4 l14 = leftB P l4 l14 true (b (K + Z + 1))
      rw [hl']
      cases h0 : b 0 with
      | false =>
        rw [h0] at hT
        show say P true l4 l14 = say (say P false l4 l14) true l4 l14
        rw [hT]
      | true =>
        obtain ⟨j, j1, j2⟩ := anyF_true hf
        have := hl h0 (fun j hj => anyF_false hw j hj) (j + 1) (by omega)
        rw [show b (j + 1) = false from j2] at this
        cases this

theorem fold_congr (P : M2) (l4 l14 : Bool) {c d : Nat → Bool} (h : ∀ k, c k = d k) (n : Nat) : foldB P l4 l14 c n = foldB P l4 l14 d n := by
  rw [show c = d from funext h]

theorem tickN_is {x : Bm} (q : Qt x) (n : Int) (n0 : 0 ≤ n) (h9 : n < 9223372036854775808) : x.tickN n = Bm.ticks n.toNat x := by
  unfold Bm.tickN
  split
  · rename_i hn
    obtain ⟨Z, hZ⟩ : ∃ Z : Nat, Z = 65535 := ⟨_, rfl⟩
    obtain ⟨Y, hY⟩ : ∃ Y : Nat, Y = 65536 := ⟨_, rfl⟩
    have eY : Y = Z + 1 := by omega
    obtain ⟨K, hK⟩ : ∃ K : Nat, n = (K : Int) + 65536 := ⟨(n - 65536).toNat, by omega⟩
    have eN : n.toNat = K + Z + 1 := by omega
    have sk : x.skip (n - 65536) = { x with now := (K : Int) } := by
      unfold Bm.skip
      rw [q.now]
      have : (0 + (n - 65536)) % 18446744073709551616 = (K : Int) := by omega
      rw [this]
    rw [← hY, sk, ticks_form _ K rfl Y (by omega), ticks_form x 0 q.now _ (by omega), eN]
    have e1 : ((K : Int) + (Y : Int)) = ((0 : Nat) : Int) + ((K + Z + 1 : Nat) : Int) := by omega
    rw [e1, eY]
    have hT : say x.p ((x.f 0).line ((0 : Nat) : Int)) x.u.ln x.d.line = x.p := by
      have := congrArg Bm.p q.told
      rw [tell_say, q.now] at this
      exact this
    have hp := fold_turn q.ok.p x.u.ln x.d.line (fun t => (x.f 0).line (t : Int)) K Z hT (fun h0 hw t ht => line_turn (q.ok.f 0) (q.began 0) (K + Z + 1) (by omega) (by omega) h0 (fun j hj => by
      have := hw j (by omega)
      have e : ((K + Z + 1 : Nat) : Int) - 65536 + j + 1 = ((K + j + 1 : Nat) : Int) := by omega
      rw [e]
      exact this) t ht)
    have c1 := fold_congr x.p x.u.ln x.d.line (c := fun k => (x.f 0).line ((K : Int) + k + 1)) (d := fun k => (x.f 0).line ((K + k + 1 : Nat) : Int)) (fun k => by congr 1 <;> omega) (Z + 1)
    have c2 := fold_congr x.p x.u.ln x.d.line (c := fun k => (x.f 0).line (((0 : Nat) : Int) + k + 1)) (d := fun k => (x.f 0).line ((k + 1 : Nat) : Int)) (fun k => by congr 1 <;> omega) (K + Z + 1)
    show ({ x with now := ((0 : Nat) : Int) + ((K + Z + 1 : Nat) : Int), p := foldB x.p x.u.ln x.d.line (fun k => (x.f 0).line ((K : Int) + k + 1)) (Z + 1) } : Bm) = _
    rw [c1, hp, c2]
  · rfl

theorem upd_b {f : Nat → Pt.Cn} (h : ∀ i, (f i).began = 0) {k : Nat} {c : Pt.Cn} (hc : c.began = 0) (i : Nat) : (Pt.upd f k c i).began = 0 := by
  unfold Pt.upd
  split
  · exact hc
  · exact h i

/-- What is written at the time 0 leaves the counters begun there. -/
theorem begun_out {x : Bm} (h0 : x.now = 0) (h : ∀ i, (x.f i).began = 0) (v : Int) (o : Option (Dv × Int)) : (x.outD v o).now = 0 ∧ ∀ i, ((x.outD v o).f i).began = 0 := by
  unfold Bm.outD
  split
  · exact ⟨h0, h⟩
  · rename_i a
    refine ⟨h0, fun i => ?_⟩
    show (Pt.outF x.f a v x.now i).began = 0
    rw [h0]
    unfold Pt.outF
    split
    · unfold Pt.cmdF
      split
      · exact h i
      · split
        · exact upd_b h (by unfold Pt.Cn.hold; split <;> exact h _) i
        · exact upd_b h rfl i
    · refine upd_b h ?_ i
      unfold Pt.Cn.write Pt.Cn.begin
      repeat' split
      all_goals first | rfl | exact h _
  · exact ⟨h0, h⟩
  · exact ⟨h0, h⟩
  · exact ⟨h0, h⟩
  · exact ⟨h0, h⟩

theorem begun_outN : ∀ (n : Nat) {x : Bm} (h0 : x.now = 0) (h : ∀ i, (x.f i).began = 0) (p v : Int), (Bm.outN n x p v).now = 0 ∧ ∀ i, ((Bm.outN n x p v).f i).began = 0
  | 0, _, h0, h, _, _ => ⟨h0, h⟩
  | n + 1, x, h0, h, p, v => by
    obtain ⟨a, b⟩ := begun_out h0 h (v % 256) (portOf p)
    exact begun_outN n a b (nxt p) (v / 256)

theorem Qt.out {x : Bm} (q : Qt x) (p s v : Int) : Qt (x.out p s v) := by
  unfold Bm.out
  split
  · have hp : (x.put p s v).now = 0 ∧ ∀ i, ((x.put p s v).f i).began = 0 := by
      unfold Bm.put
      split
      · exact ⟨q.now, q.began⟩
      · exact begun_outN _ q.now q.began p v
    exact ⟨(q.ok.put p s v).tell, tell_tell (q.ok.put p s v), hp.1, hp.2⟩
  · exact q

theorem Qt.new {n : Nat} {D : Nat → Int} {m : Rm.Mem} (h : (Dk.id0 n D).Ok) : Qt (bm0 n D m).tell := ⟨(bm0_ok h).tell, tell_tell (bm0_ok h), rfl, fun _ => rfl⟩
end Go.Proofs.YtclejmdmbanedaaGreat.Bs
