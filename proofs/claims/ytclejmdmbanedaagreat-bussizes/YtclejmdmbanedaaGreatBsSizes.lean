/- Wide calls are narrow ones. -/
import Derived.Test.YtclejmdmbanedaaGreatBsTicks
import Derived.Test.YtclejmdmbanedaaGreatBp30
namespace Go.Proofs.YtclejmdmbanedaaGreat.Bs
open Go.ChangeShapes Go.WideShapes Go.ChangeAt Go.RowKit
open Go.Proofs.YtclejmdmbanedaaGreat.Ut (Kp heap_lt heap_kept heap_set heap_new noB isB kpB)
set_option linter.unusedVariables false
set_option maxRecDepth 20000

/-- All but the interrupt controllers is the same. -/
structure Sim (b c : Bm) : Prop where
  f : b.f = c.f
  u : b.u = c.u
  d : b.d = c.d
  cl : b.cl = c.cl
  now : b.now = c.now

theorem Sim.refl (b : Bm) : Sim b b := ⟨rfl, rfl, rfl, rfl, rfl⟩
theorem Sim.tell {b c : Bm} (h : Sim b c) : Sim b c.tell := ⟨h.f, h.u, h.d, h.cl, h.now⟩
theorem Sim.tellL {b c : Bm} (h : Sim b c) : Sim b.tell c := ⟨h.f, h.u, h.d, h.cl, h.now⟩

theorem Sim.inD {b c : Bm} (h : Sim b c) (o : Option (Dv × Int)) : Sim (b.inD o) (c.inD o) := by
  unfold Bm.inD
  split
  · exact ⟨by show Pt.innF b.f _ = Pt.innF c.f _; rw [h.f], h.u, h.d, h.cl, h.now⟩
  · exact ⟨h.f, by show b.u.inn _ = c.u.inn _; rw [h.u], h.d, h.cl, h.now⟩
  · exact ⟨h.f, h.u, by show b.d.i _ _ = c.d.i _ _; rw [h.d], h.cl, h.now⟩
  · exact h

theorem Sim.outD {b c : Bm} (h : Sim b c) (v : Int) (o : Option (Dv × Int)) : Sim (b.outD v o) (c.outD v o) := by
  unfold Bm.outD
  split
  · exact ⟨h.f, h.u, h.d, h.cl, h.now⟩
  · exact ⟨by show Pt.outF b.f _ _ b.now = Pt.outF c.f _ _ c.now; rw [h.f, h.now], h.u, h.d, h.cl, h.now⟩
  · exact ⟨h.f, by show b.u.out _ _ = c.u.out _ _; rw [h.u], h.d, h.cl, h.now⟩
  · exact ⟨h.f, h.u, by show b.d.o _ _ _ = c.d.o _ _ _; rw [h.d], h.cl, h.now⟩
  · exact ⟨h.f, h.u, h.d, rfl, h.now⟩
  · exact h

theorem Sim.inDV {b c : Bm} (h : Sim b c) {o : Option (Dv × Int)} (ho : ∀ a, o ≠ some (.pic, a)) : b.inDV o = c.inDV o := by
  unfold Bm.inDV
  split
  · rename_i a
    exact absurd rfl (ho a)
  · rw [h.f, h.now]
  · rw [h.u]
  · rw [h.d]
  · rw [h.cl]
  · rfl

def pi (p : Int) (i : Nat) : Int := (p + i) % 65536

theorem pi_0 {p : Int} (p0 : 0 ≤ p) (p1 : p < 65536) : pi p 0 = p := by unfold pi; omega
theorem pi_nxt {p : Int} (p0 : 0 ≤ p) (p1 : p < 65536) (i : Nat) : pi (nxt p) i = pi p (i + 1) := by unfold pi nxt; omega
theorem pi_bd (p : Int) (i : Nat) : 0 ≤ pi p i ∧ pi p i < 65536 := by unfold pi; omega
theorem nxt_pi (p : Int) (i : Nat) : nxt (pi p i) = pi p (i + 1) := by unfold pi nxt; omega

/-- The bus behind so many bytes of a wide call, and behind so many narrow calls. -/
def bN (x : Bm) (p : Int) : Nat → Bm
  | 0 => x
  | i + 1 => (bN x p i).in1 (pi p i)
def cN (x : Bm) (p : Int) : Nat → Bm
  | 0 => x
  | i + 1 => (cN x p i).inn (pi p i) 1

theorem got1 (x : Bm) (p : Int) : x.got p 1 = x.in1 p := by
  unfold Bm.got
  split
  · rename_i h
    subst h
    rfl
  · rfl
theorem inn1 (x : Bm) (p : Int) : x.inn p 1 = (x.in1 p).tell := by
  unfold Bm.inn
  rw [if_pos (by decide), got1]

theorem iV_1 {d : Dk.Id} (k : d.Ok) : d.iV 0 1 < 256 := by
  unfold Dk.Id.iV
  rw [if_pos (by decide)]
  show (d.inV 0 1) < 256
  unfold Dk.Id.inV
  split
  · decide
  · rw [if_pos rfl]
    have := k.getV.2
    show 0 + d.getV * 2 ^ (8 * 0) < 256
    simpa using this

theorem innV1 {x : Bm} (k : x.Ok) (p : Int) : x.innV p 1 = x.inV1 p := by
  unfold Bm.innV
  rw [if_pos (by decide)]
  unfold Bm.gotV
  split
  · rename_i h
    subst h
    show x.d.iV 0 1 = x.d.iV 0 1 % 256
    have := ide_nn k.d 0
    have := iV_1 k.d
    omega
  · show x.inV1 p + 256 * 0 = _
    omega

theorem bN_sim (x : Bm) (p : Int) : ∀ i, Sim (bN x p i) (cN x p i)
  | 0 => .refl _
  | i + 1 => by
    show Sim ((bN x p i).in1 (pi p i)) ((cN x p i).inn (pi p i) 1)
    rw [inn1]
    exact ((bN_sim x p i).inD _).tell

theorem bN_ok {x : Bm} (k : x.Ok) (p : Int) : ∀ i, (bN x p i).Ok
  | 0 => k
  | i + 1 => (bN_ok k p i).inD _
theorem cN_ok {x : Bm} (k : x.Ok) (p : Int) : ∀ i, (cN x p i).Ok
  | 0 => k
  | i + 1 => (cN_ok k p i).inn _ _
theorem cN_wk (x : Bm) (p : Int) : ∀ i, (cN x p i).wk ≤ x.wk
  | 0 => Nat.le_refl _
  | i + 1 => Nat.le_trans (inn_wk _ _ _) (cN_wk x p i)

def calm (o : Option (Dv × Int)) : Bool := match o with
  | none => true
  | some (.pic, _) => true
  | _ => false

theorem calm_in {x : Bm} {p : Int} (h : calm (portOf p) = true) : x.in1 p = x := by
  unfold Bm.in1
  cases e : portOf p with
  | none => rfl
  | some q =>
    obtain ⟨dv, a⟩ := q
    rw [e] at h
    cases dv <;> first | rfl | cases h

theorem stay {x : Bm} (ht : x.tell = x) (p : Int) : ∀ i, (∀ k, k < i → calm (portOf (pi p k)) = true) → bN x p i = x ∧ cN x p i = x
  | 0, _ => ⟨rfl, rfl⟩
  | i + 1, h => by
    obtain ⟨a, b⟩ := stay ht p i (fun k hk => h k (by omega))
    have s := h i (by omega)
    refine ⟨?_, ?_⟩
    · show (bN x p i).in1 (pi p i) = x
      rw [a, calm_in s]
    · show (cN x p i).inn (pi p i) 1 = x
      rw [b, inn1, calm_in s, ht]

theorem near_pic {p a : Int} (h : portOf p = some (.pic, a)) : p = 32 ∨ p = 33 ∨ p = 160 ∨ p = 161 := by
  unfold portOf at h
  repeat' split at h
  all_goals first
    | omega
    | (injection h with h; injection h with h1 h2; cases h1)
    | cases h

theorem near {p : Int} {i k : Nat} (hi : i < 4) (hk : k < i) {a : Int} (h : portOf (pi p i) = some (.pic, a)) : calm (portOf (pi p k)) = true := by
  have hp := near_pic h
  obtain ⟨d, hd⟩ : ∃ d : Nat, i = k + d := ⟨i - k, by omega⟩
  have e : pi p k = (pi p i - d) % 65536 := by unfold pi; omega
  have d3 : d = 1 ∨ d = 2 ∨ d = 3 := by omega
  rw [e]
  rcases hp with hp | hp | hp | hp <;> rw [hp] <;> rcases d3 with rfl | rfl | rfl <;> rfl

/-- What is read is the same, byte by byte. -/
theorem same_byte {x : Bm} (k : x.Ok) (ht : x.tell = x) (p : Int) {i : Nat} (hi : i < 4) : (cN x p i).innV (pi p i) 1 = (bN x p i).inV1 (pi p i) := by
  rw [innV1 (cN_ok k p i)]
  unfold Bm.inV1
  by_cases h : ∃ a, portOf (pi p i) = some (.pic, a)
  · obtain ⟨a, h⟩ := h
    obtain ⟨e1, e2⟩ := stay ht p i (fun j hj => near hi hj h)
    rw [e1, e2]
  · exact ((bN_sim x p i).inDV (fun a e => h ⟨a, e⟩)).symm

theorem inN_bN : ∀ (n : Nat) (x : Bm) (p : Int) (i : Nat), Bm.inN n (bN x p i) (pi p i) = bN x p (i + n)
  | 0, _, _, _ => rfl
  | n + 1, x, p, i => by
    show Bm.inN n ((bN x p i).in1 (pi p i)) (nxt (pi p i)) = _
    rw [nxt_pi, show (bN x p i).in1 (pi p i) = bN x p (i + 1) from rfl, inN_bN n x p (i + 1), show i + 1 + n = i + (n + 1) by omega]
theorem inVN_bN (n : Nat) (x : Bm) (p : Int) (i : Nat) : Bm.inVN (n + 1) (bN x p i) (pi p i) = (bN x p i).inV1 (pi p i) + 256 * Bm.inVN n (bN x p (i + 1)) (pi p (i + 1)) := by
  show (bN x p i).inV1 (pi p i) + 256 * Bm.inVN n ((bN x p i).in1 (pi p i)) (nxt (pi p i)) = _
  rw [nxt_pi]
  rfl

/-- The same of what is written. -/
def oB (x : Bm) (p v : Int) : Nat → Bm
  | 0 => x
  | i + 1 => (oB x p v i).out1 (pi p i) (v / 256 ^ i % 256)
def oC (x : Bm) (p v : Int) : Nat → Bm
  | 0 => x
  | i + 1 => (oC x p v i).out (pi p i) 1 (v / 256 ^ i % 256)

theorem out1_is (x : Bm) (p : Int) {v : Int} (hv : Byt v) : x.out p 1 v = (x.out1 p v).tell := by
  have e : v % 256 = v := by have := hv.1; have := hv.2; omega
  unfold Bm.out
  rw [if_pos (by decide)]
  unfold Bm.put
  split
  · rename_i h
    subst h
    rfl
  · show (x.out1 p (v % 256)).tell = _
    rw [e]

theorem oB_sim {b c : Bm} (h : Sim b c) (p v : Int) : ∀ i, Sim (oB b p v i) (oC c p v i)
  | 0 => h
  | i + 1 => by
    show Sim ((oB b p v i).out1 (pi p i) (v / 256 ^ i % 256)) ((oC c p v i).out (pi p i) 1 (v / 256 ^ i % 256))
    rw [out1_is _ _ ⟨by omega, by omega⟩]
    exact ((oB_sim h p v i).outD _ _).tell
theorem oC_ok {x : Bm} (k : x.Ok) (p v : Int) : ∀ i, (oC x p v i).Ok
  | 0 => k
  | i + 1 => (oC_ok k p v i).out _ _ _
theorem oC_wk {x : Bm} (k : x.Ok) (p v : Int) : ∀ i, (oC x p v i).wk ≤ x.wk + 16 * i
  | 0 => Nat.le_refl _
  | i + 1 => by
    have h1 := oC_wk k p v i
    have h2 := out_wk (oC_ok k p v i) (pi p i) 1 (v / 256 ^ i % 256)
    show (Bm.out _ _ _ _).wk ≤ _
    omega

theorem outN_oB : ∀ (n : Nat) (x : Bm) (p v : Int) (i : Nat), Bm.outN n (oB x p v i) (pi p i) (v / 256 ^ i) = oB x p v (i + n)
  | 0, _, _, _, _ => rfl
  | n + 1, x, p, v, i => by
    have e : v / 256 ^ i / 256 = v / 256 ^ (i + 1) := by rw [Int.ediv_ediv_of_nonneg (Int.pow_nonneg (by decide)), Int.pow_succ]
    show Bm.outN n ((oB x p v i).out1 (pi p i) (v / 256 ^ i % 256)) (nxt (pi p i)) (v / 256 ^ i / 256) = _
    rw [nxt_pi, e, show (oB x p v i).out1 (pi p i) (v / 256 ^ i % 256) = oB x p v (i + 1) from rfl, outN_oB n x p v (i + 1), show i + 1 + n = i + (n + 1) by omega]

/-- Wide and narrow writes leave the same serial port and the same disk. -/
theorem wide_out {b c : Bm} (h : Sim b c) {p : Int} (p0 : 0 ≤ p) (p1 : p < 65536) (hp : p ≠ 496) (n : Nat) (hn : okS n) (v : Int) : Sim (b.out p n v) (oC c p v n) := by
  have e : b.out p n v = (oB b p v n).tell := by
    unfold Bm.out
    rw [if_pos hn]
    unfold Bm.put
    rw [if_neg hp, Int.toNat_natCast]
    have := outN_oB n b p v 0
    rw [pi_0 p0 p1, Int.pow_zero, Int.ediv_one, Nat.zero_add] at this
    rw [show Bm.outN n b p v = oB b p v n from this]
  rw [e]
  exact (oB_sim h p v n).tellL

theorem wide_in {x : Bm} {p : Int} (p0 : 0 ≤ p) (p1 : p < 65536) (hp : p ≠ 496) (n : Nat) (hn : okS n) : Sim (x.inn p n) (cN x p n) ∧ x.innV p n = Bm.inVN n (bN x p 0) (pi p 0) := by
  have e : x.inn p n = (bN x p n).tell := by
    unfold Bm.inn
    rw [if_pos hn]
    unfold Bm.got
    rw [if_neg hp, Int.toNat_natCast]
    have := inN_bN n x p 0
    rw [pi_0 p0 p1, Nat.zero_add] at this
    rw [show Bm.inN n x p = bN x p n from this]
  refine ⟨by rw [e]; exact (bN_sim x p n).tellL, ?_⟩
  unfold Bm.innV
  rw [if_pos hn]
  unfold Bm.gotV
  rw [if_neg hp, Int.toNat_natCast, pi_0 p0 p1]
  rfl
end Go.Proofs.YtclejmdmbanedaaGreat.Bs
