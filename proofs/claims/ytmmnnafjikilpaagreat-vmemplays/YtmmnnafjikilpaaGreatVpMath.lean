/- The document's way to a value's places, byte by byte: plain facts. -/
import Derived.Test.YtmmnnafjikilpaaGreatVj
namespace Go.Proofs.YtmmnnafjikilpaaGreat
open Go.ChangeShapes Go.WideShapes Go.ChangeAt Go.RowKit Go.Maps
set_option linter.unusedVariables false
set_option maxRecDepth 20000

/-- What is asked of pages: which table, where from, how many bytes, by whom. -/
structure Pq where
  pg : Bool
  c : Int
  l : Int
  n : Nat
  wr : Bool
  us : Bool
  wp : Bool

structure Pq.Ok (p : Pq) : Prop where
  c0 : 0 ≤ p.c
  c1 : p.c < 4294967296
  l0 : 0 ≤ p.l
  l1 : p.l < 4294967296
  n1 : p.n = 1 ∨ p.n = 2 ∨ p.n = 4

def Pq.q (p : Pq) (M : Mem) : Qy := findQ M p.pg p.c p.l p.n p.wr p.us p.wp
def Pq.m1 (p : Pq) (M : Mem) : Mem := fMem M p.c p.l p.wr p.us p.wp
def Pq.at (p : Pq) (i : Nat) : Int := (p.l + i) % 4294967296
def Pq.nx (p : Pq) : Int := nxt p.l p.n
def Pq.h (p : Pq) : Nat := ahd p.l p.n
/-- Memory behind the first i bytes, and the frame that was found. -/
def Pq.mi (p : Pq) (M : Mem) (i : Nat) : Mem :=
  if p.pg = false ∨ i = 0 then M else if i ≤ p.h then p.m1 M else fMem (p.m1 M) p.c p.nx p.wr p.us p.wp
def Pq.fr (p : Pq) (M : Mem) (i : Nat) : Int :=
  if p.pg = false ∨ i = 0 then 0 else if i ≤ p.h then fFr M p.c p.l else fFr (p.m1 M) p.c p.nx
/-- The place of the i-th byte, where all is well. -/
def Pq.pl (p : Pq) (M : Mem) (i : Nat) : Int :=
  if p.pg = false then p.at i else (p.fr M (i + 1) + p.at i % 4096) % 4294967296
/-- All went well for the first i bytes. -/
def Pq.well (p : Pq) (M : Mem) (i : Nat) : Prop :=
  p.pg = true → (1 ≤ i → fOk M p.c p.l p.wr p.us p.wp = true) ∧ (p.h < i → fOk (p.m1 M) p.c p.nx p.wr p.us p.wp = true)
/-- Is a page asked for ahead of the i-th byte? -/
def Pq.asks (p : Pq) (i : Nat) : Bool := i == 0 || p.at i % 4096 == 0

theorem Pq.at_bd (p : Pq) (i : Nat) : 0 ≤ p.at i ∧ p.at i < 4294967296 := by unfold Pq.at; omega
theorem Pq.h_bd {p : Pq} (o : p.Ok) : 1 ≤ p.h ∧ p.h ≤ p.n := by
  have := o.n1
  unfold Pq.h ahd; omega
theorem Pq.at_zero {p : Pq} (o : p.Ok) : p.at 0 = p.l := by
  have a := o.l0; have b := o.l1
  unfold Pq.at
  show (p.l + 0) % 4294967296 = p.l
  omega
/-- A page is asked for at the first byte, and where the second page opens. -/
theorem Pq.asks_eq {p : Pq} (o : p.Ok) {i : Nat} (hi : i < p.n) (h0 : i ≠ 0) : (p.at i % 4096 = 0) ↔ i = p.h := by
  have a := o.l0; have b := o.l1; have c := o.n1
  unfold Pq.at Pq.h ahd
  omega
theorem Pq.at_h {p : Pq} (o : p.Ok) : p.at p.h = p.nx := by
  unfold Pq.at Pq.nx nxt Pq.h
  rfl
theorem Pq.nx_mod {p : Pq} (o : p.Ok) (h : p.h < p.n) : p.nx % 4096 = 0 := by
  have a := o.l0; have b := o.l1; have c := o.n1
  revert h
  unfold Pq.nx nxt Pq.h ahd
  omega

theorem Pq.mi_zero (p : Pq) (M : Mem) : p.mi M 0 = M := by unfold Pq.mi; rw [if_pos (.inr rfl)]
theorem Pq.mi_no {p : Pq} (h : p.pg = false) (M : Mem) (i : Nat) : p.mi M i = M := by unfold Pq.mi; rw [if_pos (.inl h)]
theorem Pq.fr_no {p : Pq} (h : p.pg = false) (M : Mem) (i : Nat) : p.fr M i = 0 := by unfold Pq.fr; rw [if_pos (.inl h)]
theorem Pq.mi_fst {p : Pq} (h : p.pg = true) (M : Mem) {i : Nat} (h0 : i ≠ 0) (hi : i ≤ p.h) : p.mi M i = p.m1 M := by
  unfold Pq.mi; rw [if_neg (by rw [h]; simp [h0]), if_pos hi]
theorem Pq.mi_snd {p : Pq} (h : p.pg = true) (M : Mem) {i : Nat} (hi : p.h < i) : p.mi M i = fMem (p.m1 M) p.c p.nx p.wr p.us p.wp := by
  unfold Pq.mi; rw [if_neg (by rw [h]; simp; omega), if_neg (by omega)]
theorem Pq.fr_fst {p : Pq} (h : p.pg = true) (M : Mem) {i : Nat} (h0 : i ≠ 0) (hi : i ≤ p.h) : p.fr M i = fFr M p.c p.l := by
  unfold Pq.fr; rw [if_neg (by rw [h]; simp [h0]), if_pos hi]
theorem Pq.fr_snd {p : Pq} (h : p.pg = true) (M : Mem) {i : Nat} (hi : p.h < i) : p.fr M i = fFr (p.m1 M) p.c p.nx := by
  unfold Pq.fr; rw [if_neg (by rw [h]; simp; omega), if_neg (by omega)]

/-- Ahead of a page that is asked for: the memory that it is asked of, and what is found. -/
theorem Pq.ask {p : Pq} (o : p.Ok) (hp : p.pg = true) (M : Mem) {i : Nat} (hi : i < p.n) (ha : p.asks i = true) :
    fMem (p.mi M i) p.c (p.at i) p.wr p.us p.wp = p.mi M (i + 1) ∧ fFr (p.mi M i) p.c (p.at i) = p.fr M (i + 1) ∧ (p.well M i → fOk (p.mi M i) p.c (p.at i) p.wr p.us p.wp = true → p.well M (i + 1)) := by
  have hb := p.h_bd o
  by_cases h0 : i = 0
  · subst h0
    rw [p.mi_zero, p.at_zero o, p.mi_fst hp M (i := 0 + 1) (by omega) hb.1, p.fr_fst hp M (i := 0 + 1) (by omega) hb.1]
    exact ⟨rfl, rfl, fun _ h _ => ⟨fun _ => h, fun g => by omega⟩⟩
  · have e : i = p.h := by
      refine (p.asks_eq o hi h0).1 ?_
      unfold Pq.asks at ha
      simpa [h0] using ha
    rw [e, p.at_h o, p.mi_fst hp M (i := p.h) (by omega) (Nat.le_refl _), p.mi_snd hp M (i := p.h + 1) (by omega), p.fr_snd hp M (i := p.h + 1) (by omega)]
    exact ⟨rfl, rfl, fun hw h _ => ⟨fun _ => (hw hp).1 (by omega), fun _ => h⟩⟩
/-- No page is asked for: memory, and the frame, are as they were. -/
theorem Pq.rest {p : Pq} (o : p.Ok) (hp : p.pg = true) (M : Mem) {i : Nat} (hi : i < p.n) (ha : p.asks i = false) :
    i ≠ 0 ∧ p.mi M (i + 1) = p.mi M i ∧ p.fr M (i + 1) = p.fr M i ∧ (p.well M i → p.well M (i + 1)) := by
  have h0 : i ≠ 0 := fun e => by subst e; simp [Pq.asks] at ha
  have e : i ≠ p.h := fun e => by
    have := (p.asks_eq o hi h0).2 e
    unfold Pq.asks at ha
    simp [this] at ha
  have hb := p.h_bd o
  by_cases g : i < p.h
  · rw [p.mi_fst hp M (i := i + 1) (by omega) (by omega), p.mi_fst hp M h0 (by omega), p.fr_fst hp M (i := i + 1) (by omega) (by omega), p.fr_fst hp M h0 (by omega)]
    exact ⟨h0, rfl, rfl, fun hw _ => ⟨fun _ => (hw hp).1 (by omega), fun k => by omega⟩⟩
  · rw [p.mi_snd hp M (i := i + 1) (by omega), p.mi_snd hp M (i := i) (by omega), p.fr_snd hp M (i := i + 1) (by omega), p.fr_snd hp M (i := i) (by omega)]
    exact ⟨h0, rfl, rfl, fun hw _ => ⟨fun _ => (hw hp).1 (by omega), fun k => (hw hp).2 (by omega)⟩⟩
theorem Pq.well_no {p : Pq} (h : p.pg = false) (M : Mem) (i : Nat) : p.well M i := fun e => by rw [h] at e; cases e
theorem Pq.well0 (p : Pq) (M : Mem) : p.well M 0 := fun _ => ⟨fun h => by omega, fun h => by omega⟩

/-- A page's fault. -/
theorem Pq.bad {p : Pq} (o : p.Ok) (hp : p.pg = true) (M : Mem) {i : Nat} (hi : i < p.n) (ha : p.asks i = true) (hw : p.well M i) (hk : fOk (p.mi M i) p.c (p.at i) p.wr p.us p.wp = false) :
    (p.q M).f = some ⟨14, fCode (p.mi M i) p.c (p.at i) p.wr p.us p.wp, p.at i⟩ ∧ (p.q M).m = p.mi M (i + 1) := by
  have hb := p.h_bd o
  rw [← (p.ask o hp M hi ha).1]
  by_cases h0 : i = 0
  · subst h0
    rw [p.mi_zero, p.at_zero o] at hk ⊢
    unfold Pq.q findQ
    rw [if_neg (by rw [hp]; simp), if_pos hk]
    refine ⟨rfl, ?_⟩
    unfold fMem
    rw [if_neg (by rw [hk]; simp)]
  · have e : i = p.h := by
      refine (p.asks_eq o hi h0).1 ?_
      unfold Pq.asks at ha
      simpa [h0] using ha
    have g1 := (hw hp).1 (by omega)
    rw [e] at hi
    rw [e, p.at_h o, p.mi_fst hp M (i := p.h) (by omega) (Nat.le_refl _)] at hk ⊢
    unfold Pq.q findQ
    rw [if_neg (by rw [hp]; simp), if_neg (by rw [g1]; simp), if_neg (show ¬ p.n ≤ ahd p.l p.n by show ¬ p.n ≤ p.h; omega), if_pos (show fOk (fMem M p.c p.l p.wr p.us p.wp) p.c (nxt p.l p.n) p.wr p.us p.wp = false from hk)]
    have e2 : fMem (p.m1 M) p.c p.nx p.wr p.us p.wp = p.m1 M := by
      unfold fMem
      exact if_neg (by rw [hk]; simp)
    exact ⟨rfl, e2.symm⟩

/-- All is well. -/
theorem Pq.good {p : Pq} (o : p.Ok) {M : Mem} (hr : RdB M) (hw : p.well M p.n) : (p.q M).f = none ∧ (p.q M).m = p.mi M p.n ∧ (p.q M).s.n = p.n ∧ ∀ j, j < p.n → (p.q M).s.at j = p.pl M j := by
  have hb := p.h_bd o
  have n0 : 1 ≤ p.n := by have := o.n1; omega
  cases hp : p.pg with
  | false =>
    have e : p.q M = ⟨none, M, ⟨p.l, 0, p.n, p.n⟩⟩ := by unfold Pq.q findQ; rw [if_pos hp]
    rw [e, p.mi_no hp]
    refine ⟨rfl, rfl, rfl, fun j hj => ?_⟩
    unfold Sp.at Pq.pl Pq.at
    rw [if_pos hj, if_pos hp]
  | true =>
    have g1 := (hw hp).1 n0
    have f1 := fTwo_bd hr p.c p.l
    have f2 := fTwo_bd (hr.find p.c p.l p.wr p.us p.wp) p.c p.nx
    have l0 := o.l0
    have l1 := o.l1
    have n1 := o.n1
    by_cases h : p.n ≤ p.h
    · have e : p.q M = ⟨none, p.m1 M, ⟨plF M p.c p.l p.wr p.us p.wp, 0, p.h, p.n⟩⟩ := by
        unfold Pq.q findQ
        rw [if_neg (by rw [hp]; simp), if_neg (by rw [g1]; simp), if_pos (show p.n ≤ ahd p.l p.n from h)]
        rfl
      rw [e, p.mi_fst hp M (by omega) h]
      refine ⟨rfl, rfl, rfl, fun j hj => ?_⟩
      unfold Sp.at Pq.pl
      rw [if_pos (show j < p.h by omega), if_neg (by rw [hp]; simp), p.fr_fst hp M (by omega) (by omega)]
      show (plF M p.c p.l p.wr p.us p.wp + j) % 4294967296 = _
      unfold Pq.h ahd at h
      unfold plF fFr Pq.at
      omega
    · have g2 := (hw hp).2 (by omega)
      have e : p.q M = ⟨none, fMem (p.m1 M) p.c p.nx p.wr p.us p.wp, ⟨plF M p.c p.l p.wr p.us p.wp, plF (p.m1 M) p.c p.nx p.wr p.us p.wp, p.h, p.n⟩⟩ := by
        unfold Pq.q findQ
        rw [if_neg (by rw [hp]; simp), if_neg (by rw [g1]; simp), if_neg (show ¬ p.n ≤ ahd p.l p.n from h), if_neg (show ¬ fOk (fMem M p.c p.l p.wr p.us p.wp) p.c (nxt p.l p.n) p.wr p.us p.wp = false by show ¬ fOk (p.m1 M) p.c p.nx p.wr p.us p.wp = false; rw [g2]; simp)]
        rfl
      rw [e, p.mi_snd hp M (by omega)]
      have nm := p.nx_mod o (by omega)
      refine ⟨rfl, rfl, rfl, fun j hj => ?_⟩
      unfold Sp.at Pq.pl
      by_cases hj2 : j < p.h
      · rw [if_pos hj2, if_neg (by rw [hp]; simp), p.fr_fst hp M (by omega) (by omega)]
        show (plF M p.c p.l p.wr p.us p.wp + j) % 4294967296 = _
        clear nm e f2
        unfold Pq.h ahd at h hj2
        unfold plF fFr Pq.at
        omega
      · rw [if_neg hj2, if_neg (by rw [hp]; simp), p.fr_snd hp M (by omega)]
        show (plF (p.m1 M) p.c p.nx p.wr p.us p.wp + ((j : Int) - p.h)) % 4294967296 = _
        have ea : p.at j % 4096 = (j : Int) - p.h := by
          clear nm e f2 f1 g1 g2
          unfold Pq.h ahd at h hj2 ⊢
          unfold Pq.at
          omega
        rw [ea]
        unfold plF fFr Pq.m1
        unfold Pq.nx at nm
        unfold Pq.m1 Pq.nx at *
        rw [nm]
        omega
end Go.Proofs.YtmmnnafjikilpaaGreat
