/- Memory: a plain model of it, and what it means that a world holds that model from a block on. -/
import Derived.Test.YtmmnnafjikilpaaGrow
import Derived.Maps.OwnSet
import Derived.Maps.Range
import Derived.Laws.CopyOwn
namespace Go.Proofs.Ytmmnnafjikilpaa
open Go.ChangeShapes Go.WideShapes Go.ChangeAt Go.RowKit Go.Maps
set_option linter.unusedVariables false

/-- Outside the blocks of S the world is as it was. -/
structure Kp (S : Nat → Prop) (w w' : World) : Prop where
  os : w'.os = w.os
  tape : w'.tape = w.tape
  output : w'.output = w.output
  size : w.heap.size ≤ w'.heap.size
  block : ∀ k, k < w.heap.size → ¬ S k → w'.heap[k]? = w.heap[k]?

theorem Kp.refl (S : Nat → Prop) (w : World) : Kp S w w := ⟨rfl, rfl, rfl, Nat.le_refl _, fun _ _ _ => rfl⟩

theorem Kp.trans {S : Nat → Prop} {a b c : World} (h : Kp S a b) (k : Kp S b c) : Kp S a c :=
  ⟨k.os.trans h.os, k.tape.trans h.tape, k.output.trans h.output, Nat.le_trans h.size k.size, fun i hi hs => (k.block i (Nat.lt_of_lt_of_le hi h.size) hs).trans (h.block i hi hs)⟩

theorem Kp.mono {S T : Nat → Prop} {a b : World} (h : Kp S a b) (hST : ∀ k, k < a.heap.size → S k → T k) : Kp T a b :=
  ⟨h.os, h.tape, h.output, h.size, fun i hi hs => h.block i hi (fun g => hs (hST i hi g))⟩

theorem Kp.alloc (S : Nat → Prop) (w : World) (o : Obj) : Kp S w (w.alloc o) :=
  ⟨rfl, rfl, rfl, by simp, fun k hk _ => Below.heap_alloc _ _ _ hk⟩

theorem Kp.setCell {S : Nat → Prop} (w : World) {p : Addr} (hp : S p.block) (u : Value) : Kp S w (w.setCell p u) :=
  ⟨rfl, rfl, rfl, by simp [World.setCell], fun k hk hs => Below.heap_setCell _ _ _ _ (fun e => hs (e ▸ hp))⟩

theorem Kp.setRow {S : Nat → Prop} (w : World) {g : Nat} (hp : S g) (cs : Array Value) : Kp S w (w.setRow g cs) :=
  ⟨rfl, rfl, rfl, by simp [World.setRow], fun k hk hs => setRow_other w g k cs (fun e => hs (e ▸ hp))⟩

theorem Kp.turned {S : Nat → Prop} {w w' : World} {b : Nat} (h : w.mapTurned w' b) (hb : S b) : Kp S w w' := by
  have g := h.grown
  exact ⟨g.os, g.tape, g.output, g.size, fun k hk hs => g.block k hk (fun e => hs (by cases e; exact hb))⟩

theorem Kp.grownBy {S : Nat → Prop} {w w' : World} {r : Option Nat} (g : w.grownBy w' r) (hb : ∀ b, r = some b → S b) : Kp S w w' :=
  ⟨g.os, g.tape, g.output, g.size, fun k hk hs => g.block k hk (fun e => hs (hb k e.symm))⟩

theorem Kp.below {S : Nat → Prop} {w w' : World} {B : Nat} (h : Kp S w w') (hB : B ≤ w.heap.size) (hS : ∀ k, S k → B ≤ k) : Below B w w' :=
  ⟨h.os, h.tape, h.output, h.size, fun k hk => h.block k (by omega) (fun g => by have := hS k g; omega)⟩

theorem Kp.ofBelow {S : Nat → Prop} {w w' : World} {B : Nat} (h : Below B w w') (hS : ∀ k, k < w.heap.size → B ≤ k → S k) : Kp S w w' :=
  ⟨h.os, h.tape, h.output, h.size, fun k hk hs => h.block k (by rcases Nat.lt_or_ge k B with g | g; exact g; exact (hs (hS k hk g)).elim)⟩

theorem Kp.drew {S : Nat → Prop} {w w' : World} (h : Kp S w w') : Kp S w w'.drew := ⟨h.os, h.tape, h.output, h.size, h.block⟩
theorem Kp.drewN {S : Nat → Prop} {w w' : World} (h : Kp S w w') (n : Nat) : Kp S w (w'.drewN n) := ⟨h.os, h.tape, h.output, h.size, h.block⟩

/-! ### the plain model -/
structure Mem where
  n : Nat
  byte : Nat → Int
  only : Nat → Bool
  wt : Int → Bool
  nt : Int → Bool
  closed : Bool

def Mem.place (M : Mem) (a : Int) : Int := if M.closed = true ∧ a / 1048576 % 2 = 1 then a - 1048576 else a

/-- How a pointer to a page reads in the map of pages: its block's number; nil reads as -1. -/
def ptrElem : Value → Option (DataW Unit × List MemPlace)
  | .pointer none => some (.lit (.int .i64 (-1)), [])
  | .pointer (some ⟨b, 0, none⟩) => some (.lit (.int .i64 b), [])
  | _ => none

theorem ptrElem_nil : ptrElem (.pointer none) = some (.lit (.int .i64 (-1)), []) := rfl
theorem ptrElem_some (b : Nat) : ptrElem (.pointer (some ⟨b, 0, none⟩)) = some (.lit (.int .i64 b), []) := rfl

theorem ptrElem_inv {v : Value} {c : Int} {ps : List MemPlace} (h : ptrElem v = some (.lit (.int .i64 c), ps)) : (v = .pointer none ∧ c = -1) ∨ ∃ b : Nat, v = .pointer (some ⟨b, 0, none⟩) ∧ c = b := by
  unfold ptrElem at h
  split at h
  · left; simp at h; exact ⟨rfl, h.1.symm⟩
  · right; rename_i b; simp at h; exact ⟨b, rfl, h.1.symm⟩
  · cases h

def noPage : DataW Unit := .lit (.int .i64 (-1))
def pageAt (B n : Nat) (i : Int) : Int := if 0 ≤ i ∧ i < n then (B : Int) + 4 + i else -1

structure RamAt (w : World) (B : Nat) (M : Mem) : Prop where
  le : M.n ≤ 256
  r : w.heap[B + 3]? = some (.cells #[.map (some B), .bool M.closed, .map (some (B + 1)), .map (some (B + 2))] 92 (0, 0))
  p : ∃ D, w.ownsMap Try.prog 3 ptrElem B 256 D ∧ (∀ i : Int, D.atKey (.int .i64 i) noPage = .lit (.int .i64 (pageAt B M.n i))) ∧ (∀ i : Int, Maps.has D (.int .i64 i) = decide (0 ≤ i ∧ i < M.n)) ∧ Maps.size D = M.n
  pg : ∀ i, i < M.n → ∃ cs, w.heap[B + 4 + i]? = some (.cells cs 100 (0, 0)) ∧ cs.size = 4097 ∧ (∀ j, j < 4096 → cs[j]? = some (.int .u8 (M.byte (4096 * i + j)))) ∧ cs[4096]? = some (.bool (M.only i))
  wm : ∃ D : DataW Unit, w.ownsMap Try.prog 23 unitElem (B + 1) 16384 D ∧ ∀ x : Int, Maps.has D (.int .u32 x) = M.wt x
  nm : ∃ D : DataW Unit, w.ownsMap Try.prog 23 unitElem (B + 2) 16384 D ∧ ∀ x : Int, Maps.has D (.int .u32 x) = M.nt x
  wb : ∀ x, M.wt x = true → 0 ≤ x ∧ x < 4096 * M.n ∧ x % 64 = 0
  nb : ∀ x, M.nt x = true → 0 ≤ x ∧ x < 4096 * M.n ∧ x % 64 = 0
  bb : ∀ p, p < 4096 * M.n → 0 ≤ M.byte p ∧ M.byte p < 256

def inRam (B n k : Nat) : Prop := B ≤ k ∧ k < B + 4 + n

theorem RamAt.lt {w : World} {B : Nat} {M : Mem} (h : RamAt w B M) : B + 4 + M.n ≤ w.heap.size := by
  have h3 := (Array.getElem?_eq_some_iff.1 h.r).1
  rcases Nat.eq_zero_or_pos M.n with e | e
  · omega
  · obtain ⟨cs, hc, _⟩ := h.pg (M.n - 1) (by omega)
    have := (Array.getElem?_eq_some_iff.1 hc).1
    omega

theorem owns_at {H : Type} {P : Program} {k : TypeId} {R : Value → Option (DataW H × List MemPlace)} {w w' : World} {b n : Nat} {D : DataW H} (h : w.ownsMap P k R b n D) (e : w'.heap[b]? = w.heap[b]?) : w'.ownsMap P k R b n D := by
  obtain ⟨es, clock, hb, r⟩ := h
  exact ⟨es, clock, e.trans hb, r⟩

/-- What does not touch memory's own blocks leaves it as it is. -/
theorem RamAt.kept {w w' : World} {B : Nat} {M : Mem} (h : RamAt w B M) (e : ∀ k, inRam B M.n k → w'.heap[k]? = w.heap[k]?) : RamAt w' B M where
  le := h.le
  r := (e _ ⟨by omega, by omega⟩).trans h.r
  p := by obtain ⟨D, h1, h2⟩ := h.p; exact ⟨D, owns_at h1 (e _ ⟨by omega, by omega⟩), h2⟩
  pg := fun i hi => by obtain ⟨cs, h1, h2⟩ := h.pg i hi; exact ⟨cs, (e _ ⟨by omega, by omega⟩).trans h1, h2⟩
  wm := by obtain ⟨D, h1, h2⟩ := h.wm; exact ⟨D, owns_at h1 (e _ ⟨by omega, by omega⟩), h2⟩
  nm := by obtain ⟨D, h1, h2⟩ := h.nm; exact ⟨D, owns_at h1 (e _ ⟨by omega, by omega⟩), h2⟩
  wb := h.wb
  nb := h.nb
  bb := h.bb

theorem RamAt.kp {S : Nat → Prop} {w w' : World} {B : Nat} {M : Mem} (h : RamAt w B M) (k : Kp S w w') (hS : ∀ k, inRam B M.n k → ¬ S k) : RamAt w' B M :=
  h.kept fun i hi => k.block i (by have := h.lt; have := hi.2; omega) (hS i hi)

theorem RamAt.grown {w w' : World} {B : Nat} {M : Mem} (h : RamAt w B M) (g : Grown w w') : RamAt w' B M :=
  h.kept fun i hi => Grown.block g (by have := h.lt; have := hi.2; omega)

theorem RamAt.alloc {w : World} {B : Nat} {M : Mem} (h : RamAt w B M) (o : Obj) : RamAt (w.alloc o) B M :=
  h.kp (Kp.alloc (fun _ => False) w o) (fun _ _ f => f)

/-- The cells of the struct. -/
theorem RamAt.c0 {w : World} {B : Nat} {M : Mem} (h : RamAt w B M) : w.cell? ⟨B + 3, 0, none⟩ = some (.map (some B)) := by simp [World.cell?, h.r]
theorem RamAt.c1 {w : World} {B : Nat} {M : Mem} (h : RamAt w B M) : w.cell? ⟨B + 3, 1, none⟩ = some (.bool M.closed) := by simp [World.cell?, h.r]
theorem RamAt.c2 {w : World} {B : Nat} {M : Mem} (h : RamAt w B M) : w.cell? ⟨B + 3, 2, none⟩ = some (.map (some (B + 1))) := by simp [World.cell?, h.r]
theorem RamAt.c3 {w : World} {B : Nat} {M : Mem} (h : RamAt w B M) : w.cell? ⟨B + 3, 3, none⟩ = some (.map (some (B + 2))) := by simp [World.cell?, h.r]
theorem RamAt.fz {w : World} {B : Nat} {M : Mem} (h : RamAt w B M) (j : Nat) : w.frozen? ⟨B + 3, j, none⟩ = false := by simp [World.frozen?, h.r]

/-! ### keys, and how many there are -/
theorem u32T : Try.prog.underlying 23 = some (.int .u32) := by kernel_rfl
theorem intT : Try.prog.underlying 3 = some (.int .i64) := by kernel_rfl
theorem setT : Try.prog.underlying 90 = some (.map 23 136) := by kernel_rfl
theorem pagesT : Try.prog.underlying 89 = some (.map 3 97) := by kernel_rfl
theorem zeroUnit (w : World) : (zeroValue 136).run Try.prog w = .ok (.agg #[]) w := by kernel_rfl
theorem zeroPtr (w : World) : (zeroValue 97).run Try.prog w = .ok (.pointer none) w := by kernel_rfl

theorem keyU {x : Int} (h0 : 0 ≤ x) (h1 : x < 4294967296) : keyOf Try.prog 23 (.int .u32 x) = some (.int .u32 x) :=
  keyOf_int_mk u32T (WalkArith.wf_u32 ⟨h0, by omega⟩)
theorem keyI {x : Int} (h0 : -9223372036854775808 ≤ x) (h1 : x ≤ 9223372036854775807) : keyOf Try.prog 3 (.int .i64 x) = some (.int .i64 x) :=
  keyOf_int_mk intT (WalkArith.wf_i64 ⟨h0, h1⟩)

theorem nodup_range_le : ∀ (n : Nat) (l : List Nat), l.Nodup → (∀ x ∈ l, x < n) → l.length ≤ n
  | 0, [], _, _ => Nat.le_refl _
  | 0, x :: _, _, h => absurd (h x (by simp)) (Nat.not_lt_zero _)
  | n + 1, l, hn, h => by
    have e : (l.filter (· ≠ n)).length ≤ n := nodup_range_le n _ (hn.filter _) (fun x hx => by
      rw [List.mem_filter] at hx
      have := h x hx.1
      have h2 : x ≠ n := by simpa using hx.2
      omega)
    have c : l.length ≤ (l.filter (· ≠ n)).length + 1 := by
      have hc : (l.filter (· ≠ n)).length + (l.filter (fun x => !decide (x ≠ n))).length = l.length := by
        clear e hn h
        induction l with
        | nil => rfl
        | cons a r ih => by_cases ha : a = n <;> simp_all <;> omega
      have hd : (l.filter (fun x => !decide (x ≠ n))).length ≤ 1 := by
        have hq : (l.filter (fun x => !decide (x ≠ n))).Nodup := hn.filter _
        have hall : ∀ x ∈ l.filter (fun x => !decide (x ≠ n)), x = n := fun x hx => by
          rw [List.mem_filter] at hx; simpa using hx.2
        match hl : l.filter (fun x => !decide (x ≠ n)), hq, hall with
        | [], _, _ => simp
        | [a], _, _ => simp
        | a :: b :: r, hq, hall =>
          have ea := hall a (by simp)
          have eb := hall b (by simp)
          rw [ea, eb] at hq
          simp at hq
      omega
    omega

/-- A set of granules is no greater than how many granules there are. -/
theorem set_size {w : World} {b n : Nat} {D : DataW Unit} (h : w.ownsMap Try.prog 23 unitElem b n D) (f : Int → Bool) (hf : ∀ x : Int, Maps.has D (.int .u32 x) = f x) (hb : ∀ x, f x = true → 0 ≤ x ∧ x < 1048576 ∧ x % 64 = 0) : Maps.size D ≤ 16384 := by
  obtain ⟨es, hD, hp, hk⟩ := h.entries (int_keyed u32T)
  obtain ⟨es', clock, _, F, _, hD'⟩ := h
  have ks : ∀ p ∈ es, ∃ x : Int, p.1 = .int .u32 x ∧ f x = true := by
    intro p hpm
    have hm : p ∈ (es'.toList.map (Go.WideElems.rg Try.prog 23 unitElem)) := by
      rw [hD] at hD'
      have e := DataW.map.inj hD'
      rw [e] at hpm
      exact mem_sorted.1 hpm
    obtain ⟨v, hv⟩ := fit_keys F p hm
    have hx : ∃ x : Int, p.1 = .int .u32 x := by
      cases v <;> simp [keyOf, mapKey] at hv
      exact ⟨_, hv.2.symm⟩
    obtain ⟨x, hx⟩ := hx
    refine ⟨x, hx, ?_⟩
    rw [← hf x, hD, Maps.has_eq, List.any_eq_true]
    exact ⟨p, hpm, by rw [hx]; simp [Lit.sameKey]⟩
  have q : (es.map fun p => match p.1 with | .int _ x => x.toNat / 64 | _ => 0).length ≤ 16384 := by
    refine nodup_range_le 16384 _ ?_ ?_
    · refine List.pairwise_map.2 (hp.imp_of_mem fun {p q} hp' hq' hne e => hne ?_)
      obtain ⟨a, ha, fa⟩ := ks p hp'
      obtain ⟨c, hc, fc⟩ := ks q hq'
      rw [ha, hc] at e ⊢
      simp only at e
      have := hb a fa
      have := hb c fc
      have : a = c := by omega
      rw [this]
    · intro y hy
      obtain ⟨p, hp', rfl⟩ := List.mem_map.1 hy
      obtain ⟨a, ha, fa⟩ := ks p hp'
      have := hb a fa
      rw [ha]
      simp only
      omega
  rw [hD, Maps.size_eq]
  simpa using q

theorem owns_tight {H : Type} {P : Program} {k : TypeId} {R : Value → Option (DataW H × List MemPlace)} {w : World} {b n m : Nat} {D : DataW H} (h : w.ownsMap P k R b n D) (hm : Maps.size D ≤ m) : w.ownsMap P k R b m D := by
  obtain ⟨es, clock, hb, F, hs, hD⟩ := h
  refine ⟨es, clock, hb, F, ?_, hD⟩
  rw [hD] at hm
  simpa [Maps.size, length_sorted] using hm

end Go.Proofs.Ytmmnnafjikilpaa
