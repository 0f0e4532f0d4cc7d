/- The document's disk: what it means that a world holds it. -/
import Derived.Test.YtddalplpmgmplaaIdSame
namespace Go.Proofs.Ytddalplpmgmplaa
open Go.ChangeShapes Go.WideShapes Go.ChangeAt Go.RowKit
set_option linter.unusedVariables false

/-- The k-th cell of its block. -/
def xC (Dv : Value) (R : Nat → Int) (c : Int) (buf : Nat → Int) (dn mo : Int) (mk fl : Bool) (sv : Value) (k : Nat) : Value :=
  if k = 0 then Dv else if k < 8 then .int .u8 (R (k - 1)) else if k = 8 then .int .u8 c else if k < 521 then .int .u8 (buf (k - 9)) else if k = 521 then .int .i64 dn else if k = 522 then .int .i64 mo else if k = 523 then .bool mk else if k = 524 then .bool fl else sv

def YAt (w : World) (B : Nat) (f : Nat → Value) : Prop := ∃ cur : Array Value, w.heap[B]? = some (.cells cur 45 (0, 0)) ∧ cur.size = 526 ∧ ∀ k, k < 526 → cur[k]? = some (f k)

section
variable {w w' : World} {B : Nat} {f : Nat → Value}

theorem YAt.kept {S : Nat → Prop} (h : YAt w B f) (k : Kp S w w') (hS : ¬ S B) : YAt w' B f := by
  obtain ⟨cur, h1, h2⟩ := h
  exact ⟨cur, heap_kept h1 k hS, h2⟩

theorem YAt.lt (h : YAt w B f) : B < w.heap.size := by
  obtain ⟨cur, h1, h2⟩ := h
  exact heap_lt h1

theorem YAt.cell (h : YAt w B f) (k : Nat) (hk : k < 526) : w.cell? ⟨B, k, none⟩ = some (f k) := by
  obtain ⟨cur, h1, h2, h3⟩ := h
  rw [cell_at h1]
  exact h3 k hk

theorem YAt.fz (h : YAt w B f) (k : Nat) : w.frozen? ⟨B, k, none⟩ = false := by
  obtain ⟨cur, h1, h2, h3⟩ := h
  exact frozen_at h1

theorem YAt.of (h : YAt w B f) {g : Nat → Value} (e : ∀ k, k < 526 → f k = g k) : YAt w B g := by
  obtain ⟨cur, h1, h2, h3⟩ := h
  exact ⟨cur, h1, h2, fun k hk => by rw [h3 k hk, e k hk]⟩

theorem YAt.set (h : YAt w B f) (k : Nat) (hk : k < 526) (v : Value) : YAt (w.setCell ⟨B, k, none⟩ v) B (fun j => if j = k then v else f j) := by
  obtain ⟨cur, h1, h2, h3⟩ := h
  refine ⟨_, heap_set h1, by rw [Array.size_setIfInBounds]; exact h2, fun j hj => ?_⟩
  rw [Array.getElem?_setIfInBounds]
  by_cases e : k = j
  · subst e
    rw [if_pos rfl, if_pos (by omega)]
    show some v = some (if k = k then v else f k)
    rw [if_pos rfl]
  · rw [if_neg e]
    show cur[j]? = some (if j = k then v else f j)
    rw [if_neg (by omega)]
    exact h3 j hj

theorem YAt.laid (h : YAt w B f) {cur cur' : Array Value} (hb : w.heap[B]? = some (.cells cur 45 (0, 0))) (hb' : w'.heap[B]? = some (.cells cur' 45 (0, 0))) {o n : Nat} {g : Nat → Value} (hl : Laid cur cur' o n g) : YAt w' B (fun j => if o ≤ j ∧ j < o + n then g (j - o) else f j) := by
  obtain ⟨c0, h1, h2, h3⟩ := h
  rw [h1] at hb
  have e : c0 = cur := by injection hb with hb; injection hb
  subst e
  refine ⟨cur', hb', by rw [hl.1]; exact h2, fun j hj => ?_⟩
  rw [hl.2 j]
  by_cases e : o ≤ j ∧ j < o + n
  · rw [if_pos e]
    show some (g (j - o)) = some (if o ≤ j ∧ j < o + n then g (j - o) else f j)
    rw [if_pos e]
  · rw [if_neg e]
    show c0[j]? = some (if o ≤ j ∧ j < o + n then g (j - o) else f j)
    rw [if_neg e]
    exact h3 j hj
end

section
variable {Dv : Value} {R buf : Nat → Int} {c dn mo : Int} {mk fl : Bool} {sv : Value}

theorem xC_R {j : Nat} (h : j < 7) : xC Dv R c buf dn mo mk fl sv (1 + j) = .int .u8 (R j) := by
  unfold xC
  rw [if_neg (by omega), if_pos (by omega), show 1 + j - 1 = j by omega]
theorem xC_b {j : Nat} (h : j < 512) : xC Dv R c buf dn mo mk fl sv (9 + j) = .int .u8 (buf j) := by
  unfold xC
  rw [if_neg (by omega), if_neg (by omega), if_neg (by omega), if_pos (by omega), show 9 + j - 9 = j by omega]

theorem xC_setR {j : Nat} (h : j < 7) (x : Int) (k : Nat) : (if k = 1 + j then Value.int .u8 x else xC Dv R c buf dn mo mk fl sv k) = xC Dv (setB R j x) c buf dn mo mk fl sv k := by
  by_cases e : k = 1 + j
  · subst e
    rw [if_pos rfl, xC_R h]
    unfold setB
    rw [if_pos rfl]
  · rw [if_neg e]
    unfold xC setB
    repeat' split
    all_goals first | rfl | omega

theorem xC_setc (x : Int) (k : Nat) : (if k = 8 then Value.int .u8 x else xC Dv R c buf dn mo mk fl sv k) = xC Dv R x buf dn mo mk fl sv k := by
  by_cases e : k = 8
  · subst e; rfl
  · rw [if_neg e]; unfold xC; rw [if_neg e, if_neg e]
theorem xC_setdn (x : Int) (k : Nat) : (if k = 521 then Value.int .i64 x else xC Dv R c buf dn mo mk fl sv k) = xC Dv R c buf x mo mk fl sv k := by
  by_cases e : k = 521
  · subst e; rfl
  · rw [if_neg e]; unfold xC; rw [if_neg e, if_neg e]
theorem xC_setmo (x : Int) (k : Nat) : (if k = 522 then Value.int .i64 x else xC Dv R c buf dn mo mk fl sv k) = xC Dv R c buf dn x mk fl sv k := by
  by_cases e : k = 522
  · subst e; rfl
  · rw [if_neg e]; unfold xC; rw [if_neg e, if_neg e]
theorem xC_setmk (x : Bool) (k : Nat) : (if k = 523 then Value.bool x else xC Dv R c buf dn mo mk fl sv k) = xC Dv R c buf dn mo x fl sv k := by
  by_cases e : k = 523
  · subst e; rfl
  · rw [if_neg e]; unfold xC; rw [if_neg e, if_neg e]
theorem xC_setfl (x : Bool) (k : Nat) : (if k = 524 then Value.bool x else xC Dv R c buf dn mo mk fl sv k) = xC Dv R c buf dn mo mk x sv k := by
  by_cases e : k = 524
  · subst e; rfl
  · rw [if_neg e]; unfold xC; rw [if_neg e, if_neg e]
theorem xC_setsv (x : Value) (k : Nat) (hk : k < 526) : (if k = 525 then x else xC Dv R c buf dn mo mk fl sv k) = xC Dv R c buf dn mo mk fl x k := by
  by_cases e : k = 525
  · subst e; rfl
  · rw [if_neg e]
    unfold xC
    repeat' split
    all_goals first | rfl | omega
theorem xC_same {b' : Nat → Int} (h : ∀ i, i < 512 → buf i = b' i) (k : Nat) : xC Dv R c buf dn mo mk fl sv k = xC Dv R c b' dn mo mk fl sv k := by
  unfold xC
  by_cases a : k < 521
  · by_cases b : 9 ≤ k
    · rw [h _ (by omega)]
    · repeat' split
      all_goals first | rfl | omega
  · repeat' split
    all_goals first | rfl | omega
theorem xC_laybuf {o m : Nat} (h : o + m ≤ 512) (g : Nat → Int) (k : Nat) : (if 9 + o ≤ k ∧ k < 9 + o + m then Value.int .u8 (g (k - (9 + o))) else xC Dv R c buf dn mo mk fl sv k) = xC Dv R c (layB buf o m g) dn mo mk fl sv k := by
  by_cases e : 9 + o ≤ k ∧ k < 9 + o + m
  · rw [if_pos e]
    obtain ⟨j, rfl⟩ : ∃ j, k = 9 + j := ⟨k - 9, by omega⟩
    rw [xC_b (by omega)]
    unfold layB
    rw [if_pos (by omega), show 9 + j - (9 + o) = j - o by omega]
  · rw [if_neg e]
    by_cases q : 9 ≤ k ∧ k < 521
    · obtain ⟨j, rfl⟩ : ∃ j, k = 9 + j := ⟨k - 9, by omega⟩
      rw [xC_b (by omega), xC_b (by omega)]
      unfold layB
      rw [if_neg (by omega)]
    · unfold xC
      repeat' split
      all_goals first | rfl | omega
end

/-- The document's bytes: a slice of a block of their own. -/
def DRow (w : World) (gD cap n : Nat) (D : Nat → Int) : Prop := ∃ cur, w.heap[gD]? = some (.cells cur 5 (0, 0)) ∧ 512 * n ≤ cur.size ∧ ∀ j, j < 512 * n → cur[j]? = some (.int .u8 (D j))

theorem DRow.kept {S : Nat → Prop} {w w' : World} {gD cap n : Nat} {D : Nat → Int} (h : DRow w gD cap n D) (k : Kp S w w') (hS : ¬ S gD) : DRow w' gD cap n D := by
  obtain ⟨cur, h1, h2⟩ := h
  exact ⟨cur, heap_kept h1 k hS, h2⟩

structure XAt (w : World) (B gD cap : Nat) (dn : Int) (sv : Value) (d : Id) : Prop where
  blk : YAt w B (xC (.slice (some ⟨gD, 0, none⟩) (512 * d.n) cap) d.reg d.c d.buf dn d.mode d.mark d.failed sv)
  row : DRow w gD cap d.n d.D
  le : 512 * d.n ≤ cap
  log : OwnI w sv d.log

/-- The bare block. -/
structure XRaw (w : World) (B gD cap n : Nat) (sv : Value) (l : List Int) (D R buf : Nat → Int) (c dn mo : Int) (mk fl : Bool) : Prop where
  blk : YAt w B (xC (.slice (some ⟨gD, 0, none⟩) (512 * n) cap) R c buf dn mo mk fl sv)
  row : DRow w gD cap n D
  le : 512 * n ≤ cap
  log : OwnI w sv l

section
variable {w : World} {B gD cap n : Nat} {sv : Value} {l : List Int} {D R buf : Nat → Int} {c dn mo : Int} {mk fl : Bool}

theorem XRaw.notB (h : XRaw w B gD cap n sv l D R buf c dn mo mk fl) {g : Nat} (e : sv.ownBlock = some g) : ¬ isB B g := by
  rintro (rfl : g = B)
  obtain ⟨cur, h1⟩ := h.log.lt e
  obtain ⟨c, h2, _⟩ := h.blk
  rw [h1] at h2
  simp at h2
theorem XRaw.notD (h : XRaw w B gD cap n sv l D R buf c dn mo mk fl) : ¬ isB B gD := by
  rintro (e : gD = B)
  obtain ⟨cur, h1, _⟩ := h.row
  obtain ⟨c, h2, _⟩ := h.blk
  rw [e, h2] at h1
  simp at h1
theorem XRaw.notL (h : XRaw w B gD cap n sv l D R buf c dn mo mk fl) {g : Nat} (e : sv.ownBlock = some g) : ¬ isB gD g := by
  rintro (rfl : g = gD)
  obtain ⟨cur, h1⟩ := h.log.lt e
  obtain ⟨c, h2, _⟩ := h.row
  rw [h1] at h2
  simp at h2

theorem XRaw.kept {S : Nat → Prop} {w' : World} (h : XRaw w B gD cap n sv l D R buf c dn mo mk fl) (k : Kp S w w') (hB : ¬ S B) (hD : ¬ S gD) (hs : ∀ g, sv.ownBlock = some g → ¬ S g) : XRaw w' B gD cap n sv l D R buf c dn mo mk fl := ⟨h.blk.kept k hB, h.row.kept k hD, h.le, h.log.kept k hs⟩
theorem XRaw.keep {w' : World} (h : XRaw w B gD cap n sv l D R buf c dn mo mk fl) (k : Kp noB w w') : XRaw w' B gD cap n sv l D R buf c dn mo mk fl := h.kept k id id (fun _ _ => id)

theorem XRaw.own {w' : World} {f : Nat → Value} (h : XRaw w B gD cap n sv l D R buf c dn mo mk fl) (hb : YAt w' B f) (k : Kp (isB B) w w') {R' buf' : Nat → Int} {c' dn' mo' : Int} {mk' fl' : Bool} (e : ∀ k, k < 526 → f k = xC (.slice (some ⟨gD, 0, none⟩) (512 * n) cap) R' c' buf' dn' mo' mk' fl' sv k) : XRaw w' B gD cap n sv l D R' buf' c' dn' mo' mk' fl' :=
  ⟨hb.of e, h.row.kept k h.notD, h.le, h.log.kept k (fun g e => h.notB e)⟩

theorem XRaw.setR (h : XRaw w B gD cap n sv l D R buf c dn mo mk fl) (j : Nat) (hj : j < 7) (k : Nat) (hk : k = 1 + j) (x : Int) : XRaw (w.setCell ⟨B, k, none⟩ (.int .u8 x)) B gD cap n sv l D (setB R j x) buf c dn mo mk fl := by
  subst hk
  exact h.own (h.blk.set _ (by omega) _) (kpB B _ _ _) (fun i hi => xC_setR hj x i)
theorem XRaw.setc (h : XRaw w B gD cap n sv l D R buf c dn mo mk fl) (x : Int) : XRaw (w.setCell ⟨B, 8, none⟩ (.int .u8 x)) B gD cap n sv l D R buf x dn mo mk fl :=
  h.own (h.blk.set _ (by decide) _) (kpB B _ _ _) (fun i hi => xC_setc x i)
theorem XRaw.setdn (h : XRaw w B gD cap n sv l D R buf c dn mo mk fl) (x : Int) : XRaw (w.setCell ⟨B, 521, none⟩ (.int .i64 x)) B gD cap n sv l D R buf c x mo mk fl :=
  h.own (h.blk.set _ (by decide) _) (kpB B _ _ _) (fun i hi => xC_setdn x i)
theorem XRaw.setmo (h : XRaw w B gD cap n sv l D R buf c dn mo mk fl) (x : Int) : XRaw (w.setCell ⟨B, 522, none⟩ (.int .i64 x)) B gD cap n sv l D R buf c dn x mk fl :=
  h.own (h.blk.set _ (by decide) _) (kpB B _ _ _) (fun i hi => xC_setmo x i)
theorem XRaw.setmk (h : XRaw w B gD cap n sv l D R buf c dn mo mk fl) (x : Bool) : XRaw (w.setCell ⟨B, 523, none⟩ (.bool x)) B gD cap n sv l D R buf c dn mo x fl :=
  h.own (h.blk.set _ (by decide) _) (kpB B _ _ _) (fun i hi => xC_setmk x i)
theorem XRaw.setfl (h : XRaw w B gD cap n sv l D R buf c dn mo mk fl) (x : Bool) : XRaw (w.setCell ⟨B, 524, none⟩ (.bool x)) B gD cap n sv l D R buf c dn mo mk x :=
  h.own (h.blk.set _ (by decide) _) (kpB B _ _ _) (fun i hi => xC_setfl x i)
theorem XRaw.setb (h : XRaw w B gD cap n sv l D R buf c dn mo mk fl) (j : Nat) (hj : j < 512) (x : Int) : XRaw (w.setCell ⟨B, 9 + j, none⟩ (.int .u8 x)) B gD cap n sv l D R (setB buf j x) c dn mo mk fl :=
  h.own (h.blk.set _ (by omega) _) (kpB B _ _ _) (fun i hi => by
    have e : setB buf j x = layB buf j 1 (fun _ => x) := by
      funext q
      unfold setB layB
      by_cases a : q = j
      · rw [if_pos a, if_pos (by omega)]
      · rw [if_neg a, if_neg (by omega)]
    rw [e, ← xC_laybuf (by omega)]
    by_cases a : i = 9 + j
    · rw [if_pos a, if_pos (by omega)]
    · rw [if_neg a, if_neg (by omega)])
theorem XRaw.same {b' : Nat → Int} (h : XRaw w B gD cap n sv l D R buf c dn mo mk fl) (e : ∀ i, i < 512 → buf i = b' i) : XRaw w B gD cap n sv l D R b' c dn mo mk fl := ⟨h.blk.of (fun k hk => xC_same e k), h.row, h.le, h.log⟩
theorem XRaw.setsv (h : XRaw w B gD cap n sv l D R buf c dn mo mk fl) (x : Value) (l' : List Int) (hx : OwnI w x l') : XRaw (w.setCell ⟨B, 525, none⟩ x) B gD cap n x l' D R buf c dn mo mk fl :=
  ⟨(h.blk.set _ (by decide) _).of (fun i hi => xC_setsv x i hi), h.row.kept (kpB B _ _ _) h.notD, h.le, hx.kept (kpB B _ _ _) (fun g e => by
    rintro (rfl : g = B)
    obtain ⟨cur, h1⟩ := hx.lt e
    obtain ⟨c, h2, _⟩ := h.blk
    rw [h1] at h2
    simp at h2)⟩
/-- A byte of the disk is turned. -/
theorem XRaw.setD (h : XRaw w B gD cap n sv l D R buf c dn mo mk fl) (j : Nat) (x : Int) : XRaw (w.setCell ⟨gD, j, none⟩ (.int .u8 x)) B gD cap n sv l (setB D j x) R buf c dn mo mk fl := by
  refine ⟨h.blk.kept (kpB gD _ _ _) (fun e : B = gD => h.notD e.symm), ?_, h.le, h.log.kept (kpB gD _ _ _) (fun g e => h.notL e)⟩
  obtain ⟨cur, h1, h2, h3⟩ := h.row
  refine ⟨_, heap_set h1, by rw [Array.size_setIfInBounds]; exact h2, fun i hi => ?_⟩
  rw [Array.getElem?_setIfInBounds]
  unfold setB
  by_cases e : j = i
  · subst e
    rw [if_pos rfl, if_pos (by omega), if_pos rfl]
  · rw [if_neg e, if_neg (by omega)]
    exact h3 i hi
end

section
variable {w : World} {B gD cap : Nat} {dn : Int} {sv : Value} {d : Id}

theorem XAt.raw (h : XAt w B gD cap dn sv d) : XRaw w B gD cap d.n sv d.log d.D d.reg d.buf d.c dn d.mode d.mark d.failed := ⟨h.blk, h.row, h.le, h.log⟩

theorem XRaw.id {n : Nat} {l : List Int} {D R buf : Nat → Int} {c mo : Int} {mk fl : Bool} (h : XRaw w B gD cap n sv l D R buf c dn mo mk fl) (d : Id) (hl : l = d.log) (hD : D = d.D) (hn : n = d.n) (hR : ∀ j, j < 7 → R j = d.reg j) (hb : buf = d.buf) (hc : c = d.c) (hg : mo = d.mode) (hm : mk = d.mark) (hf : fl = d.failed) : XAt w B gD cap dn sv d := by
  subst hl; subst hD; subst hn; subst hb; subst hc; subst hg; subst hm; subst hf
  refine ⟨h.blk.of fun k hk => ?_, h.row, h.le, h.log⟩
  by_cases q : 1 ≤ k ∧ k < 8
  · obtain ⟨j, rfl⟩ : ∃ j, k = 1 + j := ⟨k - 1, by omega⟩
    rw [xC_R (by omega), xC_R (by omega), hR j (by omega)]
  · unfold xC
    repeat' split
    all_goals first | rfl | omega

theorem XAt.keep {w' : World} (h : XAt w B gD cap dn sv d) (k : Kp noB w w') : XAt w' B gD cap dn sv d := ⟨h.blk.kept k id, h.row.kept k id, h.le, h.log.kept k (fun _ _ => id)⟩
theorem XAt.lt (h : XAt w B gD cap dn sv d) : B < w.heap.size := h.blk.lt
theorem XAt.fz (h : XAt w B gD cap dn sv d) (k : Nat) : w.frozen? ⟨B, k, none⟩ = false := h.blk.fz k
theorem XAt.c0 (h : XAt w B gD cap dn sv d) : w.cell? ⟨B, 0, none⟩ = some (.slice (some ⟨gD, 0, none⟩) (512 * d.n) cap) := h.blk.cell 0 (by decide)
theorem XAt.cr (h : XAt w B gD cap dn sv d) (j : Nat) (hj : j < 7) : w.cell? ⟨B, 1 + j, none⟩ = some (.int .u8 (d.reg j)) := by rw [h.blk.cell _ (by omega), xC_R hj]
theorem XAt.r0 (h : XAt w B gD cap dn sv d) : w.cell? ⟨B, 1, none⟩ = some (.int .u8 0) := h.cr 0 (by decide)
theorem XAt.r1 (h : XAt w B gD cap dn sv d) : w.cell? ⟨B, 2, none⟩ = some (.int .u8 d.r1) := h.cr 1 (by decide)
theorem XAt.r2 (h : XAt w B gD cap dn sv d) : w.cell? ⟨B, 3, none⟩ = some (.int .u8 d.r2) := h.cr 2 (by decide)
theorem XAt.r3 (h : XAt w B gD cap dn sv d) : w.cell? ⟨B, 4, none⟩ = some (.int .u8 d.r3) := h.cr 3 (by decide)
theorem XAt.r4 (h : XAt w B gD cap dn sv d) : w.cell? ⟨B, 5, none⟩ = some (.int .u8 d.r4) := h.cr 4 (by decide)
theorem XAt.r5 (h : XAt w B gD cap dn sv d) : w.cell? ⟨B, 6, none⟩ = some (.int .u8 d.r5) := h.cr 5 (by decide)
theorem XAt.r6 (h : XAt w B gD cap dn sv d) : w.cell? ⟨B, 7, none⟩ = some (.int .u8 d.r6) := h.cr 6 (by decide)
theorem XAt.cc (h : XAt w B gD cap dn sv d) : w.cell? ⟨B, 8, none⟩ = some (.int .u8 d.c) := h.blk.cell 8 (by decide)
theorem XAt.cb (h : XAt w B gD cap dn sv d) (j : Nat) (hj : j < 512) : w.cell? ⟨B, 9 + j, none⟩ = some (.int .u8 (d.buf j)) := by rw [h.blk.cell _ (by omega), xC_b hj]
theorem XAt.cdn (h : XAt w B gD cap dn sv d) : w.cell? ⟨B, 521, none⟩ = some (.int .i64 dn) := h.blk.cell 521 (by decide)
theorem XAt.cmo (h : XAt w B gD cap dn sv d) : w.cell? ⟨B, 522, none⟩ = some (.int .i64 d.mode) := h.blk.cell 522 (by decide)
theorem XAt.cmk (h : XAt w B gD cap dn sv d) : w.cell? ⟨B, 523, none⟩ = some (.bool d.mark) := h.blk.cell 523 (by decide)
theorem XAt.cfl (h : XAt w B gD cap dn sv d) : w.cell? ⟨B, 524, none⟩ = some (.bool d.failed) := h.blk.cell 524 (by decide)
theorem XAt.csv (h : XAt w B gD cap dn sv d) : w.cell? ⟨B, 525, none⟩ = some sv := h.blk.cell 525 (by decide)
end

/-- Behind a call that touches its own blocks. -/
def XOk (w : World) (B gD cap : Nat) (sv : Value) (d : Id) (w' : World) : Prop := ∃ dn', XAt w' B gD cap dn' sv d ∧ Dn d dn' ∧ Kp (isB B) w w'

/-- The blocks that it owns. -/
def footX (B gD : Nat) (sv : Value) (k : Nat) : Prop := k = B ∨ k = gD ∨ sv.ownBlock = some k
def XOut (w : World) (B gD cap : Nat) (sv : Value) (d : Id) (w' : World) : Prop :=
  ∃ dn' sv', XAt w' B gD cap dn' sv' d ∧ Dn d dn' ∧ (∀ k, footX B gD sv' k → footX B gD sv k ∨ w.heap.size ≤ k) ∧ Kp (footX B gD sv) w w'
end Go.Proofs.Ytddalplpmgmplaa
