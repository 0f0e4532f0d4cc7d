/- Texts on vmem, joined: RefBase, RefPut, RefLoop, RefNew. -/
import Derived.Test.YtmmnnafjikilpaaGreatVa
import Derived.Deep.LoopGhost
import Derived.Laws.MakeOwn
import Derived.Laws.OwnMore
/- The document's own memory: how it lies in the world, and the calls that only read it. -/
namespace Go.Proofs.YtmmnnafjikilpaaGreat
open Go.ChangeShapes Go.WideShapes Go.ChangeAt Go.RowKit Go.Maps
set_option linter.unusedVariables false

/-- A block of its own, cell by cell. -/
def Col (w : World) (blk n : Nat) (ty : TypeId) (f : Nat → Value) : Prop := ∃ cs, w.heap[blk]? = some (.cells cs ty (0, 0)) ∧ cs.size = n ∧ ∀ j, j < n → cs[j]? = some (f j)

theorem Col.cell {w : World} {blk n : Nat} {ty : TypeId} {f : Nat → Value} (h : Col w blk n ty f) {j : Nat} (hj : j < n) : w.cell? ⟨blk, j, none⟩ = some (f j) := by
  obtain ⟨cs, h1, _, h3⟩ := h
  rw [cell_at h1]; exact h3 j hj
theorem Col.frozen {w : World} {blk n : Nat} {ty : TypeId} {f : Nat → Value} (h : Col w blk n ty f) (j : Nat) : w.frozen? ⟨blk, j, none⟩ = false := by
  obtain ⟨cs, h1, _⟩ := h
  exact frozen_at h1
theorem Col.lt {w : World} {blk n : Nat} {ty : TypeId} {f : Nat → Value} (h : Col w blk n ty f) : blk < w.heap.size := by
  obtain ⟨cs, h1, _⟩ := h
  exact (Array.getElem?_eq_some_iff.1 h1).1
theorem Col.heap {w w' : World} {blk n : Nat} {ty : TypeId} {f : Nat → Value} (h : Col w blk n ty f) (e : w'.heap[blk]? = w.heap[blk]?) : Col w' blk n ty f := by
  obtain ⟨cs, h1, h2⟩ := h
  exact ⟨cs, e.trans h1, h2⟩
theorem Col.as {w : World} {blk n : Nat} {ty : TypeId} {f g : Nat → Value} (h : Col w blk n ty f) (e : ∀ j, j < n → f j = g j) : Col w blk n ty g := by
  obtain ⟨cs, h1, h2, h3⟩ := h
  exact ⟨cs, h1, h2, fun j hj => by rw [← e j hj]; exact h3 j hj⟩
theorem Col.set {w : World} {blk n : Nat} {ty : TypeId} {f : Nat → Value} (h : Col w blk n ty f) {i : Nat} (hi : i < n) (v : Value) : Col (w.setCell ⟨blk, i, none⟩ v) blk n ty (fun j => if j = i then v else f j) := by
  obtain ⟨cs, h1, h2, h3⟩ := h
  refine ⟨cs.setIfInBounds i v, heap_setCell_at h1 _, by simpa using h2, fun j hj => ?_⟩
  rw [Array.getElem?_setIfInBounds]
  by_cases e : i = j
  · subst e
    rw [if_pos rfl, if_pos (by omega)]
    simp
  · have e' : ¬ j = i := fun k => e k.symm
    rw [if_neg e, h3 j hj]
    simp [e']

theorem heap_set_other {w : World} {blk i k : Nat} {v : Value} (h : k ≠ blk) : (w.setCell ⟨blk, i, none⟩ v).heap[k]? = w.heap[k]? := by
  by_cases hk : k < w.heap.size
  · exact (Kp.setCell (S := fun j => j = blk) w (p := ⟨blk, i, none⟩) rfl v).block k hk h
  · have e : (w.setCell ⟨blk, i, none⟩ v).heap.size = w.heap.size := by simp [World.setCell]
    rw [Array.getElem?_eq_none (by omega), Array.getElem?_eq_none (by omega)]

/-- The five blocks. -/
structure Rf where
  r : Nat
  b : Nat
  o : Nat
  t : Nat
  q : Nat

def Rf.has (R : Rf) (k : Nat) : Prop := k = R.r ∨ k = R.b ∨ k = R.o ∨ k = R.t ∨ k = R.q

structure Rf.apart (R : Rf) : Prop where
  rb : R.r ≠ R.b
  ro : R.r ≠ R.o
  rt : R.r ≠ R.t
  rq : R.r ≠ R.q
  bo : R.b ≠ R.o
  bt : R.b ≠ R.t
  bq : R.b ≠ R.q
  ot : R.o ≠ R.t
  oq : R.o ≠ R.q
  tq : R.t ≠ R.q

structure RefAt (w : World) (R : Rf) (M : Mem) : Prop where
  le : M.n ≤ 256
  ap : R.apart
  st : w.heap[R.r]? = some (.cells #[.slice (some ⟨R.b, 0, none⟩) (4096 * M.n) (4096 * M.n), .slice (some ⟨R.o, 0, none⟩) M.n M.n, .slice (some ⟨R.t, 0, none⟩) (64 * M.n) (64 * M.n), .slice (some ⟨R.q, 0, none⟩) (64 * M.n) (64 * M.n), .bool M.closed] 88 (0, 0))
  cb : Col w R.b (4096 * M.n) 5 (fun j => .int .u8 (M.byte j))
  co : Col w R.o M.n 4 (fun j => .bool (M.only j))
  ct : Col w R.t (64 * M.n) 4 (fun j => .bool (M.wt (64 * j)))
  cq : Col w R.q (64 * M.n) 4 (fun j => .bool (M.nt (64 * j)))

theorem RefAt.kept {w w' : World} {R : Rf} {M : Mem} (h : RefAt w R M) (e : ∀ k, R.has k → w'.heap[k]? = w.heap[k]?) : RefAt w' R M where
  le := h.le
  ap := h.ap
  st := (e _ (.inl rfl)).trans h.st
  cb := h.cb.heap (e _ (.inr (.inl rfl)))
  co := h.co.heap (e _ (.inr (.inr (.inl rfl))))
  ct := h.ct.heap (e _ (.inr (.inr (.inr (.inl rfl)))))
  cq := h.cq.heap (e _ (.inr (.inr (.inr (.inr rfl)))))

theorem RefAt.lt {w : World} {R : Rf} {M : Mem} (h : RefAt w R M) {k : Nat} (hk : R.has k) : k < w.heap.size := by
  rcases hk with rfl | rfl | rfl | rfl | rfl
  · exact (Array.getElem?_eq_some_iff.1 h.st).1
  · exact h.cb.lt
  · exact h.co.lt
  · exact h.ct.lt
  · exact h.cq.lt

theorem RefAt.kp {S : Nat → Prop} {w w' : World} {R : Rf} {M : Mem} (h : RefAt w R M) (k : Kp S w w') (hS : ∀ j, R.has j → ¬ S j) : RefAt w' R M :=
  h.kept fun i hi => k.block i (h.lt hi) (hS i hi)

theorem RefAt.c0 {w : World} {R : Rf} {M : Mem} (h : RefAt w R M) : w.cell? ⟨R.r, 0, none⟩ = some (.slice (some ⟨R.b, 0, none⟩) (4096 * M.n) (4096 * M.n)) := by rw [cell_at h.st]; rfl
theorem RefAt.c1 {w : World} {R : Rf} {M : Mem} (h : RefAt w R M) : w.cell? ⟨R.r, 1, none⟩ = some (.slice (some ⟨R.o, 0, none⟩) M.n M.n) := by rw [cell_at h.st]; rfl
theorem RefAt.c2 {w : World} {R : Rf} {M : Mem} (h : RefAt w R M) : w.cell? ⟨R.r, 2, none⟩ = some (.slice (some ⟨R.t, 0, none⟩) (64 * M.n) (64 * M.n)) := by rw [cell_at h.st]; rfl
theorem RefAt.c3 {w : World} {R : Rf} {M : Mem} (h : RefAt w R M) : w.cell? ⟨R.r, 3, none⟩ = some (.slice (some ⟨R.q, 0, none⟩) (64 * M.n) (64 * M.n)) := by rw [cell_at h.st]; rfl
theorem RefAt.c4 {w : World} {R : Rf} {M : Mem} (h : RefAt w R M) : w.cell? ⟨R.r, 4, none⟩ = some (.bool M.closed) := by rw [cell_at h.st]; rfl
theorem RefAt.drewN {w : World} {R : Rf} {M : Mem} (h : RefAt w R M) (n : Nat) : RefAt (w.drewN n) R M := h.kept (fun _ _ => rfl)

set_option maxRecDepth 100000 in
theorem refPlace_any (w : World) (R : Rf) (M : Mem) (h : RefAt w R M) (x : Int) (x0 : 0 ≤ x) (x1 : x < 4294967296) :
    Calls Tryz.prog 74 #[.pointer (some ⟨R.r, 0, none⟩), .int .u32 x] w fun e w' => e = .returned (.tuple #[.int .i64 (M.place x), .bool (decide (M.place x < 4096 * M.n))]) ∧ Kp noB w w' := by
  have c0 := h.c0
  have c4 := h.c4
  obtain ⟨N, hN⟩ : ∃ N : Nat, N = 4096 * M.n := ⟨_, rfl⟩
  have eN : ((4096 * M.n : Int)) = (N : Int) := by omega
  rw [eN]
  rw [← hN] at c0
  clear hN eN
  cases hc : M.closed
  · have hp : M.place x = x := by unfold Mem.place; rw [hc]; simp
    rw [hp]
    rw [hc] at c4
    go_enter Tryz.func74, Tryz.ntmps74
    go_wp2
    go_region
    all_goals go_wp2
    exact bodyPost_ret (v := .tuple #[.int .i64 x, .bool (decide (x < (N : Int)))]) (by simp [results, Tryz.results74, go_sem]) rfl ⟨rfl, (Kp.refl _ w).drewN 1⟩
  · rw [hc] at c4
    by_cases hb : x / 1048576 % 2 = 1
    · have hp : M.place x = x - 1048576 := by unfold Mem.place; rw [if_pos ⟨hc, hb⟩]
      obtain ⟨y, hy⟩ : ∃ y, x - 1048576 = y := ⟨_, rfl⟩
      have y0 : 0 ≤ y := by omega
      have y1 : y < 4294967296 := by omega
      rw [hp, hy]
      go_enter Tryz.func74, Tryz.ntmps74
      go_wp2
      go_region
      all_goals go_wp2
      exact bodyPost_ret (v := .tuple #[.int .i64 y, .bool (decide (y < (N : Int)))]) (by simp [results, Tryz.results74, go_sem]) rfl ⟨rfl, (Kp.refl _ w).drewN 1⟩
    · have hp : M.place x = x := by unfold Mem.place; rw [if_neg (fun f => hb f.2)]
      rw [hp]
      have hb' : (x / 1048576 % 2 == 1) = false := by simp [hb]
      go_enter Tryz.func74, Tryz.ntmps74
      go_wp2
      go_region
      all_goals go_wp2
      exact bodyPost_ret (v := .tuple #[.int .i64 x, .bool (decide (x < (N : Int)))]) (by simp [results, Tryz.results74, go_sem]) rfl ⟨rfl, (Kp.refl _ w).drewN 1⟩

set_option maxRecDepth 100000 in
theorem refByte_any (w : World) (R : Rf) (M : Mem) (h : RefAt w R M) (x : Int) (x0 : 0 ≤ x) (x1 : x < 4294967296) :
    Calls Tryz.prog 55 #[.pointer (some ⟨R.r, 0, none⟩), .int .u32 x] w fun e w' => e = .returned (.int .u8 (M.rd x)) ∧ Kp noB w w' := by
  have pb := M.place_bd x0 x1
  have cP := refPlace_any w R M h x x0 x1
  have hrd : M.rd x = if M.place x < 4096 * M.n then M.byte (M.place x).toNat else 255 := rfl
  have hle := h.le
  obtain ⟨pl, hpl⟩ : ∃ pl : Nat, M.place x = pl := ⟨(M.place x).toNat, by omega⟩
  rw [hpl] at cP hrd pb
  rw [hrd]
  clear hrd hpl
  by_cases hin : (pl : Int) < 4096 * M.n
  · rw [decide_eq_true hin] at cP
    rw [if_pos hin]
    go_enter Tryz.func55, Tryz.ntmps55
    go_wp2_with fail
    refine cP.mono ?_; rintro e w1 ⟨rfl, k1⟩
    have h1 := h.kp k1 (fun _ _ f => f)
    have c0 := h1.c0
    have cc := h1.cb.cell (j := pl) (by omega)
    obtain ⟨N, hN⟩ : ∃ N : Nat, N = 4096 * M.n := ⟨_, rfl⟩
    have hlt : (pl : Int) < (N : Int) := by omega
    rw [← hN] at c0
    clear hN hin cP h h1
    go_wp2
    go_ret
    exact ⟨by simp, k1⟩
  · rw [decide_eq_false hin] at cP
    rw [if_neg hin]
    go_enter Tryz.func55, Tryz.ntmps55
    go_wp2_with fail
    refine cP.mono ?_; rintro e w1 ⟨rfl, k1⟩
    go_wp2
    go_ret
    exact ⟨rfl, k1⟩

end Go.Proofs.YtmmnnafjikilpaaGreat

/- The document's own memory: the calls that write it. -/
namespace Go.Proofs.YtmmnnafjikilpaaGreat
open Go.ChangeShapes Go.WideShapes Go.ChangeAt Go.RowKit Go.Maps
set_option linter.unusedVariables false

theorem has_b (R : Rf) : R.has R.b := .inr (.inl rfl)
theorem has_o (R : Rf) : R.has R.o := .inr (.inr (.inl rfl))
theorem has_t (R : Rf) : R.has R.t := .inr (.inr (.inr (.inl rfl)))
theorem has_q (R : Rf) : R.has R.q := .inr (.inr (.inr (.inr rfl)))

theorem RefAt.byte {w : World} {R : Rf} {M : Mem} (h : RefAt w R M) {i : Nat} (hi : i < 4096 * M.n) (v : Int) : RefAt (w.setCell ⟨R.b, i, none⟩ (.int .u8 v)) R { M with byte := fun x => if x = i then v else M.byte x } where
  le := h.le
  ap := h.ap
  st := (heap_set_other h.ap.rb).trans h.st
  cb := (h.cb.set hi _).as (fun j hj => by by_cases e : j = i <;> simp [e])
  co := h.co.heap (heap_set_other (fun e => h.ap.bo e.symm))
  ct := h.ct.heap (heap_set_other (fun e => h.ap.bt e.symm))
  cq := h.cq.heap (heap_set_other (fun e => h.ap.bq e.symm))

theorem RefAt.setOnly {w : World} {R : Rf} {M : Mem} (h : RefAt w R M) {i : Nat} (hi : i < M.n) (b : Bool) : RefAt (w.setCell ⟨R.o, i, none⟩ (.bool b)) R { M with only := fun x => if x = i then b else M.only x } where
  le := h.le
  ap := h.ap
  st := (heap_set_other h.ap.ro).trans h.st
  cb := h.cb.heap (heap_set_other h.ap.bo)
  co := (h.co.set hi _).as (fun j hj => by by_cases e : j = i <;> simp [e])
  ct := h.ct.heap (heap_set_other (fun e => h.ap.ot e.symm))
  cq := h.cq.heap (heap_set_other (fun e => h.ap.oq e.symm))

theorem RefAt.setWt {w : World} {R : Rf} {M : Mem} (h : RefAt w R M) {i : Nat} (hi : i < 64 * M.n) (b : Bool) (f : Int → Bool) (hf : ∀ j : Nat, j < 64 * M.n → f (64 * j) = if j = i then b else M.wt (64 * j)) : RefAt (w.setCell ⟨R.t, i, none⟩ (.bool b)) R { M with wt := f } where
  le := h.le
  ap := h.ap
  st := (heap_set_other h.ap.rt).trans h.st
  cb := h.cb.heap (heap_set_other h.ap.bt)
  co := h.co.heap (heap_set_other h.ap.ot)
  ct := (h.ct.set hi _).as (fun j hj => by show _ = Value.bool (f (64 * j)); rw [hf j hj]; by_cases e : j = i <;> simp [e])
  cq := h.cq.heap (heap_set_other (fun e => h.ap.tq e.symm))

theorem RefAt.setNt {w : World} {R : Rf} {M : Mem} (h : RefAt w R M) {i : Nat} (hi : i < 64 * M.n) (b : Bool) (f : Int → Bool) (hf : ∀ j : Nat, j < 64 * M.n → f (64 * j) = if j = i then b else M.nt (64 * j)) : RefAt (w.setCell ⟨R.q, i, none⟩ (.bool b)) R { M with nt := f } where
  le := h.le
  ap := h.ap
  st := (heap_set_other h.ap.rq).trans h.st
  cb := h.cb.heap (heap_set_other h.ap.bq)
  co := h.co.heap (heap_set_other h.ap.oq)
  ct := h.ct.heap (heap_set_other h.ap.tq)
  cq := (h.cq.set hi _).as (fun j hj => by show _ = Value.bool (f (64 * j)); rw [hf j hj]; by_cases e : j = i <;> simp [e])

theorem kp_has {w w' : World} {R : Rf} {k i : Nat} (h : Kp R.has w w') (hk : R.has k) (v : Value) : Kp R.has w (w'.setCell ⟨k, i, none⟩ v) := h.trans (Kp.setCell (S := R.has) w' (p := ⟨k, i, none⟩) hk v)

theorem kp_no {S : Nat → Prop} {w w' : World} (h : Kp noB w w') : Kp S w w' := h.mono (fun _ _ f => f.elim)

set_option maxRecDepth 100000 in
theorem refRom_ok (w : World) (R : Rf) (M : Mem) (h : RefAt w R M) (i : Nat) (b : Bool) (hi : i < M.n) :
    Calls Tryz.prog 18 #[.pointer (some ⟨R.r, 0, none⟩), .int .i64 i, .bool b] w fun e w' => e = .returned (.int .i64 0) ∧ RefAt w' R { M with only := fun j => if j = i then b else M.only j } ∧ Kp R.has w w' := by
  have c1 := h.c1
  have cc := h.co.cell hi
  have cf := h.co.frozen i
  have hlt : (i : Int) < (M.n : Int) := by omega
  have hle := h.le
  have Rr := h.setOnly hi b
  have K := kp_has (i := i) (Kp.refl _ w) (has_o R) (.bool b)
  obtain ⟨n, hn⟩ : ∃ n, n = M.n := ⟨_, rfl⟩
  rw [← hn] at c1 hlt hle
  clear hn hi h
  go_enter Tryz.func18, Tryz.ntmps18
  go_wp2
  go_ret
  exact ⟨rfl, Rr, K⟩

set_option maxRecDepth 100000 in
theorem refRom_no (w : World) (R : Rf) (M : Mem) (h : RefAt w R M) (i : Int) (b : Bool) (hi : i < 0 ∨ M.n ≤ i) :
    Calls Tryz.prog 18 #[.pointer (some ⟨R.r, 0, none⟩), .int .i64 i, .bool b] w fun e w' => e = .returned (.int .i64 1) ∧ w' = w := by
  have c1 := h.c1
  have hle := h.le
  obtain ⟨n, hn⟩ : ∃ n, n = M.n := ⟨_, rfl⟩
  rw [← hn] at c1 hle hi
  clear hn h
  by_cases h0 : i < 0
  · go_enter Tryz.func18, Tryz.ntmps18
    go_wp2
    go_ret
    exact ⟨rfl, rfl⟩
  · have h1 : (n : Int) ≤ i := by omega
    go_enter Tryz.func18, Tryz.ntmps18
    go_wp2
    go_ret
    exact ⟨rfl, rfl⟩

theorem RefAt.like {w : World} {R : Rf} {M M' : Mem} (h : RefAt w R M) (hn : M'.n = M.n) (hc : M'.closed = M.closed) (hb : ∀ j, j < 4096 * M.n → M'.byte j = M.byte j) (ho : ∀ j, j < M.n → M'.only j = M.only j)
    (hw : ∀ j : Nat, j < 64 * M.n → M'.wt (64 * j) = M.wt (64 * j)) (ht : ∀ j : Nat, j < 64 * M.n → M'.nt (64 * j) = M.nt (64 * j)) : RefAt w R M' where
  le := by rw [hn]; exact h.le
  ap := h.ap
  st := by rw [hn, hc]; exact h.st
  cb := by rw [hn]; exact h.cb.as (fun j hj => by rw [hb j hj])
  co := by rw [hn]; exact h.co.as (fun j hj => by rw [ho j hj])
  ct := by rw [hn]; exact h.ct.as (fun j hj => by rw [hw j hj])
  cq := by rw [hn]; exact h.cq.as (fun j hj => by rw [ht j hj])

theorem in_gran (j g : Nat) : decide ((64 * g : Int) ≤ 64 * j ∧ (64 * j : Int) < 64 * g + 64) = decide (j = g) := decide_eq_decide.2 ⟨fun f => by omega, fun f => by omega⟩

def PutPost (w : World) (R : Rf) (M' : Mem) (e : Ending) (w' : World) : Prop := e = .returned (.tuple #[]) ∧ RefAt w' R M' ∧ Kp R.has w w'

set_option maxRecDepth 100000 in
set_option maxHeartbeats 1000000 in
theorem refPut_any (w : World) (R : Rf) (M : Mem) (h : RefAt w R M) (x v : Int) (all : Bool) (x0 : 0 ≤ x) (x1 : x < 4294967296) :
    Calls Tryz.prog 42 #[.pointer (some ⟨R.r, 0, none⟩), .int .u32 x, .int .u8 v, .bool all] w (PutPost w R (M.put all x v)) := by
  have pb := M.place_bd x0 x1
  have cP := refPlace_any w R M h x x0 x1
  have hle := h.le
  have hput : M.put all x v = if M.place x < 4096 * M.n ∧ (all = true ∨ M.only (M.place x / 4096).toNat = false) then
    { M.note (M.place x - M.place x % 64) (M.place x - M.place x % 64 + 64) with byte := fun y => if y = (M.place x).toNat then v else M.byte y } else M := rfl
  obtain ⟨pl, hpl⟩ : ∃ pl : Nat, M.place x = pl := ⟨(M.place x).toNat, by omega⟩
  rw [hpl] at cP pb hput
  clear hpl
  by_cases hin : (pl : Int) < 4096 * M.n
  · rw [decide_eq_true hin] at cP
    obtain ⟨pg, hpg⟩ : ∃ pg : Nat, pg = pl / 4096 := ⟨_, rfl⟩
    have eg : (pl : Int) / 4096 = (pg : Int) := by omega
    have et : Int.tdiv (pl : Int) 4096 = (pg : Int) := by rw [hpg]; rfl
    have pgl : pg < M.n := by omega
    have epn : ((pl : Int) / 4096).toNat = pg := by omega
    rw [epn] at hput
    obtain ⟨n, hn⟩ : ∃ n : Nat, n = M.n := ⟨_, rfl⟩
    have bpg : (pg : Int) < (n : Int) := by omega
    clear hpg epn
    by_cases hgo : all = true ∨ M.only pg = false
    · rw [if_pos ⟨hin, hgo⟩] at hput
      obtain ⟨g, hg⟩ : ∃ g : Nat, g = pl / 64 := ⟨_, rfl⟩
      have fg : (pl : Int) / 64 = (g : Int) := by omega
      have ft : Int.tdiv (pl : Int) 64 = (g : Int) := by rw [hg]; rfl
      have gl : g < 64 * M.n := by omega
      have ew : (pl : Int) - (pl : Int) % 64 = (64 * g : Int) := by omega
      have epl : ((pl : Nat) : Int).toNat = pl := by omega
      rw [ew, epl] at hput
      rw [hput]
      clear hg ew epl hput
      obtain ⟨N, hN⟩ : ∃ N : Nat, N = 4096 * M.n := ⟨_, rfl⟩
      obtain ⟨K, hK⟩ : ∃ K : Nat, K = 64 * M.n := ⟨_, rfl⟩
      have bpl : (pl : Int) < (N : Int) := by omega
      have bg : (g : Int) < (K : Int) := by omega
      have hplN : pl < 4096 * M.n := by omega
      by_cases hwt : M.wt (64 * g) = false
      · skip
        go_enter Tryz.func42, Tryz.ntmps42
        go_wp2_with fail
        refine cP.mono ?_; rintro e w1 ⟨rfl, k1⟩
        have h1 := h.kp k1 (fun _ _ f => f)
        have c0 := h1.c0
        have c1 := h1.c1
        have c2 := h1.c2
        have c3 := h1.c3
        have cb := h1.cb.cell hplN
        have fb := h1.cb.frozen pl
        have co := h1.co.cell pgl
        have ct := h1.ct.cell gl
        have ff := h1.ct.frozen g
        have cq := h1.cq.cell gl
        have fq := h1.cq.frozen g
        rw [hwt] at ct
        rw [← hN] at c0
        rw [← hn] at c1
        rw [← hK] at c2 c3
        obtain ⟨n1, n2, n3, n4, n5, n6, n7, n8, n9, n10⟩ := h1.ap
        have m1 := n1.symm
        have m3 := n3.symm
        have m4 := n4.symm
        have m6 := n6.symm
        have m7 := n7.symm
        have m10 := n10.symm
        obtain ⟨ob, hob⟩ : ∃ ob, ob = M.only pg := ⟨_, rfl⟩
        rw [← hob] at co hgo
        obtain ⟨nb, hnb⟩ : ∃ nb, nb = M.nt (64 * g) := ⟨_, rfl⟩
        rw [← hnb] at cq
        obtain ⟨vb, hvb⟩ : ∃ vb, vb = M.byte pl := ⟨_, rfl⟩
        rw [← hvb] at cb
        have RR := (h1.byte hplN v).like (M' := { M.note (64 * g) (64 * g + 64) with byte := fun y => if y = pl then v else M.byte y }) rfl rfl (fun _ _ => rfl) (fun _ _ => rfl)
          (fun j hj => by show (M.wt (64 * j) && !decide ((64 * g : Int) ≤ 64 * j ∧ (64 * j : Int) < 64 * g + 64)) = M.wt (64 * j); rw [in_gran]; by_cases e : j = g; (subst e; rw [hwt]; rfl); simp [e])
          (fun j hj => by show (M.nt (64 * j) || (M.wt (64 * j) && decide ((64 * g : Int) ≤ 64 * j ∧ (64 * j : Int) < 64 * g + 64))) = M.nt (64 * j); rw [in_gran]; by_cases e : j = g; (subst e; rw [hwt]; simp); simp [e])
        have KK := kp_has (i := pl) (kp_no (S := R.has) k1) (has_b R) (.int .u8 v)
        clear hob hnb hvb hN hn hK hwt cP h h1 hin hplN gl pgl k1 hle
        cases all <;> cases ob <;> first
          | (exfalso; simp at hgo; done)
          | (go_wp2; go_end0; exact ⟨rfl, RR, KK⟩)
      · replace hwt : M.wt (64 * g) = true := by cases hh : M.wt (64 * g); exact absurd hh hwt; rfl
        go_enter Tryz.func42, Tryz.ntmps42
        go_wp2_with fail
        refine cP.mono ?_; rintro e w1 ⟨rfl, k1⟩
        have h1 := h.kp k1 (fun _ _ f => f)
        have c0 := h1.c0
        have c1 := h1.c1
        have c2 := h1.c2
        have c3 := h1.c3
        have cb := h1.cb.cell hplN
        have fb := h1.cb.frozen pl
        have co := h1.co.cell pgl
        have ct := h1.ct.cell gl
        have ff := h1.ct.frozen g
        have cq := h1.cq.cell gl
        have fq := h1.cq.frozen g
        rw [hwt] at ct
        rw [← hN] at c0
        rw [← hn] at c1
        rw [← hK] at c2 c3
        obtain ⟨n1, n2, n3, n4, n5, n6, n7, n8, n9, n10⟩ := h1.ap
        have m1 := n1.symm
        have m3 := n3.symm
        have m4 := n4.symm
        have m6 := n6.symm
        have m7 := n7.symm
        have m10 := n10.symm
        obtain ⟨ob, hob⟩ : ∃ ob, ob = M.only pg := ⟨_, rfl⟩
        rw [← hob] at co hgo
        obtain ⟨nb, hnb⟩ : ∃ nb, nb = M.nt (64 * g) := ⟨_, rfl⟩
        rw [← hnb] at cq
        obtain ⟨vb, hvb⟩ : ∃ vb, vb = M.byte pl := ⟨_, rfl⟩
        rw [← hvb] at cb
        have RR := ((h1.byte hplN v).setWt gl false (fun y => M.wt y && !decide ((64 * g : Int) ≤ y ∧ y < 64 * g + 64)) (fun j hj => by show (M.wt (64 * j) && !decide ((64 * g : Int) ≤ 64 * j ∧ (64 * j : Int) < 64 * g + 64)) = _; rw [in_gran]; by_cases e : j = g <;> simp [e])).setNt gl true (fun y => M.nt y || (M.wt y && decide ((64 * g : Int) ≤ y ∧ y < 64 * g + 64)))
          (fun j hj => by show (M.nt (64 * j) || (M.wt (64 * j) && decide ((64 * g : Int) ≤ 64 * j ∧ (64 * j : Int) < 64 * g + 64))) = _; rw [in_gran]; by_cases e : j = g; (subst e; rw [hwt]; simp); simp [e])
        have KK := kp_has (i := g) (kp_has (i := g) (kp_has (i := pl) (kp_no (S := R.has) k1) (has_b R) (.int .u8 v)) (has_t R) (.bool false)) (has_q R) (.bool true)
        clear hob hnb hvb hN hn hK hwt cP h h1 hin hplN gl pgl k1 hle
        cases all <;> cases ob <;> first
          | (exfalso; simp at hgo; done)
          | (go_wp2; go_end0; exact ⟨rfl, RR, KK⟩)
    · rw [if_neg (fun f => hgo f.2)] at hput
      rw [hput]
      have ha : all = false := by cases all; rfl; exact absurd (Or.inl rfl) hgo
      have ho : M.only pg = true := by cases hh : M.only pg; exact absurd (Or.inr hh) hgo; rfl
      subst ha
      clear hput hgo
      go_enter Tryz.func42, Tryz.ntmps42
      go_wp2_with fail
      refine cP.mono ?_; rintro e w1 ⟨rfl, k1⟩
      have h1 := h.kp k1 (fun _ _ f => f)
      have c1 := h1.c1
      have cc := h1.co.cell pgl
      rw [ho] at cc
      rw [← hn] at c1
      clear hn cP hin ho pgl
      go_wp2
      go_end0
      exact ⟨rfl, h1, kp_no k1⟩
  · rw [decide_eq_false hin] at cP
    rw [if_neg (fun f => hin f.1)] at hput
    rw [hput]
    clear hput
    go_enter Tryz.func42, Tryz.ntmps42
    go_wp2_with fail
    refine cP.mono ?_; rintro e w1 ⟨rfl, k1⟩
    go_wp2
    go_end0
    exact ⟨rfl, h.kp k1 (fun _ _ f => f), kp_no k1⟩
end Go.Proofs.YtmmnnafjikilpaaGreat

/- The document's own memory: reading, writing and laying by bytes. -/
namespace Go.Proofs.YtmmnnafjikilpaaGreat
open Go.ChangeShapes Go.WideShapes Go.ChangeAt Go.RowKit Go.Maps
set_option linter.unusedVariables false

theorem lay_snoc (all : Bool) (M : Mem) (a : Int) (xs : List Int) (y : Int) (a0 : 0 ≤ a) (a1 : a < 4294967296) : M.lay all a (xs ++ [y]) = (M.lay all a xs).put all ((a + xs.length) % 4294967296) y := by
  rw [lay_append all xs [y] M a a0 a1]; rfl

def WrL (w : World) (R : Rf) (M : Mem) (x v : Int) (n k : Nat) (s : Value) (wr : World) : Prop :=
  ∃ i : Nat, s = .int .i64 i ∧ i ≤ n ∧ n - i ≤ k ∧ RefAt wr R (M.lay false x ((bytesV v).take i)) ∧ Kp R.has w wr

theorem take_byte (v : Int) (i : Nat) (h : i < 4) : (bytesV v).take (i + 1) = (bytesV v).take i ++ [(bytesV v).getD i 0] := by
  rcases (by omega : i = 0 ∨ i = 1 ∨ i = 2 ∨ i = 3) with rfl | rfl | rfl | rfl <;> rfl

theorem lay_step (M : Mem) (x v : Int) (i : Nat) (h : i < 4) (x0 : 0 ≤ x) (x1 : x < 4294967296) : M.lay false x ((bytesV v).take (i + 1)) = (M.lay false x ((bytesV v).take i)).put false ((x + i) % 4294967296) ((bytesV v).getD i 0) := by
  rw [take_byte v i h, lay_snoc _ _ _ _ _ x0 x1]
  have : ((bytesV v).take i).length = i := by simp [bytesV]; omega
  rw [this]

set_option maxRecDepth 100000 in
set_option maxHeartbeats 1000000 in
theorem refWrite_ok (w : World) (R : Rf) (M : Mem) (h : RefAt w R M) (x s v : Int) (x0 : 0 ≤ x) (x1 : x < 4294967296) (v0 : 0 ≤ v) (v1 : v < 4294967296) (hs : okS s = true) :
    Calls Tryz.prog 16 #[.pointer (some ⟨R.r, 0, none⟩), .int .u32 x, .int .i64 s, .int .u32 v] w fun e w' => e = .returned (.int .i64 0) ∧ RefAt w' R (M.lay false x ((bytesV v).take s.toNat)) ∧ Kp R.has w w' := by
  have hs1 : s = 1 ∨ s = 2 ∨ s = 4 := by simpa [okS] using hs
  obtain ⟨n, hn⟩ : ∃ n : Nat, n = s.toNat := ⟨_, rfl⟩
  rw [← hn]
  have n4 : n ≤ 4 := by omega
  have es : s = (n : Int) := by omega
  have HN : Hid (s = (n : Int)) := es
  clear hn es hs
  rcases hs1 with rfl | rfl | rfl
  all_goals
    go_enter Tryz.func16, Tryz.ntmps16
    go_wp2_with fail
    go_loopg [9] n (WrL w R M x v n)
    case atStart => exact ⟨0, rfl, Nat.zero_le _, Nat.le_refl _, h, Kp.refl _ _⟩
    case round =>
      obtain ⟨i, rfl, hi, hik, hr, kk⟩ := hrel
      have hn := HN.out
      by_cases hlt : i < n
      · have hz : (i : Int) < (n : Int) := by omega
        rw [← hn] at hz
        have st := lay_step M x v i (by omega) x0 x1
        have cP := refPut_any wr R _ hr ((x + i) % 4294967296) ((bytesV v).getD i 0) false (by omega) (by omega)
        rw [← st] at cP
        have HC : Hid (∀ z bv : Int, z = (x + i) % 4294967296 → bv = (bytesV v).getD i 0 → Calls Tryz.prog 42 #[.pointer (some ⟨R.r, 0, none⟩), .int .u32 z, .int .u8 bv, .bool false] wr (PutPost wr R (M.lay false x ((bytesV v).take (i + 1))))) := by
          rintro _ _ rfl rfl; exact cP
        obtain ⟨j, hj⟩ : ∃ j, j = i + 1 := ⟨_, rfl⟩
        have HJ : Hid (j = i + 1) := hj
        have HK : Hid (n - i ≤ gk) := hik
        clear st hr hn hik cP hj
        rcases (by omega : i = 0 ∨ i = 1 ∨ i = 2 ∨ i = 3) with rfl | rfl | rfl | rfl
        all_goals first
          | (exfalso; omega)
          | skip
        all_goals go_wp2_with fail
        all_goals
          refine (HC.out _ _ (by omega) (by first | rfl | (show v / 16777216 % 256 = v / 16777216; omega))).mono ?_
          rintro e w1 ⟨rfl, h1, k1⟩
          clear HC
          go_wp2_with fail
          go_roundg (n - j)
          case measure => have := HJ.out; have := HK.out; omega
          case rel => exact ⟨j, by rw [HJ.out]; rfl, by have := HJ.out; omega, Nat.le_refl _, by rw [HJ.out]; exact h1, kk.trans k1⟩
      · have hz : ¬ (i : Int) < (n : Int) := by omega
        rw [← hn] at hz
        obtain rfl : i = n := by omega
        clear hn hik
        go_wp2
        go_ret
        exact ⟨rfl, hr, kk⟩

/-- What has been read so far. -/
def RdS (M : Mem) (x : Int) : Nat → Int
  | 0 => 0
  | i + 1 => RdS M x i + M.rd ((x + i) % 4294967296) * 256 ^ i

theorem RdS_bd (M : Mem) (x : Int) (hb : ∀ a : Int, 0 ≤ a → a < 4294967296 → 0 ≤ M.rd a ∧ M.rd a < 256) (i : Nat) (hi : i < 4) : 0 ≤ RdS M x i ∧ RdS M x i < 16777216 := by
  have r0 := hb ((x + 0) % 4294967296) (by omega) (by omega)
  have r1 := hb ((x + 1) % 4294967296) (by omega) (by omega)
  have r2 := hb ((x + 2) % 4294967296) (by omega) (by omega)
  rcases (by omega : i = 0 ∨ i = 1 ∨ i = 2 ∨ i = 3) with rfl | rfl | rfl | rfl
  · show 0 ≤ (0 : Int) ∧ (0 : Int) < 16777216
    omega
  · show 0 ≤ 0 + M.rd ((x + 0) % 4294967296) * 1 ∧ 0 + M.rd ((x + 0) % 4294967296) * 1 < 16777216
    omega
  · show 0 ≤ 0 + M.rd ((x + 0) % 4294967296) * 1 + M.rd ((x + 1) % 4294967296) * 256 ∧ 0 + M.rd ((x + 0) % 4294967296) * 1 + M.rd ((x + 1) % 4294967296) * 256 < 16777216
    omega
  · show 0 ≤ 0 + M.rd ((x + 0) % 4294967296) * 1 + M.rd ((x + 1) % 4294967296) * 256 + M.rd ((x + 2) % 4294967296) * 65536 ∧ 0 + M.rd ((x + 0) % 4294967296) * 1 + M.rd ((x + 1) % 4294967296) * 256 + M.rd ((x + 2) % 4294967296) * 65536 < 16777216
    omega

theorem RdS_read (M : Mem) (x : Int) (n : Nat) (hn : n = 1 ∨ n = 2 ∨ n = 4) : RdS M x n = M.read x n := by
  unfold Mem.read cellB
  rcases hn with rfl | rfl | rfl
  · simp [RdS]
  · simp [RdS]
  · simp [RdS]

def RdL (w : World) (M : Mem) (x : Int) (n k : Nat) (s8 s9 : Value) (wr : World) : Prop :=
  ∃ i : Nat, s9 = .int .i64 i ∧ s8 = .int .u32 (RdS M x i) ∧ i ≤ n ∧ n - i ≤ k ∧ Kp noB w wr

set_option maxRecDepth 100000 in
set_option maxHeartbeats 1000000 in
theorem refRead_ok (w : World) (R : Rf) (M : Mem) (h : RefAt w R M) (hb : ∀ a : Int, 0 ≤ a → a < 4294967296 → 0 ≤ M.rd a ∧ M.rd a < 256) (x s : Int) (x0 : 0 ≤ x) (x1 : x < 4294967296) (hs : okS s = true) :
    Calls Tryz.prog 91 #[.pointer (some ⟨R.r, 0, none⟩), .int .u32 x, .int .i64 s] w fun e w' => e = .returned (.tuple #[.int .u32 (M.read x s.toNat), .int .i64 0]) ∧ Kp noB w w' := by
  have hs1 : s = 1 ∨ s = 2 ∨ s = 4 := by simpa [okS] using hs
  obtain ⟨n, hn⟩ : ∃ n : Nat, n = s.toNat := ⟨_, rfl⟩
  have HR : Hid (RdS M x n = M.read x s.toNat) := by rw [← hn]; exact RdS_read M x n (by omega)
  have n4 : n ≤ 4 := by omega
  have es : s = (n : Int) := by omega
  have HN : Hid (s = (n : Int)) := es
  clear hn es hs
  rcases hs1 with rfl | rfl | rfl
  all_goals
    go_enter Tryz.func91, Tryz.ntmps91
    go_wp2_with fail
    go_loopg [8, 9] n (RdL w M x n)
    case atStart => exact ⟨0, rfl, rfl, Nat.zero_le _, Nat.le_refl _, Kp.refl _ _⟩
    case round =>
      obtain ⟨i, rfl, rfl, hi, hik, kk⟩ := hrel
      have hn := HN.out
      by_cases hlt : i < n
      · have hz : (i : Int) < (n : Int) := by omega
        rw [← hn] at hz
        obtain ⟨z0, z1⟩ := RdS_bd M x hb i (by omega)
        obtain ⟨y0, y1⟩ := hb ((x + i) % 4294967296) (by omega) (by omega)
        have cB := refByte_any wr R M (h.kp kk (fun _ _ f => f)) ((x + i) % 4294967296) (by omega) (by omega)
        have hsum : RdS M x (i + 1) = RdS M x i + M.rd ((x + i) % 4294967296) * 256 ^ i := rfl
        obtain ⟨bv, hbv⟩ : ∃ bv, bv = M.rd ((x + i) % 4294967296) := ⟨_, rfl⟩
        obtain ⟨sv, hsv⟩ : ∃ sv, sv = RdS M x i := ⟨_, rfl⟩
        rw [← hbv] at hsum y0 y1 cB
        rw [← hsv] at hsum z0 z1 ⊢
        have HC : Hid (∀ z : Int, z = (x + i) % 4294967296 → Calls Tryz.prog 55 #[.pointer (some ⟨R.r, 0, none⟩), .int .u32 z] wr fun e w' => e = .returned (.int .u8 bv) ∧ Kp noB wr w') := by
          rintro _ rfl; exact cB
        obtain ⟨j, hj⟩ : ∃ j, j = i + 1 := ⟨_, rfl⟩
        have HJ : Hid (j = i + 1) := hj
        have HK : Hid (n - i ≤ gk) := hik
        have HS : Hid (RdS M x (i + 1) = sv + bv * 256 ^ i) := hsum
        clear hn hik hj hsum hbv hsv cB
        rcases (by omega : i = 0 ∨ i = 1 ∨ i = 2 ∨ i = 3) with rfl | rfl | rfl | rfl
        all_goals first
          | (exfalso; omega)
          | skip
        all_goals go_wp2_with fail
        all_goals
          refine (HC.out _ (by omega)).mono ?_
          rintro e w1 ⟨rfl, k1⟩
          clear HC
          go_wp2_with fail
          go_roundg (n - j)
          case measure => have := HJ.out; have := HK.out; omega
          case rel => exact ⟨j, by rw [HJ.out]; rfl, by rw [HJ.out, HS.out]; first | rfl | (congr 1; omega), by have := HJ.out; omega, Nat.le_refl _, kk.over k1 (fun _ _ f => f)⟩
      · have hz : ¬ (i : Int) < (n : Int) := by omega
        rw [← hn] at hz
        obtain rfl : i = n := by omega
        rw [HR.out]
        clear hn hik
        go_wp2
        exact bodyPost_ret (v := .tuple #[.int .u32 (M.read x _), .int .i64 0]) (by simp [results, Tryz.results91, go_sem]) rfl ⟨rfl, kk⟩

end Go.Proofs.YtmmnnafjikilpaaGreat

/- The document's own memory: made anew. And the code's Dump. -/
namespace Go.Proofs.YtmmnnafjikilpaaGreat
open Go.ChangeShapes Go.WideShapes Go.ChangeAt Go.RowKit Go.Maps
set_option linter.unusedVariables false

theorem info8 : (Tryz.prog.info? 5).map (fun i => (i.zero, i.size, i.bytes)) = some (some (.int .u8 0), 1, 1) := by kernel_rfl
theorem infoB : (Tryz.prog.info? 4).map (fun i => (i.zero, i.size, i.bytes)) = some (some (.bool false), 1, 1) := by kernel_rfl
theorem slice8T : Tryz.prog.underlying 85 = some (.slice 5) := by kernel_rfl
theorem sliceBT : Tryz.prog.underlying 86 = some (.slice 4) := by kernel_rfl

def made (z : Value) (n : Nat) : Array Value := madeCells z.cells n

theorem made_at (z : Value) (n : Nat) (hz : z.cells = #[z]) : (made z n).size = n ∧ ∀ j, j < n → (made z n)[j]? = some z := by
  unfold made
  rw [hz]
  refine ⟨by simp [madeCells], fun j hj => by simp [madeCells, hj, Nat.mod_one]⟩

theorem make8 (w : World) (n : Nat) (h : n ≤ 2147483647) : (Instr.makeSlice 85 (.int .i64 n) (.int .i64 n)).run Tryz.prog w = .ok (.slice (some ⟨w.heap.size, 0, none⟩) n n) (w.alloc (.cells (made (.int .u8 0) n) 5)) := by
  obtain ⟨i0, hi, hz0, hz1, hz2⟩ := info_parts info8
  have r := run_make (P := Tryz.prog) w 85 5 i0 (.int .u8 0) slice8T hi hz0 .i64 .i64 n n (by omega) (Int.le_refl _) (by rw [hz2]; omega) (by omega)
  rw [Int.toNat_natCast, hz1, Nat.mul_one] at r
  exact r

theorem makeB (w : World) (n : Nat) (h : n ≤ 2147483647) : (Instr.makeSlice 86 (.int .i64 n) (.int .i64 n)).run Tryz.prog w = .ok (.slice (some ⟨w.heap.size, 0, none⟩) n n) (w.alloc (.cells (made (.bool false) n) 4)) := by
  obtain ⟨i0, hi, hz0, hz1, hz2⟩ := info_parts infoB
  have r := run_make (P := Tryz.prog) w 86 4 i0 (.bool false) sliceBT hi hz0 .i64 .i64 n n (by omega) (Int.le_refl _) (by rw [hz2]; omega) (by omega)
  rw [Int.toNat_natCast, hz1, Nat.mul_one] at r
  exact r

/-- The code's Dump: what is read, byte by byte, in a block of its own. -/
def DumpPost (w : World) (B : Nat) (M : Mem) (x : Int) (n : Nat) (e : Ending) (w' : World) : Prop :=
  ∃ cs, e = .returned (.slice (some ⟨w.heap.size, 0, none⟩) n n) ∧ w'.heap[w.heap.size]? = some (.cells cs 5 (0, 0)) ∧ cs.size = n ∧ (∀ j, j < n → cs[j]? = some (.int .u8 (M.rd ((x + j) % 4294967296)))) ∧ Kp noB w w'

theorem dump_ok (w : World) (B : Nat) (M : Mem) (h : RamAt w B M) (x : Int) (x0 : 0 ≤ x) (x1 : x < 4294967296) (n : Nat) (n0 : 1 ≤ n) (n1 : n ≤ 2147483647) :
    Calls Tryz.prog 33 #[.pointer (some ⟨B + 3, 0, none⟩), .int .u32 x, .int .i64 n] w (DumpPost w B M x n) := by
  have hm := make8 w n n1
  have hma := made_at (.int .u8 0) n rfl
  have hlt := h.lt
  obtain ⟨wa, hwa⟩ : ∃ wa, wa = w.alloc (.cells (made (.int .u8 0) n) 5) := ⟨_, rfl⟩
  have hr1 : RamAt wa B M := by rw [hwa]; exact h.alloc _
  have hS : wa.heap[w.heap.size]? = some (.cells (made (.int .u8 0) n) 5 (0, 0)) := by rw [hwa]; exact (MapKept.heap_alloc w _).1
  have k1 : Kp noB w wa := by rw [hwa]; exact Kp.alloc _ _ _
  have cT := tell_any wa B M hr1 x x0 x1 w.heap.size 0 n n (made (.int .u8 0) n) 5 hS (by rw [hma.1]; omega) (by omega) (Nat.le_refl _) (fun f => by have := f.2; omega)
  rw [← hwa] at hm
  have g1 : ¬ (n : Int) < 1 := by omega
  have g2 : ¬ (2147483647 : Int) < (n : Int) := by omega
  clear hwa
  go_enter Tryz.func33, Tryz.ntmps33
  go_wp2_with fail
  refine cT.mono ?_; rintro e w2 ⟨rfl, ⟨cur', hh, hl⟩, k2⟩
  clear cT hm
  go_wp2
  go_ret
  refine ⟨cur', rfl, hh, by rw [hl.1, hma.1], fun j hj => ?_, k1.over k2 (fun j hj e => by omega)⟩
  rw [hl.2 j, if_pos ⟨Nat.zero_le _, by omega⟩, Nat.sub_zero]

def NewPost (w : World) (n : Nat) (e : Ending) (w' : World) : Prop :=
  ∃ R : Rf, e = .returned (.tuple #[.pointer (some ⟨R.r, 0, none⟩), .int .i64 0]) ∧ RefAt w' R (mem0 n) ∧ (∀ k, R.has k → w.heap.size ≤ k) ∧ Kp noB w w'

theorem five (w : World) (A B C D E : Obj) : let W := ((((w.alloc A).alloc B).alloc C).alloc D).alloc E
    W.heap[w.heap.size]? = some A ∧ W.heap[w.heap.size + 1]? = some B ∧ W.heap[w.heap.size + 1 + 1]? = some C ∧ W.heap[w.heap.size + 1 + 1 + 1]? = some D ∧ W.heap[w.heap.size + 1 + 1 + 1 + 1]? = some E ∧ Kp noB w W := by
  have s1 : (w.alloc A).heap.size = w.heap.size + 1 := by simp
  have s2 : ((w.alloc A).alloc B).heap.size = w.heap.size + 1 + 1 := by simp
  have s3 : (((w.alloc A).alloc B).alloc C).heap.size = w.heap.size + 1 + 1 + 1 := by simp
  have s4 : ((((w.alloc A).alloc B).alloc C).alloc D).heap.size = w.heap.size + 1 + 1 + 1 + 1 := by simp
  have a0 := (MapKept.heap_alloc w A).1
  have a1 := (MapKept.heap_alloc (w.alloc A) B).1
  have a2 := (MapKept.heap_alloc ((w.alloc A).alloc B) C).1
  have a3 := (MapKept.heap_alloc (((w.alloc A).alloc B).alloc C) D).1
  have a4 := (MapKept.heap_alloc ((((w.alloc A).alloc B).alloc C).alloc D) E).1
  rw [s1] at a1
  rw [s2] at a2
  rw [s3] at a3
  rw [s4] at a4
  have o : ∀ (X : World) (O : Obj) (k : Nat), k < X.heap.size → (X.alloc O).heap[k]? = X.heap[k]? := fun X O k hk => Below.heap_alloc _ _ _ hk
  refine ⟨?_, ?_, ?_, ?_, a4, ((((Kp.alloc _ _ _).trans (Kp.alloc _ _ _)).trans (Kp.alloc _ _ _)).trans (Kp.alloc _ _ _)).trans (Kp.alloc _ _ _)⟩
  · rw [o _ E _ (by omega), o _ D _ (by omega), o _ C _ (by omega), o _ B _ (by omega)]; exact a0
  · rw [o _ E _ (by omega), o _ D _ (by omega), o _ C _ (by omega)]; exact a1
  · rw [o _ E _ (by omega), o _ D _ (by omega)]; exact a2
  · rw [o _ E _ (by omega)]; exact a3

theorem five_drew (w : World) (A B C D E : Obj) : let W := (((((w.alloc A).alloc B).alloc C).alloc D).alloc E).drew
    W.heap[w.heap.size]? = some A ∧ W.heap[w.heap.size + 1]? = some B ∧ W.heap[w.heap.size + 1 + 1]? = some C ∧ W.heap[w.heap.size + 1 + 1 + 1]? = some D ∧ W.heap[w.heap.size + 1 + 1 + 1 + 1]? = some E ∧ Kp noB w W := by
  obtain ⟨z0, z1, z2, z3, z4, kz⟩ := five w A B C D E
  exact ⟨z0, z1, z2, z3, z4, kz.drewN 1⟩

theorem refNew_close (w W : World) (n N K b o t q : Nat) (hN : N = 4096 * n) (hK : K = 64 * n) (h1 : n ≤ 256) (kp : Kp noB w W)
    (hr : W.heap[w.heap.size + 1 + 1 + 1 + 1]? = some (.cells #[.slice (some ⟨b, 0, none⟩) N N, .slice (some ⟨o, 0, none⟩) n n, .slice (some ⟨t, 0, none⟩) K K, .slice (some ⟨q, 0, none⟩) K K, .bool false] 88 (0, 0)))
    (hb : W.heap[b]? = some (.cells (made (.int .u8 0) N) 5 (0, 0))) (ho : W.heap[o]? = some (.cells (made (.bool false) n) 4 (0, 0))) (ht : W.heap[t]? = some (.cells (made (.bool false) K) 4 (0, 0))) (hq : W.heap[q]? = some (.cells (made (.bool false) K) 4 (0, 0)))
    (ap : Rf.apart ⟨w.heap.size + 1 + 1 + 1 + 1, b, o, t, q⟩) (lo : w.heap.size ≤ b ∧ w.heap.size ≤ o ∧ w.heap.size ≤ t ∧ w.heap.size ≤ q) :
    NewPost w n (.returned (.tuple #[.pointer (some ⟨w.heap.size + 1 + 1 + 1 + 1, 0, none⟩), .int .i64 0])) W := by
  subst hN
  subst hK
  refine ⟨⟨w.heap.size + 1 + 1 + 1 + 1, b, o, t, q⟩, rfl, ⟨h1, ap, hr, ⟨_, hb, (made_at _ _ rfl).1, (made_at _ _ rfl).2⟩, ⟨_, ho, (made_at _ _ rfl).1, (made_at _ _ rfl).2⟩, ⟨_, ht, (made_at _ _ rfl).1, (made_at _ _ rfl).2⟩, ⟨_, hq, (made_at _ _ rfl).1, (made_at _ _ rfl).2⟩⟩, ?_, kp⟩
  rintro k (rfl | rfl | rfl | rfl | rfl)
  · show w.heap.size ≤ w.heap.size + 1 + 1 + 1 + 1
    omega
  · exact lo.1
  · exact lo.2.1
  · exact lo.2.2.1
  · exact lo.2.2.2

set_option maxRecDepth 100000 in
set_option maxHeartbeats 4000000 in
theorem refNew_ok (w : World) (n : Nat) (h0 : 1 ≤ n) (h1 : n ≤ 256) :
    Calls Tryz.prog 14 #[.int .i64 n] w (NewPost w n) := by
  obtain ⟨N, hN⟩ : ∃ N : Nat, N = 4096 * n := ⟨_, rfl⟩
  obtain ⟨K, hK⟩ : ∃ K : Nat, K = 64 * n := ⟨_, rfl⟩
  have g1 : ¬ (n : Int) < 1 := by omega
  have g2 : ¬ (256 : Int) < (n : Int) := by omega
  have e1 : (n : Int) * 4096 = (N : Int) := by omega
  have e2 : (N : Int) / 64 = (K : Int) := by omega
  have e3 : Int.tdiv (N : Int) 64 = (K : Int) := by rw [Int.tdiv_eq_ediv_of_nonneg (by omega)]; exact e2
  have mN := fun W => make8 W N (by omega)
  have mn := fun W => makeB W n (by omega)
  have mK := fun W => makeB W K (by omega)
  have HN : Hid (N = 4096 * n) := hN
  have HK : Hid (K = 64 * n) := hK
  clear hN hK
  go_enter Tryz.func14, Tryz.ntmps14
  go_wp2
  go_region
  all_goals go_wp2
  all_goals
    refine bodyPost_ret (v := .tuple #[.pointer (some ⟨w.heap.size + 1 + 1 + 1 + 1, 0, none⟩), .int .i64 0]) (by simp [results, Tryz.results14, go_sem]) rfl ?_
    obtain ⟨z0, z1, z2, z3, z4, kz⟩ := five_drew w _ _ _ _ _
    refine refNew_close w _ n N K _ _ _ _ HN.out HK.out h1 kz z4 (by first | exact z0 | exact z1 | exact z2 | exact z3) (by first | exact z0 | exact z1 | exact z2 | exact z3) (by first | exact z0 | exact z1 | exact z2 | exact z3) (by first | exact z0 | exact z1 | exact z2 | exact z3) ⟨?_, ?_, ?_, ?_, ?_, ?_, ?_, ?_, ?_, ?_⟩ ⟨?_, ?_, ?_, ?_⟩
    all_goals first | omega | (dsimp only; omega)
end Go.Proofs.YtmmnnafjikilpaaGreat
