/- A disk and what lies beside it, all of it new since the call. -/
import Derived.Test.YtddalplpmgmplaaIdStr
namespace Go.Proofs.Ytddalplpmgmplaa
open Go.ChangeShapes Go.WideShapes Go.ChangeAt Go.RowKit
set_option linter.unusedVariables false

structure St (W w : World) (B : Nat) (sd : List (Nat × Obj)) (d : Id) : Prop where
  ex : ∃ S, IW w S B d ∧ Bs W w S ∧ ∀ x ∈ sd, ¬ S x.1 ∧ w.heap[x.1]? = some x.2
  ok : d.Ok

section
variable {W w w' : World} {B : Nat} {sd : List (Nat × Obj)} {d d' : Id}

theorem St.kp (h : St W w B sd d) : Kp noB W w := by
  obtain ⟨S, h1, h2, h3⟩ := h.ex
  exact h2.kp

theorem St.heap (h : St W w B sd d) {g : Nat} {o : Obj} (hx : (g, o) ∈ sd) : w.heap[g]? = some o := by
  obtain ⟨S, h1, h2, h3⟩ := h.ex
  exact (h3 _ hx).2

theorem St.keep (h : St W w B sd d) (k : Kp noB w w') : St W w' B sd d := by
  obtain ⟨S, h1, h2, h3⟩ := h.ex
  exact ⟨⟨S, h1.keep k, h2.keep k, fun x hx => ⟨(h3 x hx).1, heap_kept (h3 x hx).2 k id⟩⟩, h.ok⟩

theorem St.drew (h : St W w B sd d) : St W w.drew B sd d := h.keep (Kp.refl _ _).drew

theorem St.less (h : St W w B sd d) {sd' : List (Nat × Obj)} (e : ∀ x ∈ sd', x ∈ sd) : St W w B sd' d := by
  obtain ⟨S, h1, h2, h3⟩ := h.ex
  exact ⟨⟨S, h1, h2, fun x hx => h3 x (e x hx)⟩, h.ok⟩

/-- A new block lies beside it. -/
theorem St.more (h : St W w B sd d) (k : Kp noB w w') {g : Nat} {o : Obj} (hg : w.heap.size ≤ g) (ho : w'.heap[g]? = some o) : St W w' B ((g, o) :: sd) d := by
  obtain ⟨S, h1, h2, h3⟩ := h.ex
  refine ⟨⟨S, h1.keep k, h2.keep k, fun x hx => ?_⟩, h.ok⟩
  rcases List.mem_cons.1 hx with e | hx
  · subst e
    exact ⟨fun f => by have := h1.lt _ f; omega, ho⟩
  · exact ⟨(h3 x hx).1, heap_kept (h3 x hx).2 k id⟩

theorem St.alloc (h : St W w B sd d) (o : Obj) : St W (w.alloc o) B ((w.heap.size, o) :: sd) d := h.more (Kp.alloc noB _ _) (Nat.le_refl _) (heap_new _ _)

/-- What lies beside it is changed. -/
theorem St.turn (h : St W w B sd d) {g : Nat} {o o' : Obj} {sd0 : List (Nat × Obj)} (hx : (g, o) ∈ sd) (hs : ∀ x ∈ sd0, x ∈ sd ∧ x.1 ≠ g) (hW : W.heap.size ≤ g) (k : Kp (isB g) w w') (ho : w'.heap[g]? = some o') : St W w' B ((g, o') :: sd0) d := by
  obtain ⟨S, h1, h2, h3⟩ := h.ex
  have hg := (h3 _ hx).1
  refine ⟨⟨S, h1.kept k (fun j hj (e : j = g) => hg (e ▸ hj)), ⟨h2.new, h2.kp.over k (fun j hj (e : j = g) => by omega)⟩, fun x hx => ?_⟩, h.ok⟩
  rcases List.mem_cons.1 hx with e | hx
  · subst e
    exact ⟨hg, ho⟩
  · obtain ⟨a, b⟩ := hs x hx
    exact ⟨(h3 x a).1, heap_kept (h3 x a).2 k b⟩

theorem St.next {S : Nat → Prop} (b : Bs W w S) (hS : ∀ x ∈ sd, ¬ S x.1 ∧ w.heap[x.1]? = some x.2) (n : INx w S B d' w') (k : d'.Ok) : St W w' B sd d' := by
  obtain ⟨S', h1, h2⟩ := n
  refine ⟨⟨S', h1, b.next h2, fun x hx => ?_⟩, k⟩
  have f := (⟨heap_lt (hS x hx).2, (hS x hx).1⟩ : Far w S x.1).next h2
  exact ⟨f.out, heap_kept (hS x hx).2 h2.kp (hS x hx).1⟩

theorem St.out (h : St W w B sd d) (reg size v : Int) (v0 : 0 ≤ v) (v1 : v < 4294967296) (hw : d.work + 4 < 9007199254740992) : Calls Try.prog 7 #[.pointer (some ⟨B, 0, none⟩), .int .i64 reg, .int .i64 size, .int .u32 v] w fun e w' => e = .returned (.int .i64 (ck reg size)) ∧ St W w' B sd (d.o reg size v) := by
  obtain ⟨S, h1, h2, h3⟩ := h.ex
  exact (wOut h1 h.ok reg size v v0 v1 hw).mono fun e w' ⟨a, b⟩ => ⟨a, .next h2 h3 b (h.ok.o _ _ _)⟩

theorem St.in' (h : St W w B sd d) (reg size : Int) : Calls Try.prog 9 #[.pointer (some ⟨B, 0, none⟩), .int .i64 reg, .int .i64 size] w fun e w' => e = .returned (.tuple #[.int .u32 (d.iV reg size), .int .i64 (ck reg size)]) ∧ St W w' B sd (d.i reg size) := by
  obtain ⟨S, h1, h2, h3⟩ := h.ex
  exact (wIn h1 h.ok reg size).mono fun e w' ⟨a, b⟩ => ⟨a, .next h2 h3 b (h.ok.i _ _)⟩

theorem St.line (h : St W w B sd d) : Calls Try.prog 14 #[.pointer (some ⟨B, 0, none⟩)] w fun e w' => e = .returned (.bool d.line) ∧ w' = w := by
  obtain ⟨S, h1, h2, h3⟩ := h.ex
  exact wLine h1 h.ok

/-- Behind Disk: all its bytes, and it is as it was. -/
def Dsk1 (W w : World) (B : Nat) (sd : List (Nat × Obj)) (d : Id) (w' : World) : Prop := ∃ cur, St W w' B ((w.heap.size, .cells cur 5 (0, 0)) :: sd) d ∧ cur.size = 512 * d.n ∧ (∀ j, j < 512 * d.n → cur[j]? = some (.int .u8 (d.D j))) ∧ Kp noB w w'

theorem St.disk (h : St W w B sd d) : Calls Try.prog 16 #[.pointer (some ⟨B, 0, none⟩)] w fun e w' => e = .returned (.slice (some ⟨w.heap.size, 0, none⟩) (512 * d.n) (512 * d.n)) ∧ Dsk1 W w B sd d w' := by
  obtain ⟨S, h1, h2, h3⟩ := h.ex
  refine (wDisk h1 h.ok).mono fun e w' ⟨a, b⟩ => ⟨a, ?_⟩
  obtain ⟨cur, c1, c2, c3⟩ := b.row.ex
  exact ⟨cur, h.more b.2.1 (Nat.le_refl _) c1, c2, c3, b.2.1⟩

/-- Behind Written: what was told lies aside. -/
def Told1 (W w : World) (B : Nat) (sd : List (Nat × Obj)) (d : Id) (v : Value) (w' : World) : Prop := St W w' B sd d.told ∧ ∃ S, IW w' S B d.told ∧ Bs W w' S ∧ AsideI w' S v d.log ∧ (∀ x ∈ sd, ¬ S x.1 ∧ w'.heap[x.1]? = some x.2) ∧ (∀ k, v.ownBlock = some k → W.heap.size ≤ k ∧ ∀ x ∈ sd, x.1 ≠ k)

theorem St.written (h : St W w B sd d) : Calls Try.prog 12 #[.pointer (some ⟨B, 0, none⟩)] w fun e w' => ∃ p c, e = .returned (.slice p d.log.length c) ∧ Told1 W w B sd d (.slice p d.log.length c) w' := by
  obtain ⟨S, h1, h2, h3⟩ := h.ex
  refine (wWritten h1).mono fun e w' ⟨p, c, a, S', b1, b2, b3, b4⟩ => ?_
  have hs := fun x hx => ((⟨heap_lt (h3 x hx).2, (h3 x hx).1⟩ : Far w S x.1).next b2)
  have hh : ∀ x ∈ sd, ¬ S' x.1 ∧ w'.heap[x.1]? = some x.2 := fun x hx => ⟨(hs x hx).out, heap_kept (h3 x hx).2 b2.kp (h3 x hx).1⟩
  exact ⟨p, c, a, ⟨⟨S', b1, h2.next b2, hh⟩, h.ok.told⟩, S', b1, h2.next b2, b3, hh, fun k e => ⟨h2.new k (b4 k e), fun x hx e' => (h3 x hx).1 (e' ▸ b4 k e)⟩⟩
end

/-- A row of bytes, by its cells. -/
def rowO (cur : Array Value) : Obj := .cells cur 5 (0, 0)
def isRow (cur : Array Value) (L : Nat) (bt : Nat → Int) : Prop := cur.size = L ∧ ∀ j, j < L → cur[j]? = some (.int .u8 (bt j))
theorem isRow.row {w : World} {g L : Nat} {bt : Nat → Int} {cur : Array Value} (h : isRow cur L bt) (hg : w.heap[g]? = some (rowO cur)) : RowB w g L bt := ⟨cur, hg, h.1, h.2⟩
theorem RowB.is {w : World} {g L : Nat} {bt : Nat → Int} (h : RowB w g L bt) : ∃ cur, isRow cur L bt ∧ w.heap[g]? = some (rowO cur) := by
  obtain ⟨cur, h1, h2, h3⟩ := h.ex
  exact ⟨cur, ⟨h2, h3⟩, h1⟩

/-- Five cells: a call. -/
def opO (kd rg sz v tm : Int) : Obj := .cells #[.int .i64 kd, .int .i64 rg, .int .i64 sz, .int .u32 v, .int .i64 tm] 34 (0, 0)
theorem opO_cells {w : World} {X : Nat} {kd rg sz v tm : Int} (h : w.heap[X]? = some (opO kd rg sz v tm)) : w.cell? ⟨X, 0, none⟩ = some (.int .i64 kd) ∧ w.cell? ⟨X, 1, none⟩ = some (.int .i64 rg) ∧ w.cell? ⟨X, 2, none⟩ = some (.int .i64 sz) ∧ w.cell? ⟨X, 3, none⟩ = some (.int .u32 v) ∧ w.cell? ⟨X, 4, none⟩ = some (.int .i64 tm) := by
  unfold opO at h
  exact ⟨by rw [cell_at h]; rfl, by rw [cell_at h]; rfl, by rw [cell_at h]; rfl, by rw [cell_at h]; rfl, by rw [cell_at h]; rfl⟩
end Go.Proofs.Ytddalplpmgmplaa
