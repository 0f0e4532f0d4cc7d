/- The disk beside a row of bytes. -/
import Derived.Test.YtlgbbgodffkimaaIdSec
import Derived.Test.YtlgbbgodffkimaaIdSame
import Derived.Test.YtlgbbgodffkimaaIdBk
namespace Go.Proofs.Ytlgbbgodffkimaa
open Go.ChangeShapes Go.WideShapes Go.ChangeAt Go.RowKit
set_option linter.unusedVariables false

/-- The disk d beside a row of bytes. -/
def Rw (W w : World) (B g L : Nat) (f : Nat → Int) (d : Id) : Prop := ∃ cur, isRow cur L f ∧ St W w B [(g, rowO cur)] d

theorem Rw.row {W w : World} {B g L : Nat} {f : Nat → Int} {d : Id} (h : Rw W w B g L f d) : RowB w g L f := by
  obtain ⟨cur, h1, h2⟩ := h
  exact h1.row (h2.heap (.head _))

theorem Rw.kp {W w : World} {B g L : Nat} {f : Nat → Int} {d : Id} (h : Rw W w B g L f d) : Kp noB W w := by
  obtain ⟨cur, h1, h2⟩ := h
  exact h2.kp

theorem Rw.set {W w : World} {B g L : Nat} {f : Nat → Int} {d : Id} (h : Rw W w B g L f d) (hg : W.heap.size ≤ g) (k : Nat) (x : Int) : Rw W (w.setCell ⟨g, k, none⟩ (.int .u8 x)) B g L (setB f k x) d := by
  obtain ⟨cur, h1, h2⟩ := h
  obtain ⟨c, a1, a2⟩ := ((h1.row (h2.heap (.head _))).set k x).is
  exact ⟨c, a1, h2.turn (.head _) (fun x hx => by cases hx) hg (kpB g _ _ _) a2⟩

theorem Rw.of {W w : World} {B g L : Nat} {f f' : Nat → Int} {d : Id} (h : Rw W w B g L f d) (e : f = f') : Rw W w B g L f' d := e ▸ h

theorem Rw.out {W w : World} {B g L : Nat} {f : Nat → Int} {d : Id} (h : Rw W w B g L f d) (reg size v : Int) (v0 : 0 ≤ v) (v1 : v < 4294967296) (hw : d.work + 4 < 9007199254740992) : Calls Try.prog 12 #[.pointer (some ⟨B, 0, none⟩), .int .i64 reg, .int .i64 size, .int .u32 v] w fun e w' => e = .returned (.int .i64 (ck reg size)) ∧ Rw W w' B g L f (d.o reg size v) := by
  obtain ⟨cur, h1, h2⟩ := h
  exact (h2.out reg size v v0 v1 hw).mono fun e w' ⟨a, b⟩ => ⟨a, cur, h1, b⟩

theorem Rw.in' {W w : World} {B g L : Nat} {f : Nat → Int} {d : Id} (h : Rw W w B g L f d) (reg size : Int) : Calls Try.prog 14 #[.pointer (some ⟨B, 0, none⟩), .int .i64 reg, .int .i64 size] w fun e w' => e = .returned (.tuple #[.int .u32 (d.iV reg size), .int .i64 (ck reg size)]) ∧ Rw W w' B g L f (d.i reg size) := by
  obtain ⟨cur, h1, h2⟩ := h
  exact (h2.in' reg size).mono fun e w' ⟨a, b⟩ => ⟨a, cur, h1, b⟩

/-- The byte of the list, round and round. -/
def btR (bt : Nat → Int) (Lb : Nat) (j : Nat) : Int := bt (j % Lb)

theorem rT_0 (x : Id) (p : Nat) : rT x p 0 = dR x p := by
  unfold rT
  rw [if_pos (by decide)]
  rfl

/-- What is known of the disk behind the writing. -/
structure Bkx (x : Id) (m p : Nat) (bt D : Nat → Int) : Prop where
  n : x.n = m
  log : x.log = [(p : Int)]
  D : x.D = rwF p bt D 512
  ok : x.Ok
  m5 : m < 5
  pm : p < m

section
variable {W : World} {B g : Nat} {cur : Array Value} {x : Id} {m p : Nat} {bt D : Nat → Int}

theorem Bkx.conv (IR : isRow cur (512 * m) (rwF p bt (dskS 0) 512)) (w : World) (d' : Id) (sd : List (Nat × Obj)) (hm : (g, rowO cur) ∈ sd) (h : St W w B sd d') : (convert 23 9 (.slice (some ⟨g, 0, none⟩) (512 * m) (512 * m))).run Try.prog w = .ok (.string (strOfNums (strR (512 * m) (rwF p bt (dskS 0) 512)))) w :=
  (IR.row (h.heap hm)).str

theorem Bkx.read (b : Bkx x m p bt D) (D0 : ∀ j, j < 512 * m → D j = dskS 0 j) (w w' : World) (h : Dsk1 W w B [(g, rowO cur)] x w') : (convert 23 9 (.slice (some ⟨w.heap.size, 0, none⟩) (512 * m) (512 * m))).run Try.prog w' = .ok (.string (strOfNums (strR (512 * m) (rwF p bt (dskS 0) 512)))) w' ∧ St W w' B [(g, rowO cur)] x := by
  have hD : strR (512 * m) x.D = strR (512 * m) (rwF p bt (dskS 0) 512) := strR_same (fun j hj => by
    rw [b.D]
    unfold rwF
    split
    · rfl
    · exact D0 j hj)
  obtain ⟨c, h1, h2, h3, h4⟩ := h
  rw [b.n] at h2 h3
  refine ⟨?_, h1.less (fun x hx => .tail _ hx)⟩
  rw [← hD]
  have hr : isRow c (512 * m) x.D := ⟨h2, h3⟩
  exact (hr.row (h1.heap (.head _))).str

theorem Bkx.disk (b : Bkx x m p bt D) (w : World) (h : St W w B [(g, rowO cur)] x) : Calls Try.prog 21 #[.pointer (some ⟨B, 0, none⟩)] w fun e w' => e = .returned (.slice (some ⟨w.heap.size, 0, none⟩) (512 * m) (512 * m)) ∧ Dsk1 W w B [(g, rowO cur)] x w' := by
  have := h.disk
  rw [b.n] at this
  exact this

theorem Bkx.written (b : Bkx x m p bt D) (w : World) (sd : List (Nat × Obj)) (h : St W w B sd x) : Calls Try.prog 17 #[.pointer (some ⟨B, 0, none⟩)] w fun e w' => ∃ pa c, e = .returned (.slice pa 1 c) ∧ St W w' B sd x.told ∧ IntAt w' pa [(p : Int)] := by
  have := h.written
  rw [b.log] at this
  refine this.mono fun e w' ⟨pa, c, a, b'⟩ => ⟨pa, c, a, b'.1, ?_⟩
  obtain ⟨_, S, _, _, h5, _⟩ := b'
  rw [b.log] at h5
  exact h5.own.at

theorem same_one (w : World) (pa pb : Option Addr) (c e : Nat) (q : Int) (h1 : IntAt w pa [q]) (h2 : IntAt w pb [q]) : Calls Try.prog 16 #[.slice pa 1 c, .slice pb 1 e] w fun r w' => r = .returned (.bool true) ∧ Kp noB w w' := same_ok w pa pb c e [q] h1 h2 (by rw [List.length_singleton]; decide)

theorem one_at (w : World) (X : Nat) (q : Int) (h : w.heap[X]? = some (.cells #[.int .i64 q] 3 (0, 0))) : IntAt w (some ⟨X, 0, none⟩) [q] := fun j hj => by
  refine ⟨X, 0, rfl, ?_⟩
  have e : j = 0 := by rw [List.length_singleton] at hj; omega
  subst e
  rw [cell_at h]
  rfl

theorem Bkx.work (b : Bkx x m p bt D) : x.told.work < 1000000 := by
  show 512 * 0 + (if x.mode = 2 then x.don else 0) < 1000000
  have := b.ok.don
  split <;> omega

theorem Bkx.sector (b : Bkx x m p bt D) (w : World) (h : St W w B [(g, rowO cur)] x.told) : Calls Try.prog 23 #[.pointer (some ⟨B, 0, none⟩), .int .u32 32, .int .i64 p] w fun e w' => e = .returned (.tuple #[]) ∧ St W w' B [(g, rowO cur)] (rT x.told p 0) := by
  have tn : x.told.n = m := b.n
  have h1 := b.m5
  have h2 := b.pm
  have := sector_ok h 32 p (by decide) (by decide) (by omega) (by omega) b.work
  rw [dR_cmd x.told (by omega) (by omega), ← rT_0] at this
  exact this

theorem Bkx.byte (b : Bkx x m p bt D) (w : World) (i : Nat) (hi : i < 512) (h : St W w B [(g, rowO cur)] (rT x.told p i)) : Calls Try.prog 14 #[.pointer (some ⟨B, 0, none⟩), .int .i64 0, .int .i64 1] w fun e w' => e = .returned (.tuple #[.int .u32 (bt i), .int .i64 0]) ∧ St W w' B [(g, rowO cur)] (rT x.told p (i + 1)) := by
  have := h.in' 0 1
  have es := rT_step x.told p i hi
  have eD : x.told.D (p * 512 + i) = bt i := by
    have e1 : x.told.D = x.D := rfl
    rw [e1, b.D]
    unfold rwF
    rw [if_pos (by omega), show p * 512 + i - p * 512 = i by omega]
  rw [show ck 0 1 = 0 from by decide, (i01 (rT_off x.told p i hi)).1, (i01 (rT_off x.told p i hi)).2, es.1, es.2, eD] at this
  exact this

theorem Bkx.last (b : Bkx x m p bt D) (w : World) (h : St W w B [(g, rowO cur)] (rT x.told p 512)) : Calls Try.prog 14 #[.pointer (some ⟨B, 0, none⟩), .int .i64 7, .int .i64 1] w fun e w' => e = .returned (.tuple #[.int .u32 80, .int .i64 0]) ∧ Kp noB W w' := by
  have h1 := b.m5
  have h2 := b.pm
  have := h.in' 7 1
  have es := rT_end x.told (p := p) (by omega)
  rw [ck71, (i71 es.1).2, es.2] at this
  exact this.mono fun e w' ⟨a, b⟩ => ⟨a, b.kp⟩

theorem bk_x (m5 : m < 5) (pm : p < m) (ok : (wT (dW m D p) bt 512).Ok) : Bkx (wT (dW m D p) bt 512) m p bt D := by
  obtain ⟨xn, xl, xm, xf, xD⟩ := wT_end m5 pm D bt
  exact ⟨xn, xl, xD, ok, m5, pm⟩
end

end Go.Proofs.Ytlgbbgodffkimaa
