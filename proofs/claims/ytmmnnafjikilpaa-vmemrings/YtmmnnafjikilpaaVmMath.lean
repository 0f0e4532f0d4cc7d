/- Memory through segments and pages: a plain model over memory's and the walk's. -/
import Derived.Test.YtmmnnafjikilpaaPgMath
import Derived.Test.YtmmnnafjikilpaaSegMath
namespace Go.Proofs.Ytmmnnafjikilpaa
open Go.ChangeShapes Go.WideShapes Go.ChangeAt Go.RowKit Go.Maps
set_option linter.unusedVariables false

/-! ### the processor, as far as it is looked at -/
structure SgR where
  sel : Int
  nl : Bool
  b : Int
  l : Int
  t : Int
  s : Bool
  d : Int
  p : Bool
  g : Bool

structure SgR.Ok (r : SgR) : Prop where
  s0 : 0 ≤ r.sel
  s1 : r.sel < 65536
  b0 : 0 ≤ r.b
  b1 : r.b < 4294967296
  l0 : 0 ≤ r.l
  l1 : r.l < 4294967296
  t0 : -9223372036854775808 ≤ r.t
  t1 : r.t < 9223372036854775808

structure Cp where
  seg : Nat → SgR
  cr0 : Int
  cr3 : Int

structure Cp.Ok (c : Cp) : Prop where
  sg : ∀ i, i < 6 → (c.seg i).Ok
  z0 : 0 ≤ c.cr0
  z1 : c.cr0 < 4294967296
  t0 : 0 ≤ c.cr3
  t1 : c.cr3 < 4294967296

def Cp.pg (c : Cp) : Bool := hasF c.cr0 2147483648
def Cp.wp (c : Cp) : Bool := hasF c.cr0 65536
def Cp.us (c : Cp) : Bool := decide ((c.seg 1).sel % 4 = 3)

/-! ### faults, places, questions -/
structure Ft where
  vec : Int
  code : Int
  cr2 : Int
def Ft.val (f : Ft) : Value := .agg #[.int .i64 f.vec, .int .i64 f.code, .int .u32 f.cr2]
def noFt : Ft := ⟨-1, -1, 0⟩
def ftV (v : Int) : Ft := ⟨v, 0, 0⟩

structure Sp where
  a : Int
  b : Int
  h : Nat
  n : Nat
def Sp.val (s : Sp) : Value := .agg #[.int .u32 s.a, .int .u32 s.b, .int .i64 s.h, .int .i64 s.n]

/-- The place of the j-th byte. -/
def Sp.at (s : Sp) (j : Nat) : Int := if j < s.h then (s.a + j) % 4294967296 else (s.b + ((j : Int) - s.h)) % 4294967296

structure Sp.Ok (s : Sp) : Prop where
  a0 : 0 ≤ s.a
  a1 : s.a < 4294967296
  b0 : 0 ≤ s.b
  b1 : s.b < 4294967296
  h0 : 1 ≤ s.h
  h1 : s.h ≤ s.n
  n1 : s.n = 1 ∨ s.n = 2 ∨ s.n = 4

def Mem.spB (M : Mem) (s : Sp) (j : Nat) : Int := if j < s.n then M.rd (s.at j) else 0
def Mem.rdS (M : Mem) (s : Sp) : Int := M.spB s 0 + M.spB s 1 * 256 + M.spB s 2 * 65536 + M.spB s 3 * 16777216
/-- The first k bytes of a value are written. -/
def Mem.wrK (M : Mem) (s : Sp) (v : Int) : Nat → Mem
  | 0 => M
  | k + 1 => (M.wrK s v k).put false (s.at k) ((bytesV v).getD k 0)
def Mem.wrS (M : Mem) (s : Sp) (v : Int) : Mem := M.wrK s v s.n

/-- What is asked: its fault, or where the bytes lie; and memory behind it. -/
structure Qy where
  f : Option Ft
  m : Mem
  s : Sp

def ahd (l : Int) (n : Nat) : Nat := min n (4096 - (l % 4096).toNat)
def nxt (l : Int) (n : Nat) : Int := (l + ahd l n) % 4294967296
def plF (M : Mem) (c l : Int) (wr us wp : Bool) : Int := fFr M c l + l % 4096

def findQ (M : Mem) (pg : Bool) (c l : Int) (n : Nat) (wr us wp : Bool) : Qy :=
  if pg = false then ⟨none, M, ⟨l, 0, n, n⟩⟩
  else if fOk M c l wr us wp = false then ⟨some ⟨14, fCode M c l wr us wp, l⟩, M, ⟨0, 0, 0, 0⟩⟩
  else if n ≤ ahd l n then ⟨none, fMem M c l wr us wp, ⟨plF M c l wr us wp, 0, ahd l n, n⟩⟩
  else if fOk (fMem M c l wr us wp) c (nxt l n) wr us wp = false then ⟨some ⟨14, fCode (fMem M c l wr us wp) c (nxt l n) wr us wp, nxt l n⟩, fMem M c l wr us wp, ⟨0, 0, 0, 0⟩⟩
  else ⟨none, fMem (fMem M c l wr us wp) c (nxt l n) wr us wp, ⟨plF M c l wr us wp, plF (fMem M c l wr us wp) c (nxt l n) wr us wp, ahd l n, n⟩⟩

def vecB (k : Int) : Int := if k = 2 then 12 else 13
def linB (b off : Int) : Int := (b + off) % 4294967296

def segQ (M : Mem) (c : Cp) (k off z : Int) (wr : Bool) : Qy :=
  if okS z = false ∨ k < 0 ∨ 6 ≤ k then ⟨some (ftV 13), M, ⟨0, 0, 0, 0⟩⟩
  else if (c.seg k.toNat).nl = true ∨ Sg.reachB (c.seg k.toNat).l (c.seg k.toNat).t (c.seg k.toNat).s (c.seg k.toNat).p (c.seg k.toNat).g off z wr = false then ⟨some (ftV (vecB k)), M, ⟨0, 0, 0, 0⟩⟩
  else findQ M c.pg c.cr3 (linB (c.seg k.toNat).b off) z.toNat wr c.us c.wp

def sysQ (M : Mem) (c : Cp) (l z : Int) (wr : Bool) : Qy :=
  if okS z = false then ⟨some (ftV 13), M, ⟨0, 0, 0, 0⟩⟩
  else findQ M c.pg c.cr3 l z.toNat wr false c.wp

def codQ (M : Mem) (c : Cp) (off : Int) : Qy :=
  if (c.seg 1).l < off then ⟨some (ftV 13), M, ⟨0, 0, 0, 0⟩⟩
  else findQ M c.pg c.cr3 (linB (c.seg 1).b off) 1 false c.us c.wp

def Qy.val (q : Qy) : Int := match q.f with | some _ => 0 | none => q.m.rdS q.s
def Qy.ft (q : Qy) : Ft := match q.f with | some f => f | none => noFt
def Qy.place (q : Qy) : Int := match q.f with | some _ => 0 | none => q.s.a
def Qy.put (q : Qy) (v : Int) : Mem := match q.f with | some _ => q.m | none => q.m.wrS q.s v
end Go.Proofs.Ytmmnnafjikilpaa
