/- Texts on vmem, joined: VmMath, VmBase, VmNeed, VmPlace, VmFind, VmSeg, VmSys. -/
import Derived.Test.YtmmnnafjikilpaaGreatVc
import Derived.Test.YtmmnnafjikilpaaGreatVb
import Derived.Test.YtmmnnafjikilpaaGreatVe
import Derived.Recover
import Derived.Deep.Cut
import Derived.Deep.RegionHeld3
import Derived.BigQuiet
import Derived.Test.YtmmnnafjikilpaaGreatVf
/- Memory through segments and pages: a plain model over memory's and the walk's. -/
namespace Go.Proofs.YtmmnnafjikilpaaGreat
open Go.ChangeShapes Go.WideShapes Go.ChangeAt Go.RowKit Go.Maps
set_option linter.unusedVariables false

/-! ### the processor, as far as it is looked at -/
structure SgR where
  sel : Int
  nl : Bool
  b : Int
  l : Int
  t : Int
  s : Bool
  d : Int
  p : Bool
  g : Bool

structure SgR.Ok (r : SgR) : Prop where
  s0 : 0 ≤ r.sel
  s1 : r.sel < 65536
  b0 : 0 ≤ r.b
  b1 : r.b < 4294967296
  l0 : 0 ≤ r.l
  l1 : r.l < 4294967296
  t0 : -9223372036854775808 ≤ r.t
  t1 : r.t < 9223372036854775808

structure Cp where
  seg : Nat → SgR
  cr0 : Int
  cr3 : Int

structure Cp.Ok (c : Cp) : Prop where
  sg : ∀ i, i < 6 → (c.seg i).Ok
  z0 : 0 ≤ c.cr0
  z1 : c.cr0 < 4294967296
  t0 : 0 ≤ c.cr3
  t1 : c.cr3 < 4294967296

def Cp.pg (c : Cp) : Bool := hasF c.cr0 2147483648
def Cp.wp (c : Cp) : Bool := hasF c.cr0 65536
def Cp.us (c : Cp) : Bool := decide ((c.seg 1).sel % 4 = 3)

/-! ### faults, places, questions -/
structure Ft where
  vec : Int
  code : Int
  cr2 : Int
def Ft.val (f : Ft) : Value := .agg #[.int .i64 f.vec, .int .i64 f.code, .int .u32 f.cr2]
def noFt : Ft := ⟨-1, -1, 0⟩
def ftV (v : Int) : Ft := ⟨v, 0, 0⟩

structure Sp where
  a : Int
  b : Int
  h : Nat
  n : Nat
def Sp.val (s : Sp) : Value := .agg #[.int .u32 s.a, .int .u32 s.b, .int .i64 s.h, .int .i64 s.n]

/-- The place of the j-th byte. -/
def Sp.at (s : Sp) (j : Nat) : Int := if j < s.h then (s.a + j) % 4294967296 else (s.b + ((j : Int) - s.h)) % 4294967296

structure Sp.Ok (s : Sp) : Prop where
  a0 : 0 ≤ s.a
  a1 : s.a < 4294967296
  b0 : 0 ≤ s.b
  b1 : s.b < 4294967296
  h0 : 1 ≤ s.h
  h1 : s.h ≤ s.n
  n1 : s.n = 1 ∨ s.n = 2 ∨ s.n = 4

def Mem.spB (M : Mem) (s : Sp) (j : Nat) : Int := if j < s.n then M.rd (s.at j) else 0
def Mem.rdS (M : Mem) (s : Sp) : Int := M.spB s 0 + M.spB s 1 * 256 + M.spB s 2 * 65536 + M.spB s 3 * 16777216
/-- The first k bytes of a value are written. -/
def Mem.wrK (M : Mem) (s : Sp) (v : Int) : Nat → Mem
  | 0 => M
  | k + 1 => (M.wrK s v k).put false (s.at k) ((bytesV v).getD k 0)
def Mem.wrS (M : Mem) (s : Sp) (v : Int) : Mem := M.wrK s v s.n

/-- What is asked: its fault, or where the bytes lie; and memory behind it. -/
structure Qy where
  f : Option Ft
  m : Mem
  s : Sp

def ahd (l : Int) (n : Nat) : Nat := min n (4096 - (l % 4096).toNat)
def nxt (l : Int) (n : Nat) : Int := (l + ahd l n) % 4294967296
def plF (M : Mem) (c l : Int) (wr us wp : Bool) : Int := fFr M c l + l % 4096

def findQ (M : Mem) (pg : Bool) (c l : Int) (n : Nat) (wr us wp : Bool) : Qy :=
  if pg = false then ⟨none, M, ⟨l, 0, n, n⟩⟩
  else if fOk M c l wr us wp = false then ⟨some ⟨14, fCode M c l wr us wp, l⟩, M, ⟨0, 0, 0, 0⟩⟩
  else if n ≤ ahd l n then ⟨none, fMem M c l wr us wp, ⟨plF M c l wr us wp, 0, ahd l n, n⟩⟩
  else if fOk (fMem M c l wr us wp) c (nxt l n) wr us wp = false then ⟨some ⟨14, fCode (fMem M c l wr us wp) c (nxt l n) wr us wp, nxt l n⟩, fMem M c l wr us wp, ⟨0, 0, 0, 0⟩⟩
  else ⟨none, fMem (fMem M c l wr us wp) c (nxt l n) wr us wp, ⟨plF M c l wr us wp, plF (fMem M c l wr us wp) c (nxt l n) wr us wp, ahd l n, n⟩⟩

def vecB (k : Int) : Int := if k = 2 then 12 else 13
def linB (b off : Int) : Int := (b + off) % 4294967296

def segQ (M : Mem) (c : Cp) (k off z : Int) (wr : Bool) : Qy :=
  if okS z = false ∨ k < 0 ∨ 6 ≤ k then ⟨some (ftV 13), M, ⟨0, 0, 0, 0⟩⟩
  else if (c.seg k.toNat).nl = true ∨ Sg.reachB (c.seg k.toNat).l (c.seg k.toNat).t (c.seg k.toNat).s (c.seg k.toNat).p (c.seg k.toNat).g off z wr = false then ⟨some (ftV (vecB k)), M, ⟨0, 0, 0, 0⟩⟩
  else findQ M c.pg c.cr3 (linB (c.seg k.toNat).b off) z.toNat wr c.us c.wp

def sysQ (M : Mem) (c : Cp) (l z : Int) (wr : Bool) : Qy :=
  if okS z = false then ⟨some (ftV 13), M, ⟨0, 0, 0, 0⟩⟩
  else findQ M c.pg c.cr3 l z.toNat wr false c.wp

def codQ (M : Mem) (c : Cp) (off : Int) : Qy :=
  if (c.seg 1).l < off then ⟨some (ftV 13), M, ⟨0, 0, 0, 0⟩⟩
  else findQ M c.pg c.cr3 (linB (c.seg 1).b off) 1 false c.us c.wp

def Qy.val (q : Qy) : Int := match q.f with | some _ => 0 | none => q.m.rdS q.s
def Qy.ft (q : Qy) : Ft := match q.f with | some f => f | none => noFt
def Qy.place (q : Qy) : Int := match q.f with | some _ => 0 | none => q.s.a
def Qy.put (q : Qy) (v : Int) : Mem := match q.f with | some _ => q.m | none => q.m.wrS q.s v
end Go.Proofs.YtmmnnafjikilpaaGreat

/- Memory through segments and pages: what it means that a world holds one, and a processor. -/
namespace Go.Proofs.YtmmnnafjikilpaaGreat
open Go.ChangeShapes Go.WideShapes Go.ChangeAt Go.RowKit Go.Maps
set_option linter.unusedVariables false

def modVm (K B n j : Nat) : Prop := inRam B n j ∨ inTlb K j

structure VmAt (w : World) (V K B pl tn : Nat) (M : Mem) : Prop where
  c : w.heap[V]? = some (.cells #[.pointer (some ⟨B + 3, 0, none⟩), .pointer (some ⟨K + 1, 0, none⟩)] 71 (0, 0))
  tl : ∃ D, TlbD w K B pl tn D
  ram : RamAt w B M
  cl : M.closed = false
  apT : ∀ j, inTlb K j → ¬ inRam B M.n j
  apV : ¬ modVm K B M.n V

def inVm (V K B n j : Nat) : Prop := j = V ∨ modVm K B n j

theorem VmAt.kp {S : Nat → Prop} {w w' : World} {V K B pl tn : Nat} {M : Mem} (h : VmAt w V K B pl tn M) (k : Kp S w w') (hS : ∀ j, inVm V K B M.n j → ¬ S j) : VmAt w' V K B pl tn M where
  c := (k.block V (Array.getElem?_eq_some_iff.1 h.c).1 (hS V (.inl rfl))).trans h.c
  tl := by obtain ⟨D, t⟩ := h.tl; exact ⟨D, t.kp k (fun j hj => hS j (.inr (.inr hj)))⟩
  ram := h.ram.kp k (fun j hj => hS j (.inr (.inl hj)))
  cl := h.cl
  apT := h.apT
  apV := h.apV
theorem VmAt.kp0 {w w' : World} {V K B pl tn : Nat} {M : Mem} (h : VmAt w V K B pl tn M) (k : Kp noB w w') : VmAt w' V K B pl tn M := h.kp k (fun _ _ f => f)
theorem VmAt.lt {w : World} {V K B pl tn : Nat} {M : Mem} (h : VmAt w V K B pl tn M) : V < w.heap.size := (Array.getElem?_eq_some_iff.1 h.c).1
theorem VmAt.c0 {w : World} {V K B pl tn : Nat} {M : Mem} (h : VmAt w V K B pl tn M) : w.cell? ⟨V, 0, none⟩ = some (.pointer (some ⟨B + 3, 0, none⟩)) := by rw [cell_at h.c]; rfl
theorem VmAt.c1 {w : World} {V K B pl tn : Nat} {M : Mem} (h : VmAt w V K B pl tn M) : w.cell? ⟨V, 1, none⟩ = some (.pointer (some ⟨K + 1, 0, none⟩)) := by rw [cell_at h.c]; rfl
theorem VmAt.in_lt {w : World} {V K B pl tn : Nat} {M : Mem} (h : VmAt w V K B pl tn M) {j : Nat} (hj : modVm K B M.n j) : j < w.heap.size := by
  rcases hj with f | f
  · have := h.ram.lt; have := f.2; omega
  · obtain ⟨D, t⟩ := h.tl; have := t.lt; rcases f with e | e <;> omega

/-! ### the processor -/
structure SgAt (w : World) (C o : Nat) (r : SgR) : Prop where
  a0 : w.cell? ⟨C, o, none⟩ = some (.int .u16 r.sel)
  a1 : w.cell? ⟨C, o + 1, none⟩ = some (.bool r.nl)
  a2 : w.cell? ⟨C, o + 2, none⟩ = some (.int .u32 r.b)
  a3 : w.cell? ⟨C, o + 3, none⟩ = some (.int .u32 r.l)
  a4 : w.cell? ⟨C, o + 4, none⟩ = some (.int .i64 r.t)
  a5 : w.cell? ⟨C, o + 5, none⟩ = some (.bool r.s)
  a6 : w.cell? ⟨C, o + 6, none⟩ = some (.int .i64 r.d)
  a7 : w.cell? ⟨C, o + 7, none⟩ = some (.bool r.p)
  a8 : w.cell? ⟨C, o + 8, none⟩ = some (.bool r.g)

structure CpAt (w : World) (C : Nat) (c : Cp) : Prop where
  sg : ∀ i, i < 6 → SgAt w C (10 + i * 9) (c.seg i)
  z : w.cell? ⟨C, 64, none⟩ = some (.int .u32 c.cr0)
  t : w.cell? ⟨C, 66, none⟩ = some (.int .u32 c.cr3)
  ok : c.Ok

theorem CpAt.lt {w : World} {C : Nat} {c : Cp} (h : CpAt w C c) : C < w.heap.size := by
  have := h.z
  rcases Nat.lt_or_ge C w.heap.size with h' | h'
  · exact h'
  · exfalso; simp [World.cell?, Array.getElem?_eq_none h'] at this
theorem CpAt.kp {S : Nat → Prop} {w w' : World} {C : Nat} {c : Cp} (h : CpAt w C c) (k : Kp S w w') (hS : ¬ S C) : CpAt w' C c where
  sg := fun i hi => by
    have s := h.sg i hi
    exact ⟨cell_kp s.a0 k hS, cell_kp s.a1 k hS, cell_kp s.a2 k hS, cell_kp s.a3 k hS, cell_kp s.a4 k hS, cell_kp s.a5 k hS, cell_kp s.a6 k hS, cell_kp s.a7 k hS, cell_kp s.a8 k hS⟩
  z := cell_kp h.z k hS
  t := cell_kp h.t k hS
  ok := h.ok
theorem CpAt.kp0 {w w' : World} {C : Nat} {c : Cp} (h : CpAt w C c) (k : Kp noB w w') : CpAt w' C c := h.kp k (fun f => f)

def pan (f : Ft) : List PanicEntry := [{ v := .iface 54 f.val, recovered := false }]

/-! ### leaves -/
theorem refused_any (w : World) (n : Int) : Calls Tryz.prog 64 #[.int .i64 n] w fun e w' => e = .returned (.agg #[.int .i64 n, .int .i64 0, .int .u32 0]) ∧ Kp noB w w' := by
  go_enter Tryz.func64, Tryz.ntmps64
  go_wp2
  refine bodyPost_ret (v := .agg #[.int .i64 n, .int .i64 0, .int .u32 0]) (by simp [results, Tryz.results64, go_sem]) rfl ⟨rfl, ?_⟩
  exact Kp.alloc noB w _

theorem vectorOf_any (w : World) (k : Int) : Calls Tryz.prog 66 #[.int .i64 k] w fun e w' => e = .returned (.int .i64 (vecB k)) ∧ w' = w := by
  by_cases h : k = 2
  · subst h
    go_enter Tryz.func66, Tryz.ntmps66
    go_wp2
    go_ret
    exact ⟨rfl, rfl⟩
  · have h' : (k == 2) = false := by simpa using h
    go_enter Tryz.func66, Tryz.ntmps66
    go_wp2
    go_ret
    exact ⟨ret_int (by simp [vecB, h]), rfl⟩

theorem vIsSize_any (w : World) (z : Int) : Calls Tryz.prog 63 #[.int .i64 z] w fun e w' => e = .returned (.bool (okS z)) ∧ w' = w := by
  go_enter Tryz.func63, Tryz.ntmps63
  go_wp2
  all_goals go_ret
  all_goals exact ⟨ret_bool (by first | (subst_vars; rfl) | (unfold okS; rw [Bool.eq_iff_iff]; simp_all)), rfl⟩

theorem RowB.s0 {W : World} {X : Nat} {a b c : Bool} (h : RowB W X a b c) (v : Bool) : RowB (W.setCell ⟨X, 0, none⟩ (.bool v)) X v b c := heap_setCell_at h _
theorem RowB.s1 {W : World} {X : Nat} {a b c : Bool} (h : RowB W X a b c) (v : Bool) : RowB (W.setCell ⟨X, 1, none⟩ (.bool v)) X a v c := heap_setCell_at h _
theorem RowB.s2 {W : World} {X : Nat} {a b c : Bool} (h : RowB W X a b c) (v : Bool) : RowB (W.setCell ⟨X, 2, none⟩ (.bool v)) X a b v := heap_setCell_at h _

theorem own_way (w : World) (C : Nat) (c : Cp) (wr : Bool) (h : CpAt w C c) : Calls Tryz.prog 76 #[.pointer (some ⟨C, 0, none⟩), .bool wr] w fun e w' => e = .returned (.agg #[.bool wr, .bool false, .bool c.wp]) ∧ Kp noB w w' := by
  have hz := (h.kp0 (Kp.alloc noB w (.cells #[.bool false, .bool false, .bool false] 132))).z
  have ha := and_pw h.ok.z0 h.ok.z1 16 (by decide)
  have e16 : ((2 ^ 16 : Nat) : Int) = 65536 := by decide
  rw [e16] at ha
  have hb : (flg (hasF c.cr0 65536) 65536 != 0) = c.wp := by unfold Cp.wp; cases hasF c.cr0 65536 <;> rfl
  rw [← ha] at hb
  clear ha
  go_enter Tryz.func76, Tryz.ntmps76
  go_wp2
  refine bodyPost_ret (v := .agg #[.bool wr, .bool false, .bool c.wp]) (by simp [results, Tryz.results76, go_sem]) rfl ⟨rfl, ?_⟩
  exact Kp.alloc noB w _

theorem program_way (w : World) (C : Nat) (c : Cp) (wr : Bool) (h : CpAt w C c) : Calls Tryz.prog 68 #[.pointer (some ⟨C, 0, none⟩), .bool wr] w fun e w' => e = .returned (.agg #[.bool wr, .bool c.us, .bool c.wp]) ∧ Kp noB w w' := by
  have s1 : w.cell? ⟨C, 19, none⟩ = some (.int .u16 (c.seg 1).sel) := (h.sg 1 (by decide)).a0
  have q := h.ok.sg 1 (by decide)
  have hlt := h.lt
  have hb : (bits .and .u16 (c.seg 1).sel 3 == 3) = c.us := by
    have h2 := Nat.and_two_pow_sub_one_eq_mod (c.seg 1).sel.toNat 2
    have e : (3 : Int).toNat = 2 ^ 2 - 1 := by decide
    rw [u16_and _ 3 q.s0 q.s1 (by decide) (by decide), e, h2]
    have := q.s0
    unfold Cp.us
    rw [Bool.eq_iff_iff, beq_iff_eq, decide_eq_true_iff]
    omega
  have cO := own_way (w.alloc (.cells #[.bool false, .bool false, .bool false] 132)) C c wr (h.kp0 (Kp.alloc _ _ _))
  go_enter Tryz.func68, Tryz.ntmps68
  go_wp2_with fail
  refine cO.mono ?_; rintro e w1 ⟨rfl, k1⟩
  have k1' := (Kp.alloc noB w (.cells #[.bool false, .bool false, .bool false] 132)).trans k1
  have r1 : RowB w1 w.heap.size false false false := RowB.kp (MapKept.heap_alloc w _).1 k1 (fun f => f)
  have s2 := cell_kp s1 k1' (fun f => f)
  have c0 := r1.c0; have c1 := r1.c1; have c2 := r1.c2
  have f0 : w1.frozen? ⟨w.heap.size, 0, none⟩ = false := frozen_at r1
  have f1 : w1.frozen? ⟨w.heap.size, 1, none⟩ = false := frozen_at r1
  have f2 : w1.frozen? ⟨w.heap.size, 2, none⟩ = false := frozen_at r1
  have hl1 := r1.lt
  have s3 := cell_kp s2 (Kp.alloc noB w1 (.cells #[.bool wr, .bool false, .bool c.wp] 132)) (fun f => f)
  have r2 := (((r1.s0 wr).s1 c.us).s2 c.wp).kp (Kp.alloc noB _ (.cells #[.bool wr, .bool c.us, .bool c.wp] 132)) (fun f => f)
  have kF := (((k1'.own' (i := 0) (Nat.le_refl _) (.bool wr)).own' (i := 1) (Nat.le_refl _) (.bool c.us)).own' (i := 2) (Nat.le_refl _) (.bool c.wp)).trans (Kp.alloc noB _ (.cells #[.bool wr, .bool c.us, .bool c.wp] 132))
  go_wp2
  refine bodyPost_ret (v := .agg #[.bool wr, .bool c.us, .bool c.wp]) (by simp [results, Tryz.results68, go_sem, r2.c0, r2.c1, r2.c2]) rfl ⟨rfl, kF⟩

theorem vRam_ok (w : World) (V B K : Nat) (h : w.cell? ⟨V, 0, none⟩ = some (.pointer (some ⟨B + 3, 0, none⟩))) : Calls Tryz.prog 7 #[.pointer (some ⟨V, 0, none⟩)] w fun e w' => e = .returned (.pointer (some ⟨B + 3, 0, none⟩)) ∧ w' = w := by
  go_enter Tryz.func7, Tryz.ntmps7
  go_wp2
  go_ret
  exact ⟨rfl, rfl⟩
end Go.Proofs.YtmmnnafjikilpaaGreat

/- What must be there: a memory, and a processor; a byte's place. -/
namespace Go.Proofs.YtmmnnafjikilpaaGreat
open Go.ChangeShapes Go.WideShapes Go.ChangeAt Go.RowKit Go.Maps
set_option linter.unusedVariables false

theorem need_ok (w : World) (V B C : Nat) (h : w.cell? ⟨V, 0, none⟩ = some (.pointer (some ⟨B + 3, 0, none⟩))) : Calls Tryz.prog 62 #[.pointer (some ⟨V, 0, none⟩), .pointer (some ⟨C, 0, none⟩)] w fun e w' => e = .returned (.tuple #[]) ∧ w' = w := by
  go_enter Tryz.func62, Tryz.ntmps62
  go_wp2_with (go_at_call 7; refine (vRam_ok _ V B 0 h).mono ?_; rintro e w' ⟨rfl, hw⟩; replace hw := hw.symm; subst hw)
  go_end0
  exact ⟨rfl, rfl⟩

theorem spAt_any (w : World) (s : Sp) (hs : s.Ok) (j : Nat) (hj : j < s.n) : Calls Tryz.prog 61 #[s.val, .int .i64 j] w fun e w' => e = .returned (.int .u32 (s.at j)) ∧ Kp noB w w' := by
  obtain ⟨a, b, h, n⟩ := s
  have a0 := hs.a0; have a1 := hs.a1; have b0 := hs.b0; have b1 := hs.b1
  have hn := hs.h1
  have hn4 : n ≤ 4 := by rcases hs.n1 with e | e | e <;> simp only at e <;> omega
  simp only at a0 a1 b0 b1 hn hj
  clear hs
  unfold Sp.val Sp.at
  simp only
  by_cases hlt : j < h
  · rw [if_pos hlt]
    have hi : (j : Int) < h := by omega
    have ew : IntKind.u32.wrap (j : Int) = j := by have := IntKind.wrap_u32 (j : Int); omega
    go_enter Tryz.func61, Tryz.ntmps61
    go_wp2
    go_ret
    exact ⟨ret_int (by omega), Kp.alloc noB w _⟩
  · rw [if_neg hlt]
    have hi : ¬ (j : Int) < h := by omega
    have ew : IntKind.i64.wrap ((j : Int) - h) = (j : Int) - h := by have := IntKind.wrap_i64 ((j : Int) - h); omega
    go_enter Tryz.func61, Tryz.ntmps61
    go_wp2
    go_ret
    exact ⟨ret_int (by omega), Kp.alloc noB w _⟩
end Go.Proofs.YtmmnnafjikilpaaGreat

/- One page of a value: its place, or its fault. -/
namespace Go.Proofs.YtmmnnafjikilpaaGreat
open Go.ChangeShapes Go.WideShapes Go.ChangeAt Go.RowKit Go.Maps
set_option linter.unusedVariables false

def VmP (w : World) (V K B pl tn : Nat) (M : Mem) (n : Nat) (w' : World) : Prop := (∃ tn', tn' ≤ tn + n ∧ VmAt w' V K B pl tn' M) ∧ Kp (modVm K B M.n) w w'

theorem VmAt.to {w w' : World} {V K B pl tn : Nat} {M M' : Mem} (h : VmAt w V K B pl tn M) (k : Kp (modVm K B M.n) w w') {tn' : Nat} {D : DataW Unit} (t : TlbD w' K B pl tn' D) (r : RamAt w' B M') (hn : M'.n = M.n) (hc : M'.closed = M.closed) : VmAt w' V K B pl tn' M' where
  c := (k.block V h.lt h.apV).trans h.c
  tl := ⟨D, t⟩
  ram := r
  cl := hc.trans h.cl
  apT := by rw [hn]; exact h.apT
  apV := by rw [hn]; exact h.apV

theorem vFind_ok (M : Mem) (c l : Int) (wr us wp : Bool) (c0 : 0 ≤ c) (c1 : c < 4294967296) (l0 : 0 ≤ l) (l1 : l < 4294967296) :
    ∃ (f p q : Int) (x y : Bool), (fOk M c l wr us wp = true → f = fFr M c l) ∧ ∀ (w : World) (V K B pl tn : Nat), VmAt w V K B pl tn M → tn < 18446744073709551614 → Calls Tryz.prog 94 #[.pointer (some ⟨K + 1, 0, none⟩), .int .u32 c, .int .u32 l, .agg #[.bool wr, .bool us, .bool wp]] w (fun e w' => e = .returned (.tuple #[.agg #[.int .u32 f, .int .u32 p, .int .u32 q, .bool x, .bool y], .int .i64 (fCode M c l wr us wp), .int .i64 0]) ∧ VmP w V K B pl tn (fMem M c l wr us wp) 1 w') := by
  obtain ⟨f, p, q, x, y, hwk⟩ := fWalk_is0 M c l wr us wp
  refine ⟨f, p, q, x, y, fun ho => ?_, fun w V K B pl tn h htn => ?_⟩
  · unfold fWalk at hwk
    rw [if_pos ho] at hwk
    unfold walkV at hwk
    simp at hwk
    exact hwk.1.symm
  · obtain ⟨D, t⟩ := h.tl
    have cF := tlFind_ok w K B pl tn D M t h.ram h.cl c l wr us wp c0 c1 l0 l1 htn h.apT
    unfold TfPost at cF
    rw [hwk] at cF
    unfold walkV wayV at cF
    refine cF.mono ?_
    rintro e w' ⟨rfl, r', ⟨D', tn', t', ht⟩, k⟩
    have sm := fMem_same M c l wr us wp
    refine ⟨rfl, ⟨tn', ht, h.to k t' r' sm.1 sm.2.2⟩, ?_⟩
    rw [sm.1]
    exact k

theorem fMem_no {M : Mem} {c l : Int} {wr us wp : Bool} (h : fOk M c l wr us wp = false) : fMem M c l wr us wp = M := by unfold fMem; rw [h]; rfl
theorem fCode_neg {M : Mem} {c l : Int} {wr us wp : Bool} (h : fOk M c l wr us wp = true) : fCode M c l wr us wp = -1 := by
  have := code_ok (M := M) (c := c) (l := l) (wr := wr) (us := us) (wp := wp)
  rw [h] at this
  simpa using this
theorem fCode_pos {M : Mem} {c l : Int} {wr us wp : Bool} (h : fOk M c l wr us wp = false) : 0 ≤ fCode M c l wr us wp := by
  have := code_ok (M := M) (c := c) (l := l) (wr := wr) (us := us) (wp := wp)
  rw [h] at this
  have := fCode_bd0 M c l wr us wp
  have : fCode M c l wr us wp ≠ -1 := by intro e; simp_all
  omega

theorem fr_or {x l : Int} (x0 : 0 ≤ x) (x1 : x < 4294967296) (l0 : 0 ≤ l) : bits .or .u32 (x - x % 4096) (l % 4096) = x - x % 4096 + l % 4096 := by
  have h := or_add (a := l % 4096) (b := x / 4096) 12 (by omega) (by omega) (by rw [pw12]; omega) (by omega) (by rw [pw12]; omega)
  rw [pw12] at h
  have e : x / 4096 * 4096 = x - x % 4096 := by omega
  rw [e] at h
  rw [Int.add_comm, ← h]
  exact tb_ext (or_bd (by omega) (by omega) (by omega) (by omega)).1 (or_bd (by omega) (by omega) (by omega) (by omega)).1 fun i => by
    rw [tb_or (by omega) (by omega) (by omega) (by omega), tb_or (by omega) (by omega) (by omega) (by omega), Bool.or_comm]

/-- Where the page is asked for, and what is told is laid aside. -/
abbrev PlS (V K X : Nat) (wr us wp : Bool) (W : World) : Prop := W.cell? ⟨V, 1, none⟩ = some (.pointer (some ⟨K + 1, 0, none⟩)) ∧ W.cell? ⟨X, 0, none⟩ = some (.bool wr) ∧ W.cell? ⟨X, 1, none⟩ = some (.bool us) ∧ W.cell? ⟨X, 2, none⟩ = some (.bool wp)
theorem PlS.kp {V K X : Nat} {wr us wp : Bool} {S : Nat → Prop} {W W' : World} (h : PlS V K X wr us wp W) (k : Kp S W W') (h1 : ¬ S V) (h2 : ¬ S X) : PlS V K X wr us wp W' := ⟨cell_kp h.1 k h1, cell_kp h.2.1 k h2, cell_kp h.2.2.1 k h2, cell_kp h.2.2.2 k h2⟩

/-- How a page's asking ends. -/
def plE (M : Mem) (c l : Int) (wr us wp : Bool) : Ending := if fOk M c l wr us wp = true then .returned (.int .u32 (plF M c l wr us wp)) else .panicked (pan ⟨14, fCode M c l wr us wp, l⟩)

set_option maxHeartbeats 4000000 in
theorem vPlace_any (w : World) (V K B pl tn : Nat) (M : Mem) (h : VmAt w V K B pl tn M) (c l : Int) (wr us wp : Bool) (c0 : 0 ≤ c) (c1 : c < 4294967296) (l0 : 0 ≤ l) (l1 : l < 4294967296) (htn : tn < 18446744073709551614) :
    Calls Tryz.prog 85 #[.pointer (some ⟨V, 0, none⟩), .int .u32 c, .int .u32 l, .agg #[.bool wr, .bool us, .bool wp]] w (fun e w' => e = plE M c l wr us wp ∧ VmP w V K B pl tn (fMem M c l wr us wp) 1 w') := by
  obtain ⟨X, hX⟩ : ∃ X, w.heap.size = X := ⟨_, rfl⟩
  obtain ⟨W0, hW0⟩ : ∃ W, W = w.alloc (.cells #[.bool wr, .bool us, .bool wp] 132) := ⟨_, rfl⟩
  have k0 : Kp noB w W0 := by rw [hW0]; exact Kp.alloc _ _ _
  have rB : RowB W0 X wr us wp := by rw [hW0, ← hX]; exact (MapKept.heap_alloc w _).1
  have h0 := h.kp0 k0
  have hVX : V < X := by rw [← hX]; exact h.lt
  have nX : ¬ modVm K B (fMem M c l wr us wp).n X := fun f => by rw [(fMem_same M c l wr us wp).1] at f; have := h.in_lt f; omega
  have nN : ¬ modVm K B (fMem M c l wr us wp).n W0.heap.size := fun f => by rw [(fMem_same M c l wr us wp).1] at f; have := h0.in_lt f; omega
  have nV : ¬ modVm K B (fMem M c l wr us wp).n V := by rw [(fMem_same M c l wr us wp).1]; exact h.apV
  obtain ⟨f, p, q, x, y, hf, hC⟩ := vFind_ok M c l wr us wp c0 c1 l0 l1
  obtain ⟨M', hM'⟩ : ∃ M', M' = fMem M c l wr us wp := ⟨_, rfl⟩
  obtain ⟨cd, hcd⟩ : ∃ cd, cd = fCode M c l wr us wp := ⟨_, rfl⟩
  rw [← hcd, ← hM'] at hC
  rw [← hM'] at nX nV nN ⊢
  have HC : Hid (∀ W, VmAt W V K B pl tn M → Calls Tryz.prog 94 #[.pointer (some ⟨K + 1, 0, none⟩), .int .u32 c, .int .u32 l, .agg #[.bool wr, .bool us, .bool wp]] W (fun e w' => e = .returned (.tuple #[.agg #[.int .u32 f, .int .u32 p, .int .u32 q, .bool x, .bool y], .int .i64 cd, .int .i64 0]) ∧ VmP W V K B pl tn M' 1 w')) := fun W hW => hC W V K B pl tn hW htn
  have r0 := fTwo_bd h.ram.rdB c l
  have HE : Hid ((cd = -1 ∧ plE M c l wr us wp = .returned (.int .u32 (bits .or .u32 f (l % 4096)))) ∨ (0 ≤ cd ∧ plE M c l wr us wp = .panicked (pan ⟨14, cd, l⟩))) := by
    unfold plE
    cases ho : fOk M c l wr us wp
    · right
      exact ⟨by rw [hcd]; exact fCode_pos ho, by rw [hcd]; rfl⟩
    · left
      refine ⟨by rw [hcd]; exact fCode_neg ho, ?_⟩
      rw [hf ho]
      show _ = Ending.returned (.int .u32 (bits .or .u32 (fTwo M c l - fTwo M c l % 4096) (l % 4096)))
      rw [fr_or r0.1 r0.2 l0]
      rfl
  clear hC hf h r0 hcd
  have HS0 : Hid (PlS V K X wr us wp W0.drew) := ⟨h0.c1, rB.c0, rB.c1, rB.c2⟩
  have HSK : Hid (∀ W W', PlS V K X wr us wp W → Kp (modVm K B M'.n) W W' → PlS V K X wr us wp W') := fun W W' p k => p.kp k nV nX
  have HSA : Hid (∀ W (O : Obj), PlS V K X wr us wp W → PlS V K X wr us wp (W.alloc O)) := fun W O p => p.kp (Kp.alloc noB W O) (fun f => f) (fun f => f)
  have HSD : Hid (PlS V K X wr us wp (W0.alloc (.cells #[.int .u32 0, .int .u32 0, .int .u32 0, .bool false, .bool false] 145)).drew) := HSA.out _ _ HS0.out
  have HSF : Hid (∀ W, PlS V K X wr us wp W → PlS V K X wr us wp (((((W.setCell ⟨W0.heap.size, 0, none⟩ (.int .u32 f)).setCell ⟨W0.heap.size, 1, none⟩ (.int .u32 p)).setCell ⟨W0.heap.size, 2, none⟩ (.int .u32 q)).setCell ⟨W0.heap.size, 3, none⟩ (.bool x)).setCell ⟨W0.heap.size, 4, none⟩ (.bool y))) := fun W z => z.kp (Kp.five_in W _ _ _ _ _ _) (by have := rB.lt; omega) (by have := rB.lt; omega)
  have h0D : VmAt W0.drew V K B pl tn M := h0.kp0 (Kp.refl noB W0).drew
  have h0A : VmAt (W0.alloc (.cells #[.int .u32 0, .int .u32 0, .int .u32 0, .bool false, .bool false] 145)).drew V K B pl tn M := h0.kp0 (Kp.alloc noB W0 _).drew
  have HRZ : Hid (∀ W', Kp (modVm K B M'.n) (W0.alloc (.cells #[.int .u32 0, .int .u32 0, .int .u32 0, .bool false, .bool false] 145)).drew W' → RowK W' W0.heap.size 0 0 0 false false) := fun W' k => by
    have r : RowK (W0.alloc (.cells #[.int .u32 0, .int .u32 0, .int .u32 0, .bool false, .bool false] 145)).drew W0.heap.size 0 0 0 false false := (MapKept.heap_alloc W0 (.cells #[.int .u32 0, .int .u32 0, .int .u32 0, .bool false, .bool false] 145)).1
    exact r.kp k nN
  have HRF : Hid (∀ W', RowK W' W0.heap.size 0 0 0 false false → (W'.cell? ⟨W0.heap.size, 0, none⟩ = some (.int .u32 0) ∧ W'.cell? ⟨W0.heap.size, 1, none⟩ = some (.int .u32 0) ∧ W'.cell? ⟨W0.heap.size, 2, none⟩ = some (.int .u32 0) ∧ W'.cell? ⟨W0.heap.size, 3, none⟩ = some (.bool false) ∧ W'.cell? ⟨W0.heap.size, 4, none⟩ = some (.bool false) ∧ W'.frozen? ⟨W0.heap.size, 0, none⟩ = false ∧ W'.frozen? ⟨W0.heap.size, 1, none⟩ = false ∧ W'.frozen? ⟨W0.heap.size, 2, none⟩ = false ∧ W'.frozen? ⟨W0.heap.size, 3, none⟩ = false ∧ W'.frozen? ⟨W0.heap.size, 4, none⟩ = false)) := fun W' r => ⟨r.c0, r.c1, r.c2, r.c3, r.c4, r.fz 0, r.fz 1, r.fz 2, r.fz 3, r.fz 4⟩
  have hA : Hid (∀ W, VmAt W V K B pl tn M → VmAt W.drew V K B pl tn M) := fun W p => p.kp0 (Kp.refl noB W).drew
  have hB : Hid (∀ W O, VmAt W V K B pl tn M → VmAt (W.alloc O) V K B pl tn M) := fun W O p => p.kp0 (Kp.alloc noB W O)
  go_enter Tryz.func85, Tryz.ntmps85
  go_upto_region 1 with fail
  rw [← hW0]
  clear hW0 hX
  go_region_held3 (fun W => (W.cell? ⟨V, 1, none⟩ = some (.pointer (some ⟨K + 1, 0, none⟩)) ∧ W.cell? ⟨X, 0, none⟩ = some (.bool wr) ∧ W.cell? ⟨X, 1, none⟩ = some (.bool us) ∧ W.cell? ⟨X, 2, none⟩ = some (.bool wp)))
    (first | with_reducible exact HS0.out | with_reducible exact HSD.out | with_reducible exact HSK.out _ _ HS0.out k4 | with_reducible exact HSK.out _ _ HSD.out k4 | with_reducible exact HSA.out _ _ (HSK.out _ _ HS0.out k4) | with_reducible exact HSF.out _ (HSK.out _ _ HSD.out k4))
    (first | (go_at_call 94; refine (HC.out _ (by assumption)).mono ?_; rintro e w4 ⟨rfl, hr4, k4⟩; (first | ((with_reducible have rz := HRZ.out _ k4); obtain ⟨z0, z1, z2, z3, z4, y0, y1, y2, y3, y4⟩ := HRF.out _ rz) | skip)))
  · have kA := (Kp.alloc noB w4 (.cells #[.int .u32 f, .int .u32 p, .int .u32 q, .bool x, .bool y] 145))
    have rW : RowK (w4.alloc (.cells #[.int .u32 f, .int .u32 p, .int .u32 q, .bool x, .bool y] 145)) w4.heap.size f p q x y := (MapKept.heap_alloc w4 _).1
    have k5 : Kp (modVm K B M'.n) w (w4.alloc (.cells #[.int .u32 f, .int .u32 p, .int .u32 q, .bool x, .bool y] 145)) := ((k0.mono (fun _ _ f => f.elim)).trans ⟨k4.os, k4.tape, k4.output, k4.size, k4.block⟩).trans (kA.mono (fun _ _ f => f.elim))
    obtain ⟨tn4, ht4, v4⟩ := hr4
    replace v4 := v4.kp0 kA
    obtain ⟨V5, hgen⟩ : ∃ W, W = (w4.alloc (.cells #[.int .u32 f, .int .u32 p, .int .u32 q, .bool x, .bool y] 145)) := ⟨_, rfl⟩
    rw [← hgen] at rW k5 v4 ⊢
    clear hgen kA k4 HS0 HSK HSA HSD HSF h0D h0A HRZ HRF hA hB HC h0 k0 rB
    have d0 := rW.c0
    rcases HE.out with ⟨rfl, he⟩ | ⟨hc, he⟩
    · have HE1 : Hid _ := he
      clear HE he
      go_wp2
      go_ret
      exact ⟨HE1.out.symm, ⟨tn4, ht4, v4⟩, k5⟩
    · have HE1 : Hid _ := he
      clear HE he
      go_wp2
      exact ⟨rfl, HE1.out.symm, ⟨tn4, ht4, v4⟩, k5⟩
  · have rW := ((((rz.s0 f).s1 p).s2 q).s3 x).s4 y
    have nV' : ∀ j, inVm V K B M'.n j → j ≠ W0.heap.size := fun j hj e => by
      subst e
      rcases hj with e | e
      · have := h0.lt; omega
      · exact nN e
    have k5 : Kp (modVm K B M'.n) w (((((w4.setCell ⟨W0.heap.size, 0, none⟩ (.int .u32 f)).setCell ⟨W0.heap.size, 1, none⟩ (.int .u32 p)).setCell ⟨W0.heap.size, 2, none⟩ (.int .u32 q)).setCell ⟨W0.heap.size, 3, none⟩ (.bool x)).setCell ⟨W0.heap.size, 4, none⟩ (.bool y)) :=
      Kp.five ((k0.mono (fun _ _ f => f.elim)).trans (((Kp.alloc noB W0 (.cells #[.int .u32 0, .int .u32 0, .int .u32 0, .bool false, .bool false] 145)).mono (fun _ _ f => f.elim)).trans ⟨k4.os, k4.tape, k4.output, k4.size, k4.block⟩)) (by have := k0.size; omega) _ _ _ _ _
    obtain ⟨tn4, ht4, v4⟩ := hr4
    replace v4 := v4.kp (Kp.five_in w4 W0.heap.size (.int .u32 f) (.int .u32 p) (.int .u32 q) (.bool x) (.bool y)) nV'
    obtain ⟨V5, hgen⟩ : ∃ W, W = (((((w4.setCell ⟨W0.heap.size, 0, none⟩ (.int .u32 f)).setCell ⟨W0.heap.size, 1, none⟩ (.int .u32 p)).setCell ⟨W0.heap.size, 2, none⟩ (.int .u32 q)).setCell ⟨W0.heap.size, 3, none⟩ (.bool x)).setCell ⟨W0.heap.size, 4, none⟩ (.bool y)) := ⟨_, rfl⟩
    rw [← hgen] at rW k5 v4 ⊢
    clear hgen k4 HS0 HSK HSA HSD HSF h0D h0A HRZ HRF hA hB HC h0 k0 rB z0 z1 z2 z3 z4 y0 y1 y2 y3 y4 rz
    have d0 := rW.c0
    rcases HE.out with ⟨rfl, he⟩ | ⟨hc, he⟩
    · have HE1 : Hid _ := he
      clear HE he
      go_wp2
      go_ret
      exact ⟨HE1.out.symm, ⟨tn4, ht4, v4⟩, k5⟩
    · have HE1 : Hid _ := he
      clear HE he
      go_wp2
      exact ⟨rfl, HE1.out.symm, ⟨tn4, ht4, v4⟩, k5⟩
end Go.Proofs.YtmmnnafjikilpaaGreat

/- All pages of a value. -/
namespace Go.Proofs.YtmmnnafjikilpaaGreat
open Go.ChangeShapes Go.WideShapes Go.ChangeAt Go.RowKit Go.Maps
set_option linter.unusedVariables false
set_option maxRecDepth 20000

def QE (q : Qy) : Ending := match q.f with | some f => .panicked (pan f) | none => .returned q.s.val

theorem vfind_flat (w : World) (V C : Nat) (c : Cp) (h : CpAt w C c) (l : Int) (n : Nat) (wr us wp : Bool) (M : Mem) (hp : c.pg = false) :
    Calls Tryz.prog 67 #[.pointer (some ⟨V, 0, none⟩), .pointer (some ⟨C, 0, none⟩), .int .u32 l, .int .i64 n, .agg #[.bool wr, .bool us, .bool wp]] w (fun e w' => e = .returned (.agg #[.int .u32 l, .int .u32 0, .int .i64 n, .int .i64 n]) ∧ Kp noB w w') := by
  have k0 := (Kp.alloc noB w (.cells #[.bool wr, .bool us, .bool wp] 132)).trans (Kp.alloc noB _ (.cells #[.int .u32 0, .int .u32 0, .int .i64 0, .int .i64 0] 93))
  have hz := (h.kp0 k0).z
  have ha := and_pw h.ok.z0 h.ok.z1 31 (by decide)
  have e31 : ((2 ^ 31 : Nat) : Int) = 2147483648 := by decide
  rw [e31] at ha
  have hb : (bits .and .u32 c.cr0 2147483648 == 0) = true := by rw [ha]; unfold Cp.pg at hp; rw [hp]; rfl
  clear ha
  go_enter Tryz.func67, Tryz.ntmps67
  go_wp2
  refine bodyPost_ret (v := .agg #[.int .u32 l, .int .u32 0, .int .i64 n, .int .i64 n]) (by simp [results, Tryz.results67, go_sem]) rfl ⟨rfl, ?_⟩
  exact (Kp.alloc noB w _).trans (Kp.alloc noB _ _)

theorem vPlace_ok (w : World) (V K B pl tn : Nat) (M : Mem) (h : VmAt w V K B pl tn M) (c l : Int) (wr us wp : Bool) (c0 : 0 ≤ c) (c1 : c < 4294967296) (l0 : 0 ≤ l) (l1 : l < 4294967296) (htn : tn < 18446744073709551614) (ho : fOk M c l wr us wp = true) :
    Calls Tryz.prog 85 #[.pointer (some ⟨V, 0, none⟩), .int .u32 c, .int .u32 l, .agg #[.bool wr, .bool us, .bool wp]] w (fun e w' => e = .returned (.int .u32 (plF M c l wr us wp)) ∧ VmP w V K B pl tn (fMem M c l wr us wp) 1 w') := by
  have := vPlace_any w V K B pl tn M h c l wr us wp c0 c1 l0 l1 htn
  unfold plE at this
  rw [if_pos ho] at this
  exact this
theorem vPlace_no (w : World) (V K B pl tn : Nat) (M : Mem) (h : VmAt w V K B pl tn M) (c l : Int) (wr us wp : Bool) (c0 : 0 ≤ c) (c1 : c < 4294967296) (l0 : 0 ≤ l) (l1 : l < 4294967296) (htn : tn < 18446744073709551614) (ho : fOk M c l wr us wp = false) :
    Calls Tryz.prog 85 #[.pointer (some ⟨V, 0, none⟩), .int .u32 c, .int .u32 l, .agg #[.bool wr, .bool us, .bool wp]] w (fun e w' => e = .panicked (pan ⟨14, fCode M c l wr us wp, l⟩) ∧ VmP w V K B pl tn M 1 w') := by
  have := vPlace_any w V K B pl tn M h c l wr us wp c0 c1 l0 l1 htn
  unfold plE at this
  rw [ho, fMem_no ho] at this
  exact this

def RowS (W : World) (X : Nat) (a b : Int) (h n : Nat) : Prop := W.heap[X]? = some (.cells #[.int .u32 a, .int .u32 b, .int .i64 h, .int .i64 n] 93 (0, 0))
theorem RowS.lt {W : World} {X : Nat} {a b : Int} {h n : Nat} (r : RowS W X a b h n) : X < W.heap.size := (Array.getElem?_eq_some_iff.1 r).1
theorem RowS.kp {S : Nat → Prop} {W W' : World} {X : Nat} {a b : Int} {h n : Nat} (r : RowS W X a b h n) (k : Kp S W W') (hS : ¬ S X) : RowS W' X a b h n := (k.block X r.lt hS).trans r
theorem RowS.c0 {W : World} {X : Nat} {a b : Int} {h n : Nat} (r : RowS W X a b h n) : W.cell? ⟨X, 0, none⟩ = some (.int .u32 a) := by rw [cell_at r]; rfl
theorem RowS.c1 {W : World} {X : Nat} {a b : Int} {h n : Nat} (r : RowS W X a b h n) : W.cell? ⟨X, 1, none⟩ = some (.int .u32 b) := by rw [cell_at r]; rfl
theorem RowS.c2 {W : World} {X : Nat} {a b : Int} {h n : Nat} (r : RowS W X a b h n) : W.cell? ⟨X, 2, none⟩ = some (.int .i64 h) := by rw [cell_at r]; rfl
theorem RowS.c3 {W : World} {X : Nat} {a b : Int} {h n : Nat} (r : RowS W X a b h n) : W.cell? ⟨X, 3, none⟩ = some (.int .i64 n) := by rw [cell_at r]; rfl
theorem RowS.fz {W : World} {X : Nat} {a b : Int} {h n : Nat} (r : RowS W X a b h n) (j : Nat) : W.frozen? ⟨X, j, none⟩ = false := frozen_at r
theorem RowS.s0 {W : World} {X : Nat} {a b : Int} {h n : Nat} (r : RowS W X a b h n) (v : Int) : RowS (W.setCell ⟨X, 0, none⟩ (.int .u32 v)) X v b h n := heap_setCell_at r _
theorem RowS.s1 {W : World} {X : Nat} {a b : Int} {h n : Nat} (r : RowS W X a b h n) (v : Int) : RowS (W.setCell ⟨X, 1, none⟩ (.int .u32 v)) X a v h n := heap_setCell_at r _

theorem RowS.four {W : World} {X : Nat} {a b : Int} {h n : Nat} (r : RowS W X a b h n) (a' b' : Int) (h' n' : Nat) : RowS ((((W.setCell ⟨X, 0, none⟩ (.int .u32 a')).setCell ⟨X, 1, none⟩ (.int .u32 b')).setCell ⟨X, 2, none⟩ (.int .i64 h')).setCell ⟨X, 3, none⟩ (.int .i64 n')) X a' b' h' n' :=
  heap_setCell_at (heap_setCell_at ((r.s0 a').s1 b') _) _
theorem kp_four (W : World) (X : Nat) (v0 v1 v2 v3 : Value) : Kp (fun j => j = X) W ((((W.setCell ⟨X, 0, none⟩ v0).setCell ⟨X, 1, none⟩ v1).setCell ⟨X, 2, none⟩ v2).setCell ⟨X, 3, none⟩ v3) :=
  (((Kp.setCell (S := fun j => j = X) W (p := ⟨X, 0, none⟩) rfl v0).trans (Kp.setCell (S := fun j => j = X) _ (p := ⟨X, 1, none⟩) rfl v1)).trans (Kp.setCell (S := fun j => j = X) _ (p := ⟨X, 2, none⟩) rfl v2)).trans (Kp.setCell (S := fun j => j = X) _ (p := ⟨X, 3, none⟩) rfl v3)

/-- The cells that find reads: the processor's Cr3, and how it is asked. -/
abbrev FdS (C X : Nat) (c : Cp) (wr us wp : Bool) (W : World) : Prop := W.cell? ⟨C, 66, none⟩ = some (.int .u32 c.cr3) ∧ W.cell? ⟨X, 0, none⟩ = some (.bool wr) ∧ W.cell? ⟨X, 1, none⟩ = some (.bool us) ∧ W.cell? ⟨X, 2, none⟩ = some (.bool wp)
theorem FdS.kp {C X : Nat} {c : Cp} {wr us wp : Bool} {S : Nat → Prop} {W W' : World} (h : FdS C X c wr us wp W) (k : Kp S W W') (h1 : ¬ S C) (h2 : ¬ S X) : FdS C X c wr us wp W' := ⟨cell_kp h.1 k h1, cell_kp h.2.1 k h2, cell_kp h.2.2.1 k h2, cell_kp h.2.2.2 k h2⟩

/-- The first page has a fault. -/
theorem vfind_pf (w : World) (V K B pl tn C : Nat) (M : Mem) (h : VmAt w V K B pl tn M) (c : Cp) (hc : CpAt w C c) (hC : ¬ modVm K B M.n C) (l : Int) (n : Nat) (wr us wp : Bool) (l0 : 0 ≤ l) (l1 : l < 4294967296) (n0 : 1 ≤ n) (n1 : n ≤ 4) (htn : tn < 18446744073709551613) (hp : c.pg = true) (ho : fOk M c.cr3 l wr us wp = false) :
    Calls Tryz.prog 67 #[.pointer (some ⟨V, 0, none⟩), .pointer (some ⟨C, 0, none⟩), .int .u32 l, .int .i64 n, .agg #[.bool wr, .bool us, .bool wp]] w (fun e w' => e = .panicked (pan ⟨14, fCode M c.cr3 l wr us wp, l⟩) ∧ VmP w V K B pl tn M 2 w') := by
  obtain ⟨X, hX⟩ : ∃ X, w.heap.size = X := ⟨_, rfl⟩
  obtain ⟨hh, hhe⟩ : ∃ hh, hh = ahd l n := ⟨_, rfl⟩
  have he : (if 4096 - l % 4096 < (n : Int) then 4096 - l % 4096 else (n : Int)) = (hh : Int) := by rw [hhe]; unfold ahd; split <;> omega
  obtain ⟨W0, hW0⟩ : ∃ W, W = (((w.alloc (.cells #[.bool wr, .bool us, .bool wp] 132)).alloc (.cells #[.int .u32 0, .int .u32 0, .int .i64 0, .int .i64 0] 93)).alloc (.cells #[.int .u32 0, .int .u32 0, .int .i64 hh, .int .i64 n] 93)) := ⟨_, rfl⟩
  have kA := Kp.alloc noB w (.cells #[.bool wr, .bool us, .bool wp] 132)
  have kB := Kp.alloc noB (w.alloc (.cells #[.bool wr, .bool us, .bool wp] 132)) (.cells #[.int .u32 0, .int .u32 0, .int .i64 0, .int .i64 0] 93)
  have kC := Kp.alloc noB ((w.alloc (.cells #[.bool wr, .bool us, .bool wp] 132)).alloc (.cells #[.int .u32 0, .int .u32 0, .int .i64 0, .int .i64 0] 93)) (.cells #[.int .u32 0, .int .u32 0, .int .i64 hh, .int .i64 n] 93)
  have hz := (hc.kp0 (kA.trans kB)).z
  have k0 : Kp noB w W0 := by rw [hW0]; exact (kA.trans kB).trans kC
  have rB : RowB W0 X wr us wp := by rw [hW0, ← hX]; exact RowB.kp (RowB.kp (MapKept.heap_alloc w _).1 kB (fun f => f)) kC (fun f => f)
  have rS : RowS W0 (X + 1 + 1) 0 0 hh n := by
    have := (MapKept.heap_alloc ((w.alloc (.cells #[.bool wr, .bool us, .bool wp] 132)).alloc (.cells #[.int .u32 0, .int .u32 0, .int .i64 0, .int .i64 0] 93)) (.cells #[.int .u32 0, .int .u32 0, .int .i64 hh, .int .i64 n] 93)).1
    simp only [World.size_alloc, hX] at this
    rw [hW0]
    exact this
  have ha := and_pw hc.ok.z0 hc.ok.z1 31 (by decide)
  have e31 : ((2 ^ 31 : Nat) : Int) = 2147483648 := by decide
  rw [e31] at ha
  have hb : (bits .and .u32 c.cr0 2147483648 == 0) = false := by rw [ha]; unfold Cp.pg at hp; rw [hp]; rfl
  clear ha e31 hhe kA kB kC
  have h0 := h.kp0 k0
  have p0 := hc.kp0 k0
  have q0 := hc.ok.t0; have q1 := hc.ok.t1
  have HLT : Hid (V < X ∧ C < X ∧ ∀ j, modVm K B M.n j → j < X) := ⟨by rw [← hX]; exact h.lt, by rw [← hX]; exact hc.lt, fun j hj => by rw [← hX]; exact h.in_lt hj⟩
  have HS0 : Hid (FdS C X c wr us wp W0.drew) := ⟨p0.t, rB.c0, rB.c1, rB.c2⟩
  go_enter Tryz.func67, Tryz.ntmps67
  go_upto_region 4 with fail
  rw [← hW0]
  clear hW0 hX he hz hb hp
  have h0D : VmAt W0.drew V K B pl tn M := h0.kp0 (Kp.refl noB W0).drew
  have HC : Hid _ := vPlace_no W0.drew V K B pl tn M h0D c.cr3 l wr us wp q0 q1 l0 l1 (by omega) ho
  obtain ⟨z1, z2, z3, z4⟩ := HS0.out
  refine OrdP.region_vals (τ := Unit) (fun ch w' => ch = pan ⟨14, fCode M c.cr3 l wr us wp, l⟩ ∧ VmP W0.drew V K B pl tn M 1 w') (fun _ => [.pointer (some ⟨V, 0, none⟩), .pointer (some ⟨C, 0, none⟩), .pointer (some ⟨C, 0, none⟩), .pointer (some ⟨C, 66, none⟩), .int .u32 c.cr3, .int .u32 l, .agg #[.bool wr, .bool us, .bool wp], undef, .pointer (some ⟨X + 1 + 1, 0, none⟩), undef]) (fun _ listed W' => W' = W0.drew ∧ listed.getD 7 false = false) () ?_ (by kernel_rfl) (by kernel_rfl) (by kernel_rfl) (by kernel_rfl) (fun _ => rfl) (fun t => by simp only [OrdG.puts, Act.put, List.setIfInBounds_toArray, List.set_cons_zero, List.set_cons_succ]; rfl) (fun _ => by kernel_rfl) ⟨rfl, rfl⟩ ?_ ?_
  · rintro ch a' w' hd ⟨rfl, ⟨tn', ht, v⟩, k⟩
    exact ⟨hd, rfl, ⟨tn', by omega, v⟩, (k0.mono (fun _ _ f => f.elim)).trans ⟨k.os, k.tape, k.output, k.size, k.block⟩⟩
  · refine ⟨?_, ?_, ?_, ?_, ?_, ?_, ?_, ?_, ?_, ?_, trivial⟩
    all_goals (intro t listed W' hz hSh hl hI hb K hK hK0; obtain ⟨rfl, h7⟩ := hI)
    case refine_8 =>
      go_simp
      refine Calls.mono HC.out ?_
      rintro e w4 ⟨rfl, r⟩
      exact ⟨rfl, r⟩
    case refine_10 => exact absurd (OrdG.on_of (i := 7) hb (by kernel_rfl)) (by rw [h7]; decide)
    all_goals (go_simp; exact hK0 _ ⟨rfl, OrdP.keep h7 (by decide)⟩)
  · rintro t listed w' hal ⟨_, h7⟩
    have := hal 7 (by decide)
    rw [h7] at this
    cases this

/-- The bytes lie in one page. -/
theorem vfind_one (w : World) (V K B pl tn C : Nat) (M : Mem) (h : VmAt w V K B pl tn M) (c : Cp) (hc : CpAt w C c) (hC : ¬ modVm K B M.n C) (l : Int) (n : Nat) (wr us wp : Bool) (l0 : 0 ≤ l) (l1 : l < 4294967296) (n0 : 1 ≤ n) (n1 : n ≤ 4) (htn : tn < 18446744073709551613) (hp : c.pg = true) (ho : fOk M c.cr3 l wr us wp = true) (hn : n ≤ ahd l n) :
    Calls Tryz.prog 67 #[.pointer (some ⟨V, 0, none⟩), .pointer (some ⟨C, 0, none⟩), .int .u32 l, .int .i64 n, .agg #[.bool wr, .bool us, .bool wp]] w (fun e w' => e = .returned (.agg #[.int .u32 (plF M c.cr3 l wr us wp), .int .u32 0, .int .i64 (ahd l n), .int .i64 n]) ∧ VmP w V K B pl tn (fMem M c.cr3 l wr us wp) 2 w') := by
  obtain ⟨X, hX⟩ : ∃ X, w.heap.size = X := ⟨_, rfl⟩
  obtain ⟨hh, hhe⟩ : ∃ hh, hh = ahd l n := ⟨_, rfl⟩
  have he : (if 4096 - l % 4096 < (n : Int) then 4096 - l % 4096 else (n : Int)) = (hh : Int) := by rw [hhe]; unfold ahd; split <;> omega
  obtain ⟨W0, hW0⟩ : ∃ W, W = (((w.alloc (.cells #[.bool wr, .bool us, .bool wp] 132)).alloc (.cells #[.int .u32 0, .int .u32 0, .int .i64 0, .int .i64 0] 93)).alloc (.cells #[.int .u32 0, .int .u32 0, .int .i64 hh, .int .i64 n] 93)) := ⟨_, rfl⟩
  have kA := Kp.alloc noB w (.cells #[.bool wr, .bool us, .bool wp] 132)
  have kB := Kp.alloc noB (w.alloc (.cells #[.bool wr, .bool us, .bool wp] 132)) (.cells #[.int .u32 0, .int .u32 0, .int .i64 0, .int .i64 0] 93)
  have kC := Kp.alloc noB ((w.alloc (.cells #[.bool wr, .bool us, .bool wp] 132)).alloc (.cells #[.int .u32 0, .int .u32 0, .int .i64 0, .int .i64 0] 93)) (.cells #[.int .u32 0, .int .u32 0, .int .i64 hh, .int .i64 n] 93)
  have hz := (hc.kp0 (kA.trans kB)).z
  have k0 : Kp noB w W0 := by rw [hW0]; exact (kA.trans kB).trans kC
  have rB : RowB W0 X wr us wp := by rw [hW0, ← hX]; exact RowB.kp (RowB.kp (MapKept.heap_alloc w _).1 kB (fun f => f)) kC (fun f => f)
  have rS : RowS W0 (X + 1 + 1) 0 0 hh n := by
    have := (MapKept.heap_alloc ((w.alloc (.cells #[.bool wr, .bool us, .bool wp] 132)).alloc (.cells #[.int .u32 0, .int .u32 0, .int .i64 0, .int .i64 0] 93)) (.cells #[.int .u32 0, .int .u32 0, .int .i64 hh, .int .i64 n] 93)).1
    simp only [World.size_alloc, hX] at this
    rw [hW0]
    exact this
  have rR : RowS W0 (X + 1) 0 0 0 0 := by
    have := (MapKept.heap_alloc (w.alloc (.cells #[.bool wr, .bool us, .bool wp] 132)) (.cells #[.int .u32 0, .int .u32 0, .int .i64 0, .int .i64 0] 93)).1
    simp only [World.size_alloc, hX] at this
    rw [hW0]
    exact RowS.kp (h := 0) (n := 0) this kC (fun f => f)
  have ha := and_pw hc.ok.z0 hc.ok.z1 31 (by decide)
  have e31 : ((2 ^ 31 : Nat) : Int) = 2147483648 := by decide
  rw [e31] at ha
  have hb : (bits .and .u32 c.cr0 2147483648 == 0) = false := by rw [ha]; unfold Cp.pg at hp; rw [hp]; rfl
  have HH : Hid (hh = ahd l n) := hhe
  clear ha e31 hhe kA kB kC
  have h0 := h.kp0 k0
  have p0 := hc.kp0 k0
  have q0 := hc.ok.t0; have q1 := hc.ok.t1
  have HXw : Hid (w.heap.size = X) := hX
  have HLT : Hid (V < X ∧ C < X ∧ ∀ j, modVm K B M.n j → j < X) := ⟨by rw [← hX]; exact h.lt, by rw [← hX]; exact hc.lt, fun j hj => by rw [← hX]; exact h.in_lt hj⟩
  have HS0 : Hid (FdS C X c wr us wp W0.drew) := ⟨p0.t, rB.c0, rB.c1, rB.c2⟩
  go_enter Tryz.func67, Tryz.ntmps67
  go_upto_region 4 with fail
  rw [← hW0]
  clear hW0 hX he hz hb hp
  have sm := fMem_same M c.cr3 l wr us wp
  have nX : ¬ modVm K B (fMem M c.cr3 l wr us wp).n X := fun f => by rw [sm.1] at f; have := HLT.out.2.2 _ f; omega
  have nC : ¬ modVm K B (fMem M c.cr3 l wr us wp).n C := by rw [sm.1]; exact hC
  have nS : ¬ modVm K B (fMem M c.cr3 l wr us wp).n (X + 1 + 1) := fun f => by rw [sm.1] at f; have := HLT.out.2.2 _ f; omega
  have h0D : VmAt W0.drew V K B pl tn M := h0.kp0 (Kp.refl noB W0).drew
  have HC : Hid _ := vPlace_ok W0.drew V K B pl tn M h0D c.cr3 l wr us wp q0 q1 l0 l1 (by omega) ho
  have HSK : Hid (∀ W W', FdS C X c wr us wp W → Kp (modVm K B (fMem M c.cr3 l wr us wp).n) W W' → FdS C X c wr us wp W') := fun W W' p k => p.kp k nC nX
  have HSF : Hid (∀ (W : World) (v : Value), FdS C X c wr us wp W → FdS C X c wr us wp (W.setCell ⟨X + 1 + 1, 0, none⟩ v)) := fun W v p => p.kp (Kp.setCell (S := fun j => j = X + 1 + 1) W (p := ⟨X + 1 + 1, 0, none⟩) rfl v) (by have := HLT.out.2.1; omega) (by omega)
  have HRS : Hid (∀ W', Kp (modVm K B (fMem M c.cr3 l wr us wp).n) W0.drew W' → RowS W' (X + 1 + 1) 0 0 hh n) := fun W' k => by
    have r : RowS W0.drew (X + 1 + 1) 0 0 hh n := rS
    exact r.kp k nS
  have HRR : Hid (∀ W', Kp (modVm K B (fMem M c.cr3 l wr us wp).n) W0.drew W' → RowS W' (X + 1) 0 0 0 0) := fun W' k => by
    have r : RowS W0.drew (X + 1) 0 0 0 0 := rR
    exact r.kp k (fun f => by rw [sm.1] at f; have := HLT.out.2.2 _ f; omega)
  clear rR
  obtain ⟨M1, hM1⟩ : ∃ M1, fMem M c.cr3 l wr us wp = M1 := ⟨_, rfl⟩
  obtain ⟨p1, hp1⟩ : ∃ p1, plF M c.cr3 l wr us wp = p1 := ⟨_, rfl⟩
  rw [hM1] at sm nX nC nS HC HSK HRS HRR
  rw [hp1] at HC
  have HM1 : Hid _ := hM1
  have HP1 : Hid _ := hp1
  clear hM1 hp1
  go_region_held3 (fun W => (W.cell? ⟨C, 66, none⟩ = some (.int .u32 c.cr3) ∧ W.cell? ⟨X, 0, none⟩ = some (.bool wr) ∧ W.cell? ⟨X, 1, none⟩ = some (.bool us) ∧ W.cell? ⟨X, 2, none⟩ = some (.bool wp)))
    (first | with_reducible exact HS0.out | with_reducible exact HSK.out _ _ HS0.out k4 | with_reducible exact HSF.out _ _ (HSK.out _ _ HS0.out k4))
    (first | (go_at_call 85; refine Calls.mono HC.out ?_; rintro e w4 ⟨rfl, hr4, k4⟩; have rz := HRS.out _ k4; obtain ⟨z0, y0⟩ := And.intro rz.c0 (rz.fz 0)))
  have hS5 := HSF.out _ (.int .u32 p1) (HSK.out _ _ HS0.out k4)
  have r5 := rz.s0 p1
  obtain ⟨tn4, ht4, v4⟩ := hr4
  have nV' : ∀ j, inVm V K B M1.n j → j ≠ X + 1 + 1 := fun j hj e => by
    subst e
    rcases hj with e | e
    · have := HLT.out.1; omega
    · exact nS e
  replace v4 := v4.kp (Kp.setCell (S := fun j => j = X + 1 + 1) w4 (p := ⟨X + 1 + 1, 0, none⟩) rfl (.int .u32 p1)) nV'
  have hXw : w.heap.size ≤ X + 1 + 1 := by have := HXw.out; omega
  have k5 : Kp (modVm K B M1.n) w (w4.setCell ⟨X + 1 + 1, 0, none⟩ (.int .u32 p1)) := Kp.own' ((k0.mono (fun _ _ f => f.elim)).trans ⟨k4.os, k4.tape, k4.output, k4.size, k4.block⟩) hXw _
  have rR5 : RowS (w4.setCell ⟨X + 1 + 1, 0, none⟩ (.int .u32 p1)) (X + 1) 0 0 0 0 := (RowS.kp (HRR.out _ k4) (Kp.setCell (S := fun j => j = X + 1 + 1) w4 (p := ⟨X + 1 + 1, 0, none⟩) rfl (.int .u32 p1)) (by omega))
  obtain ⟨W5, hgen⟩ : ∃ W, W = w4.setCell ⟨X + 1 + 1, 0, none⟩ (.int .u32 p1) := ⟨_, rfl⟩
  rw [← hgen] at hS5 r5 v4 k5 rR5 ⊢
  clear hgen k4 HSK HSF HRS HRR h0D HC h0 k0 rB rS HS0 rz z0 y0 p0 h hc
  have hlt : ¬ hh < n := by rw [HH.out]; omega
  have hlt' : decide (hh < n) = false := decide_eq_false hlt
  have c2 := r5.c2
  have c0 := r5.c0; have c1 := r5.c1; have c3 := r5.c3
  have d0 := rR5.c0; have d1 := rR5.c1; have d2 := rR5.c2; have d3 := rR5.c3
  have f0 := rR5.fz 0; have f1 := rR5.fz 1; have f2 := rR5.fz 2; have f3 := rR5.fz 3
  have rF := rR5.four p1 0 hh n
  have kF := kp_four W5 (X + 1) (.int .u32 p1) (.int .u32 0) (.int .i64 hh) (.int .i64 n)
  have vF := v4.kp kF (fun j hj e => by
    subst e
    rcases hj with e | e
    · have := HLT.out.1; omega
    · rw [sm.1] at e; have := HLT.out.2.2 _ e; omega)
  have k6 := k5.over kF (fun j hj e => absurd hj (by have := HXw.out; omega))
  clear hS5 r5 rR5 v4 k5 kF
  go_wp2
  refine bodyPost_ret (v := .agg #[.int .u32 p1, .int .u32 0, .int .i64 hh, .int .i64 n]) (by simp [results, Tryz.results67, go_sem, rF.c0, rF.c1, rF.c2, rF.c3]) rfl ⟨by rw [HP1.out, HH.out], ?_⟩
  rw [HM1.out]
  exact ⟨⟨tn4, by omega, vF⟩, k6⟩

/-- The second page has a fault. -/
theorem vfind_pf2 (w : World) (V K B pl tn C : Nat) (M : Mem) (h : VmAt w V K B pl tn M) (c : Cp) (hc : CpAt w C c) (hC : ¬ modVm K B M.n C) (l : Int) (n : Nat) (wr us wp : Bool) (l0 : 0 ≤ l) (l1 : l < 4294967296) (n0 : 1 ≤ n) (n1 : n ≤ 4) (htn : tn < 18446744073709551613) (hp : c.pg = true) (ho : fOk M c.cr3 l wr us wp = true) (hn : ahd l n < n) (ho2 : fOk (fMem M c.cr3 l wr us wp) c.cr3 (nxt l n) wr us wp = false) :
    Calls Tryz.prog 67 #[.pointer (some ⟨V, 0, none⟩), .pointer (some ⟨C, 0, none⟩), .int .u32 l, .int .i64 n, .agg #[.bool wr, .bool us, .bool wp]] w (fun e w' => e = .panicked (pan ⟨14, fCode (fMem M c.cr3 l wr us wp) c.cr3 (nxt l n) wr us wp, nxt l n⟩) ∧ VmP w V K B pl tn (fMem M c.cr3 l wr us wp) 2 w') := by
  obtain ⟨X, hX⟩ : ∃ X, w.heap.size = X := ⟨_, rfl⟩
  obtain ⟨hh, hhe⟩ : ∃ hh, hh = ahd l n := ⟨_, rfl⟩
  have he : (if 4096 - l % 4096 < (n : Int) then 4096 - l % 4096 else (n : Int)) = (hh : Int) := by rw [hhe]; unfold ahd; split <;> omega
  obtain ⟨W0, hW0⟩ : ∃ W, W = (((w.alloc (.cells #[.bool wr, .bool us, .bool wp] 132)).alloc (.cells #[.int .u32 0, .int .u32 0, .int .i64 0, .int .i64 0] 93)).alloc (.cells #[.int .u32 0, .int .u32 0, .int .i64 hh, .int .i64 n] 93)) := ⟨_, rfl⟩
  have kA := Kp.alloc noB w (.cells #[.bool wr, .bool us, .bool wp] 132)
  have kB := Kp.alloc noB (w.alloc (.cells #[.bool wr, .bool us, .bool wp] 132)) (.cells #[.int .u32 0, .int .u32 0, .int .i64 0, .int .i64 0] 93)
  have kC := Kp.alloc noB ((w.alloc (.cells #[.bool wr, .bool us, .bool wp] 132)).alloc (.cells #[.int .u32 0, .int .u32 0, .int .i64 0, .int .i64 0] 93)) (.cells #[.int .u32 0, .int .u32 0, .int .i64 hh, .int .i64 n] 93)
  have hz := (hc.kp0 (kA.trans kB)).z
  have k0 : Kp noB w W0 := by rw [hW0]; exact (kA.trans kB).trans kC
  have rB : RowB W0 X wr us wp := by rw [hW0, ← hX]; exact RowB.kp (RowB.kp (MapKept.heap_alloc w _).1 kB (fun f => f)) kC (fun f => f)
  have rS : RowS W0 (X + 1 + 1) 0 0 hh n := by
    have := (MapKept.heap_alloc ((w.alloc (.cells #[.bool wr, .bool us, .bool wp] 132)).alloc (.cells #[.int .u32 0, .int .u32 0, .int .i64 0, .int .i64 0] 93)) (.cells #[.int .u32 0, .int .u32 0, .int .i64 hh, .int .i64 n] 93)).1
    simp only [World.size_alloc, hX] at this
    rw [hW0]
    exact this
  have rR : RowS W0 (X + 1) 0 0 0 0 := by
    have := (MapKept.heap_alloc (w.alloc (.cells #[.bool wr, .bool us, .bool wp] 132)) (.cells #[.int .u32 0, .int .u32 0, .int .i64 0, .int .i64 0] 93)).1
    simp only [World.size_alloc, hX] at this
    rw [hW0]
    exact RowS.kp (h := 0) (n := 0) this kC (fun f => f)
  have ha := and_pw hc.ok.z0 hc.ok.z1 31 (by decide)
  have e31 : ((2 ^ 31 : Nat) : Int) = 2147483648 := by decide
  rw [e31] at ha
  have hb : (bits .and .u32 c.cr0 2147483648 == 0) = false := by rw [ha]; unfold Cp.pg at hp; rw [hp]; rfl
  have HH : Hid (hh = ahd l n) := hhe
  clear ha e31 hhe kA kB kC
  have h0 := h.kp0 k0
  have p0 := hc.kp0 k0
  have q0 := hc.ok.t0; have q1 := hc.ok.t1
  have HXw : Hid (w.heap.size = X) := hX
  have HLT : Hid (V < X ∧ C < X ∧ ∀ j, modVm K B M.n j → j < X) := ⟨by rw [← hX]; exact h.lt, by rw [← hX]; exact hc.lt, fun j hj => by rw [← hX]; exact h.in_lt hj⟩
  have HS0 : Hid (FdS C X c wr us wp W0.drew) := ⟨p0.t, rB.c0, rB.c1, rB.c2⟩
  go_enter Tryz.func67, Tryz.ntmps67
  go_upto_region 4 with fail
  rw [← hW0]
  clear hW0 hX he hz hb hp
  have sm := fMem_same M c.cr3 l wr us wp
  have nX : ¬ modVm K B (fMem M c.cr3 l wr us wp).n X := fun f => by rw [sm.1] at f; have := HLT.out.2.2 _ f; omega
  have nC : ¬ modVm K B (fMem M c.cr3 l wr us wp).n C := by rw [sm.1]; exact hC
  have nS : ¬ modVm K B (fMem M c.cr3 l wr us wp).n (X + 1 + 1) := fun f => by rw [sm.1] at f; have := HLT.out.2.2 _ f; omega
  have h0D : VmAt W0.drew V K B pl tn M := h0.kp0 (Kp.refl noB W0).drew
  have HC : Hid _ := vPlace_ok W0.drew V K B pl tn M h0D c.cr3 l wr us wp q0 q1 l0 l1 (by omega) ho
  have HSK : Hid (∀ W W', FdS C X c wr us wp W → Kp (modVm K B (fMem M c.cr3 l wr us wp).n) W W' → FdS C X c wr us wp W') := fun W W' p k => p.kp k nC nX
  have HSF : Hid (∀ (W : World) (v : Value), FdS C X c wr us wp W → FdS C X c wr us wp (W.setCell ⟨X + 1 + 1, 0, none⟩ v)) := fun W v p => p.kp (Kp.setCell (S := fun j => j = X + 1 + 1) W (p := ⟨X + 1 + 1, 0, none⟩) rfl v) (by have := HLT.out.2.1; omega) (by omega)
  have HRS : Hid (∀ W', Kp (modVm K B (fMem M c.cr3 l wr us wp).n) W0.drew W' → RowS W' (X + 1 + 1) 0 0 hh n) := fun W' k => by
    have r : RowS W0.drew (X + 1 + 1) 0 0 hh n := rS
    exact r.kp k nS
  have HRR : Hid (∀ W', Kp (modVm K B (fMem M c.cr3 l wr us wp).n) W0.drew W' → RowS W' (X + 1) 0 0 0 0) := fun W' k => by
    have r : RowS W0.drew (X + 1) 0 0 0 0 := rR
    exact r.kp k (fun f => by rw [sm.1] at f; have := HLT.out.2.2 _ f; omega)
  clear rR
  obtain ⟨M1, hM1⟩ : ∃ M1, fMem M c.cr3 l wr us wp = M1 := ⟨_, rfl⟩
  obtain ⟨p1, hp1⟩ : ∃ p1, plF M c.cr3 l wr us wp = p1 := ⟨_, rfl⟩
  rw [hM1] at sm nX nC nS HC HSK HRS HRR ho2
  have HO2 : Hid _ := ho2
  rw [hp1] at HC
  have HM1 : Hid _ := hM1
  have HP1 : Hid _ := hp1
  clear hM1 hp1 ho2
  go_region_held3 (fun W => (W.cell? ⟨C, 66, none⟩ = some (.int .u32 c.cr3) ∧ W.cell? ⟨X, 0, none⟩ = some (.bool wr) ∧ W.cell? ⟨X, 1, none⟩ = some (.bool us) ∧ W.cell? ⟨X, 2, none⟩ = some (.bool wp)))
    (first | with_reducible exact HS0.out | with_reducible exact HSK.out _ _ HS0.out k4 | with_reducible exact HSF.out _ _ (HSK.out _ _ HS0.out k4))
    (first | (go_at_call 85; refine Calls.mono HC.out ?_; rintro e w4 ⟨rfl, hr4, k4⟩; have rz := HRS.out _ k4; obtain ⟨z0, y0⟩ := And.intro rz.c0 (rz.fz 0)))
  have hS5 := HSF.out _ (.int .u32 p1) (HSK.out _ _ HS0.out k4)
  have r5 := rz.s0 p1
  obtain ⟨tn4, ht4, v4⟩ := hr4
  have nV' : ∀ j, inVm V K B M1.n j → j ≠ X + 1 + 1 := fun j hj e => by
    subst e
    rcases hj with e | e
    · have := HLT.out.1; omega
    · exact nS e
  replace v4 := v4.kp (Kp.setCell (S := fun j => j = X + 1 + 1) w4 (p := ⟨X + 1 + 1, 0, none⟩) rfl (.int .u32 p1)) nV'
  have hXw : w.heap.size ≤ X + 1 + 1 := by have := HXw.out; omega
  have k5 : Kp (modVm K B M1.n) w (w4.setCell ⟨X + 1 + 1, 0, none⟩ (.int .u32 p1)) := Kp.own' ((k0.mono (fun _ _ f => f.elim)).trans ⟨k4.os, k4.tape, k4.output, k4.size, k4.block⟩) hXw _
  have rR5 : RowS (w4.setCell ⟨X + 1 + 1, 0, none⟩ (.int .u32 p1)) (X + 1) 0 0 0 0 := (RowS.kp (HRR.out _ k4) (Kp.setCell (S := fun j => j = X + 1 + 1) w4 (p := ⟨X + 1 + 1, 0, none⟩) rfl (.int .u32 p1)) (by omega))
  obtain ⟨W5, hgen⟩ : ∃ W, W = w4.setCell ⟨X + 1 + 1, 0, none⟩ (.int .u32 p1) := ⟨_, rfl⟩
  rw [← hgen] at hS5 r5 v4 k5 rR5 ⊢
  clear hgen k4 HSK HSF HRS HRR h0D HC h0 k0 rB rS HS0 rz z0 y0 p0 h hc
  have hlt : hh < n := by rw [HH.out]; exact hn
  have hlt' : decide (hh < n) = true := decide_eq_true hlt
  have HN : Hid (nxt l n = (l + hh) % 4294967296) := by rw [HH.out]; rfl
  have ew : IntKind.u32.wrap (hh : Int) = hh := by have := IntKind.wrap_u32 (hh : Int); omega
  have c2 := r5.c2
  go_upto_region 6 with fail
  have h5D : VmAt W5.drew V K B pl tn4 M1 := v4.kp0 (Kp.refl noB W5).drew
  have HC2 : Hid (Calls Tryz.prog 85 #[.pointer (some ⟨V, 0, none⟩), .int .u32 c.cr3, .int .u32 ((l + hh) % 4294967296), .agg #[.bool wr, .bool us, .bool wp]] W5.drew (fun e w' => e = .panicked (pan ⟨14, fCode M1 c.cr3 (nxt l n) wr us wp, nxt l n⟩) ∧ VmP W5.drew V K B pl tn4 M1 1 w')) := by
    have := vPlace_no W5.drew V K B pl tn4 M1 h5D c.cr3 (nxt l n) wr us wp q0 q1 (by unfold nxt; omega) (by unfold nxt; omega) (by omega) HO2.out
    rw [HN.out] at this ⊢
    exact this
  obtain ⟨z1, z2, z3, z4⟩ := hS5
  have HCd : Hid _ := HM1
  refine OrdP.region_vals (τ := Unit) (fun ch w' => ch = pan ⟨14, fCode M1 c.cr3 (nxt l n) wr us wp, nxt l n⟩ ∧ VmP W5.drew V K B pl tn4 M1 1 w') (fun _ => [.pointer (some ⟨V, 0, none⟩), .pointer (some ⟨C, 0, none⟩), .pointer (some ⟨C, 0, none⟩), .pointer (some ⟨C, 66, none⟩), .int .u32 c.cr3, .int .u32 l, .pointer (some ⟨X + 1 + 1, 2, none⟩), .int .i64 hh, .int .u32 hh, .int .u32 ((l + hh) % 4294967296), .agg #[.bool wr, .bool us, .bool wp], undef, .pointer (some ⟨X + 1 + 1, 1, none⟩), undef]) (fun _ listed W' => W' = W5.drew ∧ listed.getD 11 false = false) () ?_ (by kernel_rfl) (by kernel_rfl) (by kernel_rfl) (by kernel_rfl) (fun _ => rfl) (fun t => by simp only [OrdG.puts, Act.put, List.setIfInBounds_toArray, List.set_cons_zero, List.set_cons_succ]; rfl) (fun _ => by kernel_rfl) ⟨rfl, rfl⟩ ?_ ?_
  · rintro ch a' w' hd ⟨rfl, ⟨tn', ht, v⟩, k⟩
    refine ⟨hd, by rw [HM1.out], ?_⟩
    rw [HM1.out]
    exact ⟨⟨tn', by omega, v⟩, k5.trans ⟨k.os, k.tape, k.output, k.size, k.block⟩⟩
  · refine ⟨?_, ?_, ?_, ?_, ?_, ?_, ?_, ?_, ?_, ?_, ?_, ?_, ?_, ?_, trivial⟩
    all_goals (intro t listed W' hz hSh hl hI hb K hK hK0; obtain ⟨rfl, h7⟩ := hI)
    case refine_12 =>
      go_simp
      refine Calls.mono HC2.out ?_
      rintro e w4 ⟨rfl, r⟩
      exact ⟨rfl, r⟩
    case refine_14 => exact absurd (OrdG.on_of (i := 11) hb (by kernel_rfl)) (by rw [h7]; decide)
    all_goals (go_simp; exact hK0 _ ⟨rfl, OrdP.keep h7 (by decide)⟩)
  · rintro t listed w' hal ⟨_, h7⟩
    have := hal 11 (by decide)
    rw [h7] at this
    cases this

/-- Both pages are found. -/
theorem vfind_two (w : World) (V K B pl tn C : Nat) (M : Mem) (h : VmAt w V K B pl tn M) (c : Cp) (hc : CpAt w C c) (hC : ¬ modVm K B M.n C) (l : Int) (n : Nat) (wr us wp : Bool) (l0 : 0 ≤ l) (l1 : l < 4294967296) (n0 : 1 ≤ n) (n1 : n ≤ 4) (htn : tn < 18446744073709551613) (hp : c.pg = true) (ho : fOk M c.cr3 l wr us wp = true) (hn : ahd l n < n) (ho2 : fOk (fMem M c.cr3 l wr us wp) c.cr3 (nxt l n) wr us wp = true) :
    Calls Tryz.prog 67 #[.pointer (some ⟨V, 0, none⟩), .pointer (some ⟨C, 0, none⟩), .int .u32 l, .int .i64 n, .agg #[.bool wr, .bool us, .bool wp]] w (fun e w' => e = .returned (.agg #[.int .u32 (plF M c.cr3 l wr us wp), .int .u32 (plF (fMem M c.cr3 l wr us wp) c.cr3 (nxt l n) wr us wp), .int .i64 (ahd l n), .int .i64 n]) ∧ VmP w V K B pl tn (fMem (fMem M c.cr3 l wr us wp) c.cr3 (nxt l n) wr us wp) 2 w') := by
  obtain ⟨X, hX⟩ : ∃ X, w.heap.size = X := ⟨_, rfl⟩
  obtain ⟨hh, hhe⟩ : ∃ hh, hh = ahd l n := ⟨_, rfl⟩
  have he : (if 4096 - l % 4096 < (n : Int) then 4096 - l % 4096 else (n : Int)) = (hh : Int) := by rw [hhe]; unfold ahd; split <;> omega
  obtain ⟨W0, hW0⟩ : ∃ W, W = (((w.alloc (.cells #[.bool wr, .bool us, .bool wp] 132)).alloc (.cells #[.int .u32 0, .int .u32 0, .int .i64 0, .int .i64 0] 93)).alloc (.cells #[.int .u32 0, .int .u32 0, .int .i64 hh, .int .i64 n] 93)) := ⟨_, rfl⟩
  have kA := Kp.alloc noB w (.cells #[.bool wr, .bool us, .bool wp] 132)
  have kB := Kp.alloc noB (w.alloc (.cells #[.bool wr, .bool us, .bool wp] 132)) (.cells #[.int .u32 0, .int .u32 0, .int .i64 0, .int .i64 0] 93)
  have kC := Kp.alloc noB ((w.alloc (.cells #[.bool wr, .bool us, .bool wp] 132)).alloc (.cells #[.int .u32 0, .int .u32 0, .int .i64 0, .int .i64 0] 93)) (.cells #[.int .u32 0, .int .u32 0, .int .i64 hh, .int .i64 n] 93)
  have hz := (hc.kp0 (kA.trans kB)).z
  have k0 : Kp noB w W0 := by rw [hW0]; exact (kA.trans kB).trans kC
  have rB : RowB W0 X wr us wp := by rw [hW0, ← hX]; exact RowB.kp (RowB.kp (MapKept.heap_alloc w _).1 kB (fun f => f)) kC (fun f => f)
  have rS : RowS W0 (X + 1 + 1) 0 0 hh n := by
    have := (MapKept.heap_alloc ((w.alloc (.cells #[.bool wr, .bool us, .bool wp] 132)).alloc (.cells #[.int .u32 0, .int .u32 0, .int .i64 0, .int .i64 0] 93)) (.cells #[.int .u32 0, .int .u32 0, .int .i64 hh, .int .i64 n] 93)).1
    simp only [World.size_alloc, hX] at this
    rw [hW0]
    exact this
  have rR : RowS W0 (X + 1) 0 0 0 0 := by
    have := (MapKept.heap_alloc (w.alloc (.cells #[.bool wr, .bool us, .bool wp] 132)) (.cells #[.int .u32 0, .int .u32 0, .int .i64 0, .int .i64 0] 93)).1
    simp only [World.size_alloc, hX] at this
    rw [hW0]
    exact RowS.kp (h := 0) (n := 0) this kC (fun f => f)
  have ha := and_pw hc.ok.z0 hc.ok.z1 31 (by decide)
  have e31 : ((2 ^ 31 : Nat) : Int) = 2147483648 := by decide
  rw [e31] at ha
  have hb : (bits .and .u32 c.cr0 2147483648 == 0) = false := by rw [ha]; unfold Cp.pg at hp; rw [hp]; rfl
  have HH : Hid (hh = ahd l n) := hhe
  clear ha e31 hhe kA kB kC
  have h0 := h.kp0 k0
  have p0 := hc.kp0 k0
  have q0 := hc.ok.t0; have q1 := hc.ok.t1
  have HXw : Hid (w.heap.size = X) := hX
  have HLT : Hid (V < X ∧ C < X ∧ ∀ j, modVm K B M.n j → j < X) := ⟨by rw [← hX]; exact h.lt, by rw [← hX]; exact hc.lt, fun j hj => by rw [← hX]; exact h.in_lt hj⟩
  have HS0 : Hid (FdS C X c wr us wp W0.drew) := ⟨p0.t, rB.c0, rB.c1, rB.c2⟩
  go_enter Tryz.func67, Tryz.ntmps67
  go_upto_region 4 with fail
  rw [← hW0]
  clear hW0 hX he hz hb hp
  have sm := fMem_same M c.cr3 l wr us wp
  have nX : ¬ modVm K B (fMem M c.cr3 l wr us wp).n X := fun f => by rw [sm.1] at f; have := HLT.out.2.2 _ f; omega
  have nC : ¬ modVm K B (fMem M c.cr3 l wr us wp).n C := by rw [sm.1]; exact hC
  have nS : ¬ modVm K B (fMem M c.cr3 l wr us wp).n (X + 1 + 1) := fun f => by rw [sm.1] at f; have := HLT.out.2.2 _ f; omega
  have h0D : VmAt W0.drew V K B pl tn M := h0.kp0 (Kp.refl noB W0).drew
  have HC : Hid _ := vPlace_ok W0.drew V K B pl tn M h0D c.cr3 l wr us wp q0 q1 l0 l1 (by omega) ho
  have HSK : Hid (∀ W W', FdS C X c wr us wp W → Kp (modVm K B (fMem M c.cr3 l wr us wp).n) W W' → FdS C X c wr us wp W') := fun W W' p k => p.kp k nC nX
  have HSF : Hid (∀ (W : World) (v : Value), FdS C X c wr us wp W → FdS C X c wr us wp (W.setCell ⟨X + 1 + 1, 0, none⟩ v)) := fun W v p => p.kp (Kp.setCell (S := fun j => j = X + 1 + 1) W (p := ⟨X + 1 + 1, 0, none⟩) rfl v) (by have := HLT.out.2.1; omega) (by omega)
  have HRS : Hid (∀ W', Kp (modVm K B (fMem M c.cr3 l wr us wp).n) W0.drew W' → RowS W' (X + 1 + 1) 0 0 hh n) := fun W' k => by
    have r : RowS W0.drew (X + 1 + 1) 0 0 hh n := rS
    exact r.kp k nS
  have HRR : Hid (∀ W', Kp (modVm K B (fMem M c.cr3 l wr us wp).n) W0.drew W' → RowS W' (X + 1) 0 0 0 0) := fun W' k => by
    have r : RowS W0.drew (X + 1) 0 0 0 0 := rR
    exact r.kp k (fun f => by rw [sm.1] at f; have := HLT.out.2.2 _ f; omega)
  clear rR
  obtain ⟨M1, hM1⟩ : ∃ M1, fMem M c.cr3 l wr us wp = M1 := ⟨_, rfl⟩
  obtain ⟨p1, hp1⟩ : ∃ p1, plF M c.cr3 l wr us wp = p1 := ⟨_, rfl⟩
  rw [hM1] at sm nX nC nS HC HSK HRS HRR ho2
  have HO2 : Hid _ := ho2
  rw [hp1] at HC
  have HM1 : Hid _ := hM1
  have HP1 : Hid _ := hp1
  clear hM1 hp1 ho2
  go_region_held3 (fun W => (W.cell? ⟨C, 66, none⟩ = some (.int .u32 c.cr3) ∧ W.cell? ⟨X, 0, none⟩ = some (.bool wr) ∧ W.cell? ⟨X, 1, none⟩ = some (.bool us) ∧ W.cell? ⟨X, 2, none⟩ = some (.bool wp)))
    (first | with_reducible exact HS0.out | with_reducible exact HSK.out _ _ HS0.out k4 | with_reducible exact HSF.out _ _ (HSK.out _ _ HS0.out k4))
    (first | (go_at_call 85; refine Calls.mono HC.out ?_; rintro e w4 ⟨rfl, hr4, k4⟩; have rz := HRS.out _ k4; obtain ⟨z0, y0⟩ := And.intro rz.c0 (rz.fz 0)))
  have hS5 := HSF.out _ (.int .u32 p1) (HSK.out _ _ HS0.out k4)
  have r5 := rz.s0 p1
  obtain ⟨tn4, ht4, v4⟩ := hr4
  have nV' : ∀ j, inVm V K B M1.n j → j ≠ X + 1 + 1 := fun j hj e => by
    subst e
    rcases hj with e | e
    · have := HLT.out.1; omega
    · exact nS e
  replace v4 := v4.kp (Kp.setCell (S := fun j => j = X + 1 + 1) w4 (p := ⟨X + 1 + 1, 0, none⟩) rfl (.int .u32 p1)) nV'
  have hXw : w.heap.size ≤ X + 1 + 1 := by have := HXw.out; omega
  have k5 : Kp (modVm K B M1.n) w (w4.setCell ⟨X + 1 + 1, 0, none⟩ (.int .u32 p1)) := Kp.own' ((k0.mono (fun _ _ f => f.elim)).trans ⟨k4.os, k4.tape, k4.output, k4.size, k4.block⟩) hXw _
  have rR5 : RowS (w4.setCell ⟨X + 1 + 1, 0, none⟩ (.int .u32 p1)) (X + 1) 0 0 0 0 := (RowS.kp (HRR.out _ k4) (Kp.setCell (S := fun j => j = X + 1 + 1) w4 (p := ⟨X + 1 + 1, 0, none⟩) rfl (.int .u32 p1)) (by omega))
  obtain ⟨W5, hgen⟩ : ∃ W, W = w4.setCell ⟨X + 1 + 1, 0, none⟩ (.int .u32 p1) := ⟨_, rfl⟩
  rw [← hgen] at hS5 r5 v4 k5 rR5 ⊢
  clear hgen k4 HSK HSF HRS HRR h0D HC h0 k0 rB rS HS0 rz z0 y0 p0 h hc
  have hlt : hh < n := by rw [HH.out]; exact hn
  have hlt' : decide (hh < n) = true := decide_eq_true hlt
  have HN : Hid (nxt l n = (l + hh) % 4294967296) := by rw [HH.out]; rfl
  have ew : IntKind.u32.wrap (hh : Int) = hh := by have := IntKind.wrap_u32 (hh : Int); omega
  have c2 := r5.c2
  go_upto_region 6 with fail
  have h5D : VmAt W5.drew V K B pl tn4 M1 := v4.kp0 (Kp.refl noB W5).drew
  have sm2 := fMem_same M1 c.cr3 (nxt l n) wr us wp
  have HC2 : Hid (Calls Tryz.prog 85 #[.pointer (some ⟨V, 0, none⟩), .int .u32 c.cr3, .int .u32 ((l + hh) % 4294967296), .agg #[.bool wr, .bool us, .bool wp]] W5.drew (fun e w' => e = .returned (.int .u32 (plF M1 c.cr3 (nxt l n) wr us wp)) ∧ VmP W5.drew V K B pl tn4 (fMem M1 c.cr3 (nxt l n) wr us wp) 1 w')) := by
    have := vPlace_ok W5.drew V K B pl tn4 M1 h5D c.cr3 (nxt l n) wr us wp q0 q1 (by unfold nxt; omega) (by unfold nxt; omega) (by omega) HO2.out
    rw [HN.out] at this ⊢
    exact this
  obtain ⟨M2, hM2⟩ : ∃ M2, fMem M1 c.cr3 (nxt l n) wr us wp = M2 := ⟨_, rfl⟩
  obtain ⟨p2, hp2⟩ : ∃ p2, plF M1 c.cr3 (nxt l n) wr us wp = p2 := ⟨_, rfl⟩
  rw [hM2] at sm2 HC2
  rw [hp2] at HC2
  have HM2 : Hid _ := hM2
  have HP2 : Hid _ := hp2
  clear hM2 hp2
  have HT0 : Hid (FdS C X c wr us wp W5.drew ∧ W5.drew.cell? ⟨X + 1 + 1, 2, none⟩ = some (.int .i64 hh)) := ⟨hS5, c2⟩
  have HTK : Hid (∀ W W', (FdS C X c wr us wp W ∧ W.cell? ⟨X + 1 + 1, 2, none⟩ = some (.int .i64 hh)) → Kp (modVm K B M2.n) W W' → (FdS C X c wr us wp W' ∧ W'.cell? ⟨X + 1 + 1, 2, none⟩ = some (.int .i64 hh))) := fun W W' p k => by rw [sm2.1] at k; exact ⟨p.1.kp k nC nX, cell_kp p.2 k nS⟩
  have HTF : Hid (∀ (W : World) (v : Value), (FdS C X c wr us wp W ∧ W.cell? ⟨X + 1 + 1, 2, none⟩ = some (.int .i64 hh)) → (FdS C X c wr us wp (W.setCell ⟨X + 1 + 1, 1, none⟩ v) ∧ (W.setCell ⟨X + 1 + 1, 1, none⟩ v).cell? ⟨X + 1 + 1, 2, none⟩ = some (.int .i64 hh))) := fun W v p => ⟨p.1.kp (Kp.setCell (S := fun j => j = X + 1 + 1) W (p := ⟨X + 1 + 1, 1, none⟩) rfl v) (by have := HLT.out.2.1; omega) (by omega), by rw [World.cell?_setCell_other _ _ _ _ (by simp)]; exact p.2⟩
  have HRS : Hid (∀ W', Kp (modVm K B M2.n) W5.drew W' → RowS W' (X + 1 + 1) p1 0 hh n) := fun W' k => by
    have r : RowS W5.drew (X + 1 + 1) p1 0 hh n := r5
    rw [sm2.1] at k
    exact r.kp k nS
  go_region_held3 (fun W => ((W.cell? ⟨C, 66, none⟩ = some (.int .u32 c.cr3) ∧ W.cell? ⟨X, 0, none⟩ = some (.bool wr) ∧ W.cell? ⟨X, 1, none⟩ = some (.bool us) ∧ W.cell? ⟨X, 2, none⟩ = some (.bool wp)) ∧ W.cell? ⟨X + 1 + 1, 2, none⟩ = some (.int .i64 hh)))
    (first | with_reducible exact HT0.out | with_reducible exact HTK.out _ _ HT0.out k4 | with_reducible exact HTF.out _ _ (HTK.out _ _ HT0.out k4))
    (first | (go_at_call 85; refine Calls.mono HC2.out ?_; rintro e w6 ⟨rfl, hr4, k4⟩; have rz := HRS.out _ k4; obtain ⟨x1, y1⟩ := And.intro rz.c1 (rz.fz 1)))
  have r7 := rz.s1 p2
  obtain ⟨tn6, ht6, v6⟩ := hr4
  have k4' : Kp (modVm K B M1.n) W5 w6 := by rw [sm2.1] at k4; exact ⟨k4.os, k4.tape, k4.output, k4.size, k4.block⟩
  replace v6 := v6.kp (Kp.setCell (S := fun j => j = X + 1 + 1) w6 (p := ⟨X + 1 + 1, 1, none⟩) rfl (.int .u32 p2)) (by rw [sm2.1]; exact nV')
  have k7 : Kp (modVm K B M1.n) w (w6.setCell ⟨X + 1 + 1, 1, none⟩ (.int .u32 p2)) := Kp.own' (k5.trans k4') hXw _
  have rR7 : RowS (w6.setCell ⟨X + 1 + 1, 1, none⟩ (.int .u32 p2)) (X + 1) 0 0 0 0 := RowS.kp (rR5.kp k4' (fun f => by rw [sm.1] at f; have := HLT.out.2.2 _ f; omega)) (Kp.setCell (S := fun j => j = X + 1 + 1) w6 (p := ⟨X + 1 + 1, 1, none⟩) rfl (.int .u32 p2)) (by omega)
  obtain ⟨W7, hgen⟩ : ∃ W, W = w6.setCell ⟨X + 1 + 1, 1, none⟩ (.int .u32 p2) := ⟨_, rfl⟩
  rw [← hgen] at r7 v6 k7 rR7 ⊢
  clear hgen k4 k4' HTK HTF HT0 HRS HC2 h5D k5 rR5 r5 rz x1 y1 v4 c2 hS5
  have c0 := r7.c0; have c1 := r7.c1; have c2 := r7.c2; have c3 := r7.c3
  have d0 := rR7.c0; have d1 := rR7.c1; have d2 := rR7.c2; have d3 := rR7.c3
  have f0 := rR7.fz 0; have f1 := rR7.fz 1; have f2 := rR7.fz 2; have f3 := rR7.fz 3
  have rF := rR7.four p1 p2 hh n
  have kF := kp_four W7 (X + 1) (.int .u32 p1) (.int .u32 p2) (.int .i64 hh) (.int .i64 n)
  have vF := v6.kp kF (fun j hj e => by
    subst e
    rcases hj with e | e
    · have := HLT.out.1; omega
    · rw [sm2.1, sm.1] at e; have := HLT.out.2.2 _ e; omega)
  have k8 := k7.over kF (fun j hj e => absurd hj (by have := HXw.out; omega))
  clear r7 rR7 v6 k7 kF
  go_wp2
  refine bodyPost_ret (v := .agg #[.int .u32 p1, .int .u32 p2, .int .i64 hh, .int .i64 n]) (by simp [results, Tryz.results67, go_sem, rF.c0, rF.c1, rF.c2, rF.c3]) rfl ⟨by rw [HM1.out, HP1.out, HH.out, HP2.out], ?_⟩
  rw [HM1.out, HM2.out]
  exact ⟨⟨tn6, by omega, vF⟩, by rw [sm2.1]; exact k8⟩

theorem VmP.more {w w' : World} {V K B pl tn : Nat} {M : Mem} {n m : Nat} (h : VmP w V K B pl tn M n w') (k : n ≤ m) : VmP w V K B pl tn M m w' := by
  obtain ⟨⟨tn', ht, v⟩, q⟩ := h
  exact ⟨⟨tn', by omega, v⟩, q⟩
theorem VmAt.stay {w w' : World} {V K B pl tn : Nat} {M : Mem} (h : VmAt w V K B pl tn M) (k : Kp noB w w') (n : Nat) : VmP w V K B pl tn M n w' := ⟨⟨tn, by omega, h.kp0 k⟩, k.mono (fun _ _ f => f.elim)⟩

theorem vfind_any (w : World) (V K B pl tn C : Nat) (M : Mem) (h : VmAt w V K B pl tn M) (c : Cp) (hc : CpAt w C c) (hC : ¬ modVm K B M.n C) (l : Int) (n : Nat) (wr us wp : Bool) (l0 : 0 ≤ l) (l1 : l < 4294967296) (n0 : 1 ≤ n) (n1 : n ≤ 4) (htn : tn < 18446744073709551613) :
    Calls Tryz.prog 67 #[.pointer (some ⟨V, 0, none⟩), .pointer (some ⟨C, 0, none⟩), .int .u32 l, .int .i64 n, .agg #[.bool wr, .bool us, .bool wp]] w (fun e w' => e = QE (findQ M c.pg c.cr3 l n wr us wp) ∧ VmP w V K B pl tn (findQ M c.pg c.cr3 l n wr us wp).m 2 w') := by
  unfold findQ
  cases hp : c.pg with
  | false =>
    rw [if_pos rfl]
    refine (vfind_flat w V C c hc l n wr us wp M hp).mono ?_
    rintro e w' ⟨rfl, k⟩
    exact ⟨rfl, h.stay k 2⟩
  | true =>
    rw [if_neg (by decide)]
    cases ho : fOk M c.cr3 l wr us wp with
    | false => rw [if_pos rfl]; exact vfind_pf w V K B pl tn C M h c hc hC l n wr us wp l0 l1 n0 n1 htn hp ho
    | true =>
      rw [if_neg (by decide)]
      by_cases hn : n ≤ ahd l n
      · rw [if_pos hn]
        exact vfind_one w V K B pl tn C M h c hc hC l n wr us wp l0 l1 n0 n1 htn hp ho hn
      · rw [if_neg hn]
        cases ho2 : fOk (fMem M c.cr3 l wr us wp) c.cr3 (nxt l n) wr us wp with
        | false => rw [if_pos rfl]; exact vfind_pf2 w V K B pl tn C M h c hc hC l n wr us wp l0 l1 n0 n1 htn hp ho (by omega) ho2
        | true => rw [if_neg (by decide)]; exact vfind_two w V K B pl tn C M h c hc hC l n wr us wp l0 l1 n0 n1 htn hp ho (by omega) ho2
end Go.Proofs.YtmmnnafjikilpaaGreat

/- Where a value of a segment lies. -/
namespace Go.Proofs.YtmmnnafjikilpaaGreat
open Go.ChangeShapes Go.WideShapes Go.ChangeAt Go.RowKit Go.Maps
set_option linter.unusedVariables false
set_option maxRecDepth 20000

theorem inSeg_size (w : World) (V K B pl tn C : Nat) (M : Mem) (h : VmAt w V K B pl tn M) (k off z : Int) (wr : Bool) (hk : okS z = false ∨ k < 0 ∨ 6 ≤ k) :
    Calls Tryz.prog 37 #[.pointer (some ⟨V, 0, none⟩), .pointer (some ⟨C, 0, none⟩), .int .i64 k, .int .u32 off, .int .i64 z, .bool wr] w (fun e w' => e = .panicked (pan (ftV 13)) ∧ Kp noB w w') := by
  unfold pan ftV Ft.val
  have kA := Kp.alloc noB w (.cells #[.int .u32 0, .int .u32 0, .int .i64 0, .int .i64 0] 93)
  have h0 := (h.kp0 kA).c0
  have cN := need_ok _ V B C h0
  cases hz : okS z
  · have cS := vIsSize_any (w.alloc (.cells #[.int .u32 0, .int .u32 0, .int .i64 0, .int .i64 0] 93)) z
    rw [hz] at cS
    clear hz hk
    go_enter Tryz.func37, Tryz.ntmps37
    go_wp2_with (first | (go_at_call 62; refine cN.mono ?_; rintro e w' ⟨rfl, hw⟩; replace hw := hw.symm; subst hw) | (go_at_call 63; refine cS.mono ?_; rintro e w' ⟨rfl, hw⟩; replace hw := hw.symm; subst hw) | (go_at_call 64; refine (refused_any _ _).mono ?_; rintro e w2 ⟨rfl, k2⟩))
    exact ⟨rfl, rfl, kA.trans k2⟩
  · rw [hz] at hk
    have cS := vIsSize_any (w.alloc (.cells #[.int .u32 0, .int .u32 0, .int .i64 0, .int .i64 0] 93)) z
    rw [hz] at cS
    clear hz
    by_cases h0 : k < 0
    · clear hk
      have hd : decide (k < 0) = true := decide_eq_true h0
      go_enter Tryz.func37, Tryz.ntmps37
      go_wp2_with (first | (go_at_call 62; refine cN.mono ?_; rintro e w' ⟨rfl, hw⟩; replace hw := hw.symm; subst hw) | (go_at_call 63; refine cS.mono ?_; rintro e w' ⟨rfl, hw⟩; replace hw := hw.symm; subst hw) | (go_at_call 64; refine (refused_any _ _).mono ?_; rintro e w2 ⟨rfl, k2⟩))
      exact ⟨rfl, rfl, kA.trans k2⟩
    · have h6 : 6 ≤ k := by rcases hk with f | f | f <;> first | cases f | omega
      clear hk
      have hd : decide (k < 0) = false := decide_eq_false h0
      have hd6 : decide (6 ≤ k) = true := decide_eq_true h6
      go_enter Tryz.func37, Tryz.ntmps37
      go_wp2_with (first | (go_at_call 62; refine cN.mono ?_; rintro e w' ⟨rfl, hw⟩; replace hw := hw.symm; subst hw) | (go_at_call 63; refine cS.mono ?_; rintro e w' ⟨rfl, hw⟩; replace hw := hw.symm; subst hw) | (go_at_call 64; refine (refused_any _ _).mono ?_; rintro e w2 ⟨rfl, k2⟩))
      exact ⟨rfl, rfl, kA.trans k2⟩

theorem Kp.undrew {S : Nat → Prop} {w w' : World} (k : Kp S w.drew w') : Kp S w w' := ⟨k.os, k.tape, k.output, k.size, k.block⟩
theorem kp_grown {w w' : World} (g : Sg.Grown w w') : Kp noB w w' := ⟨g.1.1, g.2.2.2, g.1.2.1, g.2.2.1, fun k hk _ => Grown.block g.to hk⟩

/-- The segment is null. -/
theorem inSeg_null (w : World) (V K B pl tn C : Nat) (M : Mem) (h : VmAt w V K B pl tn M) (c : Cp) (hc : CpAt w C c) (i : Nat) (hi : i < 6) (off : Int) (n : Nat) (wr : Bool) (o0 : 0 ≤ off) (o1 : off < 4294967296) (hn : n = 1 ∨ n = 2 ∨ n = 4) (hl : (c.seg i).nl = true) :
    Calls Tryz.prog 37 #[.pointer (some ⟨V, 0, none⟩), .pointer (some ⟨C, 0, none⟩), .int .i64 i, .int .u32 off, .int .i64 n, .bool wr] w (fun e w' => e = .panicked (pan (ftV (vecB i))) ∧ Kp noB w w') := by
  unfold pan ftV Ft.val
  have kA := Kp.alloc noB w (.cells #[.int .u32 0, .int .u32 0, .int .i64 0, .int .i64 0] 93)
  have h0 := (h.kp0 kA).c0
  have cN := need_ok _ V B C h0
  have cS := vIsSize_any (w.alloc (.cells #[.int .u32 0, .int .u32 0, .int .i64 0, .int .i64 0] 93)) n
  have hz : okS n = true := by unfold okS; exact decide_eq_true (by omega)
  rw [hz] at cS
  have s := (hc.kp0 kA).sg i hi
  have so := hc.ok.sg i hi
  have t0 := so.t0; have t1 := so.t1; have l0 := so.l0; have l1 := so.l1; have b0 := so.b0; have b1 := so.b1
  have a0 := s.a0; have a1 := s.a1; have a2 := s.a2; have a3 := s.a3; have a4 := s.a4; have a5 := s.a5; have a6 := s.a6; have a7 := s.a7; have a8 := s.a8
  have hd : decide (i < 0) = false := rfl
  have hd6 : decide (6 ≤ i) = false := decide_eq_false (by omega)
  have hi' : (0 : Int) ≤ i ∧ (i : Int) < 6 := by omega
  rw [hl] at a1
  go_enter Tryz.func37, Tryz.ntmps37
  go_wp2_with (first | (go_at_call 62; refine cN.mono ?_; rintro e w' ⟨rfl, hw⟩; replace hw := hw.symm; subst hw) | (go_at_call 63; refine cS.mono ?_; rintro e w' ⟨rfl, hw⟩; replace hw := hw.symm; subst hw) | (go_at_call 66; refine (vectorOf_any _ _).mono ?_; rintro e w' ⟨rfl, hw⟩; replace hw := hw.symm; subst hw) | (go_at_call 64; refine (refused_any _ _).mono ?_; rintro e w2 ⟨rfl, k2⟩))
  exact ⟨rfl, rfl, (kA.trans (Kp.alloc noB _ _)).trans k2⟩

/-- It does not let it. -/
theorem inSeg_lets (w : World) (V K B pl tn C : Nat) (M : Mem) (h : VmAt w V K B pl tn M) (c : Cp) (hc : CpAt w C c) (i : Nat) (hi : i < 6) (off : Int) (n : Nat) (wr : Bool) (o0 : 0 ≤ off) (o1 : off < 4294967296) (hn : n = 1 ∨ n = 2 ∨ n = 4) (hl : (c.seg i).nl = false) (hr : Sg.reachB (c.seg i).l (c.seg i).t (c.seg i).s (c.seg i).p (c.seg i).g off n wr = false) :
    Calls Tryz.prog 37 #[.pointer (some ⟨V, 0, none⟩), .pointer (some ⟨C, 0, none⟩), .int .i64 i, .int .u32 off, .int .i64 n, .bool wr] w (fun e w' => e = .panicked (pan (ftV (vecB i))) ∧ Kp noB w w') := by
  unfold pan ftV Ft.val
  have kA := Kp.alloc noB w (.cells #[.int .u32 0, .int .u32 0, .int .i64 0, .int .i64 0] 93)
  have h0 := (h.kp0 kA).c0
  have cN := need_ok _ V B C h0
  have cS := vIsSize_any (w.alloc (.cells #[.int .u32 0, .int .u32 0, .int .i64 0, .int .i64 0] 93)) n
  have hz : okS n = true := by unfold okS; exact decide_eq_true (by omega)
  rw [hz] at cS
  have s := (hc.kp0 kA).sg i hi
  have so := hc.ok.sg i hi
  have t0 := so.t0; have t1 := so.t1; have l0 := so.l0; have l1 := so.l1; have b0 := so.b0; have b1 := so.b1
  have a0 := s.a0; have a1 := s.a1; have a2 := s.a2; have a3 := s.a3; have a4 := s.a4; have a5 := s.a5; have a6 := s.a6; have a7 := s.a7; have a8 := s.a8
  have hd : decide (i < 0) = false := rfl
  have hd6 : decide (6 ≤ i) = false := decide_eq_false (by omega)
  have hi' : (0 : Int) ≤ i ∧ (i : Int) < 6 := by omega
  rw [hl] at a1
  have cR := Sg.reach_any (c.seg i).b (c.seg i).l (c.seg i).t (c.seg i).s (c.seg i).d (c.seg i).p (c.seg i).g off n wr ((w.alloc (.cells #[.int .u32 0, .int .u32 0, .int .i64 0, .int .i64 0] 93)).alloc (.cells #[.int .u16 (c.seg i).sel, .bool false, .int .u32 (c.seg i).b, .int .u32 (c.seg i).l, .int .i64 (c.seg i).t, .bool (c.seg i).s, .int .i64 (c.seg i).d, .bool (c.seg i).p, .bool (c.seg i).g] 30)) t0 t1 o0 o1 l0 l1
  rw [hr] at cR
  clear hr
  go_enter Tryz.func37, Tryz.ntmps37
  go_wp2_with (first | (go_at_call 62; refine cN.mono ?_; rintro e w' ⟨rfl, hw⟩; replace hw := hw.symm; subst hw) | (go_at_call 63; refine cS.mono ?_; rintro e w' ⟨rfl, hw⟩; replace hw := hw.symm; subst hw) | (go_at_call 65; refine cR.mono ?_; rintro e w3 ⟨rfl, k3⟩) | (go_at_call 66; refine (vectorOf_any _ _).mono ?_; rintro e w' ⟨rfl, hw⟩; replace hw := hw.symm; subst hw) | (go_at_call 64; refine (refused_any _ _).mono ?_; rintro e w2 ⟨rfl, k2⟩))
  exact ⟨rfl, rfl, ((kA.trans (Kp.alloc noB _ _)).trans (kp_grown k3)).trans k2⟩

theorem findQ_n (M : Mem) (pg : Bool) (c l : Int) (n : Nat) (wr us wp : Bool) : (findQ M pg c l n wr us wp).m.n = M.n := by
  unfold findQ
  split
  · rfl
  split
  · rfl
  split
  · exact (fMem_same M c l wr us wp).1
  split
  · exact (fMem_same M c l wr us wp).1
  · exact (fMem_same _ _ _ _ _ _).1.trans (fMem_same M c l wr us wp).1

/-- Its pages have a fault. -/
theorem inSeg_pf (w : World) (V K B pl tn C : Nat) (M : Mem) (h : VmAt w V K B pl tn M) (c : Cp) (hc : CpAt w C c) (i : Nat) (hi : i < 6) (off : Int) (n : Nat) (wr : Bool) (o0 : 0 ≤ off) (o1 : off < 4294967296) (hn : n = 1 ∨ n = 2 ∨ n = 4) (hC : ¬ modVm K B M.n C) (htn : tn < 18446744073709551613) (hl : (c.seg i).nl = false) (hr : Sg.reachB (c.seg i).l (c.seg i).t (c.seg i).s (c.seg i).p (c.seg i).g off n wr = true) (f : Ft) (hq : (findQ M c.pg c.cr3 (linB (c.seg i).b off) n wr c.us c.wp).f = some f) :
    Calls Tryz.prog 37 #[.pointer (some ⟨V, 0, none⟩), .pointer (some ⟨C, 0, none⟩), .int .i64 i, .int .u32 off, .int .i64 n, .bool wr] w (fun e w' => e = .panicked (pan f) ∧ VmP w V K B pl tn (findQ M c.pg c.cr3 (linB (c.seg i).b off) n wr c.us c.wp).m 2 w') := by
  have kA := Kp.alloc noB w (.cells #[.int .u32 0, .int .u32 0, .int .i64 0, .int .i64 0] 93)
  have h0 := (h.kp0 kA).c0
  have cN := need_ok _ V B C h0
  have cS := vIsSize_any (w.alloc (.cells #[.int .u32 0, .int .u32 0, .int .i64 0, .int .i64 0] 93)) n
  have hz : okS n = true := by unfold okS; exact decide_eq_true (by omega)
  rw [hz] at cS
  have s := (hc.kp0 kA).sg i hi
  have so := hc.ok.sg i hi
  have t0 := so.t0; have t1 := so.t1; have l0 := so.l0; have l1 := so.l1; have b0 := so.b0; have b1 := so.b1
  have a0 := s.a0; have a1 := s.a1; have a2 := s.a2; have a3 := s.a3; have a4 := s.a4; have a5 := s.a5; have a6 := s.a6; have a7 := s.a7; have a8 := s.a8
  have hd : decide (i < 0) = false := rfl
  have hd6 : decide (6 ≤ i) = false := decide_eq_false (by omega)
  have hi' : (0 : Int) ≤ i ∧ (i : Int) < 6 := by omega
  rw [hl] at a1
  have cR := Sg.reach_any (c.seg i).b (c.seg i).l (c.seg i).t (c.seg i).s (c.seg i).d (c.seg i).p (c.seg i).g off n wr ((w.alloc (.cells #[.int .u32 0, .int .u32 0, .int .i64 0, .int .i64 0] 93)).alloc (.cells #[.int .u16 (c.seg i).sel, .bool false, .int .u32 (c.seg i).b, .int .u32 (c.seg i).l, .int .i64 (c.seg i).t, .bool (c.seg i).s, .int .i64 (c.seg i).d, .bool (c.seg i).p, .bool (c.seg i).g] 30)) t0 t1 o0 o1 l0 l1
  rw [hr] at cR
  clear hr
  obtain ⟨X, hX⟩ : ∃ X, w.heap.size = X := ⟨_, rfl⟩
  have HLT0 : V < X ∧ ∀ j, modVm K B M.n j → j < X := ⟨by rw [← hX]; exact h.lt, fun j hj => by rw [← hX]; exact h.in_lt hj⟩
  have kB := Kp.alloc noB (w.alloc (.cells #[.int .u32 0, .int .u32 0, .int .i64 0, .int .i64 0] 93)) (.cells #[.int .u16 (c.seg i).sel, .bool false, .int .u32 (c.seg i).b, .int .u32 (c.seg i).l, .int .i64 (c.seg i).t, .bool (c.seg i).s, .int .i64 (c.seg i).d, .bool (c.seg i).p, .bool (c.seg i).g] 30)
  have rX : RowS ((w.alloc (.cells #[.int .u32 0, .int .u32 0, .int .i64 0, .int .i64 0] 93)).alloc (.cells #[.int .u16 (c.seg i).sel, .bool false, .int .u32 (c.seg i).b, .int .u32 (c.seg i).l, .int .i64 (c.seg i).t, .bool (c.seg i).s, .int .i64 (c.seg i).d, .bool (c.seg i).p, .bool (c.seg i).g] 30)) X 0 0 0 0 := by
    rw [← hX]
    exact RowS.kp (h := 0) (n := 0) (MapKept.heap_alloc w _).1 kB (fun f => f)
  have rY : ((w.alloc (.cells #[.int .u32 0, .int .u32 0, .int .i64 0, .int .i64 0] 93)).alloc (.cells #[.int .u16 (c.seg i).sel, .bool false, .int .u32 (c.seg i).b, .int .u32 (c.seg i).l, .int .i64 (c.seg i).t, .bool (c.seg i).s, .int .i64 (c.seg i).d, .bool (c.seg i).p, .bool (c.seg i).g] 30)).heap[X + 1]? = some (.cells #[.int .u16 (c.seg i).sel, .bool false, .int .u32 (c.seg i).b, .int .u32 (c.seg i).l, .int .i64 (c.seg i).t, .bool (c.seg i).s, .int .i64 (c.seg i).d, .bool (c.seg i).p, .bool (c.seg i).g] 30 (0, 0)) := by
    have := (MapKept.heap_alloc (w.alloc (.cells #[.int .u32 0, .int .u32 0, .int .i64 0, .int .i64 0] 93)) (.cells #[.int .u16 (c.seg i).sel, .bool false, .int .u32 (c.seg i).b, .int .u32 (c.seg i).l, .int .i64 (c.seg i).t, .bool (c.seg i).s, .int .i64 (c.seg i).d, .bool (c.seg i).p, .bool (c.seg i).g] 30)).1
    simp only [World.size_alloc, hX] at this
    exact this
  go_enter Tryz.func37, Tryz.ntmps37
  go_wp2_with (first | (go_at_call 62; refine cN.mono ?_; rintro e w' ⟨rfl, hw⟩; replace hw := hw.symm; subst hw) | (go_at_call 63; refine cS.mono ?_; rintro e w' ⟨rfl, hw⟩; replace hw := hw.symm; subst hw) | (go_at_call 65; refine cR.mono ?_; rintro e w3 ⟨rfl, k3⟩))
  replace k3 := kp_grown k3
  replace rX := rX.kp k3 (fun f => f)
  have y2 : w3.cell? ⟨X + 1, 2, none⟩ = some (.int .u32 (c.seg i).b) := by
    rw [World.cell?_of_block (k3.block (X + 1) (by simp [hX]) (fun f => f)), cell_at rY]; rfl
  have k4 := (kA.trans kB).trans k3
  replace h := h.kp0 k4
  replace hc := hc.kp0 k4
  have HXw : Hid (w.heap.size = X) := hX
  have HLT : Hid (V < X ∧ ∀ j, modVm K B M.n j → j < X) := HLT0
  clear cR rY kB kA k3 a0 a1 a2 a3 a4 a5 a6 a7 a8 s so cN cS h0 HLT0 hX
  have hl0 : 0 ≤ linB (c.seg i).b off ∧ linB (c.seg i).b off < 4294967296 := by unfold linB; omega
  have HP : Hid (∀ W, Kp noB w3.drew W → Calls Tryz.prog 68 #[.pointer (some ⟨C, 0, none⟩), .bool wr] W fun e w' => e = .returned (.agg #[.bool wr, .bool c.us, .bool c.wp]) ∧ Kp noB w3.drew w') := fun W k => (program_way W C c wr ((hc.kp0 (Kp.refl noB w3).drew).kp0 k)).mono (fun e w' ⟨h1, h2⟩ => ⟨h1, k.trans h2⟩)
  have HF : Hid (∀ W, Kp noB w3.drew W → Calls Tryz.prog 67 #[.pointer (some ⟨V, 0, none⟩), .pointer (some ⟨C, 0, none⟩), .int .u32 (((c.seg i).b + off) % 4294967296), .int .i64 n, .agg #[.bool wr, .bool c.us, .bool c.wp]] W (fun e w' => e = QE (findQ M c.pg c.cr3 (linB (c.seg i).b off) n wr c.us c.wp) ∧ VmP W V K B pl tn (findQ M c.pg c.cr3 (linB (c.seg i).b off) n wr c.us c.wp).m 2 w')) := fun W k => vfind_any W V K B pl tn C M ((h.kp0 (Kp.refl noB w3).drew).kp0 k) c ((hc.kp0 (Kp.refl noB w3).drew).kp0 k) hC _ n wr c.us c.wp hl0.1 hl0.2 (by omega) (by omega) htn
  have e1 : QE (findQ M c.pg c.cr3 (linB (c.seg i).b off) n wr c.us c.wp) = .panicked (pan f) := by unfold QE; rw [hq]
  rw [e1] at HF
  obtain ⟨q, hqe⟩ : ∃ q, (findQ M c.pg c.cr3 (linB (c.seg i).b off) n wr c.us c.wp) = q := ⟨_, rfl⟩
  rw [hqe] at HF
  have HQ : Hid _ := hqe
  clear hqe e1 hq
  refine OrdP.region_vals (τ := Unit) (fun ch w' => ch = pan f ∧ VmP w3.drew V K B pl tn q.m 2 w') (fun _ => [.pointer (some ⟨V, 0, none⟩), .pointer (some ⟨C, 0, none⟩), .pointer (some ⟨X + 1, 2, none⟩), .pointer (some ⟨X + 1, 2, none⟩), .int .u32 (c.seg i).b, .int .u32 off, .int .u32 (((c.seg i).b + off) % 4294967296), .int .i64 n, .pointer (some ⟨C, 0, none⟩), .bool wr, .agg #[.bool wr, .bool c.us, .bool c.wp], undef, undef]) (fun _ listed W' => Kp noB w3.drew W' ∧ listed.getD 11 false = false) () ?_ (by kernel_rfl) (by kernel_rfl) (by kernel_rfl) (by kernel_rfl) (fun _ => rfl) (fun t => by simp only [OrdG.puts, Act.put, List.setIfInBounds_toArray, List.set_cons_zero, List.set_cons_succ]; rfl) (fun _ => by kernel_rfl) ⟨Kp.refl _ _, rfl⟩ ?_ ?_
  · rintro ch a' w' hd ⟨rfl, ⟨tn', ht, v⟩, k⟩
    refine ⟨hd, rfl, ?_⟩
    rw [HQ.out]
    exact ⟨⟨tn', ht, v⟩, (k4.mono (fun _ _ f => f.elim)).trans ⟨k.os, k.tape, k.output, k.size, k.block⟩⟩
  · refine ⟨?_, ?_, ?_, ?_, ?_, ?_, ?_, ?_, ?_, ?_, ?_, ?_, ?_, trivial⟩
    all_goals (intro t listed W' hz hSh hl hI hb K hK hK0; obtain ⟨kI, h7⟩ := hI; have y3 := cell_kp (w := w3.drew) y2 kI (fun f => f))
    case refine_11 =>
      go_simp
      refine Calls.mono (HP.out _ kI) ?_
      rintro e w4 ⟨rfl, r⟩
      exact hK0 _ ⟨r, OrdP.keep h7 (by decide)⟩
    case refine_12 =>
      go_simp
      refine Calls.mono (HF.out _ kI) ?_
      rintro e w4 ⟨rfl, ⟨tn', ht, v⟩, k⟩
      exact ⟨rfl, ⟨tn', ht, v⟩, (kI.mono (fun _ _ f => f.elim)).trans k⟩
    case refine_13 => exact absurd (OrdG.on_of (i := 11) hb (by kernel_rfl)) (by rw [h7]; decide)
    all_goals (go_simp; exact hK0 _ ⟨kI, OrdP.keep h7 (by decide)⟩)
  · rintro t listed w' hal ⟨_, h7⟩
    have := hal 11 (by decide)
    rw [h7] at this
    cases this

/-- Its pages are found. -/
theorem inSeg_find (w : World) (V K B pl tn C : Nat) (M : Mem) (h : VmAt w V K B pl tn M) (c : Cp) (hc : CpAt w C c) (i : Nat) (hi : i < 6) (off : Int) (n : Nat) (wr : Bool) (o0 : 0 ≤ off) (o1 : off < 4294967296) (hn : n = 1 ∨ n = 2 ∨ n = 4) (hC : ¬ modVm K B M.n C) (htn : tn < 18446744073709551613) (hl : (c.seg i).nl = false) (hr : Sg.reachB (c.seg i).l (c.seg i).t (c.seg i).s (c.seg i).p (c.seg i).g off n wr = true) (hq : (findQ M c.pg c.cr3 (linB (c.seg i).b off) n wr c.us c.wp).f = none) :
    Calls Tryz.prog 37 #[.pointer (some ⟨V, 0, none⟩), .pointer (some ⟨C, 0, none⟩), .int .i64 i, .int .u32 off, .int .i64 n, .bool wr] w (fun e w' => e = .returned (findQ M c.pg c.cr3 (linB (c.seg i).b off) n wr c.us c.wp).s.val ∧ VmP w V K B pl tn (findQ M c.pg c.cr3 (linB (c.seg i).b off) n wr c.us c.wp).m 2 w') := by
  have kA := Kp.alloc noB w (.cells #[.int .u32 0, .int .u32 0, .int .i64 0, .int .i64 0] 93)
  have h0 := (h.kp0 kA).c0
  have cN := need_ok _ V B C h0
  have cS := vIsSize_any (w.alloc (.cells #[.int .u32 0, .int .u32 0, .int .i64 0, .int .i64 0] 93)) n
  have hz : okS n = true := by unfold okS; exact decide_eq_true (by omega)
  rw [hz] at cS
  have s := (hc.kp0 kA).sg i hi
  have so := hc.ok.sg i hi
  have t0 := so.t0; have t1 := so.t1; have l0 := so.l0; have l1 := so.l1; have b0 := so.b0; have b1 := so.b1
  have a0 := s.a0; have a1 := s.a1; have a2 := s.a2; have a3 := s.a3; have a4 := s.a4; have a5 := s.a5; have a6 := s.a6; have a7 := s.a7; have a8 := s.a8
  have hd : decide (i < 0) = false := rfl
  have hd6 : decide (6 ≤ i) = false := decide_eq_false (by omega)
  have hi' : (0 : Int) ≤ i ∧ (i : Int) < 6 := by omega
  rw [hl] at a1
  have cR := Sg.reach_any (c.seg i).b (c.seg i).l (c.seg i).t (c.seg i).s (c.seg i).d (c.seg i).p (c.seg i).g off n wr ((w.alloc (.cells #[.int .u32 0, .int .u32 0, .int .i64 0, .int .i64 0] 93)).alloc (.cells #[.int .u16 (c.seg i).sel, .bool false, .int .u32 (c.seg i).b, .int .u32 (c.seg i).l, .int .i64 (c.seg i).t, .bool (c.seg i).s, .int .i64 (c.seg i).d, .bool (c.seg i).p, .bool (c.seg i).g] 30)) t0 t1 o0 o1 l0 l1
  rw [hr] at cR
  clear hr
  obtain ⟨X, hX⟩ : ∃ X, w.heap.size = X := ⟨_, rfl⟩
  have HLT0 : V < X ∧ ∀ j, modVm K B M.n j → j < X := ⟨by rw [← hX]; exact h.lt, fun j hj => by rw [← hX]; exact h.in_lt hj⟩
  have kB := Kp.alloc noB (w.alloc (.cells #[.int .u32 0, .int .u32 0, .int .i64 0, .int .i64 0] 93)) (.cells #[.int .u16 (c.seg i).sel, .bool false, .int .u32 (c.seg i).b, .int .u32 (c.seg i).l, .int .i64 (c.seg i).t, .bool (c.seg i).s, .int .i64 (c.seg i).d, .bool (c.seg i).p, .bool (c.seg i).g] 30)
  have rX : RowS ((w.alloc (.cells #[.int .u32 0, .int .u32 0, .int .i64 0, .int .i64 0] 93)).alloc (.cells #[.int .u16 (c.seg i).sel, .bool false, .int .u32 (c.seg i).b, .int .u32 (c.seg i).l, .int .i64 (c.seg i).t, .bool (c.seg i).s, .int .i64 (c.seg i).d, .bool (c.seg i).p, .bool (c.seg i).g] 30)) X 0 0 0 0 := by
    rw [← hX]
    exact RowS.kp (h := 0) (n := 0) (MapKept.heap_alloc w _).1 kB (fun f => f)
  have rY : ((w.alloc (.cells #[.int .u32 0, .int .u32 0, .int .i64 0, .int .i64 0] 93)).alloc (.cells #[.int .u16 (c.seg i).sel, .bool false, .int .u32 (c.seg i).b, .int .u32 (c.seg i).l, .int .i64 (c.seg i).t, .bool (c.seg i).s, .int .i64 (c.seg i).d, .bool (c.seg i).p, .bool (c.seg i).g] 30)).heap[X + 1]? = some (.cells #[.int .u16 (c.seg i).sel, .bool false, .int .u32 (c.seg i).b, .int .u32 (c.seg i).l, .int .i64 (c.seg i).t, .bool (c.seg i).s, .int .i64 (c.seg i).d, .bool (c.seg i).p, .bool (c.seg i).g] 30 (0, 0)) := by
    have := (MapKept.heap_alloc (w.alloc (.cells #[.int .u32 0, .int .u32 0, .int .i64 0, .int .i64 0] 93)) (.cells #[.int .u16 (c.seg i).sel, .bool false, .int .u32 (c.seg i).b, .int .u32 (c.seg i).l, .int .i64 (c.seg i).t, .bool (c.seg i).s, .int .i64 (c.seg i).d, .bool (c.seg i).p, .bool (c.seg i).g] 30)).1
    simp only [World.size_alloc, hX] at this
    exact this
  go_enter Tryz.func37, Tryz.ntmps37
  go_wp2_with (first | (go_at_call 62; refine cN.mono ?_; rintro e w' ⟨rfl, hw⟩; replace hw := hw.symm; subst hw) | (go_at_call 63; refine cS.mono ?_; rintro e w' ⟨rfl, hw⟩; replace hw := hw.symm; subst hw) | (go_at_call 65; refine cR.mono ?_; rintro e w3 ⟨rfl, k3⟩))
  replace k3 := kp_grown k3
  replace rX := rX.kp k3 (fun f => f)
  have y2 : w3.cell? ⟨X + 1, 2, none⟩ = some (.int .u32 (c.seg i).b) := by
    rw [World.cell?_of_block (k3.block (X + 1) (by simp [hX]) (fun f => f)), cell_at rY]; rfl
  have k4 := (kA.trans kB).trans k3
  replace h := h.kp0 k4
  replace hc := hc.kp0 k4
  have HXw : Hid (w.heap.size = X) := hX
  have HLT : Hid (V < X ∧ ∀ j, modVm K B M.n j → j < X) := HLT0
  clear cR rY kB kA k3 a0 a1 a2 a3 a4 a5 a6 a7 a8 s so cN cS h0 HLT0 hX
  have hl0 : 0 ≤ linB (c.seg i).b off ∧ linB (c.seg i).b off < 4294967296 := by unfold linB; omega
  have HP : Hid (∀ W, Kp noB w3.drew W → Calls Tryz.prog 68 #[.pointer (some ⟨C, 0, none⟩), .bool wr] W fun e w' => e = .returned (.agg #[.bool wr, .bool c.us, .bool c.wp]) ∧ Kp noB w3.drew w') := fun W k => (program_way W C c wr ((hc.kp0 (Kp.refl noB w3).drew).kp0 k)).mono (fun e w' ⟨h1, h2⟩ => ⟨h1, k.trans h2⟩)
  have HF : Hid (∀ W, Kp noB w3.drew W → Calls Tryz.prog 67 #[.pointer (some ⟨V, 0, none⟩), .pointer (some ⟨C, 0, none⟩), .int .u32 (((c.seg i).b + off) % 4294967296), .int .i64 n, .agg #[.bool wr, .bool c.us, .bool c.wp]] W (fun e w' => e = QE (findQ M c.pg c.cr3 (linB (c.seg i).b off) n wr c.us c.wp) ∧ VmP W V K B pl tn (findQ M c.pg c.cr3 (linB (c.seg i).b off) n wr c.us c.wp).m 2 w')) := fun W k => vfind_any W V K B pl tn C M ((h.kp0 (Kp.refl noB w3).drew).kp0 k) c ((hc.kp0 (Kp.refl noB w3).drew).kp0 k) hC _ n wr c.us c.wp hl0.1 hl0.2 (by omega) (by omega) htn
  have e1 : QE (findQ M c.pg c.cr3 (linB (c.seg i).b off) n wr c.us c.wp) = .returned (findQ M c.pg c.cr3 (linB (c.seg i).b off) n wr c.us c.wp).s.val := by unfold QE; rw [hq]
  rw [e1] at HF
  have qn := findQ_n M c.pg c.cr3 (linB (c.seg i).b off) n wr c.us c.wp
  obtain ⟨q, hqe⟩ : ∃ q, (findQ M c.pg c.cr3 (linB (c.seg i).b off) n wr c.us c.wp) = q := ⟨_, rfl⟩
  rw [hqe] at HF qn
  have HQ : Hid _ := hqe
  clear hqe e1 hq
  obtain ⟨qf, qm, sa, sb, sh, sn⟩ := q
  unfold Sp.val at HF
  simp only at HF qn
  have nX : ¬ modVm K B qm.n X := fun f => by rw [qn] at f; have := HLT.out.2 _ f; omega
  have nY : ¬ modVm K B qm.n (X + 1) := fun f => by rw [qn] at f; have := HLT.out.2 _ f; omega
  have HS0 : Hid (w3.drew.cell? ⟨X + 1, 2, none⟩ = some (.int .u32 (c.seg i).b)) := y2
  have HK0 : Hid (Kp noB w3.drew w3.drew) := Kp.refl _ _
  have HSK : Hid (∀ W, Kp noB w3.drew W → W.cell? ⟨X + 1, 2, none⟩ = some (.int .u32 (c.seg i).b)) := fun W k => cell_kp (w := w3.drew) y2 k (fun f => f)
  have HSV : Hid (∀ W W', Kp noB w3.drew W → VmP W V K B pl tn qm 2 W' → W'.cell? ⟨X + 1, 2, none⟩ = some (.int .u32 (c.seg i).b)) := fun W W' k v => cell_kp (HSK.out _ k) v.2 nY
  have HSF : Hid (∀ (W : World) (a b c' d : Value), W.cell? ⟨X + 1, 2, none⟩ = some (.int .u32 (c.seg i).b) → ((((W.setCell ⟨X, 0, none⟩ a).setCell ⟨X, 1, none⟩ b).setCell ⟨X, 2, none⟩ c').setCell ⟨X, 3, none⟩ d).cell? ⟨X + 1, 2, none⟩ = some (.int .u32 (c.seg i).b)) := fun W a b c' d h => cell_kp h (kp_four W X a b c' d) (by omega)
  have HRX : Hid (∀ W W', Kp noB w3.drew W → VmP W V K B pl tn qm 2 W' → RowS W' X 0 0 0 0) := fun W W' k v => by
    have r : RowS w3.drew X 0 0 0 0 := rX
    exact (r.kp k (fun f => f)).kp v.2 nX
  go_region_held3 (fun W => W.cell? ⟨X + 1, 2, none⟩ = some (.int .u32 (c.seg i).b))
    (first | with_reducible exact HS0.out | with_reducible exact HSK.out _ k5 | with_reducible exact HSV.out _ _ k5 v6 | with_reducible exact HSF.out _ _ _ _ _ (HSV.out _ _ k5 v6))
    (first | (go_at_call 68; refine Calls.mono (HP.out _ HK0.out) ?_; rintro e w5 ⟨rfl, k5⟩) | (go_at_call 67; refine Calls.mono (HF.out _ k5) ?_; rintro e w6 ⟨rfl, v6⟩; have rz := HRX.out _ _ k5 v6; obtain ⟨z0, z1, z2, z3, u0, u1, u2, u3⟩ : _ ∧ _ ∧ _ ∧ _ ∧ _ ∧ _ ∧ _ ∧ _ := ⟨rz.c0, rz.c1, rz.c2, rz.c3, rz.fz 0, rz.fz 1, rz.fz 2, rz.fz 3⟩))
  have rF := rz.four sa sb sh sn
  have kF := kp_four w6 X (.int .u32 sa) (.int .u32 sb) (.int .i64 sh) (.int .i64 sn)
  obtain ⟨⟨tn6, ht6, at6⟩, k6⟩ := v6
  have vF := at6.kp kF (fun j hj e => by
    subst e
    rcases hj with e | e
    · have := HLT.out.1; omega
    · exact nX e)
  have k7 : Kp (modVm K B qm.n) w _ := ((k4.mono (fun _ _ f => f.elim)).trans ((k5.undrew.mono (fun _ _ f => f.elim)).trans k6)).over kF (fun j hj e => absurd hj (by have := HXw.out; omega))
  clear HSV HSF HSK HRX HF HP rz at6 k6 k5 z0 z1 z2 z3 u0 u1 u2 u3 kF HS0
  go_wp2
  refine bodyPost_ret (v := .agg #[.int .u32 sa, .int .u32 sb, .int .i64 sh, .int .i64 sn]) (by simp [results, Tryz.results37, go_sem, rF.c0, rF.c1, rF.c2, rF.c3]) rfl ⟨by rw [HQ.out]; rfl, ?_⟩
  rw [HQ.out]
  exact ⟨⟨tn6, ht6, vF⟩, k7⟩

theorem inSeg_any (w : World) (V K B pl tn C : Nat) (M : Mem) (h : VmAt w V K B pl tn M) (c : Cp) (hc : CpAt w C c) (hC : ¬ modVm K B M.n C) (k off z : Int) (wr : Bool) (o0 : 0 ≤ off) (o1 : off < 4294967296) (htn : tn < 18446744073709551613) :
    Calls Tryz.prog 37 #[.pointer (some ⟨V, 0, none⟩), .pointer (some ⟨C, 0, none⟩), .int .i64 k, .int .u32 off, .int .i64 z, .bool wr] w (fun e w' => e = QE (segQ M c k off z wr) ∧ VmP w V K B pl tn (segQ M c k off z wr).m 2 w') := by
  unfold segQ
  by_cases hk : okS z = false ∨ k < 0 ∨ 6 ≤ k
  · rw [if_pos hk]
    refine (inSeg_size w V K B pl tn C M h k off z wr hk).mono ?_
    rintro e w' ⟨rfl, q⟩
    exact ⟨rfl, h.stay q 2⟩
  · rw [if_neg hk]
    have hz : okS z = true := by cases hz : okS z <;> simp_all
    have hz' : z = 1 ∨ z = 2 ∨ z = 4 := of_decide_eq_true hz
    have hk0 : ¬ k < 0 := fun f => hk (.inr (.inl f))
    have hk6 : ¬ 6 ≤ k := fun f => hk (.inr (.inr f))
    obtain ⟨n, rfl⟩ : ∃ n : Nat, z = n := ⟨z.toNat, by omega⟩
    obtain ⟨i, rfl⟩ : ∃ i : Nat, k = i := ⟨k.toNat, by omega⟩
    have hn : n = 1 ∨ n = 2 ∨ n = 4 := by omega
    have hi : i < 6 := by omega
    simp only [Int.toNat_natCast]
    cases hl : (c.seg i).nl with
    | true =>
      rw [if_pos (.inl rfl)]
      refine (inSeg_null w V K B pl tn C M h c hc i hi off n wr o0 o1 hn hl).mono ?_
      rintro e w' ⟨rfl, q⟩
      exact ⟨rfl, h.stay q 2⟩
    | false =>
      cases hr : Sg.reachB (c.seg i).l (c.seg i).t (c.seg i).s (c.seg i).p (c.seg i).g off n wr with
      | false =>
        rw [if_pos (.inr rfl)]
        refine (inSeg_lets w V K B pl tn C M h c hc i hi off n wr o0 o1 hn hl hr).mono ?_
        rintro e w' ⟨rfl, q⟩
        exact ⟨rfl, h.stay q 2⟩
      | true =>
        rw [if_neg (by simp)]
        cases hq : (findQ M c.pg c.cr3 (linB (c.seg i).b off) n wr c.us c.wp).f with
        | none =>
          refine (inSeg_find w V K B pl tn C M h c hc i hi off n wr o0 o1 hn hC htn hl hr hq).mono ?_
          rintro e w' ⟨rfl, q⟩
          exact ⟨by unfold QE; rw [hq], q⟩
        | some f =>
          refine (inSeg_pf w V K B pl tn C M h c hc i hi off n wr o0 o1 hn hC htn hl hr f hq).mono ?_
          rintro e w' ⟨rfl, q⟩
          exact ⟨by unfold QE; rw [hq], q⟩
end Go.Proofs.YtmmnnafjikilpaaGreat

/- Where a value lies that the processor itself asks for, and a byte of code. -/
namespace Go.Proofs.YtmmnnafjikilpaaGreat
open Go.ChangeShapes Go.WideShapes Go.ChangeAt Go.RowKit Go.Maps
set_option linter.unusedVariables false
set_option maxRecDepth 20000

theorem ofPro_size (w : World) (V K B pl tn C : Nat) (M : Mem) (h : VmAt w V K B pl tn M) (l z : Int) (wr : Bool) (hz : okS z = false) :
    Calls Tryz.prog 48 #[.pointer (some ⟨V, 0, none⟩), .pointer (some ⟨C, 0, none⟩), .int .u32 l, .int .i64 z, .bool wr] w (fun e w' => e = .panicked (pan (ftV 13)) ∧ Kp noB w w') := by
  unfold pan ftV Ft.val
  have kA := Kp.alloc noB w (.cells #[.int .u32 0, .int .u32 0, .int .i64 0, .int .i64 0] 93)
  have h0 := (h.kp0 kA).c0
  have cN := need_ok _ V B C h0
  have cS := vIsSize_any (w.alloc (.cells #[.int .u32 0, .int .u32 0, .int .i64 0, .int .i64 0] 93)) z
  rw [hz] at cS
  clear hz
  go_enter Tryz.func48, Tryz.ntmps48
  go_wp2_with (first | (go_at_call 62; refine cN.mono ?_; rintro e w' ⟨rfl, hw⟩; replace hw := hw.symm; subst hw) | (go_at_call 63; refine cS.mono ?_; rintro e w' ⟨rfl, hw⟩; replace hw := hw.symm; subst hw) | (go_at_call 64; refine (refused_any _ _).mono ?_; rintro e w2 ⟨rfl, k2⟩))
  exact ⟨rfl, rfl, kA.trans k2⟩

theorem ofPro_go (w : World) (V K B pl tn C : Nat) (M : Mem) (h : VmAt w V K B pl tn M) (c : Cp) (hc : CpAt w C c) (hC : ¬ modVm K B M.n C) (l : Int) (n : Nat) (wr : Bool) (l0 : 0 ≤ l) (l1 : l < 4294967296) (hn : n = 1 ∨ n = 2 ∨ n = 4) (htn : tn < 18446744073709551613) :
    Calls Tryz.prog 48 #[.pointer (some ⟨V, 0, none⟩), .pointer (some ⟨C, 0, none⟩), .int .u32 l, .int .i64 n, .bool wr] w (fun e w' => e = QE (findQ M c.pg c.cr3 l n wr false c.wp) ∧ VmP w V K B pl tn (findQ M c.pg c.cr3 l n wr false c.wp).m 2 w') := by
  have kA := Kp.alloc noB w (.cells #[.int .u32 0, .int .u32 0, .int .i64 0, .int .i64 0] 93)
  have rX : RowS (w.alloc (.cells #[.int .u32 0, .int .u32 0, .int .i64 0, .int .i64 0] 93)) w.heap.size 0 0 0 0 := (MapKept.heap_alloc w _).1
  have HLT : Hid (V < w.heap.size ∧ ∀ j, modVm K B M.n j → j < w.heap.size) := ⟨h.lt, fun j hj => h.in_lt hj⟩
  replace h := h.kp0 kA
  replace hc := hc.kp0 kA
  have h0 := h.c0
  have cN := need_ok _ V B C h0
  have cS := vIsSize_any (w.alloc (.cells #[.int .u32 0, .int .u32 0, .int .i64 0, .int .i64 0] 93)) n
  have hz : okS n = true := by unfold okS; exact decide_eq_true (by omega)
  rw [hz] at cS
  clear hz
  have cW := own_way _ C c wr hc
  have qn := findQ_n M c.pg c.cr3 l n wr false c.wp
  have HF : Hid (∀ W, Kp noB (w.alloc (.cells #[.int .u32 0, .int .u32 0, .int .i64 0, .int .i64 0] 93)) W → Calls Tryz.prog 67 #[.pointer (some ⟨V, 0, none⟩), .pointer (some ⟨C, 0, none⟩), .int .u32 l, .int .i64 n, .agg #[.bool wr, .bool false, .bool c.wp]] W (fun e w' => e = QE (findQ M c.pg c.cr3 l n wr false c.wp) ∧ VmP W V K B pl tn (findQ M c.pg c.cr3 l n wr false c.wp).m 2 w')) := fun W k => vfind_any W V K B pl tn C M (h.kp0 k) c (hc.kp0 k) hC _ n wr false c.wp l0 l1 (by omega) (by omega) htn
  obtain ⟨q, hqe⟩ : ∃ q, findQ M c.pg c.cr3 l n wr false c.wp = q := ⟨_, rfl⟩
  rw [hqe] at HF qn
  have HQ : Hid _ := hqe
  clear hqe
  obtain ⟨qf, qm, sa, sb, sh, sn⟩ := q
  simp only at HF qn
  have nX : ¬ modVm K B qm.n w.heap.size := fun f => by rw [qn] at f; have := HLT.out.2 _ f; omega
  cases qf with
  | some f =>
    unfold QE at HF
    simp only at HF
    go_enter Tryz.func48, Tryz.ntmps48
    go_wp2_with (first | (go_at_call 62; refine cN.mono ?_; rintro e w' ⟨rfl, hw⟩; replace hw := hw.symm; subst hw) | (go_at_call 63; refine cS.mono ?_; rintro e w' ⟨rfl, hw⟩; replace hw := hw.symm; subst hw) | (go_at_call 76; refine cW.mono ?_; rintro e w4 ⟨rfl, k4⟩) | (go_at_call 67; refine Calls.mono (HF.out _ k4) ?_; rintro e w5 ⟨rfl, v5⟩))
    obtain ⟨⟨tn5, ht5, at5⟩, k5⟩ := v5
    refine ⟨rfl, by rw [HQ.out]; rfl, ?_⟩
    rw [HQ.out]
    exact ⟨⟨tn5, ht5, at5⟩, ((kA.trans k4).mono (fun _ _ f => f.elim)).trans k5⟩
  | none =>
    unfold QE Sp.val at HF
    simp only at HF
    go_enter Tryz.func48, Tryz.ntmps48
    go_wp2_with (first | (go_at_call 62; refine cN.mono ?_; rintro e w' ⟨rfl, hw⟩; replace hw := hw.symm; subst hw) | (go_at_call 63; refine cS.mono ?_; rintro e w' ⟨rfl, hw⟩; replace hw := hw.symm; subst hw) | (go_at_call 76; refine cW.mono ?_; rintro e w4 ⟨rfl, k4⟩) | (go_at_call 67; refine Calls.mono (HF.out _ k4) ?_; rintro e w5 ⟨rfl, v5⟩; have rz := (rX.kp k4 (fun f => f)).kp v5.2 nX; obtain ⟨z0, z1, z2, z3, u0, u1, u2, u3⟩ : _ ∧ _ ∧ _ ∧ _ ∧ _ ∧ _ ∧ _ ∧ _ := ⟨rz.c0, rz.c1, rz.c2, rz.c3, rz.fz 0, rz.fz 1, rz.fz 2, rz.fz 3⟩))
    obtain ⟨⟨tn5, ht5, at5⟩, k5⟩ := v5
    have rF := rz.four sa sb sh sn
    have kF := kp_four w5 w.heap.size (.int .u32 sa) (.int .u32 sb) (.int .i64 sh) (.int .i64 sn)
    have vF := at5.kp kF (fun j hj e => by
      subst e
      rcases hj with e | e
      · have := HLT.out.1; omega
      · exact nX e)
    have k7 : Kp (modVm K B qm.n) w _ := (((kA.trans k4).mono (fun _ _ f => f.elim)).trans k5).over kF (fun j hj e => absurd hj (by omega))
    refine bodyPost_ret (v := .agg #[.int .u32 sa, .int .u32 sb, .int .i64 sh, .int .i64 sn]) (by simp [results, Tryz.results48, go_sem, rF.c0, rF.c1, rF.c2, rF.c3]) rfl ⟨by rw [HQ.out]; rfl, ?_⟩
    rw [HQ.out]
    exact ⟨⟨tn5, ht5, vF⟩, k7⟩

theorem ofPro_any (w : World) (V K B pl tn C : Nat) (M : Mem) (h : VmAt w V K B pl tn M) (c : Cp) (hc : CpAt w C c) (hC : ¬ modVm K B M.n C) (l z : Int) (wr : Bool) (l0 : 0 ≤ l) (l1 : l < 4294967296) (htn : tn < 18446744073709551613) :
    Calls Tryz.prog 48 #[.pointer (some ⟨V, 0, none⟩), .pointer (some ⟨C, 0, none⟩), .int .u32 l, .int .i64 z, .bool wr] w (fun e w' => e = QE (sysQ M c l z wr) ∧ VmP w V K B pl tn (sysQ M c l z wr).m 2 w') := by
  unfold sysQ
  cases hz : okS z with
  | false =>
    rw [if_pos rfl]
    refine (ofPro_size w V K B pl tn C M h l z wr hz).mono ?_
    rintro e w' ⟨rfl, q⟩
    exact ⟨rfl, h.stay q 2⟩
  | true =>
    rw [if_neg (by decide)]
    have hz' : z = 1 ∨ z = 2 ∨ z = 4 := of_decide_eq_true hz
    obtain ⟨n, rfl⟩ : ∃ n : Nat, z = n := ⟨z.toNat, by omega⟩
    simp only [Int.toNat_natCast]
    exact ofPro_go w V K B pl tn C M h c hc hC l n wr l0 l1 (by omega) htn

theorem ofCod_no (w : World) (V K B pl tn C : Nat) (M : Mem) (h : VmAt w V K B pl tn M) (c : Cp) (hc : CpAt w C c) (off : Int) (hr : (c.seg 1).l < off) :
    Calls Tryz.prog 54 #[.pointer (some ⟨V, 0, none⟩), .pointer (some ⟨C, 0, none⟩), .int .u32 off] w (fun e w' => e = .panicked (pan (ftV 13)) ∧ Kp noB w w') := by
  unfold pan ftV Ft.val
  have kA := Kp.alloc noB w (.cells #[.int .u32 0, .int .u32 0, .int .i64 0, .int .i64 0] 93)
  have h0 := (h.kp0 kA).c0
  have cN := need_ok _ V B C h0
  have s := (hc.kp0 kA).sg 1 (by decide)
  have a2 := s.a2; have a3 := s.a3; have a4 := s.a4; have a5 := s.a5; have a6 := s.a6; have a7 := s.a7; have a8 := s.a8
  go_enter Tryz.func54, Tryz.ntmps54
  go_wp2_with (first | (go_at_call 62; refine cN.mono ?_; rintro e w' ⟨rfl, hw⟩; replace hw := hw.symm; subst hw) | (go_at_call 64; refine (refused_any _ _).mono ?_; rintro e w2 ⟨rfl, k2⟩))
  exact ⟨rfl, rfl, (kA.trans (Kp.alloc noB _ _)).trans k2⟩

/-- Its pages have a fault. -/
theorem ofCod_pf (w : World) (V K B pl tn C : Nat) (M : Mem) (h : VmAt w V K B pl tn M) (c : Cp) (hc : CpAt w C c) (off : Int) (o0 : 0 ≤ off) (o1 : off < 4294967296) (hC : ¬ modVm K B M.n C) (htn : tn < 18446744073709551613) (hr : off ≤ (c.seg 1).l) (f : Ft) (hq : (findQ M c.pg c.cr3 (linB (c.seg 1).b off) 1 false c.us c.wp).f = some f) :
    Calls Tryz.prog 54 #[.pointer (some ⟨V, 0, none⟩), .pointer (some ⟨C, 0, none⟩), .int .u32 off] w (fun e w' => e = .panicked (pan f) ∧ VmP w V K B pl tn (findQ M c.pg c.cr3 (linB (c.seg 1).b off) 1 false c.us c.wp).m 2 w') := by
  have kA := Kp.alloc noB w (.cells #[.int .u32 0, .int .u32 0, .int .i64 0, .int .i64 0] 93)
  have h0 := (h.kp0 kA).c0
  have cN := need_ok _ V B C h0
  have s := (hc.kp0 kA).sg 1 (by decide)
  have so := hc.ok.sg 1 (by decide)
  have t0 := so.t0; have t1 := so.t1; have l0 := so.l0; have l1 := so.l1; have b0 := so.b0; have b1 := so.b1
  have a2 := s.a2; have a3 := s.a3; have a4 := s.a4; have a5 := s.a5; have a6 := s.a6; have a7 := s.a7; have a8 := s.a8
  have hd : ¬ (c.seg 1).l < off := by omega
  clear hr
  obtain ⟨X, hX⟩ : ∃ X, w.heap.size = X := ⟨_, rfl⟩
  have HLT0 : V < X ∧ ∀ j, modVm K B M.n j → j < X := ⟨by rw [← hX]; exact h.lt, fun j hj => by rw [← hX]; exact h.in_lt hj⟩
  have kB := Kp.alloc noB (w.alloc (.cells #[.int .u32 0, .int .u32 0, .int .i64 0, .int .i64 0] 93)) (.cells #[.int .u32 (c.seg 1).b, .int .u32 (c.seg 1).l, .int .i64 (c.seg 1).t, .bool (c.seg 1).s, .int .i64 (c.seg 1).d, .bool (c.seg 1).p, .bool (c.seg 1).g] 28)
  have rX : RowS ((w.alloc (.cells #[.int .u32 0, .int .u32 0, .int .i64 0, .int .i64 0] 93)).alloc (.cells #[.int .u32 (c.seg 1).b, .int .u32 (c.seg 1).l, .int .i64 (c.seg 1).t, .bool (c.seg 1).s, .int .i64 (c.seg 1).d, .bool (c.seg 1).p, .bool (c.seg 1).g] 28)) X 0 0 0 0 := by
    rw [← hX]
    exact RowS.kp (h := 0) (n := 0) (MapKept.heap_alloc w _).1 kB (fun f => f)
  have rY : ((w.alloc (.cells #[.int .u32 0, .int .u32 0, .int .i64 0, .int .i64 0] 93)).alloc (.cells #[.int .u32 (c.seg 1).b, .int .u32 (c.seg 1).l, .int .i64 (c.seg 1).t, .bool (c.seg 1).s, .int .i64 (c.seg 1).d, .bool (c.seg 1).p, .bool (c.seg 1).g] 28)).heap[X + 1]? = some (.cells #[.int .u32 (c.seg 1).b, .int .u32 (c.seg 1).l, .int .i64 (c.seg 1).t, .bool (c.seg 1).s, .int .i64 (c.seg 1).d, .bool (c.seg 1).p, .bool (c.seg 1).g] 28 (0, 0)) := by
    have := (MapKept.heap_alloc (w.alloc (.cells #[.int .u32 0, .int .u32 0, .int .i64 0, .int .i64 0] 93)) (.cells #[.int .u32 (c.seg 1).b, .int .u32 (c.seg 1).l, .int .i64 (c.seg 1).t, .bool (c.seg 1).s, .int .i64 (c.seg 1).d, .bool (c.seg 1).p, .bool (c.seg 1).g] 28)).1
    simp only [World.size_alloc, hX] at this
    exact this
  go_enter Tryz.func54, Tryz.ntmps54
  go_upto_region 5 with (first | (go_at_call 62; refine cN.mono ?_; rintro e w' ⟨rfl, hw⟩; replace hw := hw.symm; subst hw))
  obtain ⟨w3, hw3⟩ : ∃ W, W = ((w.alloc (.cells #[.int .u32 0, .int .u32 0, .int .i64 0, .int .i64 0] 93)).alloc (.cells #[.int .u32 (c.seg 1).b, .int .u32 (c.seg 1).l, .int .i64 (c.seg 1).t, .bool (c.seg 1).s, .int .i64 (c.seg 1).d, .bool (c.seg 1).p, .bool (c.seg 1).g] 28)) := ⟨_, rfl⟩
  rw [← hw3] at kB rX rY ⊢
  have y2 : w3.cell? ⟨X + 1, 0, none⟩ = some (.int .u32 (c.seg 1).b) := by rw [cell_at rY]; rfl
  have k4 := kA.trans kB
  replace h := h.kp0 k4
  replace hc := hc.kp0 k4
  have HXw : Hid (w.heap.size = X) := hX
  have HLT : Hid (V < X ∧ ∀ j, modVm K B M.n j → j < X) := HLT0
  clear hw3 rY kB kA a2 a3 a4 a5 a6 a7 a8 s so cN h0 HLT0 hX hd
  have hl0 : 0 ≤ linB (c.seg 1).b off ∧ linB (c.seg 1).b off < 4294967296 := by unfold linB; omega
  have HP : Hid (∀ W, Kp noB w3.drew W → Calls Tryz.prog 68 #[.pointer (some ⟨C, 0, none⟩), .bool false] W fun e w' => e = .returned (.agg #[.bool false, .bool c.us, .bool c.wp]) ∧ Kp noB w3.drew w') := fun W k => (program_way W C c false ((hc.kp0 (Kp.refl noB w3).drew).kp0 k)).mono (fun e w' ⟨h1, h2⟩ => ⟨h1, k.trans h2⟩)
  have HF : Hid (∀ W, Kp noB w3.drew W → Calls Tryz.prog 67 #[.pointer (some ⟨V, 0, none⟩), .pointer (some ⟨C, 0, none⟩), .int .u32 (((c.seg 1).b + off) % 4294967296), .int .i64 1, .agg #[.bool false, .bool c.us, .bool c.wp]] W (fun e w' => e = QE (findQ M c.pg c.cr3 (linB (c.seg 1).b off) 1 false c.us c.wp) ∧ VmP W V K B pl tn (findQ M c.pg c.cr3 (linB (c.seg 1).b off) 1 false c.us c.wp).m 2 w')) := fun W k => vfind_any W V K B pl tn C M ((h.kp0 (Kp.refl noB w3).drew).kp0 k) c ((hc.kp0 (Kp.refl noB w3).drew).kp0 k) hC _ 1 false c.us c.wp hl0.1 hl0.2 (by omega) (by omega) htn
  have e1 : QE (findQ M c.pg c.cr3 (linB (c.seg 1).b off) 1 false c.us c.wp) = .panicked (pan f) := by unfold QE; rw [hq]
  rw [e1] at HF
  obtain ⟨q, hqe⟩ : ∃ q, (findQ M c.pg c.cr3 (linB (c.seg 1).b off) 1 false c.us c.wp) = q := ⟨_, rfl⟩
  rw [hqe] at HF
  have HQ : Hid _ := hqe
  clear hqe e1 hq
  refine OrdP.region_vals (τ := Unit) (fun ch w' => ch = pan f ∧ VmP w3.drew V K B pl tn q.m 2 w') (fun _ => [.pointer (some ⟨V, 0, none⟩), .pointer (some ⟨C, 0, none⟩), .pointer (some ⟨X + 1, 0, none⟩), .int .u32 (c.seg 1).b, .int .u32 off, .int .u32 (((c.seg 1).b + off) % 4294967296), .pointer (some ⟨C, 0, none⟩), .agg #[.bool false, .bool c.us, .bool c.wp], undef, undef]) (fun _ listed W' => Kp noB w3.drew W' ∧ listed.getD 8 false = false) () ?_ (by kernel_rfl) (by kernel_rfl) (by kernel_rfl) (by kernel_rfl) (fun _ => rfl) (fun t => by simp only [OrdG.puts, Act.put, List.setIfInBounds_toArray, List.set_cons_zero, List.set_cons_succ]; rfl) (fun _ => by kernel_rfl) ⟨Kp.refl _ _, rfl⟩ ?_ ?_
  · rintro ch a' w' hd ⟨rfl, ⟨tn', ht, v⟩, k⟩
    refine ⟨hd, rfl, ?_⟩
    rw [HQ.out]
    exact ⟨⟨tn', ht, v⟩, (k4.mono (fun _ _ f => f.elim)).trans ⟨k.os, k.tape, k.output, k.size, k.block⟩⟩
  · refine ⟨?_, ?_, ?_, ?_, ?_, ?_, ?_, ?_, ?_, ?_, trivial⟩
    all_goals (intro t listed W' hz hSh hl hI hb K hK hK0; obtain ⟨kI, h7⟩ := hI; have y3 := cell_kp (w := w3.drew) y2 kI (fun f => f))
    case refine_8 =>
      go_simp
      refine Calls.mono (HP.out _ kI) ?_
      rintro e w4 ⟨rfl, r⟩
      exact hK0 _ ⟨r, OrdP.keep h7 (by decide)⟩
    case refine_9 =>
      go_simp
      refine Calls.mono (HF.out _ kI) ?_
      rintro e w4 ⟨rfl, ⟨tn', ht, v⟩, k⟩
      exact ⟨rfl, ⟨tn', ht, v⟩, (kI.mono (fun _ _ f => f.elim)).trans k⟩
    case refine_10 => exact absurd (OrdG.on_of (i := 8) hb (by kernel_rfl)) (by rw [h7]; decide)
    all_goals (go_simp; exact hK0 _ ⟨kI, OrdP.keep h7 (by decide)⟩)
  · rintro t listed w' hal ⟨_, h7⟩
    have := hal 8 (by decide)
    rw [h7] at this
    cases this

/-- Its pages are found. -/
theorem ofCod_find (w : World) (V K B pl tn C : Nat) (M : Mem) (h : VmAt w V K B pl tn M) (c : Cp) (hc : CpAt w C c) (off : Int) (o0 : 0 ≤ off) (o1 : off < 4294967296) (hC : ¬ modVm K B M.n C) (htn : tn < 18446744073709551613) (hr : off ≤ (c.seg 1).l) (hq : (findQ M c.pg c.cr3 (linB (c.seg 1).b off) 1 false c.us c.wp).f = none) :
    Calls Tryz.prog 54 #[.pointer (some ⟨V, 0, none⟩), .pointer (some ⟨C, 0, none⟩), .int .u32 off] w (fun e w' => e = .returned (findQ M c.pg c.cr3 (linB (c.seg 1).b off) 1 false c.us c.wp).s.val ∧ VmP w V K B pl tn (findQ M c.pg c.cr3 (linB (c.seg 1).b off) 1 false c.us c.wp).m 2 w') := by
  have kA := Kp.alloc noB w (.cells #[.int .u32 0, .int .u32 0, .int .i64 0, .int .i64 0] 93)
  have h0 := (h.kp0 kA).c0
  have cN := need_ok _ V B C h0
  have s := (hc.kp0 kA).sg 1 (by decide)
  have so := hc.ok.sg 1 (by decide)
  have t0 := so.t0; have t1 := so.t1; have l0 := so.l0; have l1 := so.l1; have b0 := so.b0; have b1 := so.b1
  have a2 := s.a2; have a3 := s.a3; have a4 := s.a4; have a5 := s.a5; have a6 := s.a6; have a7 := s.a7; have a8 := s.a8
  have hd : ¬ (c.seg 1).l < off := by omega
  clear hr
  obtain ⟨X, hX⟩ : ∃ X, w.heap.size = X := ⟨_, rfl⟩
  have HLT0 : V < X ∧ ∀ j, modVm K B M.n j → j < X := ⟨by rw [← hX]; exact h.lt, fun j hj => by rw [← hX]; exact h.in_lt hj⟩
  have kB := Kp.alloc noB (w.alloc (.cells #[.int .u32 0, .int .u32 0, .int .i64 0, .int .i64 0] 93)) (.cells #[.int .u32 (c.seg 1).b, .int .u32 (c.seg 1).l, .int .i64 (c.seg 1).t, .bool (c.seg 1).s, .int .i64 (c.seg 1).d, .bool (c.seg 1).p, .bool (c.seg 1).g] 28)
  have rX : RowS ((w.alloc (.cells #[.int .u32 0, .int .u32 0, .int .i64 0, .int .i64 0] 93)).alloc (.cells #[.int .u32 (c.seg 1).b, .int .u32 (c.seg 1).l, .int .i64 (c.seg 1).t, .bool (c.seg 1).s, .int .i64 (c.seg 1).d, .bool (c.seg 1).p, .bool (c.seg 1).g] 28)) X 0 0 0 0 := by
    rw [← hX]
    exact RowS.kp (h := 0) (n := 0) (MapKept.heap_alloc w _).1 kB (fun f => f)
  have rY : ((w.alloc (.cells #[.int .u32 0, .int .u32 0, .int .i64 0, .int .i64 0] 93)).alloc (.cells #[.int .u32 (c.seg 1).b, .int .u32 (c.seg 1).l, .int .i64 (c.seg 1).t, .bool (c.seg 1).s, .int .i64 (c.seg 1).d, .bool (c.seg 1).p, .bool (c.seg 1).g] 28)).heap[X + 1]? = some (.cells #[.int .u32 (c.seg 1).b, .int .u32 (c.seg 1).l, .int .i64 (c.seg 1).t, .bool (c.seg 1).s, .int .i64 (c.seg 1).d, .bool (c.seg 1).p, .bool (c.seg 1).g] 28 (0, 0)) := by
    have := (MapKept.heap_alloc (w.alloc (.cells #[.int .u32 0, .int .u32 0, .int .i64 0, .int .i64 0] 93)) (.cells #[.int .u32 (c.seg 1).b, .int .u32 (c.seg 1).l, .int .i64 (c.seg 1).t, .bool (c.seg 1).s, .int .i64 (c.seg 1).d, .bool (c.seg 1).p, .bool (c.seg 1).g] 28)).1
    simp only [World.size_alloc, hX] at this
    exact this
  go_enter Tryz.func54, Tryz.ntmps54
  go_upto_region 5 with (first | (go_at_call 62; refine cN.mono ?_; rintro e w' ⟨rfl, hw⟩; replace hw := hw.symm; subst hw))
  obtain ⟨w3, hw3⟩ : ∃ W, W = ((w.alloc (.cells #[.int .u32 0, .int .u32 0, .int .i64 0, .int .i64 0] 93)).alloc (.cells #[.int .u32 (c.seg 1).b, .int .u32 (c.seg 1).l, .int .i64 (c.seg 1).t, .bool (c.seg 1).s, .int .i64 (c.seg 1).d, .bool (c.seg 1).p, .bool (c.seg 1).g] 28)) := ⟨_, rfl⟩
  rw [← hw3] at kB rX rY ⊢
  have y2 : w3.cell? ⟨X + 1, 0, none⟩ = some (.int .u32 (c.seg 1).b) := by rw [cell_at rY]; rfl
  have k4 := kA.trans kB
  replace h := h.kp0 k4
  replace hc := hc.kp0 k4
  have HXw : Hid (w.heap.size = X) := hX
  have HLT : Hid (V < X ∧ ∀ j, modVm K B M.n j → j < X) := HLT0
  clear hw3 rY kB kA a2 a3 a4 a5 a6 a7 a8 s so cN h0 HLT0 hX hd
  have hl0 : 0 ≤ linB (c.seg 1).b off ∧ linB (c.seg 1).b off < 4294967296 := by unfold linB; omega
  have HP : Hid (∀ W, Kp noB w3.drew W → Calls Tryz.prog 68 #[.pointer (some ⟨C, 0, none⟩), .bool false] W fun e w' => e = .returned (.agg #[.bool false, .bool c.us, .bool c.wp]) ∧ Kp noB w3.drew w') := fun W k => (program_way W C c false ((hc.kp0 (Kp.refl noB w3).drew).kp0 k)).mono (fun e w' ⟨h1, h2⟩ => ⟨h1, k.trans h2⟩)
  have HF : Hid (∀ W, Kp noB w3.drew W → Calls Tryz.prog 67 #[.pointer (some ⟨V, 0, none⟩), .pointer (some ⟨C, 0, none⟩), .int .u32 (((c.seg 1).b + off) % 4294967296), .int .i64 1, .agg #[.bool false, .bool c.us, .bool c.wp]] W (fun e w' => e = QE (findQ M c.pg c.cr3 (linB (c.seg 1).b off) 1 false c.us c.wp) ∧ VmP W V K B pl tn (findQ M c.pg c.cr3 (linB (c.seg 1).b off) 1 false c.us c.wp).m 2 w')) := fun W k => vfind_any W V K B pl tn C M ((h.kp0 (Kp.refl noB w3).drew).kp0 k) c ((hc.kp0 (Kp.refl noB w3).drew).kp0 k) hC _ 1 false c.us c.wp hl0.1 hl0.2 (by omega) (by omega) htn
  have e1 : QE (findQ M c.pg c.cr3 (linB (c.seg 1).b off) 1 false c.us c.wp) = .returned (findQ M c.pg c.cr3 (linB (c.seg 1).b off) 1 false c.us c.wp).s.val := by unfold QE; rw [hq]
  rw [e1] at HF
  have qn := findQ_n M c.pg c.cr3 (linB (c.seg 1).b off) 1 false c.us c.wp
  obtain ⟨q, hqe⟩ : ∃ q, (findQ M c.pg c.cr3 (linB (c.seg 1).b off) 1 false c.us c.wp) = q := ⟨_, rfl⟩
  rw [hqe] at HF qn
  have HQ : Hid _ := hqe
  clear hqe e1 hq
  obtain ⟨qf, qm, sa, sb, sh, sn⟩ := q
  unfold Sp.val at HF
  simp only at HF qn
  have nX : ¬ modVm K B qm.n X := fun f => by rw [qn] at f; have := HLT.out.2 _ f; omega
  have nY : ¬ modVm K B qm.n (X + 1) := fun f => by rw [qn] at f; have := HLT.out.2 _ f; omega
  have HS0 : Hid (w3.drew.cell? ⟨X + 1, 0, none⟩ = some (.int .u32 (c.seg 1).b)) := y2
  have HK0 : Hid (Kp noB w3.drew w3.drew) := Kp.refl _ _
  have HSK : Hid (∀ W, Kp noB w3.drew W → W.cell? ⟨X + 1, 0, none⟩ = some (.int .u32 (c.seg 1).b)) := fun W k => cell_kp (w := w3.drew) y2 k (fun f => f)
  have HSV : Hid (∀ W W', Kp noB w3.drew W → VmP W V K B pl tn qm 2 W' → W'.cell? ⟨X + 1, 0, none⟩ = some (.int .u32 (c.seg 1).b)) := fun W W' k v => cell_kp (HSK.out _ k) v.2 nY
  have HSF : Hid (∀ (W : World) (a b c' d : Value), W.cell? ⟨X + 1, 0, none⟩ = some (.int .u32 (c.seg 1).b) → ((((W.setCell ⟨X, 0, none⟩ a).setCell ⟨X, 1, none⟩ b).setCell ⟨X, 2, none⟩ c').setCell ⟨X, 3, none⟩ d).cell? ⟨X + 1, 0, none⟩ = some (.int .u32 (c.seg 1).b)) := fun W a b c' d h => cell_kp h (kp_four W X a b c' d) (by omega)
  have HRX : Hid (∀ W W', Kp noB w3.drew W → VmP W V K B pl tn qm 2 W' → RowS W' X 0 0 0 0) := fun W W' k v => by
    have r : RowS w3.drew X 0 0 0 0 := rX
    exact (r.kp k (fun f => f)).kp v.2 nX
  go_region_held3 (fun W => W.cell? ⟨X + 1, 0, none⟩ = some (.int .u32 (c.seg 1).b))
    (first | with_reducible exact HS0.out | with_reducible exact HSK.out _ k5 | with_reducible exact HSV.out _ _ k5 v6 | with_reducible exact HSF.out _ _ _ _ _ (HSV.out _ _ k5 v6))
    (first | (go_at_call 68; refine Calls.mono (HP.out _ HK0.out) ?_; rintro e w5 ⟨rfl, k5⟩) | (go_at_call 67; refine Calls.mono (HF.out _ k5) ?_; rintro e w6 ⟨rfl, v6⟩; have rz := HRX.out _ _ k5 v6; obtain ⟨z0, z1, z2, z3, u0, u1, u2, u3⟩ : _ ∧ _ ∧ _ ∧ _ ∧ _ ∧ _ ∧ _ ∧ _ := ⟨rz.c0, rz.c1, rz.c2, rz.c3, rz.fz 0, rz.fz 1, rz.fz 2, rz.fz 3⟩))
  have rF := rz.four sa sb sh sn
  have kF := kp_four w6 X (.int .u32 sa) (.int .u32 sb) (.int .i64 sh) (.int .i64 sn)
  obtain ⟨⟨tn6, ht6, at6⟩, k6⟩ := v6
  have vF := at6.kp kF (fun j hj e => by
    subst e
    rcases hj with e | e
    · have := HLT.out.1; omega
    · exact nX e)
  have k7 : Kp (modVm K B qm.n) w _ := ((k4.mono (fun _ _ f => f.elim)).trans ((k5.undrew.mono (fun _ _ f => f.elim)).trans k6)).over kF (fun j hj e => absurd hj (by have := HXw.out; omega))
  clear HSV HSF HSK HRX HF HP rz at6 k6 k5 z0 z1 z2 z3 u0 u1 u2 u3 kF HS0
  go_wp2
  refine bodyPost_ret (v := .agg #[.int .u32 sa, .int .u32 sb, .int .i64 sh, .int .i64 sn]) (by simp [results, Tryz.results54, go_sem, rF.c0, rF.c1, rF.c2, rF.c3]) rfl ⟨by rw [HQ.out]; rfl, ?_⟩
  rw [HQ.out]
  exact ⟨⟨tn6, ht6, vF⟩, k7⟩


theorem ofCod_any (w : World) (V K B pl tn C : Nat) (M : Mem) (h : VmAt w V K B pl tn M) (c : Cp) (hc : CpAt w C c) (hC : ¬ modVm K B M.n C) (off : Int) (o0 : 0 ≤ off) (o1 : off < 4294967296) (htn : tn < 18446744073709551613) :
    Calls Tryz.prog 54 #[.pointer (some ⟨V, 0, none⟩), .pointer (some ⟨C, 0, none⟩), .int .u32 off] w (fun e w' => e = QE (codQ M c off) ∧ VmP w V K B pl tn (codQ M c off).m 2 w') := by
  unfold codQ
  by_cases hl : (c.seg 1).l < off
  · rw [if_pos hl]
    refine (ofCod_no w V K B pl tn C M h c hc off hl).mono ?_
    rintro e w' ⟨rfl, q⟩
    exact ⟨rfl, h.stay q 2⟩
  · rw [if_neg hl]
    cases hq : (findQ M c.pg c.cr3 (linB (c.seg 1).b off) 1 false c.us c.wp).f with
    | none =>
      refine (ofCod_find w V K B pl tn C M h c hc off o0 o1 hC htn (by omega) hq).mono ?_
      rintro e w' ⟨rfl, q⟩
      exact ⟨by unfold QE; rw [hq], q⟩
    | some f =>
      refine (ofCod_pf w V K B pl tn C M h c hc off o0 o1 hC htn (by omega) f hq).mono ?_
      rintro e w' ⟨rfl, q⟩
      exact ⟨by unfold QE; rw [hq], q⟩
end Go.Proofs.YtmmnnafjikilpaaGreat
