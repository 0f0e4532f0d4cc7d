/- Texts on vmem, joined: TlMath, TlMap, TlOps, TlServes, TlRead, TlRange, TlKeep. -/
import Derived.Test.YtmmnnafjikilpaaGreatVc
import Derived.DeepKeys4
import Derived.Maps.RangeWalk
import Derived.Laws.MakeOwn
import Derived.Deep.RegionHeld3
import Derived.LoopTactic
import Derived.BigQuiet
/- Pages that are kept: plain facts. What is kept of a walk, when it is good, and that a good one answers as a walk does. -/
namespace Go.Proofs.YtmmnnafjikilpaaGreat
open Go.ChangeShapes Go.WideShapes Go.ChangeAt Go.RowKit Go.Maps
set_option linter.unusedVariables false

/-- What is kept of a page: the walk, the words that it came by, its turn. -/
structure Ent where
  fr : Int
  p : Int
  q : Int
  bw : Bool
  bu : Bool
  o : Int
  t : Int
  tn : Int

def Good (a b : Int) (e : Ent) : Prop :=
  (0 ≤ e.o ∧ e.o < 4294967296 ∧ 0 ≤ e.t ∧ e.t < 4294967296) ∧ (hasF e.o 1 = true ∧ hasF e.t 1 = true) ∧ e.p = pdeA a b ∧ e.q = pteA e.o b ∧ e.fr = e.t - e.t % 4096 ∧ e.bw = (hasF e.o 2 && hasF e.t 2) ∧ e.bu = (hasF e.o 4 && hasF e.t 4)

def servesB (e : Ent) (wr us : Bool) : Bool := !(us && !e.bu || wr && !e.bw) && (!(wr && !hasF e.t 64) && (hasF e.o 32 && hasF e.t 32))

theorem pde_low (c l : Int) : pdeA (c - c % 4096) (l - l % 4096) = pdeA c l := by
  unfold pdeA
  have h1 : (c - c % 4096) % 4096 = 0 := by omega
  have h2 : (l - l % 4096) / 4194304 = l / 4194304 := by omega
  rw [h1, h2]; omega

theorem pte_low (o l : Int) : pteA o (l - l % 4096) = pteA o l := by
  unfold pteA
  have h2 : (l - l % 4096) / 4096 % 1024 = l / 4096 % 1024 := by omega
  rw [h2]

theorem mark_has {M : Mem} (h : RdB M) (a : Int) (wr : Bool) (h1 : hasF (M.read a 4) 32 = true) (h2 : wr = true → hasF (M.read a 4) 64 = true) : markM M a wr = M := by
  have b := h.read a
  unfold markM
  rw [if_pos ((mark_asks b.1 b.2 wr).2 ⟨h1, h2⟩)]

theorem hit {M : Mem} (h : RdB M) {c l : Int} {e : Ent} (g : Good (c - c % 4096) (l - l % 4096) e) (h1 : M.read e.p 4 = e.o) (h2 : M.read e.q 4 = e.t) {wr us wp : Bool} (hs : servesB e wr us = true) :
    fWalk M c l wr us wp = walkV e.fr e.p e.q e.bw e.bu ∧ fCode M c l wr us wp = -1 ∧ fMem M c l wr us wp = M := by
  obtain ⟨_, ⟨p1, p2⟩, gp, gq, gf, gw, gu⟩ := g
  rw [pde_low] at gp
  rw [pte_low] at gq
  have e1 : fOne M c l = e.o := by unfold fOne; rw [← gp]; exact h1
  have e2 : fPte M c l = e.q := by unfold fPte; rw [e1]; exact gq.symm
  have e3 : fTwo M c l = e.t := by unfold fTwo; rw [e2]; exact h2
  have e4 : fW M c l = e.bw := by unfold fW; rw [e1, e3]; exact gw.symm
  have e5 : fU M c l = e.bu := by unfold fU; rw [e1, e3]; exact gu.symm
  have e6 : fHere M c l = true := by unfold fHere; rw [e1, e3, p1, p2]; rfl
  have e7 : fFr M c l = e.fr := by unfold fFr; rw [e3]; exact gf.symm
  unfold servesB at hs
  have hl : letsB e.bw e.bu wr us wp = true := by
    unfold letsB
    revert hs
    cases e.bw <;> cases e.bu <;> cases wr <;> cases us <;> simp
  have ho : fOk M c l wr us wp = true := by unfold fOk; rw [e6, e4, e5, hl]; rfl
  have s1 : hasF e.o 32 = true := by revert hs; cases hasF e.o 32 <;> simp
  have s2 : hasF e.t 32 = true := by revert hs; cases hasF e.t 32 <;> simp
  have s3 : wr = true → hasF e.t 64 = true := by intro hw; revert hs; rw [hw]; cases hasF e.t 64 <;> simp
  refine ⟨?_, ?_, ?_⟩
  · unfold fWalk; rw [if_pos ho, e7, e2, e4, e5, gp]
  · unfold fCode; rw [if_pos e6, e4, e5, if_pos hl]
  · unfold fMem
    rw [if_pos ho, ← gp, e2, mark_has h e.p false (by rw [h1]; exact s1) (fun f => by cases f), mark_has h e.q wr (by rw [h2]; exact s2) (fun f => by rw [h2]; exact s3 f)]

/-! ### what a walk leaves -/
def Lik (n m : Int) : Prop := (0 ≤ m ∧ m < 4294967296) ∧ n - n % 4096 = m - m % 4096 ∧ n % 8 = m % 8

theorem Lik.same {n : Int} (n0 : 0 ≤ n) (n1 : n < 4294967296) : Lik n n := ⟨⟨n0, n1⟩, rfl, rfl⟩
theorem Lik.trans {a b c : Int} (h : Lik a b) (k : Lik b c) : Lik a c := ⟨k.1, h.2.1.trans k.2.1, h.2.2.trans k.2.2⟩

theorem set_eight {n k : Int} (hk : k = 32 ∨ k = 64) : n % 8 = setF n k true % 8 := by
  unfold setF flg
  rw [if_pos rfl]
  rcases hk with rfl | rfl
  · split <;> omega
  · split <;> omega

theorem lik_markW {n : Int} (n0 : 0 ≤ n) (n1 : n < 4294967296) (wr : Bool) : Lik n (markW n wr) := by
  refine ⟨markW_bd n0 n1 wr, (markW_high n0 n1 wr).symm, ?_⟩
  unfold markW
  split
  · rw [← set_eight (Or.inr rfl), ← set_eight (Or.inl rfl)]
  · exact set_eight (Or.inl rfl)

theorem lik_markM {M : Mem} (h : RdB M) (hc : M.closed = false) {a b : Int} (a0 : 0 ≤ a) (a1 : a < 4294967296) (ha : a % 4 = 0) (b0 : 0 ≤ b) (b1 : b < 4294967296) (hb : b % 4 = 0) (wr : Bool) :
    Lik (M.read b 4) ((markM M a wr).read b 4) := by
  have r := h.read a
  have rb := h.read b
  have w := markW_bd r.1 r.2 wr
  unfold markM
  split
  · exact Lik.same rb.1 rb.2
  · rw [lay4_read hc a0 a1 ha b0 b1 hb w.1 w.2]
    split
    · rename_i e
      rw [← e.1]
      exact lik_markW r.1 r.2 wr
    · exact Lik.same rb.1 rb.2

theorem lik_fMem {M : Mem} (h : RdB M) (hc : M.closed = false) {c l : Int} (c0 : 0 ≤ c) (c1 : c < 4294967296) (l0 : 0 ≤ l) (l1 : l < 4294967296) (wr us wp : Bool) {b : Int} (b0 : 0 ≤ b) (b1 : b < 4294967296) (hb : b % 4 = 0) :
    Lik (M.read b 4) ((fMem M c l wr us wp).read b 4) := by
  have p := pdeA_bd c0 c1 l0 l1
  have q := fPte_bd h c l l0 l1
  have pa : pdeA c l % 4 = 0 := by unfold pdeA; omega
  have qa : fPte M c l % 4 = 0 := by unfold fPte pteA; omega
  have rb := h.read b
  unfold fMem
  split
  · exact (lik_markM h hc p.1 p.2 pa b0 b1 hb false).trans (lik_markM (h.mark _ _) ((mark_same _ _ _).2.2.trans hc) q.1 q.2 qa b0 b1 hb wr)
  · exact Lik.same rb.1 rb.2

theorem has_lik {n m k : Int} (h : n % 8 = m % 8) (hk : k = 1 ∨ k = 2 ∨ k = 4) : hasF n k = hasF m k := by
  have e : n / k % 2 = m / k % 2 := by
    rcases hk with rfl | rfl | rfl <;> omega
  unfold hasF
  rw [e]

/-- What is kept behind a walk. -/
def entOf (M : Mem) (c l : Int) (wr us wp : Bool) (tn : Int) : Ent :=
  ⟨fFr M c l, pdeA c l, fPte M c l, fW M c l, fU M c l, (fMem M c l wr us wp).read (pdeA c l) 4, (fMem M c l wr us wp).read (fPte M c l) 4, tn⟩

theorem ok_here {M : Mem} {c l : Int} {wr us wp : Bool} (ho : fOk M c l wr us wp = true) : hasF (fOne M c l) 1 = true ∧ hasF (fTwo M c l) 1 = true := by
  unfold fOk fHere at ho
  revert ho
  cases hasF (fOne M c l) 1 <;> cases hasF (fTwo M c l) 1 <;> simp

theorem entOf_good {M : Mem} (h : RdB M) (hc : M.closed = false) {c l : Int} (c0 : 0 ≤ c) (c1 : c < 4294967296) (l0 : 0 ≤ l) (l1 : l < 4294967296) {wr us wp : Bool} (ho : fOk M c l wr us wp = true) (tn : Int) :
    Good (c - c % 4096) (l - l % 4096) (entOf M c l wr us wp tn) := by
  have p := pdeA_bd c0 c1 l0 l1
  have q := fPte_bd h c l l0 l1
  have pa : pdeA c l % 4 = 0 := by unfold pdeA; omega
  have qa : fPte M c l % 4 = 0 := by unfold fPte pteA; omega
  obtain ⟨a1, a2, a3⟩ := lik_fMem h hc c0 c1 l0 l1 wr us wp p.1 p.2 pa
  obtain ⟨b1, b2, b3⟩ := lik_fMem h hc c0 c1 l0 l1 wr us wp q.1 q.2 qa
  obtain ⟨h1, h2⟩ := ok_here ho
  have o1 : M.read (pdeA c l) 4 = fOne M c l := rfl
  have t1 : M.read (fPte M c l) 4 = fTwo M c l := rfl
  rw [o1] at a2 a3
  rw [t1] at b2 b3
  refine ⟨⟨a1.1, a1.2, b1.1, b1.2⟩, ⟨?_, ?_⟩, (pde_low c l).symm, ?_, ?_, ?_, ?_⟩
  · show hasF ((fMem M c l wr us wp).read (pdeA c l) 4) 1 = true
    rw [← has_lik a3 (.inl rfl)]; exact h1
  · show hasF ((fMem M c l wr us wp).read (fPte M c l) 4) 1 = true
    rw [← has_lik b3 (.inl rfl)]; exact h2
  · show fPte M c l = pteA ((fMem M c l wr us wp).read (pdeA c l) 4) (l - l % 4096)
    rw [pte_low]
    unfold fPte pteA
    rw [a2]
  · exact b2
  · show (hasF (fOne M c l) 2 && hasF (fTwo M c l) 2) = (hasF ((fMem M c l wr us wp).read (pdeA c l) 4) 2 && hasF ((fMem M c l wr us wp).read (fPte M c l) 4) 2)
    rw [has_lik a3 (.inr (.inl rfl)), has_lik b3 (.inr (.inl rfl))]
  · show (hasF (fOne M c l) 4 && hasF (fTwo M c l) 4) = (hasF ((fMem M c l wr us wp).read (pdeA c l) 4) 4 && hasF ((fMem M c l wr us wp).read (fPte M c l) 4) 4)
    rw [has_lik a3 (.inr (.inr rfl)), has_lik b3 (.inr (.inr rfl))]

/-- The code says -1 just where a page was found. -/
theorem code_ok {M : Mem} {c l : Int} {wr us wp : Bool} : (fCode M c l wr us wp == -1) = fOk M c l wr us wp := by
  unfold fCode fOk
  have k : 0 ≤ codeW wr us := by cases wr <;> cases us <;> decide
  cases fHere M c l
  · simp; omega
  · cases letsB (fW M c l) (fU M c l) wr us wp
    · simp; omega
    · simp
end Go.Proofs.YtmmnnafjikilpaaGreat

/- Pages that are kept: the map of them, and what it means that a world holds a keeper. -/
namespace Go.Proofs.YtmmnnafjikilpaaGreat
open Go.ChangeShapes Go.WideShapes Go.ChangeAt Go.RowKit Go.Maps
set_option linter.unusedVariables false

theorem tlLaid : laidOutB Tryz.prog = true := by kernel_rfl
theorem tlKeyed : Keyed Tryz.prog 149 := Keyed.of_law (deep_law_laid (m := 5) tlLaid (by decide) (of_decide_eq_true (by kernel_rfl)) (by kernel_rfl) (by kernel_rfl))
theorem keptT : Tryz.prog.underlying 109 = some (.map 149 168) := by kernel_rfl

def keyV (a b : Int) : Value := .agg #[.int .u32 a, .int .u32 b]
def kl (a b : Int) : Lit := .string (keyBytes [.int .u32 a, .int .u32 b])

theorem key_size : Tryz.prog.cellsOf 149 = 2 := by kernel_rfl
theorem key_one : Tryz.prog.cellsOf 24 = 1 := by kernel_rfl
theorem key_type : Tryz.prog.keyType 149 = true := by kernel_rfl
theorem key_depth : ∃ d, Tryz.prog.types.size + 1 = d + 1 + 1 := ⟨Tryz.prog.types.size - 1, by have : 0 < Tryz.prog.types.size := of_decide_eq_true (by kernel_rfl); omega⟩

theorem wf32 {x : Int} (h0 : 0 ≤ x) (h1 : x < 4294967296) : (Lit.int .u32 x).wf = true := WalkArith.wf_u32 ⟨h0, by omega⟩

theorem keyK {a b : Int} (a0 : 0 ≤ a) (a1 : a < 4294967296) (b0 : 0 ≤ b) (b1 : b < 4294967296) : keyOf Tryz.prog 149 (keyV a b) = some (kl a b) := by
  obtain ⟨d, hd⟩ := key_depth
  have h1 := wf32 a0 a1
  have h2 := wf32 b0 b1
  unfold keyOf keyV kl
  rw [Tryz.underlying149, hd]
  simp [Value.formed, Tryz.underlying149, Tryz.underlying24, key_size, key_one, key_type, Value.cells, Program.keyLits, h1, h2]

theorem keyEq (v : Value) : ∃ d, keyOf Tryz.prog 149 v = if v.formed Tryz.prog 149 = true then (Tryz.prog.keyLits (d + 1 + 1) 149 v.cells.toList).map (fun ls => Lit.string (keyBytes ls)) else none := by
  obtain ⟨d, hd⟩ := key_depth
  refine ⟨d, ?_⟩
  unfold keyOf
  rw [Tryz.underlying149, hd]
  simp only [key_type, Bool.true_and]

theorem list_2 {α : Type} : ∀ (l : List α), l.length = 2 → ∃ a b, l = [a, b]
  | [a, b], _ => ⟨a, b, rfl⟩
theorem arr_2 {α : Type} (cs : Array α) (h : cs.size = 2) : ∃ a b, cs = #[a, b] := by
  obtain ⟨a, b, e⟩ := list_2 cs.toList (by simpa using h)
  exact ⟨a, b, by cases cs; simp at e; rw [e]⟩

theorem keyInv {v : Value} {l : Lit} (h : keyOf Tryz.prog 149 v = some l) : ∃ a b : Int, v = keyV a b ∧ (0 ≤ a ∧ a < 4294967296 ∧ 0 ≤ b ∧ b < 4294967296) ∧ l = kl a b := by
  obtain ⟨d, hd⟩ := keyEq v
  rw [hd] at h
  clear hd
  split at h
  · rename_i hf
    cases v <;> simp [Value.formed, Tryz.underlying149, key_size] at hf
    rename_i cs
    obtain ⟨c0, c1, hcs⟩ := arr_2 cs hf
    subst hcs
    simp [Program.keyLits, Tryz.underlying149, Tryz.underlying24, key_size, key_one, Value.cells] at h
    cases c0 <;> simp at h
    rename_i q1 x1
    by_cases e1 : q1 = .u32 ∧ (Lit.int .u32 x1).wf = true
    · obtain ⟨rfl, w1⟩ := e1
      simp [w1] at h
      cases c1 <;> simp at h
      rename_i q2 x2
      by_cases e2 : q2 = .u32 ∧ (Lit.int .u32 x2).wf = true
      · obtain ⟨rfl, w2⟩ := e2
        have c1 := bounds_u32 w1
        have c2 := bounds_u32 w2
        simp [w2] at h
        exact ⟨x1, x2, rfl, ⟨c1.1, by omega, c2.1, by omega⟩, h.symm⟩
      · simp [e2] at h
    · simp [e1] at h
  · cases h

theorem kl_inj {a b c d : Int} (ha : 0 ≤ a ∧ a < 4294967296 ∧ 0 ≤ b ∧ b < 4294967296) (hc : 0 ≤ c ∧ c < 4294967296 ∧ 0 ≤ d ∧ d < 4294967296) (h : kl a b = kl c d) : a = c ∧ b = d := by
  have e := tlKeyed.inj (keyK ha.1 ha.2.1 ha.2.2.1 ha.2.2.2) (by rw [h]; exact keyK hc.1 hc.2.1 hc.2.2.1 hc.2.2.2)
  unfold keyV at e
  simp at e
  exact e

theorem kl_key (a b : Int) : WideAt.IsKeyLit (kl a b) := trivial

/-! ### what is kept at a key -/
def Ent.val (e : Ent) : Value := .agg #[.int .u32 e.fr, .int .u32 e.p, .int .u32 e.q, .bool e.bw, .bool e.bu, .int .u32 e.o, .int .u32 e.t, .int .u64 e.tn]
def Ent.dat (e : Ent) : DataW Unit := .agg [.lit (.int .u32 e.fr), .lit (.int .u32 e.p), .lit (.int .u32 e.q), .lit (.bool e.bw), .lit (.bool e.bu), .lit (.int .u32 e.o), .lit (.int .u32 e.t), .lit (.int .u64 e.tn)]

def entElem : Value → Option (DataW Unit × List MemPlace)
  | .agg ⟨[.int .u32 fr, .int .u32 p, .int .u32 q, .bool bw, .bool bu, .int .u32 o, .int .u32 t, .int .u64 tn]⟩ => some (Ent.dat ⟨fr, p, q, bw, bu, o, t, tn⟩, [])
  | _ => none

theorem entElem_mk (e : Ent) : entElem e.val = some (e.dat, []) := rfl
theorem entElem_inv {v : Value} {z : DataW Unit × List MemPlace} (h : entElem v = some z) : ∃ e : Ent, v = e.val ∧ z = (e.dat, []) := by
  unfold entElem at h
  split at h
  · cases h; exact ⟨⟨_, _, _, _, _, _, _, _⟩, rfl, rfl⟩
  · cases h
theorem dat_inj {e f : Ent} (h : e.dat = f.dat) : e = f := by
  cases e; cases f
  unfold Ent.dat at h
  simp at h
  obtain ⟨rfl, rfl, rfl, rfl, rfl, rfl, rfl, rfl⟩ := h
  rfl

/-- All that is kept is good, has had its turn, and is not more than there are places. -/
structure Tidied (D : DataW Unit) (pl tn : Nat) : Prop where
  size : Maps.size D ≤ pl
  good : ∀ a b : Int, Maps.has D (kl a b) = true → (0 ≤ a ∧ a < 4294967296 ∧ 0 ≤ b ∧ b < 4294967296) → ∃ e : Ent, (∀ z, D.atKey (kl a b) z = e.dat) ∧ Good a b e ∧ 0 ≤ e.tn ∧ e.tn ≤ tn

theorem Tidied.empty (pl tn : Nat) : Tidied (.map []) pl tn := ⟨Nat.zero_le _, fun a b h => by cases h⟩
theorem Tidied.later {D : DataW Unit} {pl tn tn' : Nat} (h : Tidied D pl tn) (k : tn ≤ tn') : Tidied D pl tn' :=
  ⟨h.size, fun a b hh hb => by obtain ⟨e, h1, h2, h3, h4⟩ := h.good a b hh hb; exact ⟨e, h1, h2, h3, by omega⟩⟩

theorem Tidied.del {D : DataW Unit} {pl tn : Nat} (h : Tidied D pl tn) (hT : Tidy D) (k : Lit) : Tidied (D.del k) pl tn := by
  have hs := size_del (k := k) hT
  have hs' := h.size
  refine ⟨by omega, fun a b hh hb => ?_⟩
  have hne : kl a b ≠ k := fun e => by
    rw [e, has_del_same] at hh
    cases hh
  rw [has_del_other hne] at hh
  obtain ⟨e, h1, h2⟩ := h.good a b hh hb
  exact ⟨e, fun z => by rw [atKey_del_other hne]; exact h1 z, h2⟩

theorem Tidied.put {D : DataW Unit} {pl tn : Nat} (h : Tidied D pl tn) (hT : Tidy D) {a b : Int} (ha : 0 ≤ a ∧ a < 4294967296 ∧ 0 ≤ b ∧ b < 4294967296) {e : Ent} (g : Good a b e) (t0 : 0 ≤ e.tn) (t1 : e.tn ≤ tn) (hs : Maps.has D (kl a b) = true ∨ Maps.size D < pl) : Tidied (D.put (kl a b) e.dat) pl tn := by
  have hz := size_put (k := kl a b) hT e.dat
  have hs' := h.size
  refine ⟨?_, fun c d hh hb => ?_⟩
  · rw [hz]
    rcases hs with f | f
    · rw [if_pos f]; exact hs'
    · split <;> omega
  · by_cases hne : kl c d = kl a b
    · obtain ⟨rfl, rfl⟩ := kl_inj hb ha hne
      exact ⟨e, fun z => atKey_put_same hT.isMap (kl_key _ _) _ _, g, t0, t1⟩
    · rw [has_put_other hne] at hh
      obtain ⟨e', h1, h2⟩ := h.good c d hh hb
      exact ⟨e', fun z => by rw [atKey_put_other hne]; exact h1 z, h2⟩

/-! ### the keeper -/
structure TlbD (w : World) (K B pl tn : Nat) (D : DataW Unit) : Prop where
  c : w.heap[K + 1]? = some (.cells #[.pointer (some ⟨B + 3, 0, none⟩), .int .i64 pl, .map (some K), .int .u64 tn] 112 (0, 0))
  m : w.ownsMap Tryz.prog 149 entElem K 65 D
  g : Tidied D pl tn
  lim : pl ≤ 64

def inTlb (K k : Nat) : Prop := k = K ∨ k = K + 1

theorem TlbD.kept {w w' : World} {K B pl tn : Nat} {D : DataW Unit} (h : TlbD w K B pl tn D) (e : ∀ k, inTlb K k → w'.heap[k]? = w.heap[k]?) : TlbD w' K B pl tn D :=
  ⟨(e _ (.inr rfl)).trans h.c, owns_at h.m (e _ (.inl rfl)), h.g, h.lim⟩
theorem TlbD.lt {w : World} {K B pl tn : Nat} {D : DataW Unit} (h : TlbD w K B pl tn D) : K + 1 < w.heap.size := (Array.getElem?_eq_some_iff.1 h.c).1
theorem TlbD.kp {S : Nat → Prop} {w w' : World} {K B pl tn : Nat} {D : DataW Unit} (h : TlbD w K B pl tn D) (k : Kp S w w') (hS : ∀ k, inTlb K k → ¬ S k) : TlbD w' K B pl tn D :=
  h.kept fun i hi => k.block i (by have := h.lt; rcases hi with e | e <;> omega) (hS i hi)
theorem TlbD.alloc {w : World} {K B pl tn : Nat} {D : DataW Unit} (h : TlbD w K B pl tn D) (o : Obj) : TlbD (w.alloc o) K B pl tn D := h.kp (Kp.alloc noB w o) (fun _ _ f => f)
theorem TlbD.tidy {w : World} {K B pl tn : Nat} {D : DataW Unit} (h : TlbD w K B pl tn D) : Tidy D := h.m.tidy tlKeyed
theorem TlbD.c0 {w : World} {K B pl tn : Nat} {D : DataW Unit} (h : TlbD w K B pl tn D) : w.cell? ⟨K + 1, 0, none⟩ = some (.pointer (some ⟨B + 3, 0, none⟩)) := by rw [cell_at h.c]; rfl
theorem TlbD.c1 {w : World} {K B pl tn : Nat} {D : DataW Unit} (h : TlbD w K B pl tn D) : w.cell? ⟨K + 1, 1, none⟩ = some (.int .i64 pl) := by rw [cell_at h.c]; rfl
theorem TlbD.c2 {w : World} {K B pl tn : Nat} {D : DataW Unit} (h : TlbD w K B pl tn D) : w.cell? ⟨K + 1, 2, none⟩ = some (.map (some K)) := by rw [cell_at h.c]; rfl
theorem TlbD.c3 {w : World} {K B pl tn : Nat} {D : DataW Unit} (h : TlbD w K B pl tn D) : w.cell? ⟨K + 1, 3, none⟩ = some (.int .u64 tn) := by rw [cell_at h.c]; rfl
theorem TlbD.fz {w : World} {K B pl tn : Nat} {D : DataW Unit} (h : TlbD w K B pl tn D) (j : Nat) : w.frozen? ⟨K + 1, j, none⟩ = false := frozen_at h.c

theorem TlbD.turned {w w' : World} {K B pl tn : Nat} {D D' : DataW Unit} (h : TlbD w K B pl tn D) (ht : w.mapTurned w' K) (ho : w'.ownsMap Tryz.prog 149 entElem K 65 D') (g : Tidied D' pl tn) : TlbD w' K B pl tn D' :=
  ⟨((Kp.turned (S := fun j => j = K) ht rfl).block (K + 1) h.lt (by omega)).trans h.c, ho, g, h.lim⟩

/-- One more turn. -/
theorem TlbD.turn {w : World} {K B pl tn : Nat} {D : DataW Unit} (h : TlbD w K B pl tn D) : TlbD (w.setCell ⟨K + 1, 3, none⟩ (.int .u64 ((tn + 1 : Nat) : Int))) K B pl (tn + 1) D :=
  ⟨heap_setCell_at h.c _, owns_at h.m (Below.heap_setCell _ _ _ _ (by simp)), h.g.later (by omega), h.lim⟩

/-- A page is looked up. -/
theorem zeroFound (w : World) : (zeroValue 168).run Tryz.prog w = .ok (Ent.val ⟨0, 0, 0, false, false, 0, 0, 0⟩) w := by kernel_rfl

theorem TlbD.look {w : World} {K B pl tn : Nat} {D : DataW Unit} (h : TlbD w K B pl tn D) {a b : Int} (ha : 0 ≤ a ∧ a < 4294967296 ∧ 0 ≤ b ∧ b < 4294967296) :
    ∃ e : Ent, (∀ (W : World) (tn' : Nat), TlbD W K B pl tn' D → (Instr.lookup 109 (.map (some K)) (keyV a b) true).run Tryz.prog W = .ok (.tuple #[e.val, .bool (Maps.has D (kl a b))]) W) ∧ (Maps.has D (kl a b) = true → Good a b e ∧ 0 ≤ e.tn ∧ e.tn ≤ tn) := by
  have key : ∀ (W : World) (tn' : Nat), TlbD W K B pl tn' D → ∃ e : Ent, (Instr.lookup 109 (.map (some K)) (keyV a b) true).run Tryz.prog W = .ok (.tuple #[e.val, .bool (Maps.has D (kl a b))]) W ∧ e.dat = D.atKey (kl a b) (Ent.dat ⟨0, 0, 0, false, false, 0, 0, 0⟩) := fun W tn' hW => by
    obtain ⟨v, ps, hrun, hR⟩ := hW.m.look_ok tlKeyed keptT (zeroFound W) (entElem_mk _) (keyK ha.1 ha.2.1 ha.2.2.1 ha.2.2.2)
    obtain ⟨e, rfl, hz⟩ := entElem_inv hR
    exact ⟨e, hrun, (Prod.mk.inj hz).1.symm⟩
  obtain ⟨e, _, he⟩ := key w tn h
  refine ⟨e, fun W tn' hW => ?_, fun hh => ?_⟩
  · obtain ⟨e', hrun, he'⟩ := key W tn' hW
    rw [← he] at he'
    rw [dat_inj he'] at hrun
    exact hrun
  · obtain ⟨e', h1, h2⟩ := h.g.good a b hh ha
    rw [h1] at he
    rw [dat_inj he]
    exact h2

/-- A page is dropped. -/
theorem TlbD.drop {w : World} {K B pl tn : Nat} {D : DataW Unit} (h : TlbD w K B pl tn D) {a b : Int} (ha : 0 ≤ a ∧ a < 4294967296 ∧ 0 ≤ b ∧ b < 4294967296) (ty : TypeId) :
    ∃ w', (Builtin.delete_ #[109, 149] ty #[.map (some K), keyV a b]).run Tryz.prog w = .ok (.tuple #[]) w' ∧ TlbD w' K B pl tn (D.del (kl a b)) ∧ Kp (fun j => j = K) w w' := by
  obtain ⟨w', hrun, hown, ht⟩ := h.m.drop tlKeyed keptT (keyK ha.1 ha.2.1 ha.2.2.1 ha.2.2.2) ty
  exact ⟨w', hrun, h.turned ht hown (h.g.del h.tidy _), Kp.turned ht rfl⟩

/-- A page is kept. -/
theorem TlbD.store {w : World} {K B pl tn : Nat} {D : DataW Unit} (h : TlbD w K B pl tn D) {a b : Int} (ha : 0 ≤ a ∧ a < 4294967296 ∧ 0 ≤ b ∧ b < 4294967296) {e : Ent} (g : Good a b e) (t0 : 0 ≤ e.tn) (t1 : e.tn ≤ tn) (hs : Maps.has D (kl a b) = true ∨ Maps.size D < pl) :
    ∃ w', (Instr.mapUpdate 109 (.map (some K)) (keyV a b) e.val).run Tryz.prog w = .ok () w' ∧ TlbD w' K B pl tn (D.put (kl a b) e.dat) ∧ Kp (fun j => j = K) w w' := by
  obtain ⟨w', hrun, hown, ht⟩ := h.m.store tlKeyed keptT (by unfold maxLen; omega) (keyK ha.1 ha.2.1 ha.2.2.1 ha.2.2.2) (entElem_mk e)
  have g' := h.g.put h.tidy ha g t0 t1 hs
  have := h.lim
  exact ⟨w', hrun, h.turned ht (owns_tight hown (by have := g'.size; omega)) g', Kp.turned ht rfl⟩
end Go.Proofs.YtmmnnafjikilpaaGreat

/- The contracts of New, Kept and Flush, and of serves. -/
namespace Go.Proofs.YtmmnnafjikilpaaGreat
open Go.ChangeShapes Go.WideShapes Go.ChangeAt Go.RowKit Go.Maps
set_option linter.unusedVariables false

theorem tlNew_no (w : World) (x : Addr) (p : Int) (p0 : -9223372036854775808 ≤ p) (p1 : p ≤ 9223372036854775807) (h : p < 0 ∨ 64 < p) : Calls Tryz.prog 19 #[.pointer (some x), .int .i64 p] w fun e w' => e = .returned (.tuple #[.pointer none, .int .i64 100]) ∧ w' = w := by
  rcases h with h | h
  · have h' : decide (p < 0) = true := decide_eq_true h
    go_enter Tryz.func19, Tryz.ntmps19
    go_wp2
    go_ret2
    exact ⟨rfl, rfl⟩
  · have h' : decide (p < 0) = false := decide_eq_false (by omega)
    have h2 : decide (64 < p) = true := decide_eq_true h
    go_enter Tryz.func19, Tryz.ntmps19
    go_wp2
    go_ret2
    exact ⟨rfl, rfl⟩

theorem tlb_start (w : World) (B pl : Nat) (h : pl ≤ 64) : TlbD ((w.alloc (.map #[] 0)).alloc (.cells #[.pointer (some ⟨B + 3, 0, none⟩), .int .i64 pl, .map (some w.heap.size), .int .u64 0] 112)) w.heap.size B pl 0 (.map []) where
  c := by
    have h := (MapKept.heap_alloc (w.alloc (.map #[] 0)) (.cells #[.pointer (some ⟨B + 3, 0, none⟩), .int .i64 pl, .map (some w.heap.size), .int .u64 0] 112)).1
    simpa using h
  m := ((World.ownsMap_made w Tryz.prog 149 entElem).mono (Nat.zero_le _)).alloc _
  g := Tidied.empty _ _
  lim := h

theorem tlNew_ok (w : World) (B p : Nat) (h : p ≤ 64) : Calls Tryz.prog 19 #[.pointer (some ⟨B + 3, 0, none⟩), .int .i64 p] w fun e w' => e = .returned (.tuple #[.pointer (some ⟨w.heap.size + 1, 0, none⟩), .int .i64 0]) ∧ TlbD w' w.heap.size B p 0 (.map []) ∧ Kp noB w w' := by
  have h' : decide ((p : Int) < 0) = false := decide_eq_false (by omega)
  have h2 : decide (64 < (p : Int)) = false := decide_eq_false (by omega)
  have hmm := @run_makeMap Tryz.prog
  have R := tlb_start w B p h
  have k : Kp noB w ((w.alloc (.map #[] 0)).alloc (.cells #[.pointer (some ⟨B + 3, 0, none⟩), .int .i64 p, .map (some w.heap.size), .int .u64 0] 112)) := (Kp.alloc _ _ _).trans (Kp.alloc _ _ _)
  go_enter Tryz.func19, Tryz.ntmps19
  go_wp2
  go_ret2
  exact ⟨by simp, R, k⟩

theorem run_clearK {w : World} {b : Nat} {es : Array MapEntry} {clock : Nat} (hb : w.heap[b]? = some (.map es clock)) (ty : TypeId) : (Builtin.clear_ #[109] ty #[.map (some b)]).run Tryz.prog w = .ok (.tuple #[]) (ChangeMaps.setBlock w b (.map #[] clock)) := by
  have hs := MapKept.run_setObj_map (P := Tryz.prog) (.map #[] clock) hb
  simp [Builtin.clear_, run_underlying keptT, MapKept.run_getObj_map hb, hs, Result.andThen]
  rfl

theorem kp_setBlockK {S : Nat → Prop} {w : World} {b : Nat} {es : Array MapEntry} {clock : Nat} (hb : w.heap[b]? = some (.map es clock)) (o : Obj) (hS : S b) : Kp S w (ChangeMaps.setBlock w b o) :=
  ⟨rfl, rfl, rfl, by simp [ChangeMaps.setBlock], fun k hk hs => ChangeMaps.heap_setBlock_other hb _ (fun e => hs (e ▸ hS))⟩

theorem tlFlush_ok (w : World) (K B pl tn : Nat) (D : DataW Unit) (h : TlbD w K B pl tn D) : Calls Tryz.prog 56 #[.pointer (some ⟨K + 1, 0, none⟩)] w fun e w' => e = .returned (.tuple #[]) ∧ TlbD w' K B pl tn (.map []) ∧ Kp (inTlb K) w w' := by
  have c2 := h.c2
  obtain ⟨es, clock, hb, hrest⟩ := h.m
  have hcl := run_clearK hb
  have R : TlbD (ChangeMaps.setBlock w K (.map #[] clock)) K B pl tn (.map []) :=
    ⟨(ChangeMaps.heap_setBlock_other hb _ (by omega)).trans h.c, ⟨#[], clock, ChangeMaps.heap_setBlock_same hb _, ⟨by simp, MapKept.stamped_empty clock, by simp⟩, Nat.zero_le _, rfl⟩, Tidied.empty _ _, h.lim⟩
  have hk3 : Kp (inTlb K) w (ChangeMaps.setBlock w K (.map #[] clock)) := kp_setBlockK hb _ (.inl rfl)
  clear hb hrest
  go_enter Tryz.func56, Tryz.ntmps56
  go_wp2
  go_end0
  exact ⟨rfl, R, hk3⟩
end Go.Proofs.YtmmnnafjikilpaaGreat

/- The contract of serves. -/
namespace Go.Proofs.YtmmnnafjikilpaaGreat
open Go.ChangeShapes Go.WideShapes Go.ChangeAt Go.RowKit Go.Maps
set_option linter.unusedVariables false

theorem flg_zero (b : Bool) (k : Int) (hk : 0 < k) : (flg b k == 0) = !b := by
  cases b
  · rfl
  · show (k == 0) = false
    simp; omega
theorem and64 {x : Int} (x0 : 0 ≤ x) (x1 : x < 4294967296) : bits .and .u32 x 64 = flg (hasF x 64) 64 := and_pw x0 x1 6 (by decide)
theorem and_both32 {x y : Int} (x0 : 0 ≤ x) (x1 : x < 4294967296) (y0 : 0 ≤ y) (y1 : y < 4294967296) : bits .and .u32 (bits .and .u32 x y) 32 = flg (hasF x 32 && hasF y 32) 32 := and_both x0 x1 y0 y1 5 (by decide)

set_option maxHeartbeats 1000000 in
theorem serves_any (w : World) (e : Ent) (wr us wp : Bool) (o0 : 0 ≤ e.o) (o1 : e.o < 4294967296) (t0 : 0 ≤ e.t) (t1 : e.t < 4294967296) :
    Calls Tryz.prog 96 #[e.val, wayV wr us wp] w fun x w' => x = .returned (.bool (servesB e wr us)) ∧ Kp noB w w' := by
  obtain ⟨fr, p, q, bw, bu, o, t, tn⟩ := e
  simp only at o0 o1 t0 t1
  have h1 := and64 t0 t1
  have h2 := and_both32 o0 o1 t0 t1
  have f1 := flg_zero (hasF t 64) 64 (by decide)
  have f2 := flg_zero (hasF o 32 && hasF t 32) 32 (by decide)
  have hz : ∀ b c : Bool, (flg (b && c) 32 != 0) = (b && c) := fun b c => by cases b <;> cases c <;> decide
  unfold servesB Ent.val wayV
  simp only
  generalize hasF t 64 = d at *
  have k : Kp noB w ((w.alloc (.cells #[.int .u32 fr, .int .u32 p, .int .u32 q, .bool bw, .bool bu, .int .u32 o, .int .u32 t, .int .u64 tn] 168)).alloc (.cells #[.bool wr, .bool us, .bool wp] 132)) := (Kp.alloc _ _ _).trans (Kp.alloc _ _ _)
  cases wr <;> cases us <;> cases bw <;> cases bu <;> cases d
  all_goals (go_enter Tryz.func96, Tryz.ntmps96; go_wp2; go_ret; exact ⟨by simp, k⟩)
end Go.Proofs.YtmmnnafjikilpaaGreat

/- The contract of read: the words of a walk as they are now. -/
namespace Go.Proofs.YtmmnnafjikilpaaGreat
open Go.ChangeShapes Go.WideShapes Go.ChangeAt Go.RowKit Go.Maps
set_option linter.unusedVariables false

def RowT2 (W : World) (X : Nat) (p q : Int) : Prop := W.heap[X]? = some (.cells #[.int .u32 p, .int .u32 q] 166 (0, 0))
theorem RowT2.c0 {W : World} {X : Nat} {p q : Int} (h : RowT2 W X p q) : W.cell? ⟨X, 0, none⟩ = some (.int .u32 p) := by rw [cell_at h]; rfl
theorem RowT2.c1 {W : World} {X : Nat} {p q : Int} (h : RowT2 W X p q) : W.cell? ⟨X, 1, none⟩ = some (.int .u32 q) := by rw [cell_at h]; rfl
theorem RowT2.fz {W : World} {X : Nat} {p q : Int} (h : RowT2 W X p q) (j : Nat) : W.frozen? ⟨X, j, none⟩ = false := frozen_at h
theorem RowT2.lt {W : World} {X : Nat} {p q : Int} (h : RowT2 W X p q) : X < W.heap.size := (Array.getElem?_eq_some_iff.1 h).1
theorem RowT2.kp {S : Nat → Prop} {W W' : World} {X : Nat} {p q : Int} (h : RowT2 W X p q) (k : Kp S W W') (hS : ¬ S X) : RowT2 W' X p q := (k.block X h.lt hS).trans h
theorem RowT2.s0 {W : World} {X : Nat} {p q : Int} (h : RowT2 W X p q) (v : Int) : RowT2 (W.setCell ⟨X, 0, none⟩ (.int .u32 v)) X v q := heap_setCell_at h _
theorem RowT2.s1 {W : World} {X : Nat} {p q : Int} (h : RowT2 W X p q) (v : Int) : RowT2 (W.setCell ⟨X, 1, none⟩ (.int .u32 v)) X p v := heap_setCell_at h _

theorem cell_kp' {S : Nat → Prop} {W W' : World} {b o : Nat} {v : Value} (h : W.cell? ⟨b, o, none⟩ = some v) (k : Kp S W W') (hb : b < W.heap.size) (hS : ¬ S b) : W'.cell? ⟨b, o, none⟩ = some v := by
  have e := k.block b hb hS
  unfold World.cell? at h ⊢
  simp only [e]
  exact h

set_option maxRecDepth 100000 in
set_option maxHeartbeats 2000000 in
theorem tlRead_ok (w : World) (K B pl tn : Nat) (D : DataW Unit) (M : Mem) (h : TlbD w K B pl tn D) (hr : RamAt w B M) (f p q : Int) (bw bu : Bool) (p0 : 0 ≤ p) (p1 : p < 4294967296) (q0 : 0 ≤ q) (q1 : q < 4294967296) :
    Calls Tryz.prog 95 #[.pointer (some ⟨K + 1, 0, none⟩), walkV f p q bw bu] w fun e w' => e = .returned (.agg #[.int .u32 (M.read p 4), .int .u32 (M.read q 4)]) ∧ Kp noB w w' := by
  have HR : Hid (∀ W, RamAt W B M → Calls Tryz.prog 69 #[.pointer (some ⟨B + 3, 0, none⟩), .int .u32 p, .int .i64 4] W fun e w' => e = .returned (.tuple #[.int .u32 (M.read p 4), .int .i64 0]) ∧ Kp noB W w') := fun W hW => read_ok W B M hW p 4 p0 p1 rfl
  have HQ : Hid (∀ W, RamAt W B M → Calls Tryz.prog 69 #[.pointer (some ⟨B + 3, 0, none⟩), .int .u32 q, .int .i64 4] W fun e w' => e = .returned (.tuple #[.int .u32 (M.read q 4), .int .i64 0]) ∧ Kp noB W w') := fun W hW => read_ok W B M hW q 4 q0 q1 rfl
  unfold walkV
  obtain ⟨X, hX⟩ : ∃ X, w.heap.size = X := ⟨_, rfl⟩
  have HX : Hid (w.heap.size = X) := hX
  obtain ⟨W0, hW0⟩ : ∃ W, W = (w.alloc (.cells #[.int .u32 f, .int .u32 p, .int .u32 q, .bool bw, .bool bu] 145)).alloc (.cells #[.int .u32 0, .int .u32 0] 166) := ⟨_, rfl⟩
  have k0 : Kp noB w W0 := by rw [hW0]; exact (Kp.alloc _ _ _).trans (Kp.alloc _ _ _)
  have rK : RowK W0 X f p q bw bu := by
    rw [hW0]
    have e0 := (MapKept.heap_alloc w (.cells #[.int .u32 f, .int .u32 p, .int .u32 q, .bool bw, .bool bu] 145)).1
    rw [hX] at e0
    exact (Below.heap_alloc _ _ _ (by simp; omega)).trans e0
  have r2 : RowT2 W0 (X + 1) 0 0 := by
    rw [hW0]
    have e0 := (MapKept.heap_alloc (w.alloc (.cells #[.int .u32 f, .int .u32 p, .int .u32 q, .bool bw, .bool bu] 145)) (.cells #[.int .u32 0, .int .u32 0] 166)).1
    have e1 : (w.alloc (.cells #[.int .u32 f, .int .u32 p, .int .u32 q, .bool bw, .bool bu] 145)).heap.size = X + 1 := by simp [hX]
    rw [e1] at e0
    exact e0
  have h0 : RamAt W0 B M := hr.kp k0 (fun _ _ f => f)
  have t0 : TlbD W0 K B pl tn D := h.kp k0 (fun _ _ f => f)
  clear hr h
  go_enter Tryz.func95, Tryz.ntmps95
  go_upto_region 1 with fail
  rw [← hW0]
  have e1 : X + 1 = X + 1 := rfl
  clear hW0 hX e1
  have hT := t0.lt
  have hXl := rK.lt
  have a0 : RamAt W0.drew B M := h0.kept (fun _ _ => rfl)
  have HS0 : Hid (W0.drew.cell? ⟨K + 1, 0, none⟩ = some (.pointer (some ⟨B + 3, 0, none⟩)) ∧ W0.drew.cell? ⟨X, 1, none⟩ = some (.int .u32 p)) := ⟨t0.c0, rK.c1⟩
  have HSK : Hid (∀ W', Kp noB W0.drew W' → (W'.cell? ⟨K + 1, 0, none⟩ = some (.pointer (some ⟨B + 3, 0, none⟩)) ∧ W'.cell? ⟨X, 1, none⟩ = some (.int .u32 p))) := fun W' k => ⟨cell_kp' HS0.out.1 k hT (fun f => f), cell_kp' HS0.out.2 k hXl (fun f => f)⟩
  clear hT hXl
  go_region_held3 (fun W => W.cell? ⟨K + 1, 0, none⟩ = some (.pointer (some ⟨B + 3, 0, none⟩)) ∧ W.cell? ⟨X, 1, none⟩ = some (.int .u32 p))
    (first | with_reducible exact HS0.out | with_reducible exact HSK.out _ k1)
    (first | (go_at_call 69; refine (HR.out _ (by assumption)).mono ?_; rintro e w1 ⟨rfl, k1⟩))
  replace k1 : Kp noB W0 w1 := ⟨k1.os, k1.tape, k1.output, k1.size, k1.block⟩
  replace rK := rK.kp k1 (fun f => f)
  replace r2 := r2.kp k1 (fun f => f)
  replace h0 := h0.kp k1 (fun _ _ f => f)
  replace t0 := t0.kp k1 (fun _ _ f => f)
  replace k0 := k0.trans k1
  clear a0 HS0 HSK HR k1
  have hT := t0.lt
  have hXl := rK.lt
  have a0 : RamAt w1.drew B M := h0.kept (fun _ _ => rfl)
  have HS0 : Hid (w1.drew.cell? ⟨K + 1, 0, none⟩ = some (.pointer (some ⟨B + 3, 0, none⟩)) ∧ w1.drew.cell? ⟨X, 2, none⟩ = some (.int .u32 q)) := ⟨t0.c0, rK.c2⟩
  have HSK : Hid (∀ W', Kp noB w1.drew W' → (W'.cell? ⟨K + 1, 0, none⟩ = some (.pointer (some ⟨B + 3, 0, none⟩)) ∧ W'.cell? ⟨X, 2, none⟩ = some (.int .u32 q))) := fun W' k => ⟨cell_kp' HS0.out.1 k hT (fun f => f), cell_kp' HS0.out.2 k hXl (fun f => f)⟩
  clear hT hXl
  go_upto_region 2 with fail
  go_region_held3 (fun W => W.cell? ⟨K + 1, 0, none⟩ = some (.pointer (some ⟨B + 3, 0, none⟩)) ∧ W.cell? ⟨X, 2, none⟩ = some (.int .u32 q))
    (first | with_reducible exact HS0.out | with_reducible exact HSK.out _ k2)
    (first | (go_at_call 69; refine (HQ.out _ (by assumption)).mono ?_; rintro e w2 ⟨rfl, k2⟩))
  replace k2 : Kp noB w1 w2 := ⟨k2.os, k2.tape, k2.output, k2.size, k2.block⟩
  replace r2 := r2.kp k2 (fun f => f)
  replace k0 := k0.trans k2
  clear a0 HS0 HSK HQ k2
  have d0 := r2.c0; have d1 := r2.c1
  have f0 := r2.fz 0; have f1 := r2.fz 1
  have z0 := r2.s0 (M.read p 4)
  have z1 := z0.s1 (M.read q 4)
  go_wp2
  refine bodyPost_ret (v := .agg #[.int .u32 (M.read p 4), .int .u32 (M.read q 4)]) ?_ rfl ⟨rfl, ?_⟩
  · simp [results, Tryz.results95, go_sem, z0.c0, z1.c1]
  · exact (k0.own' (by have := HX.out; omega) _).own' (by have := HX.out; omega) _
end Go.Proofs.YtmmnnafjikilpaaGreat

/- The contracts of oldest and Drop: what goes through the pages that are kept, in whatever order. -/
namespace Go.Proofs.YtmmnnafjikilpaaGreat
open Go.ChangeShapes Go.WideShapes Go.ChangeAt Go.RowKit Go.Maps
set_option linter.unusedVariables false

theorem invK (key : Value) (l : Lit) (h : keyOf Tryz.prog 149 key = some l) : ∃ x : Int × Int, key = keyV x.1 x.2 := by
  obtain ⟨a, b, h1, _⟩ := keyInv h
  exact ⟨(a, b), h1⟩
theorem invV (v : Value) (y : DataW Unit × List MemPlace) (h : entElem v = some y) : ∃ e : Ent, v = e.val := by
  obtain ⟨e, h1, _⟩ := entElem_inv h
  exact ⟨e, h1⟩

/-- The key in a block of its own. -/
def RowKy (W : World) (X : Nat) (a b : Int) : Prop := W.heap[X]? = some (.cells #[.int .u32 a, .int .u32 b] 149 (0, 0))
theorem RowKy.c0 {W : World} {X : Nat} {p q : Int} (h : RowKy W X p q) : W.cell? ⟨X, 0, none⟩ = some (.int .u32 p) := by rw [cell_at h]; rfl
theorem RowKy.c1 {W : World} {X : Nat} {p q : Int} (h : RowKy W X p q) : W.cell? ⟨X, 1, none⟩ = some (.int .u32 q) := by rw [cell_at h]; rfl
theorem RowKy.fz {W : World} {X : Nat} {p q : Int} (h : RowKy W X p q) (j : Nat) : W.frozen? ⟨X, j, none⟩ = false := frozen_at h
theorem RowKy.lt {W : World} {X : Nat} {p q : Int} (h : RowKy W X p q) : X < W.heap.size := (Array.getElem?_eq_some_iff.1 h).1
theorem RowKy.kp {S : Nat → Prop} {W W' : World} {X : Nat} {p q : Int} (h : RowKy W X p q) (k : Kp S W W') (hS : ¬ S X) : RowKy W' X p q := (k.block X h.lt hS).trans h
theorem RowKy.s0 {W : World} {X : Nat} {p q : Int} (h : RowKy W X p q) (v : Int) : RowKy (W.setCell ⟨X, 0, none⟩ (.int .u32 v)) X v q := heap_setCell_at h _
theorem RowKy.s1 {W : World} {X : Nat} {p q : Int} (h : RowKy W X p q) (v : Int) : RowKy (W.setCell ⟨X, 1, none⟩ (.int .u32 v)) X p v := heap_setCell_at h _

theorem ranges_kp {S : Nat → Prop} {w w' : World} {k : TypeId} {R : Value → Option (DataW Unit × List MemPlace)} {b r n : Nat} {D : DataW Unit} {left : Lit → Bool} {cnt : Nat} (h : w.ranges Tryz.prog k R b r n D left cnt) (q : Kp S w w') (hb : ¬ S b) (hr : ¬ S r) : w'.ranges Tryz.prog k R b r n D left cnt := by
  have hlt := h.lt
  have hlb := h.owns.lt
  obtain ⟨es, clock, since, seen, c0, h1, h2, h3, h4, h5, rest⟩ := h
  exact ⟨es, clock, since, seen, c0, (q.block _ hlb hb).trans h1, h2, h3, h4, (q.block _ hlt hr).trans h5, rest⟩

theorem some_key {w : World} {K B pl tn : Nat} {D : DataW Unit} (h : TlbD w K B pl tn D) (hn : 0 < Maps.size D) : ∃ l, Maps.has D l = true := by
  obtain ⟨es, rfl, _, hk⟩ := h.m.entries tlKeyed
  cases es with
  | nil => simp [Maps.size] at hn
  | cons p r => exact ⟨p.1, by rw [Maps.has_eq]; simp [WideAt.sameKey_self (hk p (by simp))]⟩

/-- How far oldest has come. -/
def OldSt (D : DataW Unit) (left : Lit → Bool) (x a b : Int) : Prop :=
  (0 ≤ x ∧ x ≤ 18446744073709551615) ∧ ((x = 18446744073709551615 ∧ left = Maps.has D) ∨ (Maps.has D (kl a b) = true ∧ (0 ≤ a ∧ a < 4294967296 ∧ 0 ≤ b ∧ b < 4294967296)))

def OldRel (w : World) (K X : Nat) (D : DataW Unit) (s : Value) (wr : World) : Prop :=
  ∃ (left : Lit → Bool) (cnt : Nat) (x a b : Int), s = .int .u64 x ∧ wr.ranges Tryz.prog 149 entElem K (X + 2) 65 D left cnt ∧ RowKy wr X 0 0 ∧ RowKy wr (X + 1) a b ∧ OldSt D left x a b ∧ Kp noB w wr

set_option maxRecDepth 100000 in
set_option maxHeartbeats 2000000 in
theorem oldest_ok (w : World) (K B pl tn : Nat) (D : DataW Unit) (h : TlbD w K B pl tn D) (hn : 0 < Maps.size D) (htn : tn < 18446744073709551615) :
    Calls Tryz.prog 104 #[.pointer (some ⟨K + 1, 0, none⟩)] w fun e w' => ∃ a b : Int, e = .returned (keyV a b) ∧ Maps.has D (kl a b) = true ∧ (0 ≤ a ∧ a < 4294967296 ∧ 0 ≤ b ∧ b < 4294967296) ∧ Kp noB w w' := by
  obtain ⟨X, hX⟩ : ∃ X, w.heap.size = X := ⟨_, rfl⟩
  have HX : Hid (w.heap.size = X) := hX
  obtain ⟨W0, hW0⟩ : ∃ W, W = (w.alloc (.cells #[.int .u32 0, .int .u32 0] 149)).alloc (.cells #[.int .u32 0, .int .u32 0] 149) := ⟨_, rfl⟩
  have k0 : Kp noB w W0 := by rw [hW0]; exact (Kp.alloc _ _ _).trans (Kp.alloc _ _ _)
  have r0 : RowKy W0 X 0 0 := by
    rw [hW0]
    have e0 := (MapKept.heap_alloc w (.cells #[.int .u32 0, .int .u32 0] 149)).1
    rw [hX] at e0
    exact (Below.heap_alloc _ _ _ (by simp; omega)).trans e0
  have hs0 : W0.heap.size = X + 2 := by rw [hW0]; simp [hX]
  have r1 : RowKy W0 (X + 1) 0 0 := by
    rw [hW0]
    have e0 := (MapKept.heap_alloc (w.alloc (.cells #[.int .u32 0, .int .u32 0] 149)) (.cells #[.int .u32 0, .int .u32 0] 149)).1
    have e1 : (w.alloc (.cells #[.int .u32 0, .int .u32 0] 149)).heap.size = X + 1 := by simp [hX]
    rw [e1] at e0
    exact e0
  have t0 : TlbD W0 K B pl tn D := h.kp k0 (fun _ _ f => f)
  have c2 := t0.c2
  have hown := t0.m
  go_enter Tryz.func104, Tryz.ntmps104
  go_upto_region 3 with fail
  rw [← hW0]
  have hgood := h.g.good
  have HN : Hid (∃ l, Maps.has D l = true) := some_key h hn
  have hK := h.lt
  have hKX : K + 1 < X := by rw [← hX]; exact hK
  clear hW0 hX h t0 hK
  go_wp2_with (first
    | (at_range; refine wpList_range_own _ rfl _ 109 rfl 149 168 tlKeyed keptT _ K 65 D rfl hown ?_; intro w0 hrg0 hg0 hs1)
    | go_in)
  rw [hs0] at hrg0 ⊢
  go_frame
  have kg : Kp noB W0 w0 := Kp.grownBy hg0 (fun b hb => by cases hb)
  go_loopw [4] (fun s wr => OldRel w K X D s wr) (fun _ wr => wr.rangeLeft K (X + 2))
  case atStart => exact ⟨_, _, 18446744073709551615, 0, 0, rfl, hrg0, r0.kp kg (fun f => f), r1.kp kg (fun f => f), ⟨by omega, .inl ⟨rfl, rfl⟩⟩, k0.trans kg⟩
  case round =>
    obtain ⟨left, cnt, x, a, b, rfl, hrg, q0, q1, hst, kk⟩ := hrel
    clear hrg0 hg0 hs1 kg r0 r1 c2 hown k0
    have HG : Hid (∀ (a b : Int) (e : Ent) (y : DataW Unit × List MemPlace), entElem e.val = some y → (∀ z, D.atKey (kl a b) z = y.1) → (0 ≤ a ∧ a < 4294967296 ∧ 0 ≤ b ∧ b < 4294967296) → Maps.has D (kl a b) = true ∧ 0 ≤ e.tn ∧ e.tn < 18446744073709551615) := fun a b e y h1 h2 h3 => by
      have hh : Maps.has D (kl a b) = true := has_true_of_atKey h2
      obtain ⟨e', g1, _, g2, g3⟩ := hgood a b hh h3
      rw [entElem_mk] at h1
      have e1 : y = (e.dat, []) := (Option.some.inj h1).symm
      have e2 : e.dat = e'.dat := by rw [← g1 (.lit (.bool true)), h2, e1]
      rw [dat_inj e2]
      exact ⟨hh, g2, by omega⟩
    obtain ⟨⟨x0, x1⟩, hst⟩ := hst
    have HST := hst
    clear hgood hst
    go_wp2_with (first
      | (at_next; refine wpList_next_ranges _ rfl _ rfl 149 tlKeyed entElem (fun x : Int × Int => keyV x.1 x.2) Ent.val invK invV K (X + 2) 65 D left cnt rfl hrg ?_ ?_)
      | go_in)
    · intro hc hl
      have hfin : Maps.has D (kl a b) = true ∧ (0 ≤ a ∧ a < 4294967296 ∧ 0 ≤ b ∧ b < 4294967296) := by
        rcases HST with ⟨_, e⟩ | e
        · obtain ⟨l, hl'⟩ := HN.out
          rw [← e, hl l] at hl'
          cases hl'
        · exact e
      clear HST HG HN hrg
      have d0 := q1.c0; have d1 := q1.c1
      have g0 := q0.c0; have g1 := q0.c1
      have f0 := q0.fz 0; have f1 := q0.fz 1
      have z0 := q0.s0 a
      have z1 := z0.s1 b
      go_wp2
      refine bodyPost_ret (v := keyV a b) ?_ rfl ⟨a, b, rfl, hfin.1, hfin.2, ?_⟩
      · simp [results, Tryz.results104, go_sem, keyV, z0.c0, z1.c1]
      · exact (kk.own' (by have := HX.out; omega) _).own' (by have := HX.out; omega) _
    · intro y1 y2 e kl' yd yp w1 cnt1 hkey hlk hR hat hrg1 hlt hg1 hs1 hen
      obtain ⟨a', b', hv, hb, rfl⟩ := keyInv hkey
      have hab : y1 = a' ∧ y2 = b' := by unfold keyV at hv; simpa using hv
      obtain ⟨rfl, rfl⟩ := hab
      obtain ⟨hh, t0, t1⟩ := HG.out _ _ e (yd, yp) hR hat hb
      obtain ⟨fr, p, q, bw, bu, o, t, en⟩ := e
      simp only at t0 t1
      unfold keyV Ent.val at hen ⊢
      simp only at hen ⊢
      clear hv hR hat hkey HG
      have HM : Hid (wr.rangeLeft K (X + 2) = cnt) := hrg.left_eq
      have k1 : Kp (fun j => j = X + 2) wr w1 := Kp.grownBy hg1 (fun b hb => by cases hb; rfl)
      replace kk : Kp noB w w1 := kk.over k1 (fun j hj e => by have := HX.out; omega)
      replace q0 := q0.kp k1 (by omega)
      replace q1 := q1.kp k1 (by omega)
      have hZ : X + 2 < wr.heap.size := hrg.lt
      clear hrg k1 hg1 hlk
      go_upto_region 6 with fail
      obtain ⟨W5, hW5⟩ : ∃ W, W = (w1.alloc (.cells #[.int .u32 y1, .int .u32 y2] 149)).alloc (.cells #[.int .u32 fr, .int .u32 p, .int .u32 q, .bool bw, .bool bu, .int .u32 o, .int .u32 t, .int .u64 en] 168) := ⟨_, rfl⟩
      rw [← hW5]
      have k5 : Kp noB w1 W5 := by rw [hW5]; exact (Kp.alloc _ _ _).trans (Kp.alloc _ _ _)
      obtain ⟨Z, hZe⟩ : ∃ Z, Z = wr.heap.size := ⟨_, rfl⟩
      have rY : RowKy W5 Z y1 y2 := by
        rw [hW5, hZe, ← hs1]
        exact (Below.heap_alloc _ _ _ (by simp)).trans (MapKept.heap_alloc w1 _).1
      have rE : W5.cell? ⟨Z + 1, 7, none⟩ = some (.int .u64 en) := by
        rw [hW5, hZe, ← hs1]
        have e0 := (MapKept.heap_alloc (w1.alloc (.cells #[.int .u32 y1, .int .u32 y2] 149)) (.cells #[.int .u32 fr, .int .u32 p, .int .u32 q, .bool bw, .bool bu, .int .u32 o, .int .u32 t, .int .u64 en] 168)).1
        have e1 : (w1.alloc (.cells #[.int .u32 y1, .int .u32 y2] 149)).heap.size = w1.heap.size + 1 := by simp
        rw [e1] at e0
        rw [cell_at e0]; rfl
      rw [← hZe] at hZ ⊢
      replace hrg1 := ranges_kp hrg1 k5 (fun f => f) (fun f => f)
      replace q0 := q0.kp k5 (fun f => f)
      replace q1 := q1.kp k5 (fun f => f)
      replace kk := kk.trans k5
      clear k5 hW5 hen hs1 hZe
      have d0 := rY.c0; have d1 := rY.c1
      by_cases hlt2 : en < x
      · have hd : decide (en < x) = true := decide_eq_true hlt2
        have g0 := q1.c0; have g1 := q1.c1
        have f0 := q1.fz 0; have f1 := q1.fz 1
        have z1 := (q1.s0 y1).s1 y2
        have kz : Kp (fun j => j = X + 1) W5 ((W5.setCell ⟨X + 1, 0, none⟩ (.int .u32 y1)).setCell ⟨X + 1, 1, none⟩ (.int .u32 y2)) := (Kp.setCell (S := fun j => j = X + 1) W5 (p := ⟨X + 1, 0, none⟩) rfl _).trans (Kp.setCell (S := fun j => j = X + 1) _ (p := ⟨X + 1, 1, none⟩) rfl _)
        go_wp2
        go_region
        go_wp2
        go_roundw
        case rel => exact ⟨_, cnt1, en, y1, y2, rfl, ranges_kp hrg1 kz.drew (by omega) (by omega), q0.kp kz.drew (by omega), z1, ⟨by omega, .inr ⟨hh, hb⟩⟩, kk.over kz.drew (fun j hj e => by have := HX.out; omega)⟩
        case measure => rw [(ranges_kp hrg1 kz.drew (by omega) (by omega)).left_eq, HM.out]; exact hlt
      · have hd : decide (en < x) = false := decide_eq_false hlt2
        go_wp2
        go_roundw
        case rel =>
          refine ⟨_, cnt1, x, a, b, rfl, hrg1, q0, q1, ⟨by omega, ?_⟩, kk⟩
          rcases HST with ⟨e1, _⟩ | e
          · omega
          · exact .inr e
        case measure => rw [hrg1.left_eq, HM.out]; exact hlt

/-- How far Drop has come. -/
def DropRel (w : World) (K B pl tn X : Nat) (D : DataW Unit) (wr : World) : Prop :=
  ∃ (D' : DataW Unit) (left : Lit → Bool) (cnt : Nat), wr.ranges Tryz.prog 149 entElem K X 65 D' left cnt ∧ TlbD wr K B pl tn D' ∧ Maps.size D' ≤ Maps.size D ∧ Kp (fun j => j = K) w wr

set_option maxRecDepth 100000 in
set_option maxHeartbeats 2000000 in
theorem tlDrop_ok (w : World) (K B pl tn : Nat) (D : DataW Unit) (h : TlbD w K B pl tn D) (l : Int) (l0 : 0 ≤ l) (l1 : l < 4294967296) :
    Calls Tryz.prog 57 #[.pointer (some ⟨K + 1, 0, none⟩), .int .u32 l] w fun e w' => e = .returned (.tuple #[]) ∧ (∃ D', TlbD w' K B pl tn D' ∧ Maps.size D' ≤ Maps.size D) ∧ Kp (fun j => j = K) w w' := by
  obtain ⟨X, hX⟩ : ∃ X, w.heap.size = X := ⟨_, rfl⟩
  have HX : Hid (w.heap.size = X) := hX
  have c2 := h.c2
  have hown := h.m
  have hnl := not4095 l0 l1
  have hK := h.lt
  rw [hX] at hK
  go_enter Tryz.func57, Tryz.ntmps57
  go_wp2_with (first
    | (at_range; refine wpList_range_own _ rfl _ 109 rfl 149 168 tlKeyed keptT _ K 65 D rfl hown ?_; intro w0 hrg0 hg0 hs1)
    | go_in)
  rw [HX.out] at hrg0
  try rw [HX.out]
  go_frame
  have kg : Kp noB w w0 := Kp.grownBy hg0 (fun b hb => by cases hb)
  go_loopw [4] (fun _ wr => DropRel w K B pl tn X D wr) (fun _ wr => wr.rangeLeft K X)
  case atStart => exact ⟨D, _, _, hrg0, h.kp kg (fun _ _ f => f), Nat.le_refl _, kg.mono (fun _ _ f => f.elim)⟩
  case round =>
    obtain ⟨D', left, cnt, hrg, ht, hsz, kk⟩ := hrel
    clear hrg0 hg0 hs1 kg c2 hown h hX
    go_wp2_with (first
      | (at_next; refine wpList_next_ranges _ rfl _ rfl 149 tlKeyed entElem (fun x : Int × Int => keyV x.1 x.2) Ent.val invK invV K X 65 D' left cnt rfl hrg ?_ ?_)
      | go_in)
    · intro hc hl
      go_wp2
      go_end0
      exact ⟨rfl, ⟨D', ht, hsz⟩, kk⟩
    · intro y1 y2 e kl' yd yp w1 cnt1 hkey hlk hR hat hrg1 hlt hg1 hs1 hen
      obtain ⟨a', b', hv, hb, rfl⟩ := keyInv hkey
      have hab : y1 = a' ∧ y2 = b' := by unfold keyV at hv; simpa using hv
      obtain ⟨rfl, rfl⟩ := hab
      have hkK := keyK hb.1 hb.2.1 hb.2.2.1 hb.2.2.2
      unfold keyV at hen hkK ⊢
      clear hv hR hat hkey
      have HM : Hid (wr.rangeLeft K X = cnt) := hrg.left_eq
      have k1 : Kp (fun j => j = X) wr w1 := Kp.grownBy hg1 (fun b hb => by cases hb; rfl)
      replace kk : Kp (fun j => j = K) w w1 := kk.over k1 (fun j hj e => by have := HX.out; omega)
      replace ht := ht.kp k1 (fun j hj e => by rcases hj with f | f <;> omega)
      clear hrg k1 hg1 hlk
      go_upto_region 4 with fail
      obtain ⟨W5, hW5⟩ : ∃ W, W = w1.alloc (.cells #[.int .u32 y1, .int .u32 y2] 149) := ⟨_, rfl⟩
      rw [← hW5]
      have k5 : Kp noB w1 W5 := by rw [hW5]; exact Kp.alloc _ _ _
      obtain ⟨Z, hZe⟩ : ∃ Z, Z = wr.heap.size := ⟨_, rfl⟩
      have rY : RowKy W5 Z y1 y2 := by
        rw [hW5, hZe, ← hs1]
        exact (MapKept.heap_alloc w1 _).1
      rw [← hZe]
      replace hrg1 := ranges_kp hrg1 k5 (fun f => f) (fun f => f)
      replace ht := ht.kp k5 (fun _ _ f => f)
      replace kk := kk.over k5 (fun _ _ f => f.elim)
      clear k5 hW5 hen hs1 hZe
      have d0 := rY.c0; have d1 := rY.c1
      have c2 := ht.c2
      have hrgD : W5.drew.ranges Tryz.prog 149 entElem K X 65 D' (fun z => left z && !z.sameKey (kl y1 y2)) cnt1 := hrg1
      obtain ⟨w2, cnt2, hrun, hrg2, hle, hturn⟩ := hrgD.drop tlKeyed keptT hkK 0
      by_cases heq : y2 = l - l % 4096
      · have hd : (y2 == l - l % 4096) = true := by simpa using heq
        clear heq
        go_wp2
        go_region
        go_wp2
        rw [strike_twice] at hrg2
        have ht2 : TlbD w2 K B pl tn (D'.del (kl y1 y2)) := (show TlbD W5.drew K B pl tn D' from ht.kept (fun _ _ => rfl)).turned hturn hrg2.owns (ht.g.del ht.tidy _)
        have hs2 := size_del (k := kl y1 y2) ht.tidy
        go_roundw
        case rel => exact ⟨_, _, cnt2, hrg2, ht2, by omega, kk.trans ((Kp.refl _ W5).drew.trans (Kp.turned hturn rfl))⟩
        case measure => rw [hrg2.left_eq, HM.out]; omega
      · have hd : (y2 == l - l % 4096) = false := by simpa using heq
        clear hrun hrg2 hle hturn hrgD
        go_wp2
        go_roundw
        case rel => exact ⟨D', _, cnt1, hrg1, ht, hsz, kk⟩
        case measure => rw [hrg1.left_eq, HM.out]; exact hlt
end Go.Proofs.YtmmnnafjikilpaaGreat

/- The contract of keep. -/
namespace Go.Proofs.YtmmnnafjikilpaaGreat
open Go.ChangeShapes Go.WideShapes Go.ChangeAt Go.RowKit Go.Maps
set_option linter.unusedVariables false

set_option maxRecDepth 100000 in
set_option maxHeartbeats 4000000 in
theorem keep_ok (w : World) (K B pl tn : Nat) (D : DataW Unit) (M : Mem) (h : TlbD w K B pl tn D) (hr : RamAt w B M) (a b f p q : Int) (bw bu : Bool) (hb : 0 ≤ a ∧ a < 4294967296 ∧ 0 ≤ b ∧ b < 4294967296)
    (p0 : 0 ≤ p) (p1 : p < 4294967296) (q0 : 0 ≤ q) (q1 : q < 4294967296) (htn : tn < 18446744073709551614) (hg : Good a b ⟨f, p, q, bw, bu, M.read p 4, M.read q 4, ((tn + 1 : Nat) : Int)⟩) (hBK : ∀ j, inTlb K j → ¬ inRam B M.n j) :
    Calls Tryz.prog 98 #[.pointer (some ⟨K + 1, 0, none⟩), keyV a b, walkV f p q bw bu] w fun e w' => e = .returned (.tuple #[]) ∧ (∃ D' tn', TlbD w' K B pl tn' D' ∧ tn' ≤ tn + 1) ∧ Kp (inTlb K) w w' := by
  unfold keyV walkV
  obtain ⟨X, hX⟩ : ∃ X, w.heap.size = X := ⟨_, rfl⟩
  have HX : Hid (w.heap.size = X) := hX
  obtain ⟨W0, hW0⟩ : ∃ W, W = (w.alloc (.cells #[.int .u32 a, .int .u32 b] 149)).alloc (.cells #[.int .u32 f, .int .u32 p, .int .u32 q, .bool bw, .bool bu] 145) := ⟨_, rfl⟩
  have k0 : Kp noB w W0 := by rw [hW0]; exact (Kp.alloc _ _ _).trans (Kp.alloc _ _ _)
  have hs0 : W0.heap.size = X + 2 := by rw [hW0]; simp [hX]
  have rY : RowKy W0 X a b := by
    rw [hW0]
    have e0 := (MapKept.heap_alloc w (.cells #[.int .u32 a, .int .u32 b] 149)).1
    rw [hX] at e0
    exact (Below.heap_alloc _ _ _ (by simp; omega)).trans e0
  have rK : RowK W0 (X + 1) f p q bw bu := by
    rw [hW0]
    have e0 := (MapKept.heap_alloc (w.alloc (.cells #[.int .u32 a, .int .u32 b] 149)) (.cells #[.int .u32 f, .int .u32 p, .int .u32 q, .bool bw, .bool bu] 145)).1
    have e1 : (w.alloc (.cells #[.int .u32 a, .int .u32 b] 149)).heap.size = X + 1 := by simp [hX]
    rw [e1] at e0
    exact e0
  have h0 : RamAt W0 B M := hr.kp k0 (fun _ _ f => f)
  have t0 : TlbD W0 K B pl tn D := h.kp k0 (fun _ _ f => f)
  have hKX : K + 1 < X := by rw [← hX]; exact h.lt
  clear hr h
  have c1 := t0.c1
  by_cases hp : pl = 0
  · subst hp
    go_enter Tryz.func98, Tryz.ntmps98
    go_upto_region 1 with fail
    rw [← hW0]
    clear hW0
    go_wp2
    exact bodyPost_ret (v := .tuple #[]) (by simp [results, Tryz.results98]) rfl ⟨rfl, ⟨D, tn, t0, by omega⟩, k0.mono (fun _ _ f => f.elim)⟩
  · have hp' : ((pl : Int) == 0) = false := by simp; omega
    go_enter Tryz.func98, Tryz.ntmps98
    go_upto_region 1 with fail
    rw [← hW0]
    clear hW0
    go_upto_region 2 with fail
    have c2 := t0.c2
    have d0 := rY.c0; have d1 := rY.c1
    obtain ⟨e, hlka, _⟩ := t0.look hb
    obtain ⟨fr', p', q', bw', bu', o', t', en'⟩ := e
    obtain ⟨hs, hhs⟩ : ∃ s, s = Maps.has D (kl a b) := ⟨_, rfl⟩
    rw [← hhs] at hlka
    have HHS : Hid (hs = Maps.has D (kl a b)) := hhs
    clear hhs
    unfold keyV Ent.val at hlka
    simp only at hlka
    have tZ := t0.alloc (.cells #[.int .u32 0, .int .u32 0, .int .u32 0, .bool false, .bool false, .int .u32 0, .int .u32 0, .int .u64 0] 168)
    have rZ := rY.kp (Kp.alloc noB W0 (.cells #[.int .u32 0, .int .u32 0, .int .u32 0, .bool false, .bool false, .int .u32 0, .int .u32 0, .int .u64 0] 168)) (fun f => f)
    have c2Z := tZ.c2
    have d0Z := rZ.c0; have d1Z := rZ.c1
    have hlk := hlka W0.drew tn (t0.kept (fun _ _ => rfl))
    have hlk2 := hlka (W0.alloc (.cells #[.int .u32 0, .int .u32 0, .int .u32 0, .bool false, .bool false, .int .u32 0, .int .u32 0, .int .u64 0] 168)).drew tn (tZ.kept (fun _ _ => rfl))
    clear tZ rZ hlka
    go_region
    all_goals
      obtain ⟨W2, hW2⟩ : ∃ W, W = (W0.alloc (.cells #[.int .u32 fr', .int .u32 p', .int .u32 q', .bool bw', .bool bu', .int .u32 o', .int .u32 t', .int .u64 en'] 168)).drew := ⟨_, rfl⟩
      rw [← hW2]
      have k2 : Kp noB W0 W2 := by rw [hW2]; exact (Kp.alloc _ _ _).drew
      replace t0 := t0.kp k2 (fun _ _ f => f)
      replace h0 := h0.kp k2 (fun _ _ f => f)
      replace rY := rY.kp k2 (fun f => f)
      replace rK := rK.kp k2 (fun f => f)
      replace k0 := k0.trans k2
      clear hW2 k2 c1 c2 d0 d1 c2Z d0Z d1Z hlk hlk2
      have c1 := t0.c1
      have c2 := t0.c2
      have hl := fun (n : Nat) => (show TlbD (W2.drewN n) K B pl tn D from t0.kept (fun _ _ => rfl)).m.len keptT
      clear hs0
      have hcase : (hs = false ∧ (pl : Int) ≤ (Maps.size D : Int)) ∨ (hs = false ∧ ¬ (pl : Int) ≤ (Maps.size D : Int)) ∨ hs = true := by
        cases hs
        · by_cases hle : (pl : Int) ≤ (Maps.size D : Int)
          · exact .inl ⟨rfl, hle⟩
          · exact .inr (.inl ⟨rfl, hle⟩)
        · exact .inr (.inr rfl)
      rcases hcase with ⟨rfl, hle⟩ | ⟨rfl, hle⟩ | rfl
      · -- all places are taken: the oldest goes
        have hd : decide ((pl : Int) ≤ (Maps.size D : Int)) = true := decide_eq_true hle
        go_upto_region 3 with fail
        go_quiet (fail)
        obtain ⟨W3, hW3⟩ : ∃ W, W = W2.drewN nq := ⟨_, rfl⟩
        rw [← hW3]
        have k3 : Kp noB W2 W3 := by rw [hW3]; exact (Kp.refl noB W2).drewN _
        replace t0 := t0.kp k3 (fun _ _ f => f)
        replace h0 := h0.kp k3 (fun _ _ f => f)
        replace rY := rY.kp k3 (fun f => f)
        replace rK := rK.kp k3 (fun f => f)
        replace k0 := k0.trans k3
        clear hW3 k3 c1 c2 hl
        have tD : TlbD W3.drew K B pl tn D := t0.kept (fun _ _ => rfl)
        have HO : Hid (∀ W, TlbD W K B pl tn D → Calls Tryz.prog 104 #[.pointer (some ⟨K + 1, 0, none⟩)] W fun e w' => ∃ a b : Int, e = .returned (keyV a b) ∧ Maps.has D (kl a b) = true ∧ (0 ≤ a ∧ a < 4294967296 ∧ 0 ≤ b ∧ b < 4294967296) ∧ Kp noB W w') := fun W hW => oldest_ok W K B pl tn D hW (by omega) (by omega)
        have HS0 : Hid (W3.drew.cell? ⟨K + 1, 2, none⟩ = some (.map (some K))) := tD.c2
        have HSK : Hid (∀ W', Kp noB W3.drew W' → W'.cell? ⟨K + 1, 2, none⟩ = some (.map (some K))) := fun W' k => (tD.kp k (fun _ _ f => f)).c2
        have HT : Hid (∀ W', Kp noB W3.drew W' → TlbD W' K B pl tn D) := fun W' k => tD.kp k (fun _ _ f => f)
        go_upto_region 4 with fail
        go_region_held3 (fun W => W.cell? ⟨K + 1, 2, none⟩ = some (.map (some K)))
          (first | with_reducible exact HS0.out | with_reducible exact HSK.out _ k3 | with_reducible exact t4.c2)
          (first | (go_at_call 104; refine (HO.out _ (by assumption)).mono ?_; rintro e w3 ⟨a2, b2, rfl, hh2, hb2, k3⟩; obtain ⟨w4, hdel, t4, k4⟩ := (HT.out _ k3).drop hb2 0; unfold keyV at hdel ⊢))
        replace k3 : Kp noB W3 w3 := ⟨k3.os, k3.tape, k3.output, k3.size, k3.block⟩
        have hsd := size_del (k := kl a2 b2) t0.tidy
        rw [if_pos hh2] at hsd
        have hroom : Maps.has (D.del (kl a2 b2)) (kl a b) = true ∨ Maps.size (D.del (kl a2 b2)) < pl := .inr (by have := t0.g.size; omega)
        have nXK : ¬ X = K := by omega
        have nXK' : ¬ X + 1 = K := by omega
        replace h0 := (h0.kp k3 (fun _ _ f => f)).kp k4 (fun j hj e => hBK K (.inl rfl) (by rw [← e]; exact hj))
        replace rY := (rY.kp k3 (fun f => f)).kp k4 nXK
        replace rK := (rK.kp k3 (fun f => f)).kp k4 nXK'
        replace k0 : Kp (inTlb K) w w4 := ((k0.trans k3).mono (fun _ _ f => f.elim)).trans (k4.mono (fun _ _ e => .inl e))
        clear hdel k4 k3 HT HSK HS0 HO tD t0 hsd hh2 hb2 nXK nXK'
        generalize D.del (kl a2 b2) = D1 at *
        rename TlbD w4 K B pl tn D1 => t1
        clear HHS hle
        have c3 := t1.c3
        have f3 := t1.fz 3
        go_upto_region 6 with fail
        have t2 := t1.turn
        have e1 : ((tn + 1 : Nat) : Int) = (tn : Int) + 1 := rfl
        have k2 : Kp (fun j => j = K + 1) w4 (w4.setCell ⟨K + 1, 3, none⟩ (.int .u64 ((tn : Int) + 1))) := Kp.setCell (S := fun j => j = K + 1) w4 (p := ⟨K + 1, 3, none⟩) rfl _
        rw [e1] at t2 hg
        obtain ⟨V, hV⟩ : ∃ V, V = w4.setCell ⟨K + 1, 3, none⟩ (.int .u64 ((tn : Int) + 1)) := ⟨_, rfl⟩
        rw [← hV] at t2 k2 ⊢
        replace h0 := h0.kp k2 (fun j hj e => hBK (K + 1) (.inr rfl) (by rw [← e]; exact hj))
        replace rY := rY.kp k2 (by omega)
        replace rK := rK.kp k2 (by omega)
        replace k0 := k0.trans (k2.mono (fun _ _ e => .inr e))
        clear hV k2 t1 c3 f3 e1
        have tD : TlbD V.drew K B pl (tn + 1) D1 := t2.kept (fun _ _ => rfl)
        have hD0 : RamAt V.drew B M := h0.kept (fun _ _ => rfl)
        have HR : Hid (∀ W, TlbD W K B pl (tn + 1) D1 → RamAt W B M → Calls Tryz.prog 95 #[.pointer (some ⟨K + 1, 0, none⟩), .agg #[.int .u32 f, .int .u32 p, .int .u32 q, .bool bw, .bool bu]] W fun e w' => e = .returned (.agg #[.int .u32 (M.read p 4), .int .u32 (M.read q 4)]) ∧ Kp noB W w') := fun W hW hW' => tlRead_ok W K B pl (tn + 1) D1 M hW hW' f p q bw bu p0 p1 q0 q1
        have HT : Hid (∀ W', Kp noB V.drew W' → TlbD W' K B pl (tn + 1) D1) := fun W' k => tD.kp k (fun _ _ f => f)
        have HS0 : Hid (V.drew.cell? ⟨K + 1, 2, none⟩ = some (.map (some K)) ∧ V.drew.cell? ⟨K + 1, 3, none⟩ = some (.int .u64 ((tn : Int) + 1)) ∧ V.drew.cell? ⟨X, 0, none⟩ = some (.int .u32 a) ∧ V.drew.cell? ⟨X, 1, none⟩ = some (.int .u32 b) ∧ V.drew.cell? ⟨X + 1, 0, none⟩ = some (.int .u32 f) ∧ V.drew.cell? ⟨X + 1, 1, none⟩ = some (.int .u32 p) ∧ V.drew.cell? ⟨X + 1, 2, none⟩ = some (.int .u32 q) ∧ V.drew.cell? ⟨X + 1, 3, none⟩ = some (.bool bw) ∧ V.drew.cell? ⟨X + 1, 4, none⟩ = some (.bool bu)) := ⟨t2.c2, t2.c3, rY.c0, rY.c1, rK.c0, rK.c1, rK.c2, rK.c3, rK.c4⟩
        have HSK : Hid (∀ W', Kp noB V.drew W' → (W'.cell? ⟨K + 1, 2, none⟩ = some (.map (some K)) ∧ W'.cell? ⟨K + 1, 3, none⟩ = some (.int .u64 ((tn : Int) + 1)) ∧ W'.cell? ⟨X, 0, none⟩ = some (.int .u32 a) ∧ W'.cell? ⟨X, 1, none⟩ = some (.int .u32 b) ∧ W'.cell? ⟨X + 1, 0, none⟩ = some (.int .u32 f) ∧ W'.cell? ⟨X + 1, 1, none⟩ = some (.int .u32 p) ∧ W'.cell? ⟨X + 1, 2, none⟩ = some (.int .u32 q) ∧ W'.cell? ⟨X + 1, 3, none⟩ = some (.bool bw) ∧ W'.cell? ⟨X + 1, 4, none⟩ = some (.bool bu))) := fun W' k => by
          have t := HT.out _ k
          have y := RowKy.kp (W := V.drew) rY k (fun f => f)
          have z := RowK.kp (W := V.drew) rK k (fun f => f)
          exact ⟨t.c2, t.c3, y.c0, y.c1, z.c0, z.c1, z.c2, z.c3, z.c4⟩
        have HSU : Hid (∀ W' W'', Kp noB V.drew W' → Kp (fun j => j = K) W' W'' → (W''.cell? ⟨K + 1, 2, none⟩ = some (.map (some K)) ∧ W''.cell? ⟨K + 1, 3, none⟩ = some (.int .u64 ((tn : Int) + 1)) ∧ W''.cell? ⟨X, 0, none⟩ = some (.int .u32 a) ∧ W''.cell? ⟨X, 1, none⟩ = some (.int .u32 b) ∧ W''.cell? ⟨X + 1, 0, none⟩ = some (.int .u32 f) ∧ W''.cell? ⟨X + 1, 1, none⟩ = some (.int .u32 p) ∧ W''.cell? ⟨X + 1, 2, none⟩ = some (.int .u32 q) ∧ W''.cell? ⟨X + 1, 3, none⟩ = some (.bool bw) ∧ W''.cell? ⟨X + 1, 4, none⟩ = some (.bool bu))) := fun W' W'' k k' => by
          have t := HT.out _ k
          have y := (RowKy.kp (W := V.drew) rY k (fun f => f)).kp k' (by omega)
          have z := (RowK.kp (W := V.drew) rK k (fun f => f)).kp k' (by omega)
          have u : W''.heap[K + 1]? = _ := (k'.block (K + 1) t.lt (by omega)).trans t.c
          exact ⟨by rw [cell_at u]; rfl, by rw [cell_at u]; rfl, y.c0, y.c1, z.c0, z.c1, z.c2, z.c3, z.c4⟩
        go_region_held3 (fun W => (W.cell? ⟨K + 1, 2, none⟩ = some (.map (some K)) ∧ W.cell? ⟨K + 1, 3, none⟩ = some (.int .u64 ((tn : Int) + 1)) ∧ W.cell? ⟨X, 0, none⟩ = some (.int .u32 a) ∧ W.cell? ⟨X, 1, none⟩ = some (.int .u32 b) ∧ W.cell? ⟨X + 1, 0, none⟩ = some (.int .u32 f) ∧ W.cell? ⟨X + 1, 1, none⟩ = some (.int .u32 p) ∧ W.cell? ⟨X + 1, 2, none⟩ = some (.int .u32 q) ∧ W.cell? ⟨X + 1, 3, none⟩ = some (.bool bw) ∧ W.cell? ⟨X + 1, 4, none⟩ = some (.bool bu)))
          (first | with_reducible exact HS0.out | with_reducible exact HSK.out _ k5 | with_reducible exact HSU.out _ _ k5 k6)
          (first | (go_at_call 95; refine (HR.out _ (by assumption) (by assumption)).mono ?_; rintro e w5 ⟨rfl, k5⟩; obtain ⟨w6, hup, t6, k6⟩ := (HT.out _ k5).store hb hg (show (0 : Int) ≤ (tn : Int) + 1 by omega) (show (tn : Int) + 1 ≤ ((tn + 1 : Nat) : Int) by omega) hroom; unfold keyV Ent.val at hup; simp only at hup))
        replace k5 : Kp noB V w5 := ⟨k5.os, k5.tape, k5.output, k5.size, k5.block⟩
        replace k0 := (k0.trans (k5.mono (fun _ _ f => f.elim))).trans (k6.mono (fun _ _ e => .inl e))
        clear HSU HSK HS0 HT HR hD0 tD hup
        go_wp2
        go_end0
        exact ⟨rfl, ⟨_, tn + 1, t6, Nat.le_refl _⟩, k0⟩
      · have hd : decide ((pl : Int) ≤ (Maps.size D : Int)) = false := decide_eq_false hle
        go_upto_region 3 with fail
        go_quiet (fail)
        obtain ⟨W3, hW3⟩ : ∃ W, W = W2.drewN nq := ⟨_, rfl⟩
        rw [← hW3]
        have k3 : Kp noB W2 W3 := by rw [hW3]; exact (Kp.refl noB W2).drewN _
        replace t0 := t0.kp k3 (fun _ _ f => f)
        replace h0 := h0.kp k3 (fun _ _ f => f)
        replace rY := rY.kp k3 (fun f => f)
        replace rK := rK.kp k3 (fun f => f)
        replace k0 := k0.trans k3
        clear hW3 k3 c1 c2 hl
        have hroom : Maps.has D (kl a b) = true ∨ Maps.size D < pl := .inr (by omega)
        replace k0 : Kp (inTlb K) w W3 := k0.mono (fun _ _ f => f.elim)
        rename TlbD W3 K B pl tn D => t1
        clear HHS hle
        have c3 := t1.c3
        have f3 := t1.fz 3
        go_upto_region 6 with fail
        have t2 := t1.turn
        have e1 : ((tn + 1 : Nat) : Int) = (tn : Int) + 1 := rfl
        have k2 : Kp (fun j => j = K + 1) W3 (W3.setCell ⟨K + 1, 3, none⟩ (.int .u64 ((tn : Int) + 1))) := Kp.setCell (S := fun j => j = K + 1) W3 (p := ⟨K + 1, 3, none⟩) rfl _
        rw [e1] at t2 hg
        obtain ⟨V, hV⟩ : ∃ V, V = W3.setCell ⟨K + 1, 3, none⟩ (.int .u64 ((tn : Int) + 1)) := ⟨_, rfl⟩
        rw [← hV] at t2 k2 ⊢
        replace h0 := h0.kp k2 (fun j hj e => hBK (K + 1) (.inr rfl) (by rw [← e]; exact hj))
        replace rY := rY.kp k2 (by omega)
        replace rK := rK.kp k2 (by omega)
        replace k0 := k0.trans (k2.mono (fun _ _ e => .inr e))
        clear hV k2 t1 c3 f3 e1
        have tD : TlbD V.drew K B pl (tn + 1) D := t2.kept (fun _ _ => rfl)
        have hD0 : RamAt V.drew B M := h0.kept (fun _ _ => rfl)
        have HR : Hid (∀ W, TlbD W K B pl (tn + 1) D → RamAt W B M → Calls Tryz.prog 95 #[.pointer (some ⟨K + 1, 0, none⟩), .agg #[.int .u32 f, .int .u32 p, .int .u32 q, .bool bw, .bool bu]] W fun e w' => e = .returned (.agg #[.int .u32 (M.read p 4), .int .u32 (M.read q 4)]) ∧ Kp noB W w') := fun W hW hW' => tlRead_ok W K B pl (tn + 1) D M hW hW' f p q bw bu p0 p1 q0 q1
        have HT : Hid (∀ W', Kp noB V.drew W' → TlbD W' K B pl (tn + 1) D) := fun W' k => tD.kp k (fun _ _ f => f)
        have HS0 : Hid (V.drew.cell? ⟨K + 1, 2, none⟩ = some (.map (some K)) ∧ V.drew.cell? ⟨K + 1, 3, none⟩ = some (.int .u64 ((tn : Int) + 1)) ∧ V.drew.cell? ⟨X, 0, none⟩ = some (.int .u32 a) ∧ V.drew.cell? ⟨X, 1, none⟩ = some (.int .u32 b) ∧ V.drew.cell? ⟨X + 1, 0, none⟩ = some (.int .u32 f) ∧ V.drew.cell? ⟨X + 1, 1, none⟩ = some (.int .u32 p) ∧ V.drew.cell? ⟨X + 1, 2, none⟩ = some (.int .u32 q) ∧ V.drew.cell? ⟨X + 1, 3, none⟩ = some (.bool bw) ∧ V.drew.cell? ⟨X + 1, 4, none⟩ = some (.bool bu)) := ⟨t2.c2, t2.c3, rY.c0, rY.c1, rK.c0, rK.c1, rK.c2, rK.c3, rK.c4⟩
        have HSK : Hid (∀ W', Kp noB V.drew W' → (W'.cell? ⟨K + 1, 2, none⟩ = some (.map (some K)) ∧ W'.cell? ⟨K + 1, 3, none⟩ = some (.int .u64 ((tn : Int) + 1)) ∧ W'.cell? ⟨X, 0, none⟩ = some (.int .u32 a) ∧ W'.cell? ⟨X, 1, none⟩ = some (.int .u32 b) ∧ W'.cell? ⟨X + 1, 0, none⟩ = some (.int .u32 f) ∧ W'.cell? ⟨X + 1, 1, none⟩ = some (.int .u32 p) ∧ W'.cell? ⟨X + 1, 2, none⟩ = some (.int .u32 q) ∧ W'.cell? ⟨X + 1, 3, none⟩ = some (.bool bw) ∧ W'.cell? ⟨X + 1, 4, none⟩ = some (.bool bu))) := fun W' k => by
          have t := HT.out _ k
          have y := RowKy.kp (W := V.drew) rY k (fun f => f)
          have z := RowK.kp (W := V.drew) rK k (fun f => f)
          exact ⟨t.c2, t.c3, y.c0, y.c1, z.c0, z.c1, z.c2, z.c3, z.c4⟩
        have HSU : Hid (∀ W' W'', Kp noB V.drew W' → Kp (fun j => j = K) W' W'' → (W''.cell? ⟨K + 1, 2, none⟩ = some (.map (some K)) ∧ W''.cell? ⟨K + 1, 3, none⟩ = some (.int .u64 ((tn : Int) + 1)) ∧ W''.cell? ⟨X, 0, none⟩ = some (.int .u32 a) ∧ W''.cell? ⟨X, 1, none⟩ = some (.int .u32 b) ∧ W''.cell? ⟨X + 1, 0, none⟩ = some (.int .u32 f) ∧ W''.cell? ⟨X + 1, 1, none⟩ = some (.int .u32 p) ∧ W''.cell? ⟨X + 1, 2, none⟩ = some (.int .u32 q) ∧ W''.cell? ⟨X + 1, 3, none⟩ = some (.bool bw) ∧ W''.cell? ⟨X + 1, 4, none⟩ = some (.bool bu))) := fun W' W'' k k' => by
          have t := HT.out _ k
          have y := (RowKy.kp (W := V.drew) rY k (fun f => f)).kp k' (by omega)
          have z := (RowK.kp (W := V.drew) rK k (fun f => f)).kp k' (by omega)
          have u : W''.heap[K + 1]? = _ := (k'.block (K + 1) t.lt (by omega)).trans t.c
          exact ⟨by rw [cell_at u]; rfl, by rw [cell_at u]; rfl, y.c0, y.c1, z.c0, z.c1, z.c2, z.c3, z.c4⟩
        go_region_held3 (fun W => (W.cell? ⟨K + 1, 2, none⟩ = some (.map (some K)) ∧ W.cell? ⟨K + 1, 3, none⟩ = some (.int .u64 ((tn : Int) + 1)) ∧ W.cell? ⟨X, 0, none⟩ = some (.int .u32 a) ∧ W.cell? ⟨X, 1, none⟩ = some (.int .u32 b) ∧ W.cell? ⟨X + 1, 0, none⟩ = some (.int .u32 f) ∧ W.cell? ⟨X + 1, 1, none⟩ = some (.int .u32 p) ∧ W.cell? ⟨X + 1, 2, none⟩ = some (.int .u32 q) ∧ W.cell? ⟨X + 1, 3, none⟩ = some (.bool bw) ∧ W.cell? ⟨X + 1, 4, none⟩ = some (.bool bu)))
          (first | with_reducible exact HS0.out | with_reducible exact HSK.out _ k5 | with_reducible exact HSU.out _ _ k5 k6)
          (first | (go_at_call 95; refine (HR.out _ (by assumption) (by assumption)).mono ?_; rintro e w5 ⟨rfl, k5⟩; obtain ⟨w6, hup, t6, k6⟩ := (HT.out _ k5).store hb hg (show (0 : Int) ≤ (tn : Int) + 1 by omega) (show (tn : Int) + 1 ≤ ((tn + 1 : Nat) : Int) by omega) hroom; unfold keyV Ent.val at hup; simp only at hup))
        replace k5 : Kp noB V w5 := ⟨k5.os, k5.tape, k5.output, k5.size, k5.block⟩
        replace k0 := (k0.trans (k5.mono (fun _ _ f => f.elim))).trans (k6.mono (fun _ _ e => .inl e))
        clear HSU HSK HS0 HT HR hD0 tD hup
        go_wp2
        go_end0
        exact ⟨rfl, ⟨_, tn + 1, t6, Nat.le_refl _⟩, k0⟩
      · have hle := trivial
        go_upto_region 3 with fail
        go_quiet (fail)
        obtain ⟨W3, hW3⟩ : ∃ W, W = W2.drewN nq := ⟨_, rfl⟩
        rw [← hW3]
        have k3 : Kp noB W2 W3 := by rw [hW3]; exact (Kp.refl noB W2).drewN _
        replace t0 := t0.kp k3 (fun _ _ f => f)
        replace h0 := h0.kp k3 (fun _ _ f => f)
        replace rY := rY.kp k3 (fun f => f)
        replace rK := rK.kp k3 (fun f => f)
        replace k0 := k0.trans k3
        clear hW3 k3 c1 c2 hl
        have hroom : Maps.has D (kl a b) = true ∨ Maps.size D < pl := .inl HHS.out.symm
        replace k0 : Kp (inTlb K) w W3 := k0.mono (fun _ _ f => f.elim)
        rename TlbD W3 K B pl tn D => t1
        clear HHS hle
        have c3 := t1.c3
        have f3 := t1.fz 3
        go_upto_region 6 with fail
        have t2 := t1.turn
        have e1 : ((tn + 1 : Nat) : Int) = (tn : Int) + 1 := rfl
        have k2 : Kp (fun j => j = K + 1) W3 (W3.setCell ⟨K + 1, 3, none⟩ (.int .u64 ((tn : Int) + 1))) := Kp.setCell (S := fun j => j = K + 1) W3 (p := ⟨K + 1, 3, none⟩) rfl _
        rw [e1] at t2 hg
        obtain ⟨V, hV⟩ : ∃ V, V = W3.setCell ⟨K + 1, 3, none⟩ (.int .u64 ((tn : Int) + 1)) := ⟨_, rfl⟩
        rw [← hV] at t2 k2 ⊢
        replace h0 := h0.kp k2 (fun j hj e => hBK (K + 1) (.inr rfl) (by rw [← e]; exact hj))
        replace rY := rY.kp k2 (by omega)
        replace rK := rK.kp k2 (by omega)
        replace k0 := k0.trans (k2.mono (fun _ _ e => .inr e))
        clear hV k2 t1 c3 f3 e1
        have tD : TlbD V.drew K B pl (tn + 1) D := t2.kept (fun _ _ => rfl)
        have hD0 : RamAt V.drew B M := h0.kept (fun _ _ => rfl)
        have HR : Hid (∀ W, TlbD W K B pl (tn + 1) D → RamAt W B M → Calls Tryz.prog 95 #[.pointer (some ⟨K + 1, 0, none⟩), .agg #[.int .u32 f, .int .u32 p, .int .u32 q, .bool bw, .bool bu]] W fun e w' => e = .returned (.agg #[.int .u32 (M.read p 4), .int .u32 (M.read q 4)]) ∧ Kp noB W w') := fun W hW hW' => tlRead_ok W K B pl (tn + 1) D M hW hW' f p q bw bu p0 p1 q0 q1
        have HT : Hid (∀ W', Kp noB V.drew W' → TlbD W' K B pl (tn + 1) D) := fun W' k => tD.kp k (fun _ _ f => f)
        have HS0 : Hid (V.drew.cell? ⟨K + 1, 2, none⟩ = some (.map (some K)) ∧ V.drew.cell? ⟨K + 1, 3, none⟩ = some (.int .u64 ((tn : Int) + 1)) ∧ V.drew.cell? ⟨X, 0, none⟩ = some (.int .u32 a) ∧ V.drew.cell? ⟨X, 1, none⟩ = some (.int .u32 b) ∧ V.drew.cell? ⟨X + 1, 0, none⟩ = some (.int .u32 f) ∧ V.drew.cell? ⟨X + 1, 1, none⟩ = some (.int .u32 p) ∧ V.drew.cell? ⟨X + 1, 2, none⟩ = some (.int .u32 q) ∧ V.drew.cell? ⟨X + 1, 3, none⟩ = some (.bool bw) ∧ V.drew.cell? ⟨X + 1, 4, none⟩ = some (.bool bu)) := ⟨t2.c2, t2.c3, rY.c0, rY.c1, rK.c0, rK.c1, rK.c2, rK.c3, rK.c4⟩
        have HSK : Hid (∀ W', Kp noB V.drew W' → (W'.cell? ⟨K + 1, 2, none⟩ = some (.map (some K)) ∧ W'.cell? ⟨K + 1, 3, none⟩ = some (.int .u64 ((tn : Int) + 1)) ∧ W'.cell? ⟨X, 0, none⟩ = some (.int .u32 a) ∧ W'.cell? ⟨X, 1, none⟩ = some (.int .u32 b) ∧ W'.cell? ⟨X + 1, 0, none⟩ = some (.int .u32 f) ∧ W'.cell? ⟨X + 1, 1, none⟩ = some (.int .u32 p) ∧ W'.cell? ⟨X + 1, 2, none⟩ = some (.int .u32 q) ∧ W'.cell? ⟨X + 1, 3, none⟩ = some (.bool bw) ∧ W'.cell? ⟨X + 1, 4, none⟩ = some (.bool bu))) := fun W' k => by
          have t := HT.out _ k
          have y := RowKy.kp (W := V.drew) rY k (fun f => f)
          have z := RowK.kp (W := V.drew) rK k (fun f => f)
          exact ⟨t.c2, t.c3, y.c0, y.c1, z.c0, z.c1, z.c2, z.c3, z.c4⟩
        have HSU : Hid (∀ W' W'', Kp noB V.drew W' → Kp (fun j => j = K) W' W'' → (W''.cell? ⟨K + 1, 2, none⟩ = some (.map (some K)) ∧ W''.cell? ⟨K + 1, 3, none⟩ = some (.int .u64 ((tn : Int) + 1)) ∧ W''.cell? ⟨X, 0, none⟩ = some (.int .u32 a) ∧ W''.cell? ⟨X, 1, none⟩ = some (.int .u32 b) ∧ W''.cell? ⟨X + 1, 0, none⟩ = some (.int .u32 f) ∧ W''.cell? ⟨X + 1, 1, none⟩ = some (.int .u32 p) ∧ W''.cell? ⟨X + 1, 2, none⟩ = some (.int .u32 q) ∧ W''.cell? ⟨X + 1, 3, none⟩ = some (.bool bw) ∧ W''.cell? ⟨X + 1, 4, none⟩ = some (.bool bu))) := fun W' W'' k k' => by
          have t := HT.out _ k
          have y := (RowKy.kp (W := V.drew) rY k (fun f => f)).kp k' (by omega)
          have z := (RowK.kp (W := V.drew) rK k (fun f => f)).kp k' (by omega)
          have u : W''.heap[K + 1]? = _ := (k'.block (K + 1) t.lt (by omega)).trans t.c
          exact ⟨by rw [cell_at u]; rfl, by rw [cell_at u]; rfl, y.c0, y.c1, z.c0, z.c1, z.c2, z.c3, z.c4⟩
        go_region_held3 (fun W => (W.cell? ⟨K + 1, 2, none⟩ = some (.map (some K)) ∧ W.cell? ⟨K + 1, 3, none⟩ = some (.int .u64 ((tn : Int) + 1)) ∧ W.cell? ⟨X, 0, none⟩ = some (.int .u32 a) ∧ W.cell? ⟨X, 1, none⟩ = some (.int .u32 b) ∧ W.cell? ⟨X + 1, 0, none⟩ = some (.int .u32 f) ∧ W.cell? ⟨X + 1, 1, none⟩ = some (.int .u32 p) ∧ W.cell? ⟨X + 1, 2, none⟩ = some (.int .u32 q) ∧ W.cell? ⟨X + 1, 3, none⟩ = some (.bool bw) ∧ W.cell? ⟨X + 1, 4, none⟩ = some (.bool bu)))
          (first | with_reducible exact HS0.out | with_reducible exact HSK.out _ k5 | with_reducible exact HSU.out _ _ k5 k6)
          (first | (go_at_call 95; refine (HR.out _ (by assumption) (by assumption)).mono ?_; rintro e w5 ⟨rfl, k5⟩; obtain ⟨w6, hup, t6, k6⟩ := (HT.out _ k5).store hb hg (show (0 : Int) ≤ (tn : Int) + 1 by omega) (show (tn : Int) + 1 ≤ ((tn + 1 : Nat) : Int) by omega) hroom; unfold keyV Ent.val at hup; simp only at hup))
        replace k5 : Kp noB V w5 := ⟨k5.os, k5.tape, k5.output, k5.size, k5.block⟩
        replace k0 := (k0.trans (k5.mono (fun _ _ f => f.elim))).trans (k6.mono (fun _ _ e => .inl e))
        clear HSU HSK HS0 HT HR hD0 tD hup
        go_wp2
        go_end0
        exact ⟨rfl, ⟨_, tn + 1, t6, Nat.le_refl _⟩, k0⟩
end Go.Proofs.YtmmnnafjikilpaaGreat
