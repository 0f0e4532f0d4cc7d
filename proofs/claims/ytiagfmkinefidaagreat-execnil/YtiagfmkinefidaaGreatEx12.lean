/- The bus and its devices: XeBase, XeReg, XeReg2, XePlace, XeOpd, XeReg3, XeSum. -/
import Derived.Test.YtiagfmkinefidaaGreatEx04
import Derived.Test.YtiagfmkinefidaaGreatEx11
import Derived.Test.YtiagfmkinefidaaGreatEx01
import Derived.Test.YtiagfmkinefidaaGreatEx13
namespace Go.Proofs.YtiagfmkinefidaaGreat.Rm
open Go.ChangeShapes Go.WideShapes Go.ChangeAt Go.RowKit Go.Maps
set_option linter.unusedVariables false
set_option maxRecDepth 20000
theorem unDrew {S : Nat → Prop} {w w' : World} (k : Kp S w.drew w') : Kp S w w' := ⟨k.os, k.tape, k.output, k.size, k.block⟩
def ptr (b : Nat) : Value := .pointer (some ⟨b, 0, none⟩)
theorem kDc {S : Nat → Prop} {w w' : World} (h : Dc.Kp S w w') : Kp S w w' := ⟨h.os, h.tape, h.output, h.size, h.block⟩
/-! ### the environment: a processor's 83 cells, its memory, its bus -/
def EAt (w : World) (E : Nat) (cs : Array Value) (mp bp : Value) : Prop := w.heap[E]? = some (.cells (cs ++ #[mp, bp]) 53 (0, 0)) ∧ WfC cs
section
variable {w w' : World} {E : Nat} {cs : Array Value} {pm pb : Value}
theorem EAt.lt (h : EAt w E cs pm pb) : E < w.heap.size := (Array.getElem?_eq_some_iff.1 h.1).1
theorem EAt.kp {S : Nat → Prop} (h : EAt w E cs pm pb) (k : Kp S w w') (hS : ¬ S E) : EAt w' E cs pm pb := ⟨(k.block E h.lt hS).trans h.1, h.2⟩
theorem EAt.kp0 (h : EAt w E cs pm pb) (k : Kp noB w w') : EAt w' E cs pm pb := h.kp k (fun f => f)
theorem EAt.cell (h : EAt w E cs pm pb) {k : Nat} {v : Value} (hv : cs[k]? = some v) : w.cell? ⟨E, k, none⟩ = some v := by
  rw [cell_at h.1, Array.getElem?_append_left (Array.getElem?_eq_some_iff.1 hv).1]; exact hv
theorem EAt.mp (h : EAt w E cs pm pb) : w.cell? ⟨E, 83, none⟩ = some pm := by
  rw [cell_at h.1, Array.getElem?_append_right (by rw [h.2.s]; decide), h.2.s]; rfl
theorem EAt.bp (h : EAt w E cs pm pb) : w.cell? ⟨E, 84, none⟩ = some pb := by
  rw [cell_at h.1, Array.getElem?_append_right (by rw [h.2.s]; decide), h.2.s]; rfl
theorem EAt.fz (h : EAt w E cs pm pb) (j : Nat) : w.frozen? ⟨E, j, none⟩ = false := frozen_at h.1
theorem app_set {cs : Array Value} {k : Nat} (hk : k < cs.size) (b : Array Value) (v : Value) : (cs ++ b).setIfInBounds k v = cs.setIfInBounds k v ++ b := by
  apply Array.ext_getElem?
  intro i
  by_cases h : i < cs.size
  · rw [Array.getElem?_append_left (by simpa using h), Array.getElem?_setIfInBounds, Array.getElem?_setIfInBounds, Array.size_append]
    by_cases e : k = i
    · subst e
      rw [if_pos rfl, if_pos rfl, if_pos h, if_pos (by omega)]
    · rw [if_neg e, if_neg e, Array.getElem?_append_left h]
  · rw [Array.getElem?_append_right (by simp; omega), Array.getElem?_setIfInBounds_ne (by omega), Array.getElem?_append_right (by omega), Array.size_setIfInBounds]
theorem EAt.set (h : EAt w E cs pm pb) {k : Nat} (hk : k < 83) {v : Value} (hv : v.oneCell' = true) : EAt (w.setCell ⟨E, k, none⟩ v) E (cs.setIfInBounds k v) pm pb := by
  refine ⟨?_, h.2.set k hv⟩
  rw [← app_set (by rw [h.2.s]; exact hk)]
  exact heap_setCell_at h.1 _
/-- All of the processor is loaded, and laid. -/
theorem EAt.get {T : TypeId} {n : Nat} {Z : Array Value} (hv : VlP T n Z) (h : EAt w E cs pm pb) : (loadCellsFrom ⟨E, 0, none⟩ 0 n #[]).run Tryz.prog w = .ok cs w := by
  have e := run_loadCells_list (P := Tryz.prog) w ⟨E, 0, none⟩ cs.toList (fun j v hv => by
    rw [Addr.add_mid, Nat.zero_add]
    exact h.cell (by rw [← Array.getElem?_toList]; exact hv))
  rw [hv.s]
  have : cs.toList.length = 83 := h.2.s
  rw [this] at e
  exact e
theorem EAt.lay (h : EAt w E cs pm pb) {c : Array Value} (wf : WfC c) : (storeCells ⟨E, 0, none⟩ c.toList).run Tryz.prog w = .ok () (w.setRow E (c ++ #[pm, pb])) := by
  have e := run_storeCells_at Tryz.prog E 0 53 c.toList 0 (cs ++ #[pm, pb]) w h.1 (by simp [h.2.s, wf.s]) wf.o
  rw [e]
  have e2 : (List.take (0 + 0) (cs ++ #[pm, pb]).toList ++ c.toList ++ List.drop (0 + 0 + c.toList.length) (cs ++ #[pm, pb]).toList).toArray = c ++ #[pm, pb] := by
    have h1 : c.toList.length = cs.toList.length := by simp [h.2.s, wf.s]
    rw [Nat.zero_add, Nat.zero_add, h1, Array.toList_append, List.drop_left]
    simp
  rw [e2]
theorem EAt.laid (h : EAt w E cs pm pb) {c : Array Value} (wf : WfC c) : EAt (w.setRow E (c ++ #[pm, pb])) E c pm pb := ⟨setRow_heap w E _ _ _ _ h.1, wf⟩
end
/-! ### an instruction that is being done -/
def dC (E : Nat) (x : Dc.Ins) (a so : Int) (ir : Bool) : Array Value := #[ptr E, ptr E, .int .i64 x.op, .int .i64 x.sub, .int .i64 x.size,
  .int .i64 x.a.kind, .int .i64 x.a.reg, .int .i64 x.a.size, .int .i64 x.a.seg, .int .i64 x.a.base, .int .i64 x.a.index, .int .i64 x.a.scale, .int .u32 x.a.disp, .int .u32 x.a.imm,
  .int .i64 x.b.kind, .int .i64 x.b.reg, .int .i64 x.b.size, .int .i64 x.b.seg, .int .i64 x.b.base, .int .i64 x.b.index, .int .i64 x.b.scale, .int .u32 x.b.disp, .int .u32 x.b.imm,
  .int .i64 x.c.kind, .int .i64 x.c.reg, .int .i64 x.c.size, .int .i64 x.c.seg, .int .i64 x.c.base, .int .i64 x.c.index, .int .i64 x.c.scale, .int .u32 x.c.disp, .int .u32 x.c.imm,
  .int .i64 x.rep, .int .i64 x.len, .int .u32 a, .int .i64 (-1), .int .i64 (-1), .int .u32 0, .int .i64 so, .bool ir]
def DAt (w : World) (D E : Nat) (x : Dc.Ins) (a so : Int) (ir : Bool) : Prop := w.heap[D]? = some (.cells (dC E x a so ir) 113 (0, 0))
section
variable {w w' : World} {D E : Nat} {x : Dc.Ins} {a so : Int} {ir : Bool}
theorem DAt.lt (h : DAt w D E x a so ir) : D < w.heap.size := (Array.getElem?_eq_some_iff.1 h).1
theorem DAt.kp {S : Nat → Prop} (h : DAt w D E x a so ir) (k : Kp S w w') (hS : ¬ S D) : DAt w' D E x a so ir := (k.block D h.lt hS).trans h
theorem DAt.kp0 (h : DAt w D E x a so ir) (k : Kp noB w w') : DAt w' D E x a so ir := h.kp k (fun f => f)
theorem DAt.c (h : DAt w D E x a so ir) {k : Nat} {v : Value} (hv : (dC E x a so ir)[k]? = some v) : w.cell? ⟨D, k, none⟩ = some v := by rw [cell_at h]; exact hv
theorem DAt.fz (h : DAt w D E x a so ir) (j : Nat) : w.frozen? ⟨D, j, none⟩ = false := frozen_at h
theorem DAt.setAt (h : DAt w D E x a so ir) (v : Int) : DAt (w.setCell ⟨D, 34, none⟩ (.int .u32 v)) D E x v so ir := heap_setCell_at h _
theorem DAt.setSo (h : DAt w D E x a so ir) (v : Int) : DAt (w.setCell ⟨D, 38, none⟩ (.int .i64 v)) D E x a v ir := heap_setCell_at h _
end
/-- The blocks that an instruction turns. -/
def inE (D E : Nat) (j : Nat) : Prop := j = D ∨ j = E
end Go.Proofs.YtiagfmkinefidaaGreat.Rm
namespace Go.Proofs.YtiagfmkinefidaaGreat.Rm
open Go.ChangeShapes Go.WideShapes Go.ChangeAt Go.RowKit Go.Maps
set_option linter.unusedVariables false
set_option maxRecDepth 20000
def regM (s : Int) (n : Nat) : Int := if s = 1 then (if n < 4 then 255 else 65280) else if s = 2 then 65535 else 4294967295
def regL (s : Int) (n : Nat) : Int := if s = 1 ∧ 4 ≤ n then 8 else 0
def regK (s : Int) (n : Nat) : Nat := if s = 1 ∧ 4 ≤ n then n - 4 else n
theorem regK_lt {s : Int} {n : Nat} (h : n < 8) : regK s n < 8 := by unfold regK; split <;> omega
/-- What a register of a size is, and what is left of it where it is written. -/
def getR (s : Int) (n : Nat) (r : Int) : Int := if s = 1 then (if n < 4 then r % 256 else r / 256 % 256) else if s = 2 then r % 65536 else r
def putR (s : Int) (n : Nat) (r v : Int) : Int := if s = 1 then (if n < 4 then r - r % 256 + v % 256 else r - r / 256 % 256 * 256 + v % 256 * 256) else if s = 2 then r - r % 65536 + v % 65536 else v
structure RegP (w : World) (l0 l1 l2 E : Nat) (s : Int) (n : Nat) : Prop where
  p : w.cell? ⟨l0, 0, none⟩ = some (.pointer (some ⟨E, regK s n, none⟩))
  m : w.cell? ⟨l1, 0, none⟩ = some (.int .u32 (regM s n))
  l : w.cell? ⟨l2, 0, none⟩ = some (.int .i64 (regL s n))
theorem RegP.kp {S : Nat → Prop} {w w' : World} {l0 l1 l2 E : Nat} {s : Int} {n : Nat} (h : RegP w l0 l1 l2 E s n) (k : Kp S w w') (h0 : ¬ S l0) (h1 : ¬ S l1) (h2 : ¬ S l2) : RegP w' l0 l1 l2 E s n :=
  ⟨cell_kp h.p k h0, cell_kp h.m k h1, cell_kp h.l k h2⟩
theorem RegP.kp0 {w w' : World} {l0 l1 l2 E : Nat} {s : Int} {n : Nat} (h : RegP w l0 l1 l2 E s n) (k : Kp noB w w') : RegP w' l0 l1 l2 E s n := h.kp k id id id
def regV (l0 l1 l2 : Nat) : Value := .agg #[.func (.func 493) #[] #[.pointer (some ⟨l0, 0, none⟩), .pointer (some ⟨l1, 0, none⟩), .pointer (some ⟨l2, 0, none⟩)], .func (.func 494) #[] #[], .func (.func 495) #[] #[.pointer (some ⟨l0, 0, none⟩), .pointer (some ⟨l1, 0, none⟩), .pointer (some ⟨l2, 0, none⟩)]]
def numV (l : Nat) : Value := .agg #[.func (.func 559) #[] #[.pointer (some ⟨l, 0, none⟩)], .func (.func 494) #[] #[], .func (.func 560) #[] #[]]
theorem cut_any {s M : Int} (hs : (s = 1 ∧ M = 256) ∨ (s = 2 ∧ M = 65536) ∨ (s = 4 ∧ M = 4294967296)) (v : Int) (v0 : 0 ≤ v) (v1 : v < 4294967296) (w : World) :
    Calls Tryz.prog 492 #[.int .i64 s, .int .u32 v] w fun e w' => e = .returned (.int .u32 (v % M)) ∧ w' = w := by
  rcases hs with ⟨rfl, rfl⟩ | ⟨rfl, rfl⟩ | ⟨rfl, rfl⟩
  all_goals
    go_enter Tryz.func492, Tryz.ntmps492
    go_wp2
    go_ret
    exact ⟨ret_int (by omega), rfl⟩
theorem nothing_any (w : World) : Calls Tryz.prog 494 #[] w fun e w' => e = .returned (.tuple #[]) ∧ w' = w := by
  go_enter Tryz.func494, Tryz.ntmps494
  go_wp2
  go_end0
  exact ⟨rfl, rfl⟩
theorem num_any (w : World) (n : Int) : Calls Tryz.prog 499 #[.int .u32 n] w fun e w' => ∃ l, e = .returned (numV l) ∧ w'.cell? ⟨l, 0, none⟩ = some (.int .u32 n) ∧ w.heap.size ≤ l ∧ Kp noB w w' := by
  have hmf : ∀ (fn : Fn) (first cap : Array Value) (w : World), (Instr.makeFunc fn first cap).run Tryz.prog w = .ok (.func fn first cap) w := fun _ _ _ _ => rfl
  have kA := Kp.alloc noB w (.cells #[.int .u32 n] 23)
  have hc : (w.alloc (.cells #[.int .u32 n] 23)).cell? ⟨w.heap.size, 0, none⟩ = some (.int .u32 n) := by rw [cell_at (MapKept.heap_alloc w _).1]; rfl
  go_enter Tryz.func499, Tryz.ntmps499
  go_wp2
  have kB := Kp.alloc noB (w.alloc (.cells #[.int .u32 n] 23)) (.cells #[.func (.func 559) #[] #[.pointer (some ⟨w.heap.size, 0, none⟩)], .func (.func 494) #[] #[], .func (.func 560) #[] #[]] 271)
  refine bodyPost_ret (v := numV w.heap.size) (by simp [results, Tryz.results499, go_sem, numV]) rfl ⟨w.heap.size, rfl, cell_kp hc kB id, Nat.le_refl _, kA.trans kB⟩
theorem numRead_any (w : World) (l : Nat) (n : Int) (h : w.cell? ⟨l, 0, none⟩ = some (.int .u32 n)) : Calls Tryz.prog 559 #[.pointer (some ⟨l, 0, none⟩)] w fun e w' => e = .returned (.int .u32 n) ∧ w' = w := by
  go_enter Tryz.func559, Tryz.ntmps559
  go_wp2
  go_ret
  exact ⟨rfl, rfl⟩
theorem and_lo (r m : Int) (r0 : 0 ≤ r) (r1 : r < 4294967296) (m0 : 0 ≤ m) (m1 : m < 4294967296) (k : Nat) (hm : m.toNat = 2 ^ k - 1) (p : Int) (hp : p = ((2 ^ k : Nat) : Int)) : bits .and .u32 r m = r % p := by
  rw [u32_and r m r0 r1 m0 m1, hm, Nat.and_two_pow_sub_one_eq_mod, hp]
  obtain ⟨n, rfl⟩ := Int.eq_ofNat_of_zero_le r0
  rw [Int.toNat_natCast, Int.natCast_emod]
theorem and_hi (r : Int) (r0 : 0 ≤ r) (r1 : r < 4294967296) : bits .and .u32 r 65280 = r / 256 % 256 * 256 := by
  rw [u32_and r 65280 r0 r1 (by decide) (by decide)]
  have e : (65280 : Int).toNat = (2 ^ 8 - 1) <<< 8 := by decide
  have h : r.toNat &&& ((2 ^ 8 - 1) <<< 8) = (r.toNat / 256 % 256) * 256 := by
    apply Nat.eq_of_testBit_eq
    intro i
    rw [Nat.testBit_and, Nat.testBit_shiftLeft, Nat.testBit_two_pow_sub_one, show 256 = 2 ^ 8 by rfl, Nat.testBit_mul_two_pow, Nat.testBit_mod_two_pow, Nat.testBit_div_two_pow]
    by_cases h1 : 8 ≤ i
    · simp [h1]
      by_cases h2 : i - 8 < 8
      · simp [h2]
      · simp [h2]
    · simp [h1]
  rw [e, h]
  omega
theorem regRead_any (w : World) (l0 l1 l2 E : Nat) (s : Int) (n : Nat) (hs : s = 1 ∨ s = 2 ∨ s = 4) (h : RegP w l0 l1 l2 E s n) (r : Int) (r0 : 0 ≤ r) (r1 : r < 4294967296) (hr : w.cell? ⟨E, regK s n, none⟩ = some (.int .u32 r)) :
    Calls Tryz.prog 493 #[.pointer (some ⟨l0, 0, none⟩), .pointer (some ⟨l1, 0, none⟩), .pointer (some ⟨l2, 0, none⟩)] w fun e w' => e = .returned (.int .u32 (getR s n r)) ∧ Kp noB w w' := by
  obtain ⟨p, m, l⟩ := h
  obtain ⟨M, hM⟩ : ∃ M, M = regM s n := ⟨_, rfl⟩
  obtain ⟨A, hA⟩ : ∃ A, A = bits .and .u32 r M := ⟨_, rfl⟩
  obtain ⟨G, hG⟩ : ∃ G, G = getR s n r := ⟨_, rfl⟩
  obtain ⟨K, hK⟩ : ∃ K, K = regK s n := ⟨_, rfl⟩
  rw [← hM] at m
  rw [← hK] at p hr
  rw [← hG]
  have hL : (regL s n = 0 ∧ G = A) ∨ (regL s n = 8 ∧ G = A / 256) := by
    unfold getR at hG
    unfold regM at hM
    unfold regL
    rcases hs with rfl | rfl | rfl
    · by_cases hn : n < 4
      · simp only [if_true, if_pos hn] at hM hG
        subst hM
        rw [and_lo r 255 r0 r1 (by decide) (by decide) 8 (by decide) 256 (by decide)] at hA
        rw [if_neg (by omega)]
        exact .inl ⟨rfl, by omega⟩
      · simp only [if_true, if_neg hn] at hM hG
        subst hM
        rw [and_hi r r0 r1] at hA
        rw [if_pos (by omega)]
        exact .inr ⟨rfl, by omega⟩
    · simp at hM hG
      subst hM
      rw [and_lo r 65535 r0 r1 (by decide) (by decide) 16 (by decide) 65536 (by decide)] at hA
      rw [if_neg (by omega)]
      exact .inl ⟨rfl, by omega⟩
    · simp at hM hG
      subst hM
      rw [and_lo r 4294967295 r0 r1 (by decide) (by decide) 32 (by decide) 4294967296 (by decide)] at hA
      rw [if_neg (by omega)]
      exact .inl ⟨rfl, by omega⟩
  have HK : Hid (Kp noB w w.drew) := (Kp.refl noB w).drew
  have HA : Hid (A = bits .and .u32 r M) := hA
  rcases hL with ⟨hL, hX⟩ | ⟨hL, hX⟩
  all_goals
    rw [hL] at l
    have HX : Hid _ := hX
    clear hL hX hG hM hK hA
    go_enter Tryz.func493, Tryz.ntmps493
    go_wp2
    go_region
    go_wp2
    go_ret
    refine ⟨ret_int ?_, HK.out⟩
    rw [HX.out, HA.out]
end Go.Proofs.YtiagfmkinefidaaGreat.Rm
namespace Go.Proofs.YtiagfmkinefidaaGreat.Rm
open Go.ChangeShapes Go.WideShapes Go.ChangeAt Go.RowKit Go.Maps
set_option linter.unusedVariables false
set_option maxRecDepth 20000
def RegQ (w : World) (E : Nat) (s : Int) (n : Nat) (e : Ending) (w' : World) : Prop := ∃ l0 l1 l2, e = .returned (regV l0 l1 l2) ∧ RegP w' l0 l1 l2 E s n ∧ (w.heap.size ≤ l0 ∧ w.heap.size ≤ l1 ∧ w.heap.size ≤ l2) ∧ Kp noB w w'
/-- What the region leaves, in either order. -/
structure RegT (W0 W : World) (l0 l1 E k : Nat) (m : Int) : Prop where
  p : W.cell? ⟨l0, 0, none⟩ = some (.pointer (some ⟨E, k, none⟩))
  m : W.cell? ⟨l1, 0, none⟩ = some (.int .u32 m)
  k : Kp noB W0 W
  q : W0.heap.size ≤ l0 ∧ W0.heap.size ≤ l1 ∧ l0 < W.heap.size ∧ l1 < W.heap.size
theorem regT_A (W0 : World) (E k : Nat) (m : Int) : RegT W0 ((W0.alloc (.cells #[.pointer (some ⟨E, k, none⟩)] 324)).alloc (.cells #[.int .u32 m] 23)).drew W0.heap.size (W0.heap.size + 1) E k m := by
  have h1 := (MapKept.heap_alloc W0 (.cells #[.pointer (some ⟨E, k, none⟩)] 324)).1
  have h2 := (MapKept.heap_alloc (W0.alloc (.cells #[.pointer (some ⟨E, k, none⟩)] 324)) (.cells #[.int .u32 m] 23)).1
  have kB := Kp.alloc noB (W0.alloc (.cells #[.pointer (some ⟨E, k, none⟩)] 324)) (.cells #[.int .u32 m] 23)
  have h3 := (kB.block _ (by simp) id).trans h1
  rw [World.size_alloc] at h2
  exact ⟨by show World.cell? (World.alloc _ _) _ = _; rw [cell_at h3]; rfl, by show World.cell? (World.alloc _ _) _ = _; rw [cell_at h2]; rfl, ((Kp.alloc noB W0 _).trans kB).drew, by refine ⟨?_, ?_, ?_, ?_⟩ <;> first | omega | (show _ < (World.alloc _ _).heap.size; rw [World.size_alloc, World.size_alloc]; omega)⟩
theorem regT_B (W0 : World) (E k : Nat) (m : Int) : RegT W0 ((W0.alloc (.cells #[.int .u32 m] 23)).alloc (.cells #[.pointer (some ⟨E, k, none⟩)] 324)).drew (W0.heap.size + 1) W0.heap.size E k m := by
  have h1 := (MapKept.heap_alloc W0 (.cells #[.int .u32 m] 23)).1
  have h2 := (MapKept.heap_alloc (W0.alloc (.cells #[.int .u32 m] 23)) (.cells #[.pointer (some ⟨E, k, none⟩)] 324)).1
  have kB := Kp.alloc noB (W0.alloc (.cells #[.int .u32 m] 23)) (.cells #[.pointer (some ⟨E, k, none⟩)] 324)
  have h3 := (kB.block _ (by simp) id).trans h1
  rw [World.size_alloc] at h2
  exact ⟨by show World.cell? (World.alloc _ _) _ = _; rw [cell_at h2]; rfl, by show World.cell? (World.alloc _ _) _ = _; rw [cell_at h3]; rfl, ((Kp.alloc noB W0 _).trans kB).drew, by refine ⟨?_, ?_, ?_, ?_⟩ <;> first | omega | (show _ < (World.alloc _ _).heap.size; rw [World.size_alloc, World.size_alloc]; omega)⟩
def PlB (W : World) (P : Nat) (a b c : Value) : Prop := W.heap[P]? = some (.cells #[a, b, c] 271 (0, 0))
theorem PlB.c {W : World} {P : Nat} {a b c : Value} (h : PlB W P a b c) : W.cell? ⟨P, 0, none⟩ = some a ∧ W.cell? ⟨P, 1, none⟩ = some b ∧ W.cell? ⟨P, 2, none⟩ = some c := by
  simp only [cell_at h]; exact ⟨rfl, rfl, rfl⟩
theorem PlB.fz {W : World} {P : Nat} {a b c : Value} (h : PlB W P a b c) (j : Nat) : W.frozen? ⟨P, j, none⟩ = false := frozen_at h
theorem PlB.kp {S : Nat → Prop} {W W' : World} {P : Nat} {a b c : Value} (h : PlB W P a b c) (k : Kp S W W') (hS : ¬ S P) : PlB W' P a b c := (k.block P (Array.getElem?_eq_some_iff.1 h).1 hS).trans h
def setPl (W : World) (P : Nat) (a b c : Value) : World := ((W.setCell ⟨P, 0, none⟩ a).setCell ⟨P, 1, none⟩ b).setCell ⟨P, 2, none⟩ c
theorem PlB.set {W : World} {P : Nat} {a b c : Value} (h : PlB W P a b c) (x y z : Value) : PlB (setPl W P x y z) P x y z := heap_setCell_at (heap_setCell_at (heap_setCell_at h _) _) _
theorem kp_setPl (W : World) (P : Nat) (a b c : Value) : Kp (fun j => j = P) W (setPl W P a b c) := by
  have k : ∀ (W : World) (o : Nat) (v : Value), Kp (fun j => j = P) W (W.setCell ⟨P, o, none⟩ v) := fun W o v => Kp.setCell (S := fun j => j = P) W (p := ⟨P, o, none⟩) rfl v
  exact ((k _ _ _).trans (k _ _ _)).trans (k _ _ _)
set_option maxHeartbeats 1000000 in
theorem reg_any (w : World) (D E : Nat) (x : Dc.Ins) (a so : Int) (ir : Bool) (hD : DAt w D E x a so ir) (n : Nat) (hn : n < 8) (s M : Int) (hs : (s = 1 ∧ M = 256) ∨ (s = 2 ∧ M = 65536) ∨ (s = 4 ∧ M = 4294967296)) :
    Calls Tryz.prog 426 #[.pointer (some ⟨D, 0, none⟩), .int .i64 n, .int .i64 s] w (RegQ w E s n) := by
  have hmf : ∀ (fn : Fn) (first cap : Array Value) (w : World), (Instr.makeFunc fn first cap).run Tryz.prog w = .ok (.func fn first cap) w := fun _ _ _ _ => rfl
  have cC := fun W => cut_any hs 4294967295 (by decide) (by decide) W
  obtain ⟨P0, hP0⟩ : ∃ P, P = w.heap.size := ⟨_, rfl⟩
  obtain ⟨lo, hlo⟩ : ∃ lo, lo = regL s n := ⟨_, rfl⟩
  obtain ⟨k, hk⟩ : ∃ k, k = regK s n := ⟨_, rfl⟩
  have hk8 : k < 8 := by rw [hk]; exact regK_lt hn
  obtain ⟨W0, hW0⟩ : ∃ W, W = (w.alloc (.cells #[.nilFunc, .nilFunc, .nilFunc] 271)).alloc (.cells #[.int .i64 lo] 3) := ⟨_, rfl⟩
  have kA := Kp.alloc noB w (.cells #[.nilFunc, .nilFunc, .nilFunc] 271)
  have kB := Kp.alloc noB (w.alloc (.cells #[.nilFunc, .nilFunc, .nilFunc] 271)) (.cells #[.int .i64 lo] 3)
  have k0 : Kp noB w W0 := by rw [hW0]; exact kA.trans kB
  have D0 := DAt.kp0 hD k0
  have g0 : n < 4 ∨ 4 ≤ n := by omega
  have hz : (0 : Int) ≤ n ∧ (n : Int) < 8 := by omega
  have rB : W0.heap[P0 + 1]? = some (.cells #[.int .i64 lo] 3 (0, 0)) := by
    have := (MapKept.heap_alloc (w.alloc (.cells #[.nilFunc, .nilFunc, .nilFunc] 271)) (.cells #[.int .i64 lo] 3)).1
    rw [World.size_alloc, ← hP0] at this
    rw [hW0]; exact this
  have rA : W0.heap[P0]? = some (.cells #[.nilFunc, .nilFunc, .nilFunc] 271 (0, 0)) := by
    rw [hW0, hP0]; exact (kB.block _ (by simp) id).trans (MapKept.heap_alloc w _).1
  have HSK : Hid (∀ W, Kp noB W0.drew W → W.cell? ⟨D, 1, none⟩ = some (.pointer (some ⟨E, 0, none⟩)) ∧ W.cell? ⟨P0 + 1, 0, none⟩ = some (.int .i64 lo)) := fun W kw =>
    ⟨DAt.c (DAt.kp0 D0 (unDrew kw)) rfl, by rw [cell_at (((unDrew kw).block _ (Array.getElem?_eq_some_iff.1 rB).1 id).trans rB)]; rfl⟩
  have HS0 : Hid _ := HSK.out _ (Kp.refl _ _)
  have HP : Hid (P0 = w.heap.size) := hP0
  have HKK : Hid (Kp noB w W0) := k0
  have HRA : Hid (W0.heap[P0]? = some (.cells #[.nilFunc, .nilFunc, .nilFunc] 271 (0, 0))) := rA
  have HRB : Hid (W0.heap[P0 + 1]? = some (.cells #[.int .i64 lo] 3 (0, 0))) := rB
  clear kA kB k0 D0 rA rB hD
  have HM : Hid ((s = 1 → n < 4 → (lo = 0 ∧ k = n)) ∧ (s = 1 → 4 ≤ n → lo = 8 ∧ k = n - 4) ∧ (s ≠ 1 → lo = 0 ∧ k = n)) := by
    rw [hlo, hk]
    unfold regL regK
    refine ⟨fun h1 h2 => ?_, fun h1 h2 => ?_, fun h => ?_⟩
    · rw [if_neg (by omega), if_neg (by omega)]; exact ⟨rfl, rfl⟩
    · rw [if_pos ⟨h1, h2⟩, if_pos ⟨h1, h2⟩]; exact ⟨rfl, rfl⟩
    · rw [if_neg (fun f => h f.1), if_neg (fun f => h f.1)]; exact ⟨rfl, rfl⟩
  have HLO : Hid (lo = regL s n ∧ k = regK s n) := ⟨hlo, hk⟩
  clear hlo hk
  rcases hs with ⟨rfl, rfl⟩ | ⟨rfl, rfl⟩ | ⟨rfl, rfl⟩
  · rcases g0 with g | g
    · have g' : decide (4 ≤ n) = false := decide_eq_false (by omega)
      have hmk : IntKind.u32.wrap 255 = regM 1 n := by unfold regM; rw [if_pos rfl, if_pos g]; rfl
      have HMK : Hid _ := hmk
      clear hmk
      skip
      obtain ⟨e1, e2⟩ := HM.out.1 rfl g
      subst e1
      go_enter Tryz.func426, Tryz.ntmps426
      go_upto_region 4 with fail
      rw [← HP.out, ← hW0]
      clear hP0 hW0
      go_region_held3 (fun W => W.cell? ⟨D, 1, none⟩ = some (.pointer (some ⟨E, 0, none⟩)) ∧ W.cell? ⟨P0 + 1, 0, none⟩ = some (.int .i64 0)) (first | with_reducible exact HS0.out | exact HSK.out _ (Kp.alloc noB _ _) | exact HSK.out _ ((Kp.alloc noB _ _).trans (Kp.alloc noB _ _))) (first | (go_at_call 492; refine (cC _).mono ?_; rintro e w5 ⟨rfl, hw⟩; replace hw := hw.symm; subst hw))
      all_goals first
        | (with_reducible (show Exit.then _ _ _ _ ((W0.alloc (.cells #[.pointer _] _)).alloc _).drew); have T := regT_A W0 E (n) (IntKind.u32.wrap 255); generalize ((W0.alloc (.cells #[.pointer _] _)).alloc _).drew = W at T ⊢; obtain ⟨l0, hl0⟩ : ∃ l, l = W0.heap.size := ⟨_, rfl⟩; obtain ⟨l1, hl1⟩ : ∃ l, l = W0.heap.size + 1 := ⟨_, rfl⟩; rw [← hl1, ← hl0] at T ⊢; clear hl0 hl1)
        | (have T := regT_B W0 E (n) (IntKind.u32.wrap 255); generalize ((W0.alloc _).alloc _).drew = W at T ⊢; obtain ⟨l1, hl1⟩ : ∃ l, l = W0.heap.size := ⟨_, rfl⟩; obtain ⟨l0, hl0⟩ : ∃ l, l = W0.heap.size + 1 := ⟨_, rfl⟩; rw [← hl0, ← hl1] at T ⊢; clear hl0 hl1)
      all_goals
        have rP : PlB W P0 .nilFunc .nilFunc .nilFunc := PlB.kp HRA.out T.k id
        have rL : W.cell? ⟨P0 + 1, 0, none⟩ = some (.int .i64 0) := by rw [cell_at ((T.k.block _ (Array.getElem?_eq_some_iff.1 HRB.out).1 id).trans HRB.out)]; rfl
        obtain ⟨p0, p1, p2⟩ := rP.c
        have z0 := rP.fz 0; have z1 := rP.fz 1; have z2 := rP.fz 2
        have rZ := rP.set (.func (.func 493) #[] #[.pointer (some ⟨l0, 0, none⟩), .pointer (some ⟨l1, 0, none⟩), .pointer (some ⟨P0 + 1, 0, none⟩)]) (.func (.func 494) #[] #[]) (.func (.func 495) #[] #[.pointer (some ⟨l0, 0, none⟩), .pointer (some ⟨l1, 0, none⟩), .pointer (some ⟨P0 + 1, 0, none⟩)])
        obtain ⟨y0, y1, y2⟩ := rZ.c
        have kZ := kp_setPl W P0 (.func (.func 493) #[] #[.pointer (some ⟨l0, 0, none⟩), .pointer (some ⟨l1, 0, none⟩), .pointer (some ⟨P0 + 1, 0, none⟩)]) (.func (.func 494) #[] #[]) (.func (.func 495) #[] #[.pointer (some ⟨l0, 0, none⟩), .pointer (some ⟨l1, 0, none⟩), .pointer (some ⟨P0 + 1, 0, none⟩)])
        have hl0 : l0 ≠ P0 := by have := T.q; have := (Array.getElem?_eq_some_iff.1 HRA.out).1; omega
        have hl1 : l1 ≠ P0 := by have := T.q; have := (Array.getElem?_eq_some_iff.1 HRA.out).1; omega
        have HR : Hid (RegQ w E 1 (n) (.returned (regV l0 l1 (P0 + 1))) (setPl W P0 (.func (.func 493) #[] #[.pointer (some ⟨l0, 0, none⟩), .pointer (some ⟨l1, 0, none⟩), .pointer (some ⟨P0 + 1, 0, none⟩)]) (.func (.func 494) #[] #[]) (.func (.func 495) #[] #[.pointer (some ⟨l0, 0, none⟩), .pointer (some ⟨l1, 0, none⟩), .pointer (some ⟨P0 + 1, 0, none⟩)]))) :=
          ⟨l0, l1, P0 + 1, rfl, ⟨by rw [← HLO.out.2, e2]; exact cell_kp T.p kZ hl0, by rw [← HMK.out]; exact cell_kp T.m kZ hl1, by rw [← HLO.out.1]; exact cell_kp rL kZ (by omega)⟩, ⟨Nat.le_trans HKK.out.size T.q.1, Nat.le_trans HKK.out.size T.q.2.1, by have := HP.out; omega⟩, (HKK.out.trans T.k).over kZ (fun j hj e => absurd hj (by have := HP.out; omega))⟩
        unfold setPl at y0 y1 y2 HR
        clear rZ kZ rP T HS0 HSK rL
        go_wp2
        refine bodyPost_ret (v := regV l0 l1 (P0 + 1)) (by simp [results, Tryz.results426, go_sem, y0, y1, y2, regV]) rfl HR.out
    · have g' : decide (4 ≤ n) = true := decide_eq_true g
      obtain ⟨m, rfl⟩ : ∃ m, n = m + 4 := ⟨n - 4, by omega⟩
      have hmk : IntKind.u32.wrap 65280 = regM 1 (m + 4) := by unfold regM; rw [if_pos rfl, if_neg (by omega)]; rfl
      have HMK : Hid _ := hmk
      clear hmk
      have hm : (0 : Int) ≤ m ∧ (m : Int) < 8 := by omega
      have hw4 : IntKind.i64.wrap ((m : Int)) = m := by simp [IntKind.wrap, IntKind.bits, IntKind.signed]; omega
      skip
      obtain ⟨e1, e2⟩ := HM.out.2.1 rfl g
      subst e1
      go_enter Tryz.func426, Tryz.ntmps426
      go_upto_region 4 with fail
      rw [← HP.out, ← hW0]
      clear hP0 hW0
      go_region_held3 (fun W => W.cell? ⟨D, 1, none⟩ = some (.pointer (some ⟨E, 0, none⟩)) ∧ W.cell? ⟨P0 + 1, 0, none⟩ = some (.int .i64 8)) (first | with_reducible exact HS0.out | exact HSK.out _ (Kp.alloc noB _ _) | exact HSK.out _ ((Kp.alloc noB _ _).trans (Kp.alloc noB _ _))) (first | (go_at_call 492; refine (cC _).mono ?_; rintro e w5 ⟨rfl, hw⟩; replace hw := hw.symm; subst hw))
      all_goals first
        | (with_reducible (show Exit.then _ _ _ _ ((W0.alloc (.cells #[.pointer _] _)).alloc _).drew); have T := regT_A W0 E (m) (IntKind.u32.wrap 65280); generalize ((W0.alloc (.cells #[.pointer _] _)).alloc _).drew = W at T ⊢; obtain ⟨l0, hl0⟩ : ∃ l, l = W0.heap.size := ⟨_, rfl⟩; obtain ⟨l1, hl1⟩ : ∃ l, l = W0.heap.size + 1 := ⟨_, rfl⟩; rw [← hl1, ← hl0] at T ⊢; clear hl0 hl1)
        | (have T := regT_B W0 E (m) (IntKind.u32.wrap 65280); generalize ((W0.alloc _).alloc _).drew = W at T ⊢; obtain ⟨l1, hl1⟩ : ∃ l, l = W0.heap.size := ⟨_, rfl⟩; obtain ⟨l0, hl0⟩ : ∃ l, l = W0.heap.size + 1 := ⟨_, rfl⟩; rw [← hl0, ← hl1] at T ⊢; clear hl0 hl1)
      all_goals
        have rP : PlB W P0 .nilFunc .nilFunc .nilFunc := PlB.kp HRA.out T.k id
        have rL : W.cell? ⟨P0 + 1, 0, none⟩ = some (.int .i64 8) := by rw [cell_at ((T.k.block _ (Array.getElem?_eq_some_iff.1 HRB.out).1 id).trans HRB.out)]; rfl
        obtain ⟨p0, p1, p2⟩ := rP.c
        have z0 := rP.fz 0; have z1 := rP.fz 1; have z2 := rP.fz 2
        have rZ := rP.set (.func (.func 493) #[] #[.pointer (some ⟨l0, 0, none⟩), .pointer (some ⟨l1, 0, none⟩), .pointer (some ⟨P0 + 1, 0, none⟩)]) (.func (.func 494) #[] #[]) (.func (.func 495) #[] #[.pointer (some ⟨l0, 0, none⟩), .pointer (some ⟨l1, 0, none⟩), .pointer (some ⟨P0 + 1, 0, none⟩)])
        obtain ⟨y0, y1, y2⟩ := rZ.c
        have kZ := kp_setPl W P0 (.func (.func 493) #[] #[.pointer (some ⟨l0, 0, none⟩), .pointer (some ⟨l1, 0, none⟩), .pointer (some ⟨P0 + 1, 0, none⟩)]) (.func (.func 494) #[] #[]) (.func (.func 495) #[] #[.pointer (some ⟨l0, 0, none⟩), .pointer (some ⟨l1, 0, none⟩), .pointer (some ⟨P0 + 1, 0, none⟩)])
        have hl0 : l0 ≠ P0 := by have := T.q; have := (Array.getElem?_eq_some_iff.1 HRA.out).1; omega
        have hl1 : l1 ≠ P0 := by have := T.q; have := (Array.getElem?_eq_some_iff.1 HRA.out).1; omega
        have HR : Hid (RegQ w E 1 (m + 4) (.returned (regV l0 l1 (P0 + 1))) (setPl W P0 (.func (.func 493) #[] #[.pointer (some ⟨l0, 0, none⟩), .pointer (some ⟨l1, 0, none⟩), .pointer (some ⟨P0 + 1, 0, none⟩)]) (.func (.func 494) #[] #[]) (.func (.func 495) #[] #[.pointer (some ⟨l0, 0, none⟩), .pointer (some ⟨l1, 0, none⟩), .pointer (some ⟨P0 + 1, 0, none⟩)]))) :=
          ⟨l0, l1, P0 + 1, rfl, ⟨by rw [← HLO.out.2, e2]; exact cell_kp T.p kZ hl0, by rw [← HMK.out]; exact cell_kp T.m kZ hl1, by rw [← HLO.out.1]; exact cell_kp rL kZ (by omega)⟩, ⟨Nat.le_trans HKK.out.size T.q.1, Nat.le_trans HKK.out.size T.q.2.1, by have := HP.out; omega⟩, (HKK.out.trans T.k).over kZ (fun j hj e => absurd hj (by have := HP.out; omega))⟩
        unfold setPl at y0 y1 y2 HR
        clear rZ kZ rP T HS0 HSK rL
        go_wp2
        refine bodyPost_ret (v := regV l0 l1 (P0 + 1)) (by simp [results, Tryz.results426, go_sem, y0, y1, y2, regV]) rfl HR.out
  · skip
    have hmk : IntKind.u32.wrap 65535 = regM 2 n := rfl
    have HMK : Hid _ := hmk
    clear hmk
    skip
    obtain ⟨e1, e2⟩ := HM.out.2.2 (by decide)
    subst e1
    go_enter Tryz.func426, Tryz.ntmps426
    go_upto_region 4 with fail
    rw [← HP.out, ← hW0]
    clear hP0 hW0
    go_region_held3 (fun W => W.cell? ⟨D, 1, none⟩ = some (.pointer (some ⟨E, 0, none⟩)) ∧ W.cell? ⟨P0 + 1, 0, none⟩ = some (.int .i64 0)) (first | with_reducible exact HS0.out | exact HSK.out _ (Kp.alloc noB _ _) | exact HSK.out _ ((Kp.alloc noB _ _).trans (Kp.alloc noB _ _))) (first | (go_at_call 492; refine (cC _).mono ?_; rintro e w5 ⟨rfl, hw⟩; replace hw := hw.symm; subst hw))
    all_goals first
      | (with_reducible (show Exit.then _ _ _ _ ((W0.alloc (.cells #[.pointer _] _)).alloc _).drew); have T := regT_A W0 E (n) (IntKind.u32.wrap 65535); generalize ((W0.alloc (.cells #[.pointer _] _)).alloc _).drew = W at T ⊢; obtain ⟨l0, hl0⟩ : ∃ l, l = W0.heap.size := ⟨_, rfl⟩; obtain ⟨l1, hl1⟩ : ∃ l, l = W0.heap.size + 1 := ⟨_, rfl⟩; rw [← hl1, ← hl0] at T ⊢; clear hl0 hl1)
      | (have T := regT_B W0 E (n) (IntKind.u32.wrap 65535); generalize ((W0.alloc _).alloc _).drew = W at T ⊢; obtain ⟨l1, hl1⟩ : ∃ l, l = W0.heap.size := ⟨_, rfl⟩; obtain ⟨l0, hl0⟩ : ∃ l, l = W0.heap.size + 1 := ⟨_, rfl⟩; rw [← hl0, ← hl1] at T ⊢; clear hl0 hl1)
    all_goals
      have rP : PlB W P0 .nilFunc .nilFunc .nilFunc := PlB.kp HRA.out T.k id
      have rL : W.cell? ⟨P0 + 1, 0, none⟩ = some (.int .i64 0) := by rw [cell_at ((T.k.block _ (Array.getElem?_eq_some_iff.1 HRB.out).1 id).trans HRB.out)]; rfl
      obtain ⟨p0, p1, p2⟩ := rP.c
      have z0 := rP.fz 0; have z1 := rP.fz 1; have z2 := rP.fz 2
      have rZ := rP.set (.func (.func 493) #[] #[.pointer (some ⟨l0, 0, none⟩), .pointer (some ⟨l1, 0, none⟩), .pointer (some ⟨P0 + 1, 0, none⟩)]) (.func (.func 494) #[] #[]) (.func (.func 495) #[] #[.pointer (some ⟨l0, 0, none⟩), .pointer (some ⟨l1, 0, none⟩), .pointer (some ⟨P0 + 1, 0, none⟩)])
      obtain ⟨y0, y1, y2⟩ := rZ.c
      have kZ := kp_setPl W P0 (.func (.func 493) #[] #[.pointer (some ⟨l0, 0, none⟩), .pointer (some ⟨l1, 0, none⟩), .pointer (some ⟨P0 + 1, 0, none⟩)]) (.func (.func 494) #[] #[]) (.func (.func 495) #[] #[.pointer (some ⟨l0, 0, none⟩), .pointer (some ⟨l1, 0, none⟩), .pointer (some ⟨P0 + 1, 0, none⟩)])
      have hl0 : l0 ≠ P0 := by have := T.q; have := (Array.getElem?_eq_some_iff.1 HRA.out).1; omega
      have hl1 : l1 ≠ P0 := by have := T.q; have := (Array.getElem?_eq_some_iff.1 HRA.out).1; omega
      have HR : Hid (RegQ w E 2 (n) (.returned (regV l0 l1 (P0 + 1))) (setPl W P0 (.func (.func 493) #[] #[.pointer (some ⟨l0, 0, none⟩), .pointer (some ⟨l1, 0, none⟩), .pointer (some ⟨P0 + 1, 0, none⟩)]) (.func (.func 494) #[] #[]) (.func (.func 495) #[] #[.pointer (some ⟨l0, 0, none⟩), .pointer (some ⟨l1, 0, none⟩), .pointer (some ⟨P0 + 1, 0, none⟩)]))) :=
        ⟨l0, l1, P0 + 1, rfl, ⟨by rw [← HLO.out.2, e2]; exact cell_kp T.p kZ hl0, by rw [← HMK.out]; exact cell_kp T.m kZ hl1, by rw [← HLO.out.1]; exact cell_kp rL kZ (by omega)⟩, ⟨Nat.le_trans HKK.out.size T.q.1, Nat.le_trans HKK.out.size T.q.2.1, by have := HP.out; omega⟩, (HKK.out.trans T.k).over kZ (fun j hj e => absurd hj (by have := HP.out; omega))⟩
      unfold setPl at y0 y1 y2 HR
      clear rZ kZ rP T HS0 HSK rL
      go_wp2
      refine bodyPost_ret (v := regV l0 l1 (P0 + 1)) (by simp [results, Tryz.results426, go_sem, y0, y1, y2, regV]) rfl HR.out
  · skip
    have hmk : IntKind.u32.wrap 4294967295 = regM 4 n := rfl
    have HMK : Hid _ := hmk
    clear hmk
    skip
    obtain ⟨e1, e2⟩ := HM.out.2.2 (by decide)
    subst e1
    go_enter Tryz.func426, Tryz.ntmps426
    go_upto_region 4 with fail
    rw [← HP.out, ← hW0]
    clear hP0 hW0
    go_region_held3 (fun W => W.cell? ⟨D, 1, none⟩ = some (.pointer (some ⟨E, 0, none⟩)) ∧ W.cell? ⟨P0 + 1, 0, none⟩ = some (.int .i64 0)) (first | with_reducible exact HS0.out | exact HSK.out _ (Kp.alloc noB _ _) | exact HSK.out _ ((Kp.alloc noB _ _).trans (Kp.alloc noB _ _))) (first | (go_at_call 492; refine (cC _).mono ?_; rintro e w5 ⟨rfl, hw⟩; replace hw := hw.symm; subst hw))
    all_goals first
      | (with_reducible (show Exit.then _ _ _ _ ((W0.alloc (.cells #[.pointer _] _)).alloc _).drew); have T := regT_A W0 E (n) (IntKind.u32.wrap 4294967295); generalize ((W0.alloc (.cells #[.pointer _] _)).alloc _).drew = W at T ⊢; obtain ⟨l0, hl0⟩ : ∃ l, l = W0.heap.size := ⟨_, rfl⟩; obtain ⟨l1, hl1⟩ : ∃ l, l = W0.heap.size + 1 := ⟨_, rfl⟩; rw [← hl1, ← hl0] at T ⊢; clear hl0 hl1)
      | (have T := regT_B W0 E (n) (IntKind.u32.wrap 4294967295); generalize ((W0.alloc _).alloc _).drew = W at T ⊢; obtain ⟨l1, hl1⟩ : ∃ l, l = W0.heap.size := ⟨_, rfl⟩; obtain ⟨l0, hl0⟩ : ∃ l, l = W0.heap.size + 1 := ⟨_, rfl⟩; rw [← hl0, ← hl1] at T ⊢; clear hl0 hl1)
    all_goals
      have rP : PlB W P0 .nilFunc .nilFunc .nilFunc := PlB.kp HRA.out T.k id
      have rL : W.cell? ⟨P0 + 1, 0, none⟩ = some (.int .i64 0) := by rw [cell_at ((T.k.block _ (Array.getElem?_eq_some_iff.1 HRB.out).1 id).trans HRB.out)]; rfl
      obtain ⟨p0, p1, p2⟩ := rP.c
      have z0 := rP.fz 0; have z1 := rP.fz 1; have z2 := rP.fz 2
      have rZ := rP.set (.func (.func 493) #[] #[.pointer (some ⟨l0, 0, none⟩), .pointer (some ⟨l1, 0, none⟩), .pointer (some ⟨P0 + 1, 0, none⟩)]) (.func (.func 494) #[] #[]) (.func (.func 495) #[] #[.pointer (some ⟨l0, 0, none⟩), .pointer (some ⟨l1, 0, none⟩), .pointer (some ⟨P0 + 1, 0, none⟩)])
      obtain ⟨y0, y1, y2⟩ := rZ.c
      have kZ := kp_setPl W P0 (.func (.func 493) #[] #[.pointer (some ⟨l0, 0, none⟩), .pointer (some ⟨l1, 0, none⟩), .pointer (some ⟨P0 + 1, 0, none⟩)]) (.func (.func 494) #[] #[]) (.func (.func 495) #[] #[.pointer (some ⟨l0, 0, none⟩), .pointer (some ⟨l1, 0, none⟩), .pointer (some ⟨P0 + 1, 0, none⟩)])
      have hl0 : l0 ≠ P0 := by have := T.q; have := (Array.getElem?_eq_some_iff.1 HRA.out).1; omega
      have hl1 : l1 ≠ P0 := by have := T.q; have := (Array.getElem?_eq_some_iff.1 HRA.out).1; omega
      have HR : Hid (RegQ w E 4 (n) (.returned (regV l0 l1 (P0 + 1))) (setPl W P0 (.func (.func 493) #[] #[.pointer (some ⟨l0, 0, none⟩), .pointer (some ⟨l1, 0, none⟩), .pointer (some ⟨P0 + 1, 0, none⟩)]) (.func (.func 494) #[] #[]) (.func (.func 495) #[] #[.pointer (some ⟨l0, 0, none⟩), .pointer (some ⟨l1, 0, none⟩), .pointer (some ⟨P0 + 1, 0, none⟩)]))) :=
        ⟨l0, l1, P0 + 1, rfl, ⟨by rw [← HLO.out.2, e2]; exact cell_kp T.p kZ hl0, by rw [← HMK.out]; exact cell_kp T.m kZ hl1, by rw [← HLO.out.1]; exact cell_kp rL kZ (by omega)⟩, ⟨Nat.le_trans HKK.out.size T.q.1, Nat.le_trans HKK.out.size T.q.2.1, by have := HP.out; omega⟩, (HKK.out.trans T.k).over kZ (fun j hj e => absurd hj (by have := HP.out; omega))⟩
      unfold setPl at y0 y1 y2 HR
      clear rZ kZ rP T HS0 HSK rL
      go_wp2
      refine bodyPost_ret (v := regV l0 l1 (P0 + 1)) (by simp [results, Tryz.results426, go_sem, y0, y1, y2, regV]) rfl HR.out
end Go.Proofs.YtiagfmkinefidaaGreat.Rm
namespace Go.Proofs.YtiagfmkinefidaaGreat.Rm
open Go.ChangeShapes Go.WideShapes Go.ChangeAt Go.RowKit Go.Maps
set_option linter.unusedVariables false
set_option maxRecDepth 20000
def NumQ (w : World) (n : Int) (e : Ending) (w' : World) : Prop := ∃ l, e = .returned (numV l) ∧ w'.cell? ⟨l, 0, none⟩ = some (.int .u32 n) ∧ w.heap.size ≤ l ∧ Kp noB w w'
/-- An operand's nine cells. -/
def opdV (o : Dc.Opd) : Array Value := #[.int .i64 o.kind, .int .i64 o.reg, .int .i64 o.size, .int .i64 o.seg, .int .i64 o.base, .int .i64 o.index, .int .i64 o.scale, .int .u32 o.disp, .int .u32 o.imm]
theorem placeOf_reg (w : World) (D E : Nat) (x : Dc.Ins) (a so : Int) (ir : Bool) (hD : DAt w D E x a so ir) (o : Dc.Opd) (n : Nat) (hn : n < 8) (hk : o.kind = 1) (hr : o.reg = n) (M : Int) (hs : (o.size = 1 ∧ M = 256) ∨ (o.size = 2 ∧ M = 65536) ∨ (o.size = 4 ∧ M = 4294967296)) :
    Calls Tryz.prog 428 #[.pointer (some ⟨D, 0, none⟩), .agg (opdV o)] w (RegQ w E o.size n) := by
  obtain ⟨k, g, s, sg, b, ix, sc, d, im⟩ := o
  simp only at hk hr hs ⊢
  subst hk hr
  unfold opdV
  have HC : Hid (∀ W, Kp noB w W → Calls Tryz.prog 426 #[.pointer (some ⟨D, 0, none⟩), .int .i64 n, .int .i64 s] W (RegQ W E s n)) := fun W k => reg_any W D E x a so ir (DAt.kp0 hD k) n hn s M hs
  obtain ⟨W0, hW0⟩ : ∃ W, W = (w.alloc (.cells (opdV ⟨1, n, s, sg, b, ix, sc, d, im⟩) 38)).alloc (.cells #[.nilFunc, .nilFunc, .nilFunc] 271) := ⟨_, rfl⟩
  unfold opdV at hW0
  obtain ⟨P, hP⟩ : ∃ P, P = w.heap.size := ⟨_, rfl⟩
  have kA := Kp.alloc noB w (.cells #[.int .i64 1, .int .i64 n, .int .i64 s, .int .i64 sg, .int .i64 b, .int .i64 ix, .int .i64 sc, .int .u32 d, .int .u32 im] 38)
  have kB := Kp.alloc noB (w.alloc (.cells #[.int .i64 1, .int .i64 n, .int .i64 s, .int .i64 sg, .int .i64 b, .int .i64 ix, .int .i64 sc, .int .u32 d, .int .u32 im] 38)) (.cells #[.nilFunc, .nilFunc, .nilFunc] 271)
  have k0 : Kp noB w W0 := by rw [hW0]; exact kA.trans kB
  have rP : PlB W0 (P + 1) .nilFunc .nilFunc .nilFunc := by
    have := (MapKept.heap_alloc (w.alloc (.cells #[.int .i64 1, .int .i64 n, .int .i64 s, .int .i64 sg, .int .i64 b, .int .i64 ix, .int .i64 sc, .int .u32 d, .int .u32 im] 38)) (.cells #[.nilFunc, .nilFunc, .nilFunc] 271)).1
    rw [World.size_alloc, ← hP] at this
    rw [hW0]; exact this
  clear kA kB hs hD
  go_enter Tryz.func428, Tryz.ntmps428
  go_wp2_with fail
  rw [← hW0, ← hP]
  refine Calls.mono (HC.out _ k0) ?_; rintro e w1 ⟨l0, l1, l2, rfl, q1, q2, q3⟩
  clear hW0 HC
  have r1 := rP.kp q3 id
  have hl : l0 ≠ P + 1 ∧ l1 ≠ P + 1 ∧ l2 ≠ P + 1 := by have := (Array.getElem?_eq_some_iff.1 rP).1; omega
  obtain ⟨p0, p1, p2⟩ := r1.c
  have z0 := r1.fz 0; have z1 := r1.fz 1; have z2 := r1.fz 2
  have HR : Hid (∀ x y z, RegQ w E s n (.returned (regV l0 l1 l2)) (setPl w1 (P + 1) x y z) ∧ PlB (setPl w1 (P + 1) x y z) (P + 1) x y z) := fun x y z =>
    ⟨⟨l0, l1, l2, rfl, q1.kp (kp_setPl w1 (P + 1) x y z) hl.1 hl.2.1 hl.2.2, ⟨Nat.le_trans k0.size q2.1, Nat.le_trans k0.size q2.2.1, Nat.le_trans k0.size q2.2.2⟩, (k0.trans q3).over (kp_setPl w1 (P + 1) x y z) (fun j hj e => absurd hj (by omega))⟩, r1.set x y z⟩
  clear q1 q2 q3 r1 rP k0 hP
  unfold regV at HR ⊢
  obtain ⟨h1, h2⟩ := HR.out (.func (.func 493) #[] #[.pointer (some ⟨l0, 0, none⟩), .pointer (some ⟨l1, 0, none⟩), .pointer (some ⟨l2, 0, none⟩)]) (.func (.func 494) #[] #[]) (.func (.func 495) #[] #[.pointer (some ⟨l0, 0, none⟩), .pointer (some ⟨l1, 0, none⟩), .pointer (some ⟨l2, 0, none⟩)])
  obtain ⟨y0, y1, y2⟩ := h2.c
  have HZ : Hid _ := h1
  unfold setPl at y0 y1 y2 HZ
  clear h1 h2 HR
  go_wp2
  refine bodyPost_ret (v := regV l0 l1 l2) (by simp [results, Tryz.results428, go_sem, y0, y1, y2, regV]) rfl HZ.out
end Go.Proofs.YtiagfmkinefidaaGreat.Rm
namespace Go.Proofs.YtiagfmkinefidaaGreat.Rm
open Go.ChangeShapes Go.WideShapes Go.ChangeAt Go.RowKit Go.Maps
set_option linter.unusedVariables false
set_option maxRecDepth 20000
theorem placeOf_num (w : World) (D : Nat) (o : Dc.Opd) (hk : o.kind = 3 ∨ o.kind = 0) :
    Calls Tryz.prog 428 #[.pointer (some ⟨D, 0, none⟩), .agg (opdV o)] w (NumQ w o.imm) := by
  obtain ⟨k, g, s, sg, b, ix, sc, d, im⟩ := o
  simp only at hk ⊢
  unfold opdV
  have HC : Hid (∀ W, Calls Tryz.prog 499 #[.int .u32 im] W (NumQ W im)) := fun W => num_any W im
  obtain ⟨P, hP⟩ : ∃ P, P = w.heap.size := ⟨_, rfl⟩
  have h12 : (k == 1) = false ∧ (k == 2) = false ∧ (k == 4) = false ∧ (k == 5) = false := by rcases hk with rfl | rfl <;> decide
  obtain ⟨h1, h2, h4, h5⟩ := h12
  obtain ⟨W0, hW0⟩ : ∃ W, W = (w.alloc (.cells #[.int .i64 k, .int .i64 g, .int .i64 s, .int .i64 sg, .int .i64 b, .int .i64 ix, .int .i64 sc, .int .u32 d, .int .u32 im] 38)).alloc (.cells #[.nilFunc, .nilFunc, .nilFunc] 271) := ⟨_, rfl⟩
  have kA := Kp.alloc noB w (.cells #[.int .i64 k, .int .i64 g, .int .i64 s, .int .i64 sg, .int .i64 b, .int .i64 ix, .int .i64 sc, .int .u32 d, .int .u32 im] 38)
  have kB := Kp.alloc noB (w.alloc (.cells #[.int .i64 k, .int .i64 g, .int .i64 s, .int .i64 sg, .int .i64 b, .int .i64 ix, .int .i64 sc, .int .u32 d, .int .u32 im] 38)) (.cells #[.nilFunc, .nilFunc, .nilFunc] 271)
  have k0 : Kp noB w W0 := by rw [hW0]; exact kA.trans kB
  have rP : PlB W0 (P + 1) .nilFunc .nilFunc .nilFunc := by
    have := (MapKept.heap_alloc (w.alloc (.cells #[.int .i64 k, .int .i64 g, .int .i64 s, .int .i64 sg, .int .i64 b, .int .i64 ix, .int .i64 sc, .int .u32 d, .int .u32 im] 38)) (.cells #[.nilFunc, .nilFunc, .nilFunc] 271)).1
    rw [World.size_alloc, ← hP] at this
    rw [hW0]; exact this
  clear kA kB hk
  go_enter Tryz.func428, Tryz.ntmps428
  go_wp2_with fail
  rw [← hW0, ← hP]
  refine Calls.mono (HC.out _) ?_; rintro e w1 ⟨l, rfl, q1, q2, q3⟩
  clear hW0 HC
  have r1 := rP.kp q3 id
  have hl : l ≠ P + 1 := by have := (Array.getElem?_eq_some_iff.1 rP).1; omega
  obtain ⟨p0, p1, p2⟩ := r1.c
  have z0 := r1.fz 0; have z1 := r1.fz 1; have z2 := r1.fz 2
  have HR : Hid (∀ u1 u2 u3, NumQ w (im) (.returned (numV l)) (setPl w1 (P + 1) u1 u2 u3) ∧ PlB (setPl w1 (P + 1) u1 u2 u3) (P + 1) u1 u2 u3) := fun u1 u2 u3 =>
    ⟨⟨l, rfl, cell_kp q1 (kp_setPl w1 (P + 1) u1 u2 u3) hl, Nat.le_trans k0.size q2, (k0.trans q3).over (kp_setPl w1 (P + 1) u1 u2 u3) (fun j hj e => absurd hj (by omega))⟩, r1.set u1 u2 u3⟩
  clear q1 q2 q3 r1 rP k0 hP
  unfold numV at HR ⊢
  obtain ⟨y, z⟩ := HR.out (.func (.func 559) #[] #[.pointer (some ⟨l, 0, none⟩)]) (.func (.func 494) #[] #[]) (.func (.func 560) #[] #[])
  obtain ⟨y0, y1, y2⟩ := z.c
  have HZ : Hid _ := y
  unfold setPl at y0 y1 y2 HZ
  clear y z HR
  go_wp2
  refine bodyPost_ret (v := numV l) (by simp [results, Tryz.results428, go_sem, y0, y1, y2, numV]) rfl HZ.out
theorem a_reg (w : World) (D E : Nat) (x : Dc.Ins) (a so : Int) (ir : Bool) (hD : DAt w D E x a so ir) (n : Nat) (hn : n < 8) (hk : x.a.kind = 1) (hr : x.a.reg = n) (M : Int) (hs : (x.a.size = 1 ∧ M = 256) ∨ (x.a.size = 2 ∧ M = 65536) ∨ (x.a.size = 4 ∧ M = 4294967296)) :
    Calls Tryz.prog 169 #[.pointer (some ⟨D, 0, none⟩)] w (RegQ w E x.a.size n) := by
  have HC : Hid (∀ W, Kp noB w W → Calls Tryz.prog 428 #[.pointer (some ⟨D, 0, none⟩), .agg (opdV x.a)] W (RegQ W E x.a.size n)) := fun W k => placeOf_reg W D E x a so ir (DAt.kp0 hD k) x.a n hn hk hr M hs
  obtain ⟨P, hP⟩ : ∃ P, P = w.heap.size := ⟨_, rfl⟩
  obtain ⟨W0, hW0⟩ : ∃ W, W = w.alloc (.cells #[.nilFunc, .nilFunc, .nilFunc] 271) := ⟨_, rfl⟩
  have k0 : Kp noB w W0 := by rw [hW0]; exact Kp.alloc _ _ _
  have rP : PlB W0 P .nilFunc .nilFunc .nilFunc := by rw [hW0, hP]; exact (MapKept.heap_alloc w _).1
  have D0 := DAt.kp0 hD k0
  have d0 : (w.alloc (.cells #[.nilFunc, .nilFunc, .nilFunc] 271)).cell? ⟨D, 5, none⟩ = some (.int .i64 x.a.kind) := by rw [← hW0]; exact D0.c rfl
  have d1 : (w.alloc (.cells #[.nilFunc, .nilFunc, .nilFunc] 271)).cell? ⟨D, 6, none⟩ = some (.int .i64 x.a.reg) := by rw [← hW0]; exact D0.c rfl
  have d2 : (w.alloc (.cells #[.nilFunc, .nilFunc, .nilFunc] 271)).cell? ⟨D, 7, none⟩ = some (.int .i64 x.a.size) := by rw [← hW0]; exact D0.c rfl
  have d3 : (w.alloc (.cells #[.nilFunc, .nilFunc, .nilFunc] 271)).cell? ⟨D, 8, none⟩ = some (.int .i64 x.a.seg) := by rw [← hW0]; exact D0.c rfl
  have d4 : (w.alloc (.cells #[.nilFunc, .nilFunc, .nilFunc] 271)).cell? ⟨D, 9, none⟩ = some (.int .i64 x.a.base) := by rw [← hW0]; exact D0.c rfl
  have d5 : (w.alloc (.cells #[.nilFunc, .nilFunc, .nilFunc] 271)).cell? ⟨D, 10, none⟩ = some (.int .i64 x.a.index) := by rw [← hW0]; exact D0.c rfl
  have d6 : (w.alloc (.cells #[.nilFunc, .nilFunc, .nilFunc] 271)).cell? ⟨D, 11, none⟩ = some (.int .i64 x.a.scale) := by rw [← hW0]; exact D0.c rfl
  have d7 : (w.alloc (.cells #[.nilFunc, .nilFunc, .nilFunc] 271)).cell? ⟨D, 12, none⟩ = some (.int .u32 x.a.disp) := by rw [← hW0]; exact D0.c rfl
  have d8 : (w.alloc (.cells #[.nilFunc, .nilFunc, .nilFunc] 271)).cell? ⟨D, 13, none⟩ = some (.int .u32 x.a.imm) := by rw [← hW0]; exact D0.c rfl
  clear D0 hD hk hr hs
  go_enter Tryz.func169, Tryz.ntmps169
  go_wp2_with fail
  rw [← hW0, ← hP]
  refine Calls.mono (HC.out _ k0) ?_; rintro e w1 ⟨l0, l1, l2, rfl, q1, q2, q3⟩
  clear hW0 HC d0 d1 d2 d3 d4 d5 d6 d7 d8
  have r1 := rP.kp q3 id
  have hl : l0 ≠ P ∧ l1 ≠ P ∧ l2 ≠ P := by have := (Array.getElem?_eq_some_iff.1 rP).1; omega
  obtain ⟨p0, p1, p2⟩ := r1.c
  have z0 := r1.fz 0; have z1 := r1.fz 1; have z2 := r1.fz 2
  have HR : Hid (∀ u1 u2 u3, RegQ w E x.a.size n (.returned (regV l0 l1 l2)) (setPl w1 (P) u1 u2 u3) ∧ PlB (setPl w1 (P) u1 u2 u3) (P) u1 u2 u3) := fun u1 u2 u3 =>
    ⟨⟨l0, l1, l2, rfl, q1.kp (kp_setPl w1 (P) u1 u2 u3) hl.1 hl.2.1 hl.2.2, ⟨Nat.le_trans k0.size q2.1, Nat.le_trans k0.size q2.2.1, Nat.le_trans k0.size q2.2.2⟩, (k0.trans q3).over (kp_setPl w1 (P) u1 u2 u3) (fun j hj e => absurd hj (by omega))⟩, r1.set u1 u2 u3⟩
  clear q1 q2 q3 r1 rP k0 hP
  unfold regV at HR ⊢
  obtain ⟨y, z⟩ := HR.out (.func (.func 493) #[] #[.pointer (some ⟨l0, 0, none⟩), .pointer (some ⟨l1, 0, none⟩), .pointer (some ⟨l2, 0, none⟩)]) (.func (.func 494) #[] #[]) (.func (.func 495) #[] #[.pointer (some ⟨l0, 0, none⟩), .pointer (some ⟨l1, 0, none⟩), .pointer (some ⟨l2, 0, none⟩)])
  obtain ⟨y0, y1, y2⟩ := z.c
  have HZ : Hid _ := y
  unfold setPl at y0 y1 y2 HZ
  clear y z HR
  go_wp2
  refine bodyPost_ret (v := regV l0 l1 l2) (by simp [results, Tryz.results169, go_sem, y0, y1, y2, regV]) rfl HZ.out
theorem a_num (w : World) (D E : Nat) (x : Dc.Ins) (a so : Int) (ir : Bool) (hD : DAt w D E x a so ir) (hk : x.a.kind = 3 ∨ x.a.kind = 0) :
    Calls Tryz.prog 169 #[.pointer (some ⟨D, 0, none⟩)] w (NumQ w x.a.imm) := by
  have HC : Hid (∀ W, Calls Tryz.prog 428 #[.pointer (some ⟨D, 0, none⟩), .agg (opdV x.a)] W (NumQ W x.a.imm)) := fun W => placeOf_num W D x.a hk
  obtain ⟨P, hP⟩ : ∃ P, P = w.heap.size := ⟨_, rfl⟩
  obtain ⟨W0, hW0⟩ : ∃ W, W = w.alloc (.cells #[.nilFunc, .nilFunc, .nilFunc] 271) := ⟨_, rfl⟩
  have k0 : Kp noB w W0 := by rw [hW0]; exact Kp.alloc _ _ _
  have rP : PlB W0 P .nilFunc .nilFunc .nilFunc := by rw [hW0, hP]; exact (MapKept.heap_alloc w _).1
  have D0 := DAt.kp0 hD k0
  have d0 : (w.alloc (.cells #[.nilFunc, .nilFunc, .nilFunc] 271)).cell? ⟨D, 5, none⟩ = some (.int .i64 x.a.kind) := by rw [← hW0]; exact D0.c rfl
  have d1 : (w.alloc (.cells #[.nilFunc, .nilFunc, .nilFunc] 271)).cell? ⟨D, 6, none⟩ = some (.int .i64 x.a.reg) := by rw [← hW0]; exact D0.c rfl
  have d2 : (w.alloc (.cells #[.nilFunc, .nilFunc, .nilFunc] 271)).cell? ⟨D, 7, none⟩ = some (.int .i64 x.a.size) := by rw [← hW0]; exact D0.c rfl
  have d3 : (w.alloc (.cells #[.nilFunc, .nilFunc, .nilFunc] 271)).cell? ⟨D, 8, none⟩ = some (.int .i64 x.a.seg) := by rw [← hW0]; exact D0.c rfl
  have d4 : (w.alloc (.cells #[.nilFunc, .nilFunc, .nilFunc] 271)).cell? ⟨D, 9, none⟩ = some (.int .i64 x.a.base) := by rw [← hW0]; exact D0.c rfl
  have d5 : (w.alloc (.cells #[.nilFunc, .nilFunc, .nilFunc] 271)).cell? ⟨D, 10, none⟩ = some (.int .i64 x.a.index) := by rw [← hW0]; exact D0.c rfl
  have d6 : (w.alloc (.cells #[.nilFunc, .nilFunc, .nilFunc] 271)).cell? ⟨D, 11, none⟩ = some (.int .i64 x.a.scale) := by rw [← hW0]; exact D0.c rfl
  have d7 : (w.alloc (.cells #[.nilFunc, .nilFunc, .nilFunc] 271)).cell? ⟨D, 12, none⟩ = some (.int .u32 x.a.disp) := by rw [← hW0]; exact D0.c rfl
  have d8 : (w.alloc (.cells #[.nilFunc, .nilFunc, .nilFunc] 271)).cell? ⟨D, 13, none⟩ = some (.int .u32 x.a.imm) := by rw [← hW0]; exact D0.c rfl
  clear D0 hD hk
  go_enter Tryz.func169, Tryz.ntmps169
  go_wp2_with fail
  rw [← hW0, ← hP]
  refine Calls.mono (HC.out _) ?_; rintro e w1 ⟨l, rfl, q1, q2, q3⟩
  clear hW0 HC d0 d1 d2 d3 d4 d5 d6 d7 d8
  have r1 := rP.kp q3 id
  have hl : l ≠ P := by have := (Array.getElem?_eq_some_iff.1 rP).1; omega
  obtain ⟨p0, p1, p2⟩ := r1.c
  have z0 := r1.fz 0; have z1 := r1.fz 1; have z2 := r1.fz 2
  have HR : Hid (∀ u1 u2 u3, NumQ w (x.a.imm) (.returned (numV l)) (setPl w1 (P) u1 u2 u3) ∧ PlB (setPl w1 (P) u1 u2 u3) (P) u1 u2 u3) := fun u1 u2 u3 =>
    ⟨⟨l, rfl, cell_kp q1 (kp_setPl w1 (P) u1 u2 u3) hl, Nat.le_trans k0.size q2, (k0.trans q3).over (kp_setPl w1 (P) u1 u2 u3) (fun j hj e => absurd hj (by omega))⟩, r1.set u1 u2 u3⟩
  clear q1 q2 q3 r1 rP k0 hP
  unfold numV at HR ⊢
  obtain ⟨y, z⟩ := HR.out (.func (.func 559) #[] #[.pointer (some ⟨l, 0, none⟩)]) (.func (.func 494) #[] #[]) (.func (.func 560) #[] #[])
  obtain ⟨y0, y1, y2⟩ := z.c
  have HZ : Hid _ := y
  unfold setPl at y0 y1 y2 HZ
  clear y z HR
  go_wp2
  refine bodyPost_ret (v := numV l) (by simp [results, Tryz.results169, go_sem, y0, y1, y2, numV]) rfl HZ.out
theorem b_num (w : World) (D E : Nat) (x : Dc.Ins) (a so : Int) (ir : Bool) (hD : DAt w D E x a so ir) (hk : x.b.kind = 3 ∨ x.b.kind = 0) :
    Calls Tryz.prog 170 #[.pointer (some ⟨D, 0, none⟩)] w (NumQ w x.b.imm) := by
  have HC : Hid (∀ W, Calls Tryz.prog 428 #[.pointer (some ⟨D, 0, none⟩), .agg (opdV x.b)] W (NumQ W x.b.imm)) := fun W => placeOf_num W D x.b hk
  obtain ⟨P, hP⟩ : ∃ P, P = w.heap.size := ⟨_, rfl⟩
  obtain ⟨W0, hW0⟩ : ∃ W, W = w.alloc (.cells #[.nilFunc, .nilFunc, .nilFunc] 271) := ⟨_, rfl⟩
  have k0 : Kp noB w W0 := by rw [hW0]; exact Kp.alloc _ _ _
  have rP : PlB W0 P .nilFunc .nilFunc .nilFunc := by rw [hW0, hP]; exact (MapKept.heap_alloc w _).1
  have D0 := DAt.kp0 hD k0
  have d0 : (w.alloc (.cells #[.nilFunc, .nilFunc, .nilFunc] 271)).cell? ⟨D, 14, none⟩ = some (.int .i64 x.b.kind) := by rw [← hW0]; exact D0.c rfl
  have d1 : (w.alloc (.cells #[.nilFunc, .nilFunc, .nilFunc] 271)).cell? ⟨D, 15, none⟩ = some (.int .i64 x.b.reg) := by rw [← hW0]; exact D0.c rfl
  have d2 : (w.alloc (.cells #[.nilFunc, .nilFunc, .nilFunc] 271)).cell? ⟨D, 16, none⟩ = some (.int .i64 x.b.size) := by rw [← hW0]; exact D0.c rfl
  have d3 : (w.alloc (.cells #[.nilFunc, .nilFunc, .nilFunc] 271)).cell? ⟨D, 17, none⟩ = some (.int .i64 x.b.seg) := by rw [← hW0]; exact D0.c rfl
  have d4 : (w.alloc (.cells #[.nilFunc, .nilFunc, .nilFunc] 271)).cell? ⟨D, 18, none⟩ = some (.int .i64 x.b.base) := by rw [← hW0]; exact D0.c rfl
  have d5 : (w.alloc (.cells #[.nilFunc, .nilFunc, .nilFunc] 271)).cell? ⟨D, 19, none⟩ = some (.int .i64 x.b.index) := by rw [← hW0]; exact D0.c rfl
  have d6 : (w.alloc (.cells #[.nilFunc, .nilFunc, .nilFunc] 271)).cell? ⟨D, 20, none⟩ = some (.int .i64 x.b.scale) := by rw [← hW0]; exact D0.c rfl
  have d7 : (w.alloc (.cells #[.nilFunc, .nilFunc, .nilFunc] 271)).cell? ⟨D, 21, none⟩ = some (.int .u32 x.b.disp) := by rw [← hW0]; exact D0.c rfl
  have d8 : (w.alloc (.cells #[.nilFunc, .nilFunc, .nilFunc] 271)).cell? ⟨D, 22, none⟩ = some (.int .u32 x.b.imm) := by rw [← hW0]; exact D0.c rfl
  clear D0 hD hk
  go_enter Tryz.func170, Tryz.ntmps170
  go_wp2_with fail
  rw [← hW0, ← hP]
  refine Calls.mono (HC.out _) ?_; rintro e w1 ⟨l, rfl, q1, q2, q3⟩
  clear hW0 HC d0 d1 d2 d3 d4 d5 d6 d7 d8
  have r1 := rP.kp q3 id
  have hl : l ≠ P := by have := (Array.getElem?_eq_some_iff.1 rP).1; omega
  obtain ⟨p0, p1, p2⟩ := r1.c
  have z0 := r1.fz 0; have z1 := r1.fz 1; have z2 := r1.fz 2
  have HR : Hid (∀ u1 u2 u3, NumQ w (x.b.imm) (.returned (numV l)) (setPl w1 (P) u1 u2 u3) ∧ PlB (setPl w1 (P) u1 u2 u3) (P) u1 u2 u3) := fun u1 u2 u3 =>
    ⟨⟨l, rfl, cell_kp q1 (kp_setPl w1 (P) u1 u2 u3) hl, Nat.le_trans k0.size q2, (k0.trans q3).over (kp_setPl w1 (P) u1 u2 u3) (fun j hj e => absurd hj (by omega))⟩, r1.set u1 u2 u3⟩
  clear q1 q2 q3 r1 rP k0 hP
  unfold numV at HR ⊢
  obtain ⟨y, z⟩ := HR.out (.func (.func 559) #[] #[.pointer (some ⟨l, 0, none⟩)]) (.func (.func 494) #[] #[]) (.func (.func 560) #[] #[])
  obtain ⟨y0, y1, y2⟩ := z.c
  have HZ : Hid _ := y
  unfold setPl at y0 y1 y2 HZ
  clear y z HR
  go_wp2
  refine bodyPost_ret (v := numV l) (by simp [results, Tryz.results170, go_sem, y0, y1, y2, numV]) rfl HZ.out
theorem fld0 (a b c : Value) (w : World) : (Instr.field 271 (.agg #[a, b, c]) 0).run Tryz.prog w = .ok a w := by kernel_rfl
theorem need_zero (w : World) : Calls Tryz.prog 417 #[.int .i64 0] w fun e w' => e = .returned (.tuple #[]) ∧ w' = w := by
  go_enter Tryz.func417, Tryz.ntmps417
  go_wp2
  go_end0
  exact ⟨rfl, rfl⟩
/-- A register that is read, to be written perhaps. -/
theorem before_reg (w : World) (l0 l1 l2 E : Nat) (s : Int) (n : Nat) (hs : s = 1 ∨ s = 2 ∨ s = 4) (h : RegP w l0 l1 l2 E s n) (r : Int) (r0 : 0 ≤ r) (r1 : r < 4294967296) (hr : w.cell? ⟨E, regK s n, none⟩ = some (.int .u32 r)) (b : Bool) :
    Calls Tryz.prog 415 #[regV l0 l1 l2, .bool b] w fun e w' => e = .returned (.int .u32 (getR s n r)) ∧ Kp noB w w' := by
  unfold regV
  have kA := Kp.alloc noB w (.cells #[.func (.func 493) #[] #[.pointer (some ⟨l0, 0, none⟩), .pointer (some ⟨l1, 0, none⟩), .pointer (some ⟨l2, 0, none⟩)], .func (.func 494) #[] #[], .func (.func 495) #[] #[.pointer (some ⟨l0, 0, none⟩), .pointer (some ⟨l1, 0, none⟩), .pointer (some ⟨l2, 0, none⟩)]] 271)
  have HC : Hid _ := regRead_any _ l0 l1 l2 E s n hs (h.kp0 kA) r r0 r1 (cell_kp hr kA id)
  have HK : Hid _ := kA
  clear kA h hr
  cases b
  · go_enter Tryz.func415, Tryz.ntmps415
    go_wp2_with fail
    refine Calls.mono HC.out ?_; rintro e w1 ⟨rfl, k1⟩
    have HK2 : Hid _ := HK.out.trans k1
    clear k1 HC HK
    go_wp2
    go_ret
    exact ⟨rfl, HK2.out⟩
  · go_enter Tryz.func415, Tryz.ntmps415
    go_wp2_with fail
    refine Calls.mono (nothing_any _) ?_; rintro e w0 ⟨rfl, rfl⟩
    go_wp2_with fail
    refine Calls.mono HC.out ?_; rintro e w1 ⟨rfl, k1⟩
    have HK2 : Hid _ := HK.out.trans k1
    clear k1 HC HK
    go_wp2
    go_ret
    exact ⟨rfl, HK2.out⟩
end Go.Proofs.YtiagfmkinefidaaGreat.Rm
namespace Go.Proofs.YtiagfmkinefidaaGreat.Rm
open Go.ChangeShapes Go.WideShapes Go.ChangeAt Go.RowKit Go.Maps
set_option linter.unusedVariables false
set_option maxRecDepth 20000
theorem wr_lo (r v M p : Int) (r0 : 0 ≤ r) (r1 : r < 4294967296) (v0 : 0 ≤ v) (v1 : v < 4294967296) (m0 : 0 ≤ M) (m1 : M < 4294967296) (k : Nat) (hm : M.toNat = 2 ^ k - 1) (hp : p = ((2 ^ k : Nat) : Int)) : bits .or .u32 (bits .andNot .u32 r M) (bits .and .u32 v M) = r - r % p + v % p := by
  have hp0 : 0 < p := by rw [hp]; have := Nat.two_pow_pos k; omega
  have hM : ∀ i, tb M i = decide (i < k) := fun i => by unfold tb; rw [hm, Nat.testBit_two_pow_sub_one]
  have ha := tb_andNot r0 r1 m0 m1
  have e1 : bits .andNot .u32 r M = r / p * p := by
    refine tb_ext (by rw [u32_andNot r M r0 r1 m0 m1]; omega) (Int.mul_nonneg (Int.ediv_nonneg r0 (by omega)) (by omega)) fun i => ?_
    rw [ha i, hM, hp, tb_shl (Int.ediv_nonneg r0 (by omega)), tb_shr r0]
    by_cases h : k ≤ i
    · rw [show k + (i - k) = i by omega]
      simp [h, show ¬ i < k by omega]
    · simp [h, show i < k by omega]
  have e2 := and_lo v M v0 v1 m0 m1 k hm p hp
  have q0 : 0 ≤ r / p * p := Int.mul_nonneg (Int.ediv_nonneg r0 (by omega)) (by omega)
  have q1 : r / p * p ≤ r := by rw [Int.mul_comm]; exact Int.mul_ediv_self_le (by omega)
  have s0 := Int.emod_nonneg v (show p ≠ 0 by omega)
  have s1 : v % p ≤ v := by have h := Int.emod_add_mul_ediv v p; have g := Int.mul_nonneg (show 0 ≤ p by omega) (Int.ediv_nonneg v0 (show 0 ≤ p by omega)); omega
  have s2 := Int.emod_lt_of_pos v hp0
  rw [e1, e2, u32_or _ _ q0 (by omega) s0 (by omega)]
  have h1 : (r / p * p).toNat = 2 ^ k * (r / p).toNat := by
    obtain ⟨q, hq⟩ := Int.eq_ofNat_of_zero_le (Int.ediv_nonneg r0 (show 0 ≤ p by omega))
    rw [hq, hp, ← Int.natCast_mul, Int.toNat_natCast, Int.toNat_natCast, Nat.mul_comm]
  have h2 : (v % p).toNat < 2 ^ k := by omega
  rw [h1, ← Nat.two_pow_add_eq_or_of_lt h2, ← h1]
  have := Int.emod_add_mul_ediv r p
  have h3 : r - r % p = r / p * p := by rw [Int.mul_comm]; omega
  omega
set_option maxHeartbeats 1000000 in
theorem regWrite_any (w : World) (l0 l1 l2 E : Nat) (s : Int) (n : Nat) (hs : s = 1 ∨ s = 2 ∨ s = 4) (hn : n < 8) (hl0 : s ≠ 1 ∨ n < 4) (h : RegP w l0 l1 l2 E s n) (cs : Array Value) (pm pb : Value) (hE : EAt w E cs pm pb) (r : Int) (r0 : 0 ≤ r) (r1 : r < 4294967296) (hr : cs[regK s n]? = some (.int .u32 r)) (v : Int) (v0 : 0 ≤ v) (v1 : v < 4294967296) :
    Calls Tryz.prog 495 #[.int .u32 v, .pointer (some ⟨l0, 0, none⟩), .pointer (some ⟨l1, 0, none⟩), .pointer (some ⟨l2, 0, none⟩)] w fun e w' => e = .returned (.tuple #[]) ∧ EAt w' E (cs.setIfInBounds (regK s n) (.int .u32 (putR s n r v))) pm pb ∧ Kp (fun j => j = E) w w' := by
  obtain ⟨p, m, l⟩ := h
  have hk := regK_lt (s := s) hn
  have e := hE.cell hr
  have f := hE.fz (regK s n)
  obtain ⟨M, hM⟩ : ∃ M, M = regM s n := ⟨_, rfl⟩
  obtain ⟨K, hK⟩ : ∃ K, K = regK s n := ⟨_, rfl⟩
  rw [← hM] at m
  rw [← hK] at p e f hk ⊢
  have HE : Hid (EAt w E cs pm pb) := hE
  have HKk : Hid (K < 83) := (show K < 83 by omega)
  have hL : regL s n = 0 := by unfold regL; rw [if_neg (by omega)]
  have H : Hid (bits .or .u32 (bits .andNot .u32 r M) (bits .and .u32 v M) = putR s n r v) := by
    show _ = _
    unfold regM at hM
    unfold putR
    rcases hs with rfl | rfl | rfl
    · have hn4 : n < 4 := by omega
      rw [if_pos rfl, if_pos hn4] at hM ⊢
      rw [hM]
      exact wr_lo r v 255 256 r0 r1 v0 v1 (by decide) (by decide) 8 (by decide) (by decide)
    · simp at hM ⊢
      rw [hM]
      exact wr_lo r v 65535 65536 r0 r1 v0 v1 (by decide) (by decide) 16 (by decide) (by decide)
    · simp at hM ⊢
      rw [hM, wr_lo r v 4294967295 4294967296 r0 r1 v0 v1 (by decide) (by decide) 32 (by decide) (by decide)]
      omega
  clear hE hK hM hr hk
  rw [hL] at l
  clear hL
  go_enter Tryz.func495, Tryz.ntmps495
  go_region
  go_end0
  rw [H.out]
  exact ⟨rfl, (HE.out.set HKk.out rfl).kp0 (Kp.refl noB _).drew, (Kp.setCell (S := fun j => j = E) w (p := ⟨E, K, none⟩) rfl (.int .u32 (putR s n r v))).drew⟩
end Go.Proofs.YtiagfmkinefidaaGreat.Rm
namespace Go.Proofs.YtiagfmkinefidaaGreat.Rm
open Go.ChangeShapes Go.WideShapes Go.ChangeAt Go.RowKit Go.Maps
set_option linter.unusedVariables false
set_option maxRecDepth 20000
/-- Behind an instruction: where it stands is kept, the processor's cells are these. -/
structure Ran (w w' : World) (D E : Nat) (x : Dc.Ins) (a so : Int) (ir : Bool) (cs : Array Value) (pm pb : Value) : Prop where
  d : DAt w' D E x a so ir
  e : EAt w' E cs pm pb
  k : Kp (inE D E) w w'
set_option maxHeartbeats 2000000 in
theorem sum_ri (w : World) (D E : Nat) (DE : D ≠ E) (x : Dc.Ins) (a so : Int) (ir : Bool) (cs : Array Value) (pm pb : Value) (hD : DAt w D E x a so ir) (hE : EAt w E cs pm pb) (s H M sp bt : Int) (hS : Sz s H M sp bt) (hs1 : s ≠ 1) (n : Nat) (hn : n < 8)
    (ho : 0 ≤ x.sub ∧ x.sub ≤ 11) (h7 : (x.sub != 7) = true) (h8 : (x.sub != 8) = true) (hz : x.size = s) (ak : x.a.kind = 1) (ar : x.a.reg = n) (az : x.a.size = s) (bk : x.b.kind = 3) (b0 : 0 ≤ x.b.imm) (b1 : x.b.imm < 4294967296) (r f : Int) (r0 : 0 ≤ r) (r1 : r < 4294967296) (f0 : 0 ≤ f) (f1 : f < 4294967296) (hr : cs[n]? = some (.int .u32 r)) (hf : cs[9]? = some (.int .u32 f))
    (v g : Int) (v0 : 0 ≤ v) (v1 : v < 4294967296) (hv : Hid (Ending.returned (.tuple #[.int .u32 (doR x.sub M (getR s n r % M) (x.b.imm % M) f), .int .u32 (byF H (workR x.sub M (getR s n r % M) (x.b.imm % M) (f % 2)) (layF x.sub M H (getR s n r % M) (x.b.imm % M) f)), .int .i64 0]) = .returned (.tuple #[.int .u32 v, .int .u32 g, .int .i64 0]))) :
    Calls Tryz.prog 161 #[.pointer (some ⟨D, 0, none⟩)] w fun e w' => e = .returned (.tuple #[]) ∧ Ran w w' D E x a so ir ((cs.setIfInBounds n (.int .u32 (putR s n r v))).setIfInBounds 9 (.int .u32 g)) pm pb := by
  have s3 : s = 1 ∨ s = 2 ∨ s = 4 := by rcases hS with h | h | h <;> omega
  have sM : (s = 1 ∧ M = 256) ∨ (s = 2 ∧ M = 65536) ∨ (s = 4 ∧ M = 4294967296) := by rcases hS with h | h | h <;> omega
  have hkn : regK s n = n := by unfold regK; rw [if_neg (by omega)]
  have HA : Hid (∀ W, Kp noB w W → Calls Tryz.prog 169 #[.pointer (some ⟨D, 0, none⟩)] W (RegQ W E s n)) := fun W k => by
    have := a_reg W D E x a so ir (DAt.kp0 hD k) n hn ak ar M (by rw [az]; exact sM)
    rw [az] at this
    exact this
  have HB : Hid (∀ W, Kp noB w W → Calls Tryz.prog 170 #[.pointer (some ⟨D, 0, none⟩)] W (NumQ W x.b.imm)) := fun W k => b_num W D E x a so ir (DAt.kp0 hD k) (.inl bk)
  have gR : 0 ≤ getR s n r ∧ getR s n r < 4294967296 := by unfold getR; split; split; omega; omega; split; omega; omega
  have HW : Hid (∀ W, Calls Tryz.prog 416 #[.int .i64 x.sub, .int .i64 s, .int .u32 (getR s n r), .int .u32 x.b.imm, .int .u32 f] W fun e w' => e = .returned (.tuple #[.int .u32 v, .int .u32 g, .int .i64 0]) ∧ Kp noB W w') := fun W => by
    refine (Al.Do_work hS x.sub (getR s n r) x.b.imm f W ho.1 ho.2 gR.1 gR.2 b0 b1 f0 f1).mono ?_
    rintro e w' ⟨he, hg⟩
    refine ⟨by rw [he]; exact hv.out, ?_⟩
    exact ⟨hg.1.1, hg.2.2.2, hg.1.2.1, hg.2.2.1, fun i hi _ => Al.Grown.block hg hi⟩
  have c3 : w.cell? ⟨D, 3, none⟩ = some (.int .i64 x.sub) := hD.c rfl
  have HD : Hid (DAt w D E x a so ir) := hD
  have HE : Hid (EAt w E cs pm pb) := hE
  have HN : Hid (s ≠ 1 ∧ n < 8 ∧ regK s n = n) := ⟨hs1, hn, hkn⟩
  have HX : Hid (0 ≤ v ∧ v < 4294967296) := ⟨v0, v1⟩
  have Hz : Hid (x.size = s) := hz
  have Hrf : Hid ((cs[n]? = some (.int .u32 r)) ∧ cs[9]? = some (.int .u32 f)) := ⟨hr, hf⟩
  have Hr : Hid (0 ≤ r ∧ r < 4294967296) := ⟨r0, r1⟩
  have H3 : Hid (s = 1 ∨ s = 2 ∨ s = 4) := s3
  clear hD hE hS hs1 hn ho hz ak ar az bk b0 b1 r0 r1 f0 f1 hr hf v0 v1 hv s3 sM hkn gR
  have hf0 := fld0
  go_enter Tryz.func161, Tryz.ntmps161
  go_wp2_with fail
  refine Calls.mono (HA.out _ (Kp.refl _ _)) ?_; rintro e w1 ⟨l0, l1, l2, rfl, q1, q2, q3⟩
  have D1 := HD.out.kp0 q3
  have E1 := HE.out.kp0 q3
  obtain ⟨P, hP⟩ : ∃ P, P = w1.heap.size := ⟨_, rfl⟩
  obtain ⟨W2, hW2⟩ : ∃ W, W = w1.alloc (.cells #[.func (.func 493) #[] #[.pointer (some ⟨l0, 0, none⟩), .pointer (some ⟨l1, 0, none⟩), .pointer (some ⟨l2, 0, none⟩)], .func (.func 494) #[] #[], .func (.func 495) #[] #[.pointer (some ⟨l0, 0, none⟩), .pointer (some ⟨l1, 0, none⟩), .pointer (some ⟨l2, 0, none⟩)]] 271) := ⟨_, rfl⟩
  have kP : Kp noB w1 W2 := by rw [hW2]; exact Kp.alloc _ _ _
  have rP : PlB W2 P (.func (.func 493) #[] #[.pointer (some ⟨l0, 0, none⟩), .pointer (some ⟨l1, 0, none⟩), .pointer (some ⟨l2, 0, none⟩)]) (.func (.func 494) #[] #[]) (.func (.func 495) #[] #[.pointer (some ⟨l0, 0, none⟩), .pointer (some ⟨l1, 0, none⟩), .pointer (some ⟨l2, 0, none⟩)]) := by rw [hW2, hP]; exact (MapKept.heap_alloc w1 _).1
  have R2 := q1.kp0 kP
  have D2 := DAt.kp0 D1 kP
  have E2 := EAt.kp0 E1 kP
  have k2 := q3.trans kP
  have HP : Hid (PlB W2 P (.func (.func 493) #[] #[.pointer (some ⟨l0, 0, none⟩), .pointer (some ⟨l1, 0, none⟩), .pointer (some ⟨l2, 0, none⟩)]) (.func (.func 494) #[] #[]) (.func (.func 495) #[] #[.pointer (some ⟨l0, 0, none⟩), .pointer (some ⟨l1, 0, none⟩), .pointer (some ⟨l2, 0, none⟩)])) := rP
  have HR2 : Hid _ := R2
  have HD2 : Hid (DAt W2 D E x a so ir) := D2
  have HE2 : Hid (EAt W2 E cs pm pb) := E2
  have Hk2 : Hid _ := k2
  have Hq2 : Hid _ := q2
  obtain ⟨p0, p1, p2⟩ := rP.c
  unfold regV
  clear D1 E1 q1 q3 kP R2 D2 E2 k2 rP HA c3 q2
  go_upto_region 2 with fail
  rw [← hW2, ← hP]
  clear hW2 hP
  have HC : Hid _ := before_reg W2 l0 l1 l2 E s n H3.out HR2.out r Hr.out.1 Hr.out.2 (by rw [HN.out.2.2]; exact HE2.out.cell Hrf.out.1) true
  unfold regV at HC
  go_wp2_with fail
  refine Calls.mono HC.out ?_; rintro e w3 ⟨rfl, k3⟩
  clear HC p0 p1 p2
  have Hk3 : Hid _ := Hk2.out.trans k3
  have HC : Hid _ := HB.out _ Hk3.out
  have Hk3' : Hid _ := k3
  clear k3
  go_wp2_with fail
  refine Calls.mono HC.out ?_; rintro e w4 ⟨l, rfl, u1, u2, u3⟩
  unfold numV
  clear HC
  have Hk4 : Hid _ := Hk3'.out.trans u3
  go_wp2_with fail
  refine Calls.mono (numRead_any w4 l _ u1) ?_; rintro e w5 ⟨rfl, hw⟩; subst hw
  clear u1 u2 u3 HB Hk3 Hk3'
  have HSK : Hid (∀ W, Kp noB w5.drew W → W.cell? ⟨D, 1, none⟩ = some (.pointer (some ⟨E, 0, none⟩)) ∧ W.cell? ⟨D, 3, none⟩ = some (.int .i64 x.sub) ∧ W.cell? ⟨D, 4, none⟩ = some (.int .i64 s) ∧ W.cell? ⟨E, 9, none⟩ = some (.int .u32 f)) := fun W k => by
    have d := DAt.kp0 HD2.out (Hk4.out.trans (unDrew k))
    have e := EAt.kp0 HE2.out (Hk4.out.trans (unDrew k))
    exact ⟨d.c rfl, d.c rfl, by have : W.cell? ⟨D, 4, none⟩ = some (.int .i64 x.size) := d.c rfl; rw [this, Hz.out], e.cell Hrf.out.2⟩
  have HS0 : Hid _ := HSK.out _ (Kp.refl _ _)
  go_upto_region 4 with fail
  go_region_held3 (fun W => W.cell? ⟨D, 1, none⟩ = some (.pointer (some ⟨E, 0, none⟩)) ∧ W.cell? ⟨D, 3, none⟩ = some (.int .i64 x.sub) ∧ W.cell? ⟨D, 4, none⟩ = some (.int .i64 s) ∧ W.cell? ⟨E, 9, none⟩ = some (.int .u32 f)) (first | with_reducible exact HS0.out | exact HSK.out _ k6) (first | (go_at_call 416; refine Calls.mono (HW.out _) ?_; rintro e w6 ⟨rfl, k6⟩))
  have Hk6 : Hid _ := Hk4.out.trans (unDrew k6)
  have R6 := HR2.out.kp0 Hk6.out
  have E6 := EAt.kp0 HE2.out Hk6.out
  have D6 := DAt.kp0 HD2.out Hk6.out
  have P6 := PlB.kp HP.out Hk6.out id
  obtain ⟨p0, p1, p2⟩ := P6.c
  have HC : Hid _ := regWrite_any w6 l0 l1 l2 E s n H3.out HN.out.2.1 (.inl HN.out.1) R6 cs pm pb E6 r Hr.out.1 Hr.out.2 (by rw [HN.out.2.2]; exact Hrf.out.1) v HX.out.1 HX.out.2
  rw [HN.out.2.2] at HC
  have HD6 : Hid (DAt w6 D E x a so ir) := D6
  have Hkw : Hid _ := Hk2.out.trans Hk6.out
  clear k6 R6 E6 D6 P6 HSK HS0 Hk6 Hk4 HW
  go_wp2_with fail
  refine Calls.mono (need_zero _) ?_; rintro e w7 ⟨rfl, hw⟩; subst hw
  go_wp2_with fail
  refine Calls.mono HC.out ?_; rintro e w8 ⟨rfl, e8, k8⟩
  have D8 := DAt.kp HD6.out k8 DE
  have b1 : w8.cell? ⟨D, 1, none⟩ = some (.pointer (some ⟨E, 0, none⟩)) := D8.c rfl
  have c9 : w8.cell? ⟨E, 9, none⟩ = some (.int .u32 f) := e8.cell (by rw [Array.getElem?_setIfInBounds_ne (by have := HN.out.2.1; omega)]; exact Hrf.out.2)
  have f9 := e8.fz 9
  have HZ : Hid (Ran w (w8.setCell ⟨E, 9, none⟩ (.int .u32 g)) D E x a so ir ((cs.setIfInBounds n (.int .u32 (putR s n r v))).setIfInBounds 9 (.int .u32 g)) pm pb) :=
    ⟨DAt.kp D8 (Kp.setCell (S := fun j => j = E) w8 (p := ⟨E, 9, none⟩) rfl _) DE, e8.set (by decide) rfl, ((Hkw.out.mono (fun _ _ f => f.elim)).trans (k8.mono (fun j _ g => .inr g))).trans (Kp.setCell _ (.inr rfl) _)⟩
  clear D8 e8 k8 HC p0 p1 p2
  go_wp2
  go_end0
  exact ⟨rfl, HZ.out⟩
end Go.Proofs.YtiagfmkinefidaaGreat.Rm
