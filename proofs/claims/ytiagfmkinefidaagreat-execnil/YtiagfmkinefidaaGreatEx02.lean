/- The bus and its devices: RamBase, RamNew2, RamTell. -/
import Derived.Test.YtiagfmkinefidaaGreatEx01
import Derived.Maps.OwnSet
import Derived.Maps.Range
import Derived.Laws.CopyOwn
import Derived.LoopTactic
namespace Go.Proofs.YtiagfmkinefidaaGreat.Rm
open Go.ChangeShapes Go.WideShapes Go.ChangeAt Go.RowKit Go.Maps
set_option linter.unusedVariables false
set_option maxRecDepth 20000
/-- Outside the blocks of S the world is as it was. -/
structure Kp (S : Nat → Prop) (w w' : World) : Prop where
  os : w'.os = w.os
  tape : w'.tape = w.tape
  output : w'.output = w.output
  size : w.heap.size ≤ w'.heap.size
  block : ∀ k, k < w.heap.size → ¬ S k → w'.heap[k]? = w.heap[k]?
theorem Kp.refl (S : Nat → Prop) (w : World) : Kp S w w := ⟨rfl, rfl, rfl, Nat.le_refl _, fun _ _ _ => rfl⟩
theorem Kp.trans {S : Nat → Prop} {a b c : World} (h : Kp S a b) (k : Kp S b c) : Kp S a c :=
  ⟨k.os.trans h.os, k.tape.trans h.tape, k.output.trans h.output, Nat.le_trans h.size k.size, fun i hi hs => (k.block i (Nat.lt_of_lt_of_le hi h.size) hs).trans (h.block i hi hs)⟩
theorem Kp.mono {S T : Nat → Prop} {a b : World} (h : Kp S a b) (hST : ∀ k, k < a.heap.size → S k → T k) : Kp T a b :=
  ⟨h.os, h.tape, h.output, h.size, fun i hi hs => h.block i hi (fun g => hs (hST i hi g))⟩
theorem Kp.alloc (S : Nat → Prop) (w : World) (o : Obj) : Kp S w (w.alloc o) :=
  ⟨rfl, rfl, rfl, by simp, fun k hk _ => Below.heap_alloc _ _ _ hk⟩
theorem Kp.setCell {S : Nat → Prop} (w : World) {p : Addr} (hp : S p.block) (u : Value) : Kp S w (w.setCell p u) :=
  ⟨rfl, rfl, rfl, by simp [World.setCell], fun k hk hs => Below.heap_setCell _ _ _ _ (fun e => hs (e ▸ hp))⟩
theorem Kp.setRow {S : Nat → Prop} (w : World) {g : Nat} (hp : S g) (cs : Array Value) : Kp S w (w.setRow g cs) :=
  ⟨rfl, rfl, rfl, by simp [World.setRow], fun k hk hs => setRow_other w g k cs (fun e => hs (e ▸ hp))⟩
theorem Kp.turned {S : Nat → Prop} {w w' : World} {b : Nat} (h : w.mapTurned w' b) (hb : S b) : Kp S w w' := by
  have g := h.grown
  exact ⟨g.os, g.tape, g.output, g.size, fun k hk hs => g.block k hk (fun e => hs (by cases e; exact hb))⟩
theorem Kp.below {S : Nat → Prop} {w w' : World} {B : Nat} (h : Kp S w w') (hB : B ≤ w.heap.size) (hS : ∀ k, S k → B ≤ k) : Below B w w' :=
  ⟨h.os, h.tape, h.output, h.size, fun k hk => h.block k (by omega) (fun g => by have := hS k g; omega)⟩
theorem Kp.drew {S : Nat → Prop} {w w' : World} (h : Kp S w w') : Kp S w w'.drew := ⟨h.os, h.tape, h.output, h.size, h.block⟩
theorem Kp.drewN {S : Nat → Prop} {w w' : World} (h : Kp S w w') (n : Nat) : Kp S w (w'.drewN n) := ⟨h.os, h.tape, h.output, h.size, h.block⟩
/-! ### the plain model -/
structure Mem where
  n : Nat
  byte : Nat → Int
  only : Nat → Bool
  wt : Int → Bool
  nt : Int → Bool
  closed : Bool
/-- How a pointer to a page reads in the map of pages: its block's number; nil reads as -1. -/
def ptrElem : Value → Option (DataW Unit × List MemPlace)
  | .pointer none => some (.lit (.int .i64 (-1)), [])
  | .pointer (some ⟨b, 0, none⟩) => some (.lit (.int .i64 b), [])
  | _ => none
theorem ptrElem_some (b : Nat) : ptrElem (.pointer (some ⟨b, 0, none⟩)) = some (.lit (.int .i64 b), []) := rfl
def noPage : DataW Unit := .lit (.int .i64 (-1))
def pageAt (B n : Nat) (i : Int) : Int := if 0 ≤ i ∧ i < n then (B : Int) + 4 + i else -1
structure RamAt (w : World) (B : Nat) (M : Mem) : Prop where
  le : M.n ≤ 256
  r : w.heap[B + 3]? = some (.cells #[.map (some B), .bool M.closed, .map (some (B + 1)), .map (some (B + 2))] 84 (0, 0))
  p : ∃ D, w.ownsMap Tryz.prog 3 ptrElem B 256 D ∧ (∀ i : Int, D.atKey (.int .i64 i) noPage = .lit (.int .i64 (pageAt B M.n i))) ∧ (∀ i : Int, Maps.has D (.int .i64 i) = decide (0 ≤ i ∧ i < M.n)) ∧ Maps.size D = M.n
  pg : ∀ i, i < M.n → ∃ cs, w.heap[B + 4 + i]? = some (.cells cs 88 (0, 0)) ∧ cs.size = 4097 ∧ (∀ j, j < 4096 → cs[j]? = some (.int .u8 (M.byte (4096 * i + j)))) ∧ cs[4096]? = some (.bool (M.only i))
  wm : ∃ D : DataW Unit, w.ownsMap Tryz.prog 23 unitElem (B + 1) 16384 D ∧ ∀ x : Int, Maps.has D (.int .u32 x) = M.wt x
  nm : ∃ D : DataW Unit, w.ownsMap Tryz.prog 23 unitElem (B + 2) 16384 D ∧ ∀ x : Int, Maps.has D (.int .u32 x) = M.nt x
  wb : ∀ x, M.wt x = true → 0 ≤ x ∧ x < 4096 * M.n ∧ x % 64 = 0
  nb : ∀ x, M.nt x = true → 0 ≤ x ∧ x < 4096 * M.n ∧ x % 64 = 0
  bb : ∀ p, p < 4096 * M.n → 0 ≤ M.byte p ∧ M.byte p < 256
def inRam (B n k : Nat) : Prop := B ≤ k ∧ k < B + 4 + n
theorem RamAt.lt {w : World} {B : Nat} {M : Mem} (h : RamAt w B M) : B + 4 + M.n ≤ w.heap.size := by
  have h3 := (Array.getElem?_eq_some_iff.1 h.r).1
  rcases Nat.eq_zero_or_pos M.n with e | e
  · omega
  · obtain ⟨cs, hc, _⟩ := h.pg (M.n - 1) (by omega)
    have := (Array.getElem?_eq_some_iff.1 hc).1
    omega
theorem owns_at {H : Type} {P : Program} {k : TypeId} {R : Value → Option (DataW H × List MemPlace)} {w w' : World} {b n : Nat} {D : DataW H} (h : w.ownsMap P k R b n D) (e : w'.heap[b]? = w.heap[b]?) : w'.ownsMap P k R b n D := by
  obtain ⟨es, clock, hb, r⟩ := h
  exact ⟨es, clock, e.trans hb, r⟩
/-- What does not touch memory's own blocks leaves it as it is. -/
theorem RamAt.kept {w w' : World} {B : Nat} {M : Mem} (h : RamAt w B M) (e : ∀ k, inRam B M.n k → w'.heap[k]? = w.heap[k]?) : RamAt w' B M where
  le := h.le
  r := (e _ ⟨by omega, by omega⟩).trans h.r
  p := by obtain ⟨D, h1, h2⟩ := h.p; exact ⟨D, owns_at h1 (e _ ⟨by omega, by omega⟩), h2⟩
  pg := fun i hi => by obtain ⟨cs, h1, h2⟩ := h.pg i hi; exact ⟨cs, (e _ ⟨by omega, by omega⟩).trans h1, h2⟩
  wm := by obtain ⟨D, h1, h2⟩ := h.wm; exact ⟨D, owns_at h1 (e _ ⟨by omega, by omega⟩), h2⟩
  nm := by obtain ⟨D, h1, h2⟩ := h.nm; exact ⟨D, owns_at h1 (e _ ⟨by omega, by omega⟩), h2⟩
  wb := h.wb
  nb := h.nb
  bb := h.bb
theorem RamAt.kp {S : Nat → Prop} {w w' : World} {B : Nat} {M : Mem} (h : RamAt w B M) (k : Kp S w w') (hS : ∀ k, inRam B M.n k → ¬ S k) : RamAt w' B M :=
  h.kept fun i hi => k.block i (by have := h.lt; have := hi.2; omega) (hS i hi)
/-- The cells of the struct. -/
theorem RamAt.c0 {w : World} {B : Nat} {M : Mem} (h : RamAt w B M) : w.cell? ⟨B + 3, 0, none⟩ = some (.map (some B)) := by simp [World.cell?, h.r]
theorem RamAt.c1 {w : World} {B : Nat} {M : Mem} (h : RamAt w B M) : w.cell? ⟨B + 3, 1, none⟩ = some (.bool M.closed) := by simp [World.cell?, h.r]
theorem RamAt.fz {w : World} {B : Nat} {M : Mem} (h : RamAt w B M) (j : Nat) : w.frozen? ⟨B + 3, j, none⟩ = false := by simp [World.frozen?, h.r]
/-! ### keys, and how many there are -/
theorem intT : Tryz.prog.underlying 3 = some (.int .i64) := by kernel_rfl
theorem pagesT : Tryz.prog.underlying 81 = some (.map 3 85) := by kernel_rfl
theorem keyI {x : Int} (h0 : -9223372036854775808 ≤ x) (h1 : x ≤ 9223372036854775807) : keyOf Tryz.prog 3 (.int .i64 x) = some (.int .i64 x) :=
  keyOf_int_mk intT (WalkArith.wf_i64 ⟨h0, h1⟩)
theorem owns_tight {H : Type} {P : Program} {k : TypeId} {R : Value → Option (DataW H × List MemPlace)} {w : World} {b n m : Nat} {D : DataW H} (h : w.ownsMap P k R b n D) (hm : Maps.size D ≤ m) : w.ownsMap P k R b m D := by
  obtain ⟨es, clock, hb, F, hs, hD⟩ := h
  refine ⟨es, clock, hb, F, ?_, hD⟩
  rw [hD] at hm
  simpa [Maps.size, length_sorted] using hm
end Go.Proofs.YtiagfmkinefidaaGreat.Rm
namespace Go.Proofs.YtiagfmkinefidaaGreat.Rm
open Go.ChangeShapes Go.WideShapes Go.ChangeAt Go.RowKit Go.Maps
set_option linter.unusedVariables false
set_option maxRecDepth 20000
def pageL : List Value := List.replicate 4096 (.int .u8 0) ++ [.bool false]
def pageZ : Array Value := pageL.toArray
theorem zeroPage (w : World) : (zeroValue 88).run Tryz.prog w = .ok (.agg pageZ) w := by kernel_rfl
def mem0 (n : Nat) : Mem := { n := n, byte := fun _ => 0, only := fun _ => false, wt := fun _ => false, nt := fun _ => false, closed := false }
theorem pageL_len : pageL.length = 4097 := by unfold pageL; rw [List.length_append, List.length_replicate]; rfl
theorem pageZ_size : pageZ.size = 4097 := pageL_len
theorem pageZ_byte (j : Nat) (h : j < 4096) : pageZ[j]? = some (.int .u8 0) := by
  unfold pageZ
  rw [List.getElem?_toArray]
  unfold pageL
  rw [List.getElem?_append_left (by rw [List.length_replicate]; exact h), List.getElem?_replicate, if_pos h]
theorem pageZ_only : pageZ[4096]? = some (.bool false) := by
  unfold pageZ
  rw [List.getElem?_toArray]
  unfold pageL
  rw [List.getElem?_append_right (by rw [List.length_replicate]; exact Nat.le_refl _), List.length_replicate]
  rfl
theorem ram_start (w : World) : RamAt ((((w.alloc (.map #[] 0)).alloc (.map #[] 0)).alloc (.map #[] 0)).alloc (.cells #[.map (some w.heap.size), .bool false, .map (some (w.heap.size + 1)), .map (some (w.heap.size + 2))] 84)) w.heap.size (mem0 0) where
  le := Nat.zero_le _
  r := by
    have h := (MapKept.heap_alloc (((w.alloc (.map #[] 0)).alloc (.map #[] 0)).alloc (.map #[] 0)) (.cells #[.map (some w.heap.size), .bool false, .map (some (w.heap.size + 1)), .map (some (w.heap.size + 2))] 84)).1
    simpa [mem0] using h
  p := by
    refine ⟨.map [], ?_, ?_, fun i => (decide_eq_false (by simp only [mem0]; omega)).symm, rfl⟩
    · exact ((((World.ownsMap_made w Tryz.prog 3 ptrElem).mono (Nat.zero_le _)).alloc _).alloc _).alloc _
    · intro i; simp [pageAt, mem0, noPage, DataW.atKey]; omega
  pg := fun i hi => absurd hi (Nat.not_lt_zero _)
  wm := by
    have h := (World.ownsMap_made (H := Unit) (w.alloc (.map #[] 0)) Tryz.prog 23 unitElem).mono (Nat.zero_le 16384)
    refine ⟨.map [], ?_, fun _ => rfl⟩
    have := (h.alloc (.map #[] 0)).alloc (.cells #[.map (some w.heap.size), .bool false, .map (some (w.heap.size + 1)), .map (some (w.heap.size + 2))] 84)
    simpa using this
  nm := by
    have h := (World.ownsMap_made (H := Unit) ((w.alloc (.map #[] 0)).alloc (.map #[] 0)) Tryz.prog 23 unitElem).mono (Nat.zero_le 16384)
    refine ⟨.map [], ?_, fun _ => rfl⟩
    have := h.alloc (.cells #[.map (some w.heap.size), .bool false, .map (some (w.heap.size + 1)), .map (some (w.heap.size + 2))] 84)
    simpa using this
  wb := fun x h => by cases h
  nb := fun x h => by cases h
  bb := fun p h => by simp [mem0]
/-- One page more. -/
theorem ram_page {wr w1 : World} {B k : Nat} {D : DataW Unit} (h : RamAt wr B (mem0 k)) (hs : wr.heap.size = B + 4 + k) (hk : k < 256)
    (hhas : ∀ i : Int, Maps.has D (.int .i64 i) = decide (0 ≤ i ∧ i < (mem0 k).n)) (hat : ∀ i : Int, D.atKey (.int .i64 i) noPage = .lit (.int .i64 (pageAt B (mem0 k).n i))) (hsz : Maps.size D = (mem0 k).n) (hown : wr.ownsMap Tryz.prog 3 ptrElem B 256 D)
    (hown1 : w1.ownsMap Tryz.prog 3 ptrElem B (256 + 1) (D.put (.int .i64 k) (.lit (.int .i64 (B + 4 + k : Nat))))) (hturn : (wr.alloc (.cells pageZ 88)).mapTurned w1 B) :
    RamAt w1 B (mem0 (k + 1)) ∧ w1.heap.size = B + 4 + (k + 1) ∧ Below B wr w1 := by
  have hK : Kp (fun j => j = B) wr w1 := (Kp.alloc _ wr _).trans (Kp.turned hturn rfl)
  have hg := hturn.grown
  have hnew : w1.heap[B + 4 + k]? = some (.cells pageZ 88 (0, 0)) := by
    rw [hg.block _ (by simp; omega) (by simp; omega), ← hs]
    exact (MapKept.heap_alloc wr _).1
  have hsize : w1.heap.size = B + 4 + (k + 1) := by
    obtain ⟨es, clock, es', clock', hb, rfl⟩ := hturn
    simp [ChangeMaps.setBlock, hs]; omega
  have hold : ∀ j, inRam B k j → j ≠ B → w1.heap[j]? = wr.heap[j]? := fun j hj hne => hK.block j (by have := hj.2; omega) hne
  have hnot : Maps.has D (.int .i64 k) = false := by rw [hhas]; simp [mem0]
  have hsz1 : Maps.size (D.put (.int .i64 k) (.lit (.int .i64 (B + 4 + k : Nat)))) = k + 1 := by
    rw [Maps.size_put (hown.tidy (int_keyed intT)), hnot, if_neg (by simp), hsz]; rfl
  refine ⟨?_, hsize, hK.below (by omega) (fun j e => by omega)⟩
  exact {
    le := by simp [mem0]; omega
    r := (hold _ ⟨by omega, by omega⟩ (by omega)).trans h.r
    p := by
      refine ⟨_, owns_tight hown1 (by rw [hsz1]; omega), ?_, ?_, hsz1⟩
      · intro i
        by_cases hi : i = k
        · subst hi
          rw [Maps.atKey_put_same hown.isMap (by simp [WideAt.IsKeyLit])]
          unfold pageAt mem0; rw [if_pos (by simp only; omega)]; simp
        · rw [Maps.atKey_put_other (by simpa using hi), hat i]
          have e : pageAt B (mem0 k).n i = pageAt B (mem0 (k + 1)).n i := by
            unfold pageAt mem0
            simp only
            by_cases g : 0 ≤ i ∧ i < (k : Int)
            · rw [if_pos g, if_pos (by omega)]
            · rw [if_neg g, if_neg (by omega)]
          rw [e]
      · intro i
        by_cases hi : i = k
        · subst hi
          rw [Maps.has_put_same hown.isMap (by simp [WideAt.IsKeyLit])]
          simp [mem0]; omega
        · rw [Maps.has_put_other (by simpa using hi), hhas i]
          refine decide_eq_decide.2 ?_
          show (0 ≤ i ∧ i < (k : Int)) ↔ (0 ≤ i ∧ i < ((k + 1 : Nat) : Int))
          omega
    pg := fun i hi => by
      have hi' : i < k + 1 := hi
      by_cases e : i = k
      · subst e
        exact ⟨pageZ, hnew, pageZ_size, fun j hj => pageZ_byte j hj, pageZ_only⟩
      · obtain ⟨cs, h1, h2⟩ := h.pg i (by show i < k; omega)
        exact ⟨cs, (hold _ ⟨by omega, by omega⟩ (by omega)).trans h1, h2⟩
    wm := by obtain ⟨D', h1, h2⟩ := h.wm; exact ⟨D', owns_at h1 (hold _ ⟨by omega, by omega⟩ (by omega)), h2⟩
    nm := by obtain ⟨D', h1, h2⟩ := h.nm; exact ⟨D', owns_at h1 (hold _ ⟨by omega, by omega⟩ (by omega)), h2⟩
    wb := fun x h => by cases h
    nb := fun x h => by cases h
    bb := fun p h => by simp [mem0] }
theorem new_no (w : World) (p : Int) (h : p < 1 ∨ 256 < p) :
    Calls Tryz.prog 10 #[.int .i64 p] w fun e w' => e = .returned (.tuple #[.pointer none, .int .i64 50]) ∧ w' = w := by
  go_enter Tryz.func10, Tryz.ntmps10
  rcases h with h | h
  · go_wp2
    exact bodyPost_ret (v := .tuple #[.pointer none, .int .i64 50]) (by simp [results, Tryz.results10, go_sem]) rfl ⟨rfl, rfl⟩
  · have h1 : ¬ p < 1 := by omega
    go_wp2
    exact bodyPost_ret (v := .tuple #[.pointer none, .int .i64 50]) (by simp [results, Tryz.results10, go_sem]) rfl ⟨rfl, rfl⟩
set_option maxRecDepth 100000 in
theorem new_ok (w : World) (n : Nat) (h0 : 1 ≤ n) (h1 : n ≤ 256) :
    Calls Tryz.prog 10 #[.int .i64 n] w fun e w' => e = .returned (.tuple #[.pointer (some ⟨w.heap.size + 3, 0, none⟩), .int .i64 0]) ∧ RamAt w' w.heap.size (mem0 n) ∧ w'.heap.size = w.heap.size + 4 + n ∧ Below w.heap.size w w' := by
  have hmm := @run_makeMap Tryz.prog
  have hs := ram_start w
  have hz := zeroPage
  have hze : pageZ ≠ #[] := fun e => by have := pageZ_size; rw [e] at this; cases this
  have hzs := pageZ_size
  have g1 : ¬ (n : Int) < 1 := by omega
  have g2 : ¬ (256 : Int) < (n : Int) := by omega
  go_enter Tryz.func10, Tryz.ntmps10
  go_wp2
  go_loopw [18] (fun i wr => ∃ k : Nat, k ≤ n ∧ i = .int .i64 k ∧ RamAt wr w.heap.size (mem0 k) ∧ wr.heap.size = w.heap.size + 4 + k ∧ Below w.heap.size w wr) (fun i _ => n - (intOf i).toNat)
  case atStart => exact ⟨0, Nat.zero_le _, rfl, hs, by simp, (((((Below.refl _ w).alloc (Nat.le_refl _) _).alloc (by simp) _).alloc (by simp; omega) _).alloc (by simp; omega) _)⟩
  case round =>
    obtain ⟨k, hk, rfl, hr, hsz, hb⟩ := hrel
    have c0 : wr.cell? ⟨w.heap.size + 1 + 1 + 1, 0, none⟩ = some (.map (some w.heap.size)) := hr.c0
    obtain ⟨D, hown, hat, hhas, hsize⟩ := hr.p
    go_wp2_with (first
      | (at_mapUpdate; refine wpList_mapUpdate_in _ rfl _ _ _ 81 rfl 3 85 (int_keyed intT) pagesT ptrElem w.heap.size 256 D rfl (hown.alloc _) (by unfold maxLen; omega) _ _ _ rfl rfl (keyI (x := (k : Int)) (by omega) (by omega)) _ [] (ptrElem_some _) ?_; intro w1 hown1 hturn1)
      | go_in)
    · have R := ram_page hr hsz (by omega) hhas hat hsize hown hown1 hturn1
      clear hown1 hturn1 hown hat hhas hsize c0
      go_wp2
      go_roundw
      case rel => exact ⟨k + 1, by omega, by go_num, R.1, R.2.1, hb.trans R.2.2⟩
      case measure => simp [intOf]; omega
    · have e : k = n := by omega
      subst e
      exact bodyPost_ret (v := .tuple #[.pointer (some ⟨w.heap.size + 3, 0, none⟩), .int .i64 0]) (by simp [results, Tryz.results10, go_sem]) rfl ⟨rfl, hr, hsz, hb⟩
end Go.Proofs.YtiagfmkinefidaaGreat.Rm
namespace Go.Proofs.YtiagfmkinefidaaGreat.Rm
open Go.ChangeShapes Go.WideShapes Go.ChangeAt Go.RowKit Go.Maps
set_option linter.unusedVariables false
set_option maxRecDepth 20000
theorem heap_setCell_at {w : World} {S o : Nat} {cur : Array Value} {t : TypeId} (h : w.heap[S]? = some (.cells cur t (0, 0))) (v : Value) : (w.setCell ⟨S, o, none⟩ v).heap[S]? = some (.cells (cur.setIfInBounds o v) t (0, 0)) := by
  rw [setCell_eq_setRow w S o cur t (0, 0) v h]
  exact setRow_heap w S cur _ t _ h
theorem cell_at {w : World} {S o : Nat} {cur : Array Value} {t : TypeId} (h : w.heap[S]? = some (.cells cur t (0, 0))) : w.cell? ⟨S, o, none⟩ = cur[o]? := by simp [World.cell?, h]
theorem frozen_at {w : World} {S o : Nat} {cur : Array Value} {t : TypeId} (h : w.heap[S]? = some (.cells cur t (0, 0))) : w.frozen? ⟨S, o, none⟩ = false := by simp [World.frozen?, h]
end Go.Proofs.YtiagfmkinefidaaGreat.Rm
