/- The contract of New: so many pages of noughts. -/
import Derived.Test.YtmmnnafjikilpaaRamLeaf
import Derived.LoopTactic
namespace Go.Proofs.Ytmmnnafjikilpaa
open Go.ChangeShapes Go.WideShapes Go.ChangeAt Go.RowKit Go.Maps
set_option linter.unusedVariables false

def pageL : List Value := List.replicate 4096 (.int .u8 0) ++ [.bool false]
def pageZ : Array Value := pageL.toArray

theorem zeroPage (w : World) : (zeroValue 100).run Try.prog w = .ok (.agg pageZ) w := by kernel_rfl

def mem0 (n : Nat) : Mem := { n := n, byte := fun _ => 0, only := fun _ => false, wt := fun _ => false, nt := fun _ => false, closed := false }

theorem pageL_len : pageL.length = 4097 := by unfold pageL; rw [List.length_append, List.length_replicate]; rfl
theorem pageZ_size : pageZ.size = 4097 := pageL_len
theorem pageZ_byte (j : Nat) (h : j < 4096) : pageZ[j]? = some (.int .u8 0) := by
  unfold pageZ
  rw [List.getElem?_toArray]
  unfold pageL
  rw [List.getElem?_append_left (by rw [List.length_replicate]; exact h), List.getElem?_replicate, if_pos h]
theorem pageZ_only : pageZ[4096]? = some (.bool false) := by
  unfold pageZ
  rw [List.getElem?_toArray]
  unfold pageL
  rw [List.getElem?_append_right (by rw [List.length_replicate]; exact Nat.le_refl _), List.length_replicate]
  rfl

theorem ram_start (w : World) : RamAt ((((w.alloc (.map #[] 0)).alloc (.map #[] 0)).alloc (.map #[] 0)).alloc (.cells #[.map (some w.heap.size), .bool false, .map (some (w.heap.size + 1)), .map (some (w.heap.size + 2))] 92)) w.heap.size (mem0 0) where
  le := Nat.zero_le _
  r := by
    have h := (MapKept.heap_alloc (((w.alloc (.map #[] 0)).alloc (.map #[] 0)).alloc (.map #[] 0)) (.cells #[.map (some w.heap.size), .bool false, .map (some (w.heap.size + 1)), .map (some (w.heap.size + 2))] 92)).1
    simpa [mem0] using h
  p := by
    refine ⟨.map [], ?_, ?_, fun i => (decide_eq_false (by simp only [mem0]; omega)).symm, rfl⟩
    · exact ((((World.ownsMap_made w Try.prog 3 ptrElem).mono (Nat.zero_le _)).alloc _).alloc _).alloc _
    · intro i; simp [pageAt, mem0, noPage, DataW.atKey]; omega
  pg := fun i hi => absurd hi (Nat.not_lt_zero _)
  wm := by
    have h := (World.ownsMap_made (H := Unit) (w.alloc (.map #[] 0)) Try.prog 23 unitElem).mono (Nat.zero_le 16384)
    refine ⟨.map [], ?_, fun _ => rfl⟩
    have := (h.alloc (.map #[] 0)).alloc (.cells #[.map (some w.heap.size), .bool false, .map (some (w.heap.size + 1)), .map (some (w.heap.size + 2))] 92)
    simpa using this
  nm := by
    have h := (World.ownsMap_made (H := Unit) ((w.alloc (.map #[] 0)).alloc (.map #[] 0)) Try.prog 23 unitElem).mono (Nat.zero_le 16384)
    refine ⟨.map [], ?_, fun _ => rfl⟩
    have := h.alloc (.cells #[.map (some w.heap.size), .bool false, .map (some (w.heap.size + 1)), .map (some (w.heap.size + 2))] 92)
    simpa using this
  wb := fun x h => by cases h
  nb := fun x h => by cases h
  bb := fun p h => by simp [mem0]

/-- One page more. -/
theorem ram_page {wr w1 : World} {B k : Nat} {D : DataW Unit} (h : RamAt wr B (mem0 k)) (hs : wr.heap.size = B + 4 + k) (hk : k < 256)
    (hhas : ∀ i : Int, Maps.has D (.int .i64 i) = decide (0 ≤ i ∧ i < (mem0 k).n)) (hat : ∀ i : Int, D.atKey (.int .i64 i) noPage = .lit (.int .i64 (pageAt B (mem0 k).n i))) (hsz : Maps.size D = (mem0 k).n) (hown : wr.ownsMap Try.prog 3 ptrElem B 256 D)
    (hown1 : w1.ownsMap Try.prog 3 ptrElem B (256 + 1) (D.put (.int .i64 k) (.lit (.int .i64 (B + 4 + k : Nat))))) (hturn : (wr.alloc (.cells pageZ 100)).mapTurned w1 B) :
    RamAt w1 B (mem0 (k + 1)) ∧ w1.heap.size = B + 4 + (k + 1) ∧ Below B wr w1 := by
  have hK : Kp (fun j => j = B) wr w1 := (Kp.alloc _ wr _).trans (Kp.turned hturn rfl)
  have hg := hturn.grown
  have hnew : w1.heap[B + 4 + k]? = some (.cells pageZ 100 (0, 0)) := by
    rw [hg.block _ (by simp; omega) (by simp; omega), ← hs]
    exact (MapKept.heap_alloc wr _).1
  have hsize : w1.heap.size = B + 4 + (k + 1) := by
    obtain ⟨es, clock, es', clock', hb, rfl⟩ := hturn
    simp [ChangeMaps.setBlock, hs]; omega
  have hold : ∀ j, inRam B k j → j ≠ B → w1.heap[j]? = wr.heap[j]? := fun j hj hne => hK.block j (by have := hj.2; omega) hne
  have hnot : Maps.has D (.int .i64 k) = false := by rw [hhas]; simp [mem0]
  have hsz1 : Maps.size (D.put (.int .i64 k) (.lit (.int .i64 (B + 4 + k : Nat)))) = k + 1 := by
    rw [Maps.size_put (hown.tidy (int_keyed intT)), hnot, if_neg (by simp), hsz]; rfl
  refine ⟨?_, hsize, hK.below (by omega) (fun j e => by omega)⟩
  exact {
    le := by simp [mem0]; omega
    r := (hold _ ⟨by omega, by omega⟩ (by omega)).trans h.r
    p := by
      refine ⟨_, owns_tight hown1 (by rw [hsz1]; omega), ?_, ?_, hsz1⟩
      · intro i
        by_cases hi : i = k
        · subst hi
          rw [Maps.atKey_put_same hown.isMap (by simp [WideAt.IsKeyLit])]
          unfold pageAt mem0; rw [if_pos (by simp only; omega)]; simp
        · rw [Maps.atKey_put_other (by simpa using hi), hat i]
          have e : pageAt B (mem0 k).n i = pageAt B (mem0 (k + 1)).n i := by
            unfold pageAt mem0
            simp only
            by_cases g : 0 ≤ i ∧ i < (k : Int)
            · rw [if_pos g, if_pos (by omega)]
            · rw [if_neg g, if_neg (by omega)]
          rw [e]
      · intro i
        by_cases hi : i = k
        · subst hi
          rw [Maps.has_put_same hown.isMap (by simp [WideAt.IsKeyLit])]
          simp [mem0]; omega
        · rw [Maps.has_put_other (by simpa using hi), hhas i]
          refine decide_eq_decide.2 ?_
          show (0 ≤ i ∧ i < (k : Int)) ↔ (0 ≤ i ∧ i < ((k + 1 : Nat) : Int))
          omega
    pg := fun i hi => by
      have hi' : i < k + 1 := hi
      by_cases e : i = k
      · subst e
        exact ⟨pageZ, hnew, pageZ_size, fun j hj => pageZ_byte j hj, pageZ_only⟩
      · obtain ⟨cs, h1, h2⟩ := h.pg i (by show i < k; omega)
        exact ⟨cs, (hold _ ⟨by omega, by omega⟩ (by omega)).trans h1, h2⟩
    wm := by obtain ⟨D', h1, h2⟩ := h.wm; exact ⟨D', owns_at h1 (hold _ ⟨by omega, by omega⟩ (by omega)), h2⟩
    nm := by obtain ⟨D', h1, h2⟩ := h.nm; exact ⟨D', owns_at h1 (hold _ ⟨by omega, by omega⟩ (by omega)), h2⟩
    wb := fun x h => by cases h
    nb := fun x h => by cases h
    bb := fun p h => by simp [mem0] }

theorem new_no (w : World) (p : Int) (h : p < 1 ∨ 256 < p) :
    Calls Try.prog 24 #[.int .i64 p] w fun e w' => e = .returned (.tuple #[.pointer none, .int .i64 50]) ∧ w' = w := by
  go_enter Try.func24, Try.ntmps24
  rcases h with h | h
  · go_wp2
    exact bodyPost_ret (v := .tuple #[.pointer none, .int .i64 50]) (by simp [results, Try.results24, go_sem]) rfl ⟨rfl, rfl⟩
  · have h1 : ¬ p < 1 := by omega
    go_wp2
    exact bodyPost_ret (v := .tuple #[.pointer none, .int .i64 50]) (by simp [results, Try.results24, go_sem]) rfl ⟨rfl, rfl⟩

set_option maxRecDepth 100000 in
theorem new_ok (w : World) (n : Nat) (h0 : 1 ≤ n) (h1 : n ≤ 256) :
    Calls Try.prog 24 #[.int .i64 n] w fun e w' => e = .returned (.tuple #[.pointer (some ⟨w.heap.size + 3, 0, none⟩), .int .i64 0]) ∧ RamAt w' w.heap.size (mem0 n) ∧ w'.heap.size = w.heap.size + 4 + n ∧ Below w.heap.size w w' := by
  have hmm := @run_makeMap Try.prog
  have hs := ram_start w
  have hz := zeroPage
  have hze : pageZ ≠ #[] := fun e => by have := pageZ_size; rw [e] at this; cases this
  have hzs := pageZ_size
  have g1 : ¬ (n : Int) < 1 := by omega
  have g2 : ¬ (256 : Int) < (n : Int) := by omega
  go_enter Try.func24, Try.ntmps24
  go_wp2
  go_loopw [18] (fun i wr => ∃ k : Nat, k ≤ n ∧ i = .int .i64 k ∧ RamAt wr w.heap.size (mem0 k) ∧ wr.heap.size = w.heap.size + 4 + k ∧ Below w.heap.size w wr) (fun i _ => n - (intOf i).toNat)
  case atStart => exact ⟨0, Nat.zero_le _, rfl, hs, by simp, (((((Below.refl _ w).alloc (Nat.le_refl _) _).alloc (by simp) _).alloc (by simp; omega) _).alloc (by simp; omega) _)⟩
  case round =>
    obtain ⟨k, hk, rfl, hr, hsz, hb⟩ := hrel
    have c0 : wr.cell? ⟨w.heap.size + 1 + 1 + 1, 0, none⟩ = some (.map (some w.heap.size)) := hr.c0
    obtain ⟨D, hown, hat, hhas, hsize⟩ := hr.p
    go_wp2_with (first
      | (at_mapUpdate; refine wpList_mapUpdate_in _ rfl _ _ _ 89 rfl 3 97 (int_keyed intT) pagesT ptrElem w.heap.size 256 D rfl (hown.alloc _) (by unfold maxLen; omega) _ _ _ rfl rfl (keyI (x := (k : Int)) (by omega) (by omega)) _ [] (ptrElem_some _) ?_; intro w1 hown1 hturn1)
      | go_in)
    · have R := ram_page hr hsz (by omega) hhas hat hsize hown hown1 hturn1
      clear hown1 hturn1 hown hat hhas hsize c0
      go_wp2
      go_roundw
      case rel => exact ⟨k + 1, by omega, by go_num, R.1, R.2.1, hb.trans R.2.2⟩
      case measure => simp [intOf]; omega
    · have e : k = n := by omega
      subst e
      exact bodyPost_ret (v := .tuple #[.pointer (some ⟨w.heap.size + 3, 0, none⟩), .int .i64 0]) (by simp [results, Try.results24, go_sem]) rfl ⟨rfl, hr, hsz, hb⟩

end Go.Proofs.Ytmmnnafjikilpaa
