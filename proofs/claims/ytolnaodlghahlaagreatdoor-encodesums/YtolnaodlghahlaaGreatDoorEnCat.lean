/- slices.Grow of nothing, and slices.Concat of lists of bytes: a new list of all their bytes. -/
import Derived.Test.YtolnaodlghahlaaGreatDoorEnLeaf
import Derived.Lib.AppendZerosOnto
import Derived.Laws.AppendOwnNone
import Derived.Laws.AppendOwn
import Derived.Deep.LoopGhost
namespace Go.Proofs.YtolnaodlghahlaaGreatDoor
open Go.ChangeShapes Go.WideShapes Go.ChangeAt Go.RowKit
set_option linter.unusedVariables false

theorem byteI : (Tryz.prog.info? 5).map (fun i => (i.zero, i.size, i.bytes)) = some (some (.int .u8 0), 1, 1) := by kernel_rfl
theorem byteI_parts : ∃ i, Tryz.prog.info? 5 = some i ∧ i.zero = some (.int .u8 0) ∧ i.size = 1 ∧ i.bytes = 1 := by
  have h := byteI
  cases hi : Tryz.prog.info? 5 with
  | none => rw [hi] at h; cases h
  | some i =>
    rw [hi] at h
    simp at h
    exact ⟨i, rfl, h.1, h.2.1, h.2.2⟩
theorem bytesL : Tryz.prog.underlying 23 = some (.slice 5) := by kernel_rfl
theorem intL : Tryz.prog.underlying 3 = some (.int .i64) := by kernel_rfl

/-- A list of bytes that lies somewhere. -/
def BSl (W : World) (v : Value) (b : List Int) : Prop :=
  ∃ p c, v = .slice p b.length c ∧ ((p = none ∧ b = [] ∧ c = 0) ∨ ∃ g o, p = some ⟨g, o, none⟩ ∧ (∃ cs fr, W.heap[g]? = some (.cells cs 5 fr)) ∧ ∀ j x, b[j]? = some x → W.cell? ⟨g, o + j, none⟩ = some (.int .u8 x))

theorem BSl.kp {W W' : World} {v : Value} {b : List Int} (h : BSl W v b) (k : Kp noB W W') : BSl W' v b := by
  obtain ⟨p, c, rfl, h⟩ := h
  refine ⟨p, c, rfl, ?_⟩
  rcases h with h | ⟨g, o, rfl, hg, hc⟩
  · exact .inl h
  · obtain ⟨cs, fr, hg⟩ := hg
    have e := k.block g (Array.getElem?_eq_some_iff.1 hg).1 (fun f => f)
    exact .inr ⟨g, o, rfl, ⟨cs, fr, e.trans hg⟩, fun j x hx => by
      have := hc j x hx
      unfold World.cell? at this ⊢
      simp only [e]
      exact this⟩

def bytesC (b : List Int) : List Value := b.map (Value.int .u8)

theorem grow_zero (w : World) : Calls Tryz.prog 62 #[.slice none 0 0, .int .i64 0] w fun e w' => e = .returned (.slice none 0 0) ∧ w' = w := by
  go_enter Tryz.func62, Tryz.ntmps62
  go_wp2
  go_ret
  exact ⟨rfl, rfl⟩

theorem grow_some (w : World) (n : Nat) (h0 : 0 < n) (h1 : n ≤ 4096) : Calls Tryz.prog 62 #[.slice none 0 0, .int .i64 n] w fun e w' => ∃ v, e = .returned v ∧ w'.ownsRow w.heap.size 5 1 v 0 [] ∧ Kp noB w w' := by
  obtain ⟨i0, hi, hz0, hz1, hz2⟩ := byteI_parts
  have hrz : ∀ ty, _ := fun ty => Lib.run_append_nil_zeros (P := Tryz.prog) w 23 3 ty 5 i0 (.int .u8 0) .i64 .i64 bytesL intL hi hz0 n h0 (by rw [hz1]; decide) (by omega) (by rw [hz2]; omega)
  have hGn : n ≤ grownCap w n 0 5 := grownCap_ge w _ _ _
  have hGm : grownCap w n 0 5 ≤ maxLen := grownCap_le_maxLen w n 0 5 (by unfold maxLen; omega)
  obtain ⟨G, hG⟩ : ∃ G, G = grownCap w n 0 5 := ⟨_, rfl⟩
  rw [← hG] at hrz hGn hGm
  clear hG
  have hsz : (Builtin.zeroCells (Value.int .u8 0).cells n ++ Builtin.zeroCells (Value.int .u8 0).cells (G - n)).size = G * 1 := by
    simp [Builtin.zeroCells, Value.cells]
    omega
  have hH := (MapKept.heap_alloc w.drew (.cells (Builtin.zeroCells (Value.int .u8 0).cells n ++ Builtin.zeroCells (Value.int .u8 0).cells (G - n)) 5)).1
  generalize Builtin.zeroCells (Value.int .u8 0).cells n ++ Builtin.zeroCells (Value.int .u8 0).cells (G - n) = cur at *
  have e1 : ¬ ((n : Int) < 0) := by omega
  have e2 : (n : Int) > 0 := by omega
  have e3 : wrap64 ((n : Int) - 0) = n := by unfold wrap64; omega
  have hG0 : (0 : Int) ≤ (G : Int) := by omega
  have hG63 : (G : Int) ≤ 9223372036854775807 := by unfold maxLen at hGm; omega
  go_enter Tryz.func62, Tryz.ntmps62
  go_wp2_with (at_builtin; refine Lib.wpList_append_run _ rfl _ _ _ _ rfl _ _ rfl rfl _ _ (hrz _) ?_)
  go_wp2
  go_ret
  exact ⟨_, rfl, ⟨by simp, .inr ⟨w.heap.size, G, cur, rfl, Nat.le_refl _, hH, Nat.zero_le _, hGm, hsz, by simp⟩⟩, (Kp.refl _ w).drew.trans (Kp.alloc _ _ _)⟩

theorem grow_any (w : World) (n : Nat) (h1 : n ≤ 4096) : Calls Tryz.prog 62 #[.slice none 0 0, .int .i64 n] w fun e w' => ∃ v, e = .returned v ∧ w'.ownsRow w.heap.size 5 1 v 0 [] ∧ Kp noB w w' := by
  rcases Nat.eq_zero_or_pos n with rfl | h
  · refine (grow_zero w).mono ?_
    rintro e w' ⟨rfl, rfl⟩
    exact ⟨_, rfl, World.ownsRow_nil _ _ _ _, Kp.refl _ _⟩
  · exact grow_some w n h h1

/-- The bytes of the first lists, one behind the other. -/
def catL (bs : Nat → List Int) : Nat → List Int
  | 0 => []
  | i + 1 => catL bs i ++ bs i

theorem catL_len (bs : Nat → List Int) (h : ∀ i, (bs i).length ≤ 100) : ∀ k, (catL bs k).length ≤ 100 * k
  | 0 => by simp [catL]
  | k + 1 => by
    have h1 := catL_len bs h k
    have h2 := h k
    simp [catL]
    omega

theorem cellK {w w' : World} {b o : Nat} {v : Value} (h : w.cell? ⟨b, o, none⟩ = some v) (k : Kp noB w w') (hb : b < w.heap.size) : w'.cell? ⟨b, o, none⟩ = some v := by
  have e := k.block b hb (fun f => f)
  unfold World.cell? at h ⊢
  simp only [e]
  exact h

theorem addP (blk off n : Nat) : (⟨blk, off, none⟩ : Addr).add n = ⟨blk, off + n, none⟩ := by
  unfold Addr.add
  split
  · rename_i hz
    rw [hz]
    rfl
  · rfl

def fromN (n b : Nat) : Prop := n ≤ b
theorem kp_own {w w' : World} {base e size n : Nat} {v : Value} {xs : List Value} (h : w.ownsRow base e size v n xs) (g : w.grownBy w' v.ownBlock) : Kp (fromN base) w w' :=
  ⟨g.os, g.tape, g.output, g.size, fun k hk hs => g.block k hk (fun e => by
    rcases h.2 with ⟨h1, _⟩ | ⟨b, cap, cur, h1, hb, _⟩
    · rw [h1] at e; simp [Value.ownBlock] at e
    · rw [h1] at e; simp [Value.ownBlock] at e; subst e; exact hs hb)⟩

def CcA (w : World) (bs : Nat → List Int) (k gk : Nat) (s t : Value) (wr : World) : Prop :=
  ∃ i : Nat, t = .int .i64 i ∧ i ≤ k ∧ k - i ≤ gk ∧ s = .int .i64 (catL bs i).length ∧ wr = w
def CcB (w : World) (bs : Nat → List Int) (k gk : Nat) (s t : Value) (wr : World) : Prop :=
  ∃ i : Nat, t = .int .i64 i ∧ i ≤ k ∧ k - i ≤ gk ∧ wr.ownsRow w.heap.size 5 1 s (catL bs i).length (bytesC (catL bs i)) ∧ Kp noB w wr

set_option maxRecDepth 100000 in
set_option maxHeartbeats 4000000 in
theorem concat_ok (w : World) (B k : Nat) (vs : Nat → Value) (bs : Nat → List Int) (hk : k ≤ 8) (hB : ∀ i, i < k → w.cell? ⟨B, i, none⟩ = some (vs i)) (hv : ∀ i, i < k → BSl w (vs i) (bs i)) (hl : ∀ i, (bs i).length ≤ 100) (hb : B < w.heap.size) :
    Calls Tryz.prog 35 #[.slice (some ⟨B, 0, none⟩) k k] w fun e w' => ∃ v, e = .returned v ∧ w'.ownsRow w.heap.size 5 1 v (catL bs k).length (bytesC (catL bs k)) ∧ Kp noB w w' := by
  have HL : Hid (∀ i, (catL bs i).length ≤ 100 * i) := catL_len bs hl
  have HB : Hid (∀ i, i < k → w.cell? ⟨B, i, none⟩ = some (vs i)) := hB
  have HV : Hid (∀ i, i < k → BSl w (vs i) (bs i)) := hv
  have Hl : Hid (∀ i, (bs i).length ≤ 100) := hl
  clear hB hv hl
  go_enter Tryz.func35, Tryz.ntmps35
  go_wp2_with fail
  go_loopg [3, 11] k (CcA w bs k)
  case atStart => exact ⟨0, rfl, Nat.zero_le _, Nat.le_refl _, rfl, rfl⟩
  case round =>
    obtain ⟨i, rfl, hi1, hik, rfl, hw⟩ := hrel
    replace hw := hw.symm
    subst hw
    by_cases hlt : (i : Int) < (k : Int)
    · have hi' : i < k := by omega
      have c0 := HB.out i hi'
      obtain ⟨p, c, hv, _⟩ := HV.out i hi'
      rw [hv] at c0
      have b1 := HL.out i
      have b2 := Hl.out i
      have e1 : (catL bs (i + 1)).length = (catL bs i).length + (bs i).length := by simp [catL]
      have HE : Hid ((catL bs (i + 1)).length = (catL bs i).length + (bs i).length) := e1
      generalize (catL bs i).length = a at *
      generalize (bs i).length = b at *
      have e2 : wrap64 ((a : Int) + (b : Int)) = ((a + b : Nat) : Int) := by unfold wrap64; omega
      have e3 : ¬ ((a : Int) + (b : Int) < 0) := by omega
      clear e1 hv
      go_wp2_with fail
      go_roundg (k - (i + 1))
      case measure => omega
      case rel => exact ⟨i + 1, by go_num, by omega, Nat.le_refl _, by rw [HE.out]; go_num, rfl⟩
    · obtain rfl : i = k := by omega
      have b1 := HL.out i
      have cG := grow_any w (catL bs i).length (by omega)
      clear hik
      go_wp2_with fail
      refine cG.mono ?_; rintro e w1 ⟨v1, rfl, ho1, k1⟩
      clear cG
      obtain ⟨i0, hi0, hz0, hz1, hz2⟩ := byteI_parts
      go_wp2_with fail
      go_loopg [6, 27] i (CcB w bs i)
      case atStart => exact ⟨0, rfl, Nat.zero_le _, Nat.le_refl _, ho1, k1⟩
      case round =>
        clear ho1 k1
        obtain ⟨m, rfl, hm1, hmk, ho, kk⟩ := hrel
        by_cases hlt' : (m : Int) < (i : Int)
        · have hm' : m < i := by omega
          have c0 := cellK (HB.out m hm') kk hb
          obtain ⟨p, c, hv, hcase⟩ := (HV.out m hm').kp kk
          rw [hv] at c0
          have b2 := HL.out m
          have b3 := Hl.out m
          have hsz : w.heap.size ≤ wr.heap.size := kk.size
          have HE : Hid (catL bs (m + 1) = catL bs m ++ bs m) := rfl
          rcases hcase with ⟨rfl, hb0, rfl⟩ | ⟨g, o, rfl, hg, hcl⟩
          · have h0 : (bs m).length = 0 := by rw [hb0]; rfl
            rw [h0] at c0
            have HE0 : Hid (catL bs (m + 1) = catL bs m) := by show catL bs m ++ bs m = catL bs m; rw [hb0]; simp
            clear hv h0 hb0
            go_wp2_with (at_builtin; refine wpList_append_own_none rfl _ _ 23 rfl w.heap.size 5 i0 1 bytesL hi0 _ _ _ rfl ho rfl ?_)
            go_wp2_with fail
            go_roundg (i - (m + 1))
            case measure => omega
            case rel => exact ⟨m + 1, by go_num, by omega, Nat.le_refl _, by rw [HE0.out]; exact ho, kk⟩
          · have HN : Hid (∀ j u, (bytesC (bs m))[j]? = some u → wr.cell? ((⟨g, o, none⟩ : Addr).add j) = some u) := fun j u hu => by
              rw [addP]
              unfold bytesC at hu
              rw [List.getElem?_map] at hu
              obtain ⟨x, hx, rfl⟩ := Option.map_eq_some_iff.1 hu
              exact hcl j x hx
            have H1 : Hid (∀ u ∈ bytesC (bs m), u.oneCell' = true) := fun u hu => by
              unfold bytesC at hu
              obtain ⟨x, _, rfl⟩ := List.mem_map.1 hu
              rfl
            clear hv hcl
            go_wp2_with (at_builtin; refine wpList_append_own _ rfl _ _ 23 rfl w.heap.size 5 i0 (.int .u8 0) 1 1 bytesL hi0 hz0 hz1 hz2 rfl (by decide) _ _ _ rfl ho ⟨g, o, none⟩ (bs m).length c (bytesC (bs m)) rfl (by simp [bytesC]) HN.out H1.out (by unfold maxLen; omega) (by omega) hsz ?_; intro v' w' hown' hgrow hnil)
            have kg := kp_own ho hgrow
            have kk' : Kp noB w w' := kk.over kg (fun j hj f => by unfold fromN at f; omega)
            go_wp2_with fail
            go_roundg (i - (m + 1))
            case measure => omega
            case rel =>
              refine ⟨m + 1, by go_num, by omega, Nat.le_refl _, ?_, kk'⟩
              rw [HE.out]
              have : bytesC (catL bs m ++ bs m) = bytesC (catL bs m) ++ bytesC (bs m) := by unfold bytesC; simp
              rw [this, List.length_append]
              exact hown'
        · obtain rfl : m = i := by omega
          go_wp2
          go_ret
          exact ⟨_, rfl, ho, kk⟩
end Go.Proofs.YtolnaodlghahlaaGreatDoor
