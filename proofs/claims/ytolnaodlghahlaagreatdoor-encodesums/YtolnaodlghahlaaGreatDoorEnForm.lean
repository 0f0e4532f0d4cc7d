/- encode: opcode, places of registers, bodies. -/
import Derived.Test.YtolnaodlghahlaaGreatDoorEnCat
import Derived.Deep.RegionHeld3
import Derived.LoopN
import Derived.Deep.RegionWith
import Derived.Deep.Cut
import Derived.Maps.AppendAt
import Derived.BigRegion
import Derived.OwnWalk
namespace Go.Proofs.YtolnaodlghahlaaGreatDoor
open Go.ChangeShapes Go.WideShapes Go.ChangeAt Go.RowKit
set_option linter.unusedVariables false

/-- Lists of bytes, one behind the other. -/
def BB (W : World) (v : Value) (L : List (List Int)) : Prop :=
  ∃ p c, v = .slice p L.length c ∧ ((p = none ∧ L = [] ∧ c = 0) ∨ ∃ g o, p = some ⟨g, o, none⟩ ∧ g < W.heap.size ∧ ∀ j b, L[j]? = some b → ∃ u, W.cell? ⟨g, o + j, none⟩ = some u ∧ BSl W u b)

theorem BB.kp {W W' : World} {v : Value} {L : List (List Int)} (h : BB W v L) (k : Kp noB W W') : BB W' v L := by
  obtain ⟨p, c, rfl, h⟩ := h
  refine ⟨p, c, rfl, ?_⟩
  rcases h with h | ⟨g, o, rfl, hg, hc⟩
  · exact .inl h
  · refine .inr ⟨g, o, rfl, Nat.lt_of_lt_of_le hg k.size, fun j x hx => ?_⟩
    obtain ⟨u, h1, h2⟩ := hc j x hx
    exact ⟨u, cellK h1 k hg, h2.kp k⟩

theorem bsl_owns {W : World} {base : Nat} {v : Value} {b : List Int} (h : W.ownsRow base 5 1 v b.length (bytesC b)) : BSl W v b := by
  obtain ⟨h0, h1⟩ := h
  rcases h1 with ⟨rfl, h2⟩ | ⟨g, cap, cur, rfl, hg, hh, hn, hc, hs, ht⟩
  · have : b = [] := List.length_eq_zero_iff.1 h2
    subst this
    exact ⟨none, 0, rfl, .inl ⟨rfl, rfl, rfl⟩⟩
  · refine ⟨_, cap, rfl, .inr ⟨g, 0, rfl, ⟨_, _, hh⟩, fun j x hx => ?_⟩⟩
    have hj : j < b.length := (List.getElem?_eq_some_iff.1 hx).1
    have e : (bytesC b)[j]? = some (.int .u8 x) := by unfold bytesC; rw [List.getElem?_map, hx]; rfl
    rw [← ht, List.getElem?_take_of_lt (by omega)] at e
    simp [World.cell?, hh]
    simpa using e

def opcM (c : Int) : List Int := if c / 256 = 15 then [15, c % 256] else [c % 256]

theorem row_bsl {W : World} {g : Nat} {cs : Array Value} {b : List Int} (h : W.heap[g]? = some (.cells cs 5 (0, 0))) (hc : ∀ (j : Nat) (x : Int), b[j]? = some x → cs[j]? = some (Value.int .u8 x)) (c : Nat) : BSl W (.slice (some ⟨g, 0, none⟩) b.length c) b :=
  ⟨_, c, rfl, .inr ⟨g, 0, rfl, ⟨_, _, h⟩, fun j x hx => by simp [World.cell?, h, hc j x hx]⟩⟩

theorem new_bsl (W : World) {g : Nat} (hg : g = W.heap.size) {cs : Array Value} (b : List Int) (hc : cs.toList = bytesC b) (c l : Nat) (hl : l = b.length) : BSl (W.alloc (.cells cs 5)) (.slice (some ⟨g, 0, none⟩) l c) b := by
  subst hg; subst hl
  refine row_bsl (MapKept.heap_alloc W _).1 (fun j x hx => ?_) c
  rw [← Array.getElem?_toList, hc]
  unfold bytesC
  rw [List.getElem?_map, hx]; rfl

theorem opcode_any (w : World) (c n : Int) (md : Bool) (o : Opd) (bh : Value) (hb : ∃ p l k, bh = .slice p l k) : Calls Tryz.prog 243 #[.agg (formV c md n o bh)] w fun e w' => ∃ v, e = .returned v ∧ BSl w' v (opcM c) ∧ Kp noB w w' := by
  obtain ⟨p, l, k, rfl⟩ := hb
  obtain ⟨o0, o1, o2, o3, o4, o5, o6, o7, o8⟩ := o
  unfold formV opcM
  by_cases h : c / 256 = 15
  · rw [if_pos h]
    have h' : (c / 256 == 15) = true := by simpa using h
    go_enter Tryz.func243, Tryz.ntmps243
    go_wp2
    go_ret
    refine ⟨_, rfl, ?_, (Kp.alloc _ _ _).trans (Kp.alloc _ _ _)⟩
    exact new_bsl _ (by simp) [15, c % 256] rfl 2 2 rfl
  · rw [if_neg h]
    have h' : (c / 256 == 15) = false := by simpa using h
    go_enter Tryz.func243, Tryz.ntmps243
    go_wp2
    go_ret
    refine ⟨_, rfl, ?_, (Kp.alloc _ _ _).trans (Kp.alloc _ _ _)⟩
    exact new_bsl _ (by simp) [c % 256] rfl 1 1 rfl

/-- No register, no memory: no place. -/
theorem places_none (w : World) (o : Opd) (h1 : (o.kind == 1) = false) (h2 : (o.kind != 2) = true) : Calls Tryz.prog 244 #[.agg o.vals] w fun e w' => e = .returned (.slice none 0 0) ∧ Kp noB w w' := by
  obtain ⟨o0, o1, o2, o3, o4, o5, o6, o7, o8⟩ := o
  unfold Opd.vals
  simp only at h1 h2
  go_enter Tryz.func244, Tryz.ntmps244
  go_wp2
  go_ret
  exact ⟨rfl, Kp.alloc _ _ _⟩

theorem places_reg (w : World) (o : Opd) (h1 : (o.kind == 1) = true) : Calls Tryz.prog 244 #[.agg o.vals] w fun e w' => ∃ X : Nat, w.heap.size ≤ X ∧ e = .returned (.slice (some ⟨X + 1, 0, none⟩) 1 1) ∧ w'.heap[X]? = some (.cells #[.int .u8 (fldM 3 0 o.reg)] 5 (0, 0)) ∧ w'.heap[X + 1]? = some (.cells #[.slice (some ⟨X, 0, none⟩) 1 1] 23 (0, 0)) ∧ Kp noB w w' := by
  obtain ⟨o0, o1, o2, o3, o4, o5, o6, o7, o8⟩ := o
  unfold Opd.vals
  simp only at h1
  have cF := fields_any (w.alloc (.cells #[.int .i64 o0, .int .i64 o1, .int .i64 o2, .int .i64 o3, .int .i64 o4, .int .i64 o5, .int .i64 o6, .int .u32 o7, .int .u32 o8] 26)) 3 0 o1
  go_enter Tryz.func244, Tryz.ntmps244
  go_wp2_with fail
  refine cF.mono ?_; rintro e w1 ⟨rfl, rfl⟩
  go_wp2
  go_ret
  obtain ⟨W, hW⟩ : ∃ W, W = w.alloc (.cells #[.int .i64 o0, .int .i64 o1, .int .i64 o2, .int .i64 o3, .int .i64 o4, .int .i64 o5, .int .i64 o6, .int .u32 o7, .int .u32 o8] 26) := ⟨_, rfl⟩
  have hs : W.heap.size = w.heap.size + 1 := by rw [hW]; simp
  have k0 : Kp noB w W := by rw [hW]; exact Kp.alloc _ _ _
  rw [← hW]
  refine ⟨W.heap.size, by omega, by simp [hs], ?_, ?_, (k0.trans (Kp.alloc _ _ _)).trans (Kp.alloc _ _ _)⟩
  · exact (Below.heap_alloc _ _ _ (by simp)).trans (MapKept.heap_alloc W _).1
  · have := (MapKept.heap_alloc (W.alloc (.cells #[.int .u8 (fldM 3 0 o1)] 5)) (.cells #[.slice (some ⟨W.heap.size, 0, none⟩) 1 1] 23)).1
    simpa [hs] using this

theorem opcM_len (c : Int) : (opcM c).length ≤ 2 := by unfold opcM; split <;> simp

theorem cellA {w : World} {S o : Nat} {cur : Array Value} {t : TypeId} (h : w.heap[S]? = some (.cells cur t (0, 0))) : w.cell? ⟨S, o, none⟩ = cur[o]? := by simp [World.cell?, h]

/-- Two lists, or three, in a row of their own. -/
def sel2 {α : Type} (a b z : α) (i : Nat) : α := match i with | 0 => a | 1 => b | _ => z
def sel3 {α : Type} (a b c z : α) (i : Nat) : α := match i with | 0 => a | 1 => b | 2 => c | _ => z

theorem cat2 (W : World) (u v : Value) (a b : List Int) (hu : BSl W u a) (hv : BSl W v b) (ha : a.length ≤ 100) (hb : b.length ≤ 100) :
    Calls Tryz.prog 35 #[.slice (some ⟨W.heap.size, 0, none⟩) 2 2] (W.alloc (.cells #[u, v] 23)) fun e w' => ∃ p l k, e = .returned (.slice p l k) ∧ BSl w' (.slice p l k) (a ++ b) ∧ Kp noB W w' := by
  have hh := (MapKept.heap_alloc W (.cells #[u, v] 23)).1
  have kA := Kp.alloc noB W (.cells #[u, v] 23)
  refine (concat_ok (W.alloc (.cells #[u, v] 23)) W.heap.size 2 (sel2 u v u) (sel2 a b []) (by omega) (fun i hi => ?_) (fun i hi => ?_) (fun i => ?_) (by simp)).mono ?_
  · rw [cellA hh]; rcases (by omega : i = 0 ∨ i = 1) with rfl | rfl <;> rfl
  · rcases (by omega : i = 0 ∨ i = 1) with rfl | rfl
    · exact hu.kp kA
    · exact hv.kp kA
  · match i with
    | 0 => exact ha
    | 1 => exact hb
    | n + 2 => simp [sel2]
  · rintro e w' ⟨x, rfl, ho, k⟩
    have e0 : catL (sel2 a b []) 2 = a ++ b := by simp [catL, sel2]
    rw [e0] at ho
    have hx := bsl_owns ho
    obtain ⟨p, c, rfl, h⟩ := id hx
    exact ⟨p, _, c, rfl, hx, kA.trans k⟩

theorem cat3 (W : World) (u v x : Value) (a b c : List Int) (hu : BSl W u a) (hv : BSl W v b) (hx : BSl W x c) (ha : a.length ≤ 100) (hb : b.length ≤ 100) (hc : c.length ≤ 100) :
    Calls Tryz.prog 35 #[.slice (some ⟨W.heap.size, 0, none⟩) 3 3] (W.alloc (.cells #[u, v, x] 23)) fun e w' => ∃ p l k, e = .returned (.slice p l k) ∧ BSl w' (.slice p l k) (a ++ b ++ c) ∧ Kp noB W w' := by
  have hh := (MapKept.heap_alloc W (.cells #[u, v, x] 23)).1
  have kA := Kp.alloc noB W (.cells #[u, v, x] 23)
  refine (concat_ok (W.alloc (.cells #[u, v, x] 23)) W.heap.size 3 (sel3 u v x u) (sel3 a b c []) (by omega) (fun i hi => ?_) (fun i hi => ?_) (fun i => ?_) (by simp)).mono ?_
  · rw [cellA hh]; rcases (by omega : i = 0 ∨ i = 1 ∨ i = 2) with rfl | rfl | rfl <;> rfl
  · rcases (by omega : i = 0 ∨ i = 1 ∨ i = 2) with rfl | rfl | rfl
    · exact hu.kp kA
    · exact hv.kp kA
    · exact hx.kp kA
  · match i with
    | 0 => exact ha
    | 1 => exact hb
    | 2 => exact hc
    | n + 3 => simp [sel3]
  · rintro e w' ⟨y, rfl, ho, k⟩
    have e0 : catL (sel3 a b c []) 3 = a ++ b ++ c := by simp [catL, sel3]
    rw [e0] at ho
    have hy := bsl_owns ho
    obtain ⟨p, q, rfl, h⟩ := id hy
    exact ⟨p, _, q, rfl, hy, kA.trans k⟩

/-- One list, in a row of its own. -/
theorem new_bb1 (W : World) {g : Nat} (hg : g = W.heap.size) {u : Value} {b : List Int} (h : BSl W u b) : BB (W.alloc (.cells #[u] 23)) (.slice (some ⟨g, 0, none⟩) 1 1) [b] := by
  subst hg
  have hh := (MapKept.heap_alloc W (.cells #[u] 23)).1
  refine ⟨_, 1, rfl, .inr ⟨W.heap.size, 0, rfl, by simp, fun j x hx => ?_⟩⟩
  match j, hx with
  | 0, hx =>
    simp at hx
    subst hx
    exact ⟨u, by rw [cellA hh]; rfl, h.kp (Kp.alloc _ _ _)⟩

/-- What a form without ModRM makes. -/
theorem bodies_alone (w : World) (c n : Int) (o : Opd) (bh : Value) (b : List Int) (hb : BSl w bh b) (hl : b.length ≤ 100) :
    Calls Tryz.prog 58 #[.agg (formV c false n o bh)] w fun e w' => ∃ v, e = .returned v ∧ BB w' v [opcM c ++ b] ∧ Kp noB w w' := by
  have hsl : ∃ p l k, bh = .slice p l k := by obtain ⟨p, k, h, _⟩ := hb; exact ⟨p, _, k, h⟩
  have HO : Hid (∀ W, Calls Tryz.prog 243 #[.agg (formV c false n o bh)] W fun e w' => ∃ v, e = .returned v ∧ BSl w' v (opcM c) ∧ Kp noB W w') := fun W => opcode_any W c n false o bh hsl
  obtain ⟨p, l, k, rfl⟩ := hsl
  obtain ⟨o0, o1, o2, o3, o4, o5, o6, o7, o8⟩ := o
  unfold formV at *
  obtain ⟨X, hX⟩ : ∃ X, w.heap.size = X := ⟨_, rfl⟩
  have HX : Hid (w.heap.size = X) := hX
  obtain ⟨W0, hW0⟩ : ∃ W, W = w.alloc (.cells #[.int .i64 c, .bool false, .int .i64 n, .int .i64 o0, .int .i64 o1, .int .i64 o2, .int .i64 o3, .int .i64 o4, .int .i64 o5, .int .i64 o6, .int .u32 o7, .int .u32 o8, .slice p l k] 77) := ⟨_, rfl⟩
  have hR : W0.heap[X]? = some (.cells #[.int .i64 c, .bool false, .int .i64 n, .int .i64 o0, .int .i64 o1, .int .i64 o2, .int .i64 o3, .int .i64 o4, .int .i64 o5, .int .i64 o6, .int .u32 o7, .int .u32 o8, .slice p l k] 77 (0, 0)) := by rw [hW0, ← hX]; exact (MapKept.heap_alloc w _).1
  have k0 : Kp noB w W0 := by rw [hW0]; exact Kp.alloc _ _ _
  go_enter Tryz.func58, Tryz.ntmps58
  go_wp2_with fail
  rw [← hW0]
  refine (HO.out _).mono ?_; rintro e w1 ⟨v1, rfl, hv1, k1⟩
  have hR1 : w1.heap[X]? = _ := (k1.block X (Array.getElem?_eq_some_iff.1 hR).1 (fun f => f)).trans hR
  have c1 : w1.cell? ⟨X, 1, none⟩ = some (.bool false) := by simp [World.cell?, hR1]
  have c12 : w1.cell? ⟨X, 12, none⟩ = some (.slice p l k) := by simp [World.cell?, hR1]
  replace k1 := k0.trans k1
  have hb1 := hb.kp k1
  clear hR hR1 k0 hW0 HO hX
  obtain ⟨p1, q1, hv, _⟩ := id hv1
  subst hv
  have cC := cat2 w1 _ _ _ _ hv1 hb1 (by have := opcM_len c; omega) hl
  go_wp2_with fail
  refine cC.mono ?_; rintro e w2 ⟨p2, l2, q2, rfl, hv2, k2⟩
  go_wp2
  go_ret
  exact ⟨_, rfl, new_bb1 _ rfl hv2, (k1.trans k2).trans (Kp.alloc _ _ _)⟩

theorem form_row (w : World) (c n : Int) (md : Bool) (o : Opd) (bh : Value) : (w.alloc (.cells (formV c md n o bh) 77)).heap[w.heap.size]? = some (.cells (formV c md n o bh) 77 (0, 0)) := (MapKept.heap_alloc w _).1

/-- What a form with ModRM makes of no operand that can be said so. -/
theorem bodies_none (w : World) (c n : Int) (o : Opd) (bh : Value) (hsl : ∃ p l k, bh = .slice p l k) (h1 : (o.kind == 1) = false) (h2 : (o.kind != 2) = true) :
    Calls Tryz.prog 58 #[.agg (formV c true n o bh)] w fun e w' => e = .returned (.slice none 0 0) ∧ Kp noB w w' := by
  have HO : Hid (∀ W, Calls Tryz.prog 243 #[.agg (formV c true n o bh)] W fun e w' => ∃ v, e = .returned v ∧ BSl w' v (opcM c) ∧ Kp noB W w') := fun W => opcode_any W c n true o bh hsl
  have HP : Hid (∀ W, Calls Tryz.prog 244 #[.agg o.vals] W fun e w' => e = .returned (.slice none 0 0) ∧ Kp noB W w') := fun W => places_none W o h1 h2
  have hR := form_row w c n true o bh
  have k0 : Kp noB w (w.alloc (.cells (formV c true n o bh) 77)) := Kp.alloc _ _ _
  obtain ⟨p, l, k, rfl⟩ := hsl
  obtain ⟨o0, o1, o2, o3, o4, o5, o6, o7, o8⟩ := o
  unfold formV at *
  unfold Opd.vals at HP
  clear h1 h2
  obtain ⟨X, hX⟩ : ∃ X, w.heap.size = X := ⟨_, rfl⟩
  rw [hX] at hR
  obtain ⟨W0, hW0⟩ : ∃ W, W = w.alloc (.cells #[.int .i64 c, .bool true, .int .i64 n, .int .i64 o0, .int .i64 o1, .int .i64 o2, .int .i64 o3, .int .i64 o4, .int .i64 o5, .int .i64 o6, .int .u32 o7, .int .u32 o8, .slice p l k] 77) := ⟨_, rfl⟩
  simp only at hR k0
  rw [← hW0] at hR k0
  go_enter Tryz.func58, Tryz.ntmps58
  go_wp2_with fail
  rw [← hW0]
  refine (HO.out _).mono ?_; rintro e w1 ⟨v1, rfl, hv1, k1⟩
  have hR1 : w1.heap[X]? = _ := (k1.block X (Array.getElem?_eq_some_iff.1 hR).1 (fun f => f)).trans hR
  have c1 : w1.cell? ⟨X, 1, none⟩ = some (.bool true) := by rw [cellA hR1]; rfl
  have d0 : w1.cell? ⟨X, 3, none⟩ = some (.int .i64 o0) := by rw [cellA hR1]; rfl
  have d1 : w1.cell? ⟨X, 4, none⟩ = some (.int .i64 o1) := by rw [cellA hR1]; rfl
  have d2 : w1.cell? ⟨X, 5, none⟩ = some (.int .i64 o2) := by rw [cellA hR1]; rfl
  have d3 : w1.cell? ⟨X, 6, none⟩ = some (.int .i64 o3) := by rw [cellA hR1]; rfl
  have d4 : w1.cell? ⟨X, 7, none⟩ = some (.int .i64 o4) := by rw [cellA hR1]; rfl
  have d5 : w1.cell? ⟨X, 8, none⟩ = some (.int .i64 o5) := by rw [cellA hR1]; rfl
  have d6 : w1.cell? ⟨X, 9, none⟩ = some (.int .i64 o6) := by rw [cellA hR1]; rfl
  have d7 : w1.cell? ⟨X, 10, none⟩ = some (.int .u32 o7) := by rw [cellA hR1]; rfl
  have d8 : w1.cell? ⟨X, 11, none⟩ = some (.int .u32 o8) := by rw [cellA hR1]; rfl
  replace k1 := k0.trans k1
  clear hR hR1 k0 hW0 HO hX hv1
  go_wp2_with fail
  refine (HP.out _).mono ?_; rintro e w2 ⟨rfl, k2⟩
  replace k2 := k1.trans k2
  clear k1 HP c1 d0 d1 d2 d3 d4 d5 d6 d7 d8
  go_wp2_with fail
  refine wp_loop_rounds 1 ?_
  rw [rounds_succ]
  go_wp2
  go_ret
  exact ⟨rfl, k2⟩

theorem or_fin : ∀ a b : Fin 8, bits .or .u8 (192 + (a.val : Int)) ((b.val : Int) * 8) = 192 + (b.val : Int) * 8 + (a.val : Int) := by decide +kernel
theorem or_fld (n r : Int) : bits .or .u8 (fldM 3 0 r) (fldM 0 n 0) = fldM 3 n r := by
  have h := or_fin ⟨(r % 8).toNat, by omega⟩ ⟨(n % 8).toNat, by omega⟩
  simp only at h
  have e1 : (((r % 8).toNat : Nat) : Int) = r % 8 := by omega
  have e2 : (((n % 8).toNat : Nat) : Int) = n % 8 := by omega
  rw [e1, e2] at h
  unfold fldM
  have f1 : (3 : Int) % 4 * 64 + 0 % 8 * 8 + r % 8 = 192 + r % 8 := by omega
  have f2 : (0 : Int) % 4 * 64 + n % 8 * 8 + 0 % 8 = n % 8 * 8 := by omega
  have f3 : (3 : Int) % 4 * 64 + n % 8 * 8 + r % 8 = 192 + n % 8 * 8 + r % 8 := by omega
  rw [f1, f2, f3]
  exact h

theorem sliceI : (Tryz.prog.info? 23).map (fun i => (i.zero, i.size, i.bytes)) = some (some (.slice none 0 0), 1, 24) := by kernel_rfl
theorem slicesL : Tryz.prog.underlying 59 = some (.slice 23) := by kernel_rfl
theorem sliceI_parts : ∃ i, Tryz.prog.info? 23 = some i ∧ i.zero = some (.slice none 0 0) ∧ i.size = 1 ∧ i.bytes = 24 := by
  have h := sliceI
  cases hi : Tryz.prog.info? 23 with
  | none => rw [hi] at h; cases h
  | some i =>
    rw [hi] at h
    simp at h
    exact ⟨i, rfl, h.1, h.2.1, h.2.2⟩

theorem bb_owns1 {W : World} {base : Nat} {v u : Value} {b : List Int} (h : W.ownsRow base 23 1 v 1 [u]) (hu : BSl W u b) : BB W v [b] := by
  obtain ⟨h0, h1⟩ := h
  rcases h1 with ⟨_, h2⟩ | ⟨g, cap, cur, rfl, hg, hh, hn, hc, hs, ht⟩
  · cases h2
  · refine ⟨_, cap, rfl, .inr ⟨g, 0, rfl, (Array.getElem?_eq_some_iff.1 hh).1, fun j x hx => ?_⟩⟩
    match j, hx with
    | 0, hx =>
      simp at hx
      subst hx
      refine ⟨u, ?_, hu⟩
      rw [cellA hh]
      have e : (cur.toList.take (1 * 1))[0]? = some u := by rw [ht]; rfl
      rw [List.getElem?_take_of_lt (by omega)] at e
      simpa using e

theorem heap_set1 {w : World} {S o : Nat} {cur : Array Value} {t : TypeId} (h : w.heap[S]? = some (.cells cur t (0, 0))) (v : Value) : (w.setCell ⟨S, o, none⟩ v).heap[S]? = some (.cells (cur.setIfInBounds o v) t (0, 0)) := by
  rw [setCell_eq_setRow w S o cur t (0, 0) v h]
  exact setRow_heap w S cur _ t _ h

set_option maxRecDepth 100000 in
set_option maxHeartbeats 2000000 in
/-- What a form with ModRM makes of a register. -/
theorem bodies_reg (w : World) (c n : Int) (o : Opd) (bh : Value) (b : List Int) (hb : BSl w bh b) (hl : b.length ≤ 100) (h1 : (o.kind == 1) = true) :
    Calls Tryz.prog 58 #[.agg (formV c true n o bh)] w fun e w' => ∃ v, e = .returned v ∧ BB w' v [opcM c ++ [fldM 3 n o.reg] ++ b] ∧ Kp noB w w' := by
  have hsl : ∃ p l k, bh = .slice p l k := by obtain ⟨p, k, h, _⟩ := hb; exact ⟨p, _, k, h⟩
  have HO : Hid (∀ W, Calls Tryz.prog 243 #[.agg (formV c true n o bh)] W fun e w' => ∃ v, e = .returned v ∧ BSl w' v (opcM c) ∧ Kp noB W w') := fun W => opcode_any W c n true o bh hsl
  have HP : Hid (∀ W, Calls Tryz.prog 244 #[.agg o.vals] W fun e w' => ∃ X : Nat, W.heap.size ≤ X ∧ e = .returned (.slice (some ⟨X + 1, 0, none⟩) 1 1) ∧ w'.heap[X]? = some (.cells #[.int .u8 (fldM 3 0 o.reg)] 5 (0, 0)) ∧ w'.heap[X + 1]? = some (.cells #[.slice (some ⟨X, 0, none⟩) 1 1] 23 (0, 0)) ∧ Kp noB W w') := fun W => places_reg W o h1
  have hR := form_row w c n true o bh
  have k0 : Kp noB w (w.alloc (.cells (formV c true n o bh) 77)) := Kp.alloc _ _ _
  obtain ⟨p, l, k, rfl⟩ := hsl
  obtain ⟨o0, o1, o2, o3, o4, o5, o6, o7, o8⟩ := o
  unfold formV at *
  unfold Opd.vals at HP
  simp only at HP ⊢
  clear h1
  obtain ⟨X, hX⟩ : ∃ X, w.heap.size = X := ⟨_, rfl⟩
  have HX : Hid (w.heap.size = X) := hX
  rw [hX] at hR
  obtain ⟨W0, hW0⟩ : ∃ W, W = w.alloc (.cells #[.int .i64 c, .bool true, .int .i64 n, .int .i64 o0, .int .i64 o1, .int .i64 o2, .int .i64 o3, .int .i64 o4, .int .i64 o5, .int .i64 o6, .int .u32 o7, .int .u32 o8, .slice p l k] 77) := ⟨_, rfl⟩
  simp only at hR k0
  rw [← hW0] at hR k0
  go_enter Tryz.func58, Tryz.ntmps58
  go_wp2_with fail
  rw [← hW0]
  refine (HO.out _).mono ?_; rintro e w1 ⟨v1, rfl, hv1, k1⟩
  have hR1 : w1.heap[X]? = _ := (k1.block X (Array.getElem?_eq_some_iff.1 hR).1 (fun f => f)).trans hR
  have c1 : w1.cell? ⟨X, 1, none⟩ = some (.bool true) := by rw [cellA hR1]; rfl
  have d0 : w1.cell? ⟨X, 3, none⟩ = some (.int .i64 o0) := by rw [cellA hR1]; rfl
  have d1 : w1.cell? ⟨X, 4, none⟩ = some (.int .i64 o1) := by rw [cellA hR1]; rfl
  have d2 : w1.cell? ⟨X, 5, none⟩ = some (.int .i64 o2) := by rw [cellA hR1]; rfl
  have d3 : w1.cell? ⟨X, 6, none⟩ = some (.int .i64 o3) := by rw [cellA hR1]; rfl
  have d4 : w1.cell? ⟨X, 7, none⟩ = some (.int .i64 o4) := by rw [cellA hR1]; rfl
  have d5 : w1.cell? ⟨X, 8, none⟩ = some (.int .i64 o5) := by rw [cellA hR1]; rfl
  have d6 : w1.cell? ⟨X, 9, none⟩ = some (.int .i64 o6) := by rw [cellA hR1]; rfl
  have d7 : w1.cell? ⟨X, 10, none⟩ = some (.int .u32 o7) := by rw [cellA hR1]; rfl
  have d8 : w1.cell? ⟨X, 11, none⟩ = some (.int .u32 o8) := by rw [cellA hR1]; rfl
  replace k1 := k0.trans k1
  obtain ⟨p1, q1, hv, _⟩ := id hv1
  subst hv
  clear hR k0 hW0 HO hX
  go_wp2_with fail
  refine (HP.out _).mono ?_; rintro e w2 ⟨Y, hY, rfl, hy0, hy1, k2⟩
  have hR2 : w2.heap[X]? = _ := (k2.block X (Array.getElem?_eq_some_iff.1 hR1).1 (fun f => f)).trans hR1
  have hXY : X < Y := by have := (Array.getElem?_eq_some_iff.1 hR1).1; omega
  have hv2 := hv1.kp k2
  have hl1 : w1.heap.size ≤ Y := hY
  have hb2 := hb.kp (k1.trans k2)
  have kB : Kp noB w w2 := k1.trans k2
  have HB1 : Hid (BSl w1 (.slice p1 (opcM c).length q1) (opcM c)) := hv1
  have c2 : w2.cell? ⟨X, 2, none⟩ = some (.int .i64 n) := by rw [cellA hR2]; rfl
  have c12 : w2.cell? ⟨X, 12, none⟩ = some (.slice p l k) := by rw [cellA hR2]; rfl
  have y0 : w2.cell? ⟨Y, 0, none⟩ = some (.int .u8 (fldM 3 0 o1)) := by rw [cellA hy0]; rfl
  have y1 : w2.cell? ⟨Y + 1, 0, none⟩ = some (.slice (some ⟨Y, 0, none⟩) 1 1) := by rw [cellA hy1]; rfl
  have z0 : w2.frozen? ⟨Y, 0, none⟩ = false := by simp [World.frozen?, hy0]
  have hor := or_fld n o1
  clear HP c1 d0 d1 d2 d3 d4 d5 d6 d7 d8 hv1
  go_wp2_with fail
  refine wp_loop_rounds 2 ?_
  rw [rounds_succ]
  go_upto_region 8 with fail
  go_region_with (go_at_call 245; refine (fields_any _ _ _ _).mono ?_; rintro e w' ⟨rfl, rfl⟩)
  all_goals
    obtain ⟨V, hV⟩ : ∃ V, V = (w2.setCell ⟨Y, 0, none⟩ (.int .u8 (fldM 3 n o1))).drew := ⟨_, rfl⟩
    rw [← hV]
    have kS : Kp (fun j => j = Y) w2 V := by rw [hV]; exact (Kp.setCell (S := fun j => j = Y) w2 (p := ⟨Y, 0, none⟩) rfl _).drew
    have hyV : V.heap[Y]? = some (.cells #[.int .u8 (fldM 3 n o1)] 5 (0, 0)) := by rw [hV]; exact heap_set1 hy0 _
    have kV1 : Kp noB w1 V := k2.over kS (fun j hj e => by omega)
    have kV : Kp noB w V := k1.trans kV1
    have hvV := HB1.out.kp kV1
    have hbV := hb.kp kV
    have hpV : BSl V (.slice (some ⟨Y, 0, none⟩) 1 1) [fldM 3 n o1] := row_bsl (b := [fldM 3 n o1]) hyV (fun j x hx => by
      match j, hx with
      | 0, hx => simpa using hx) 1
    have c12V : V.cell? ⟨X, 12, none⟩ = some (.slice p l k) := by
      have e := kS.block X (Array.getElem?_eq_some_iff.1 hR2).1 (by omega)
      rw [cellA (e.trans hR2)]; rfl
    have cC := cat3 V _ _ _ _ _ _ hvV hpV hbV (by have := opcM_len c; omega) (by simp) hl
    obtain ⟨i1, hi1, hz0, hz1, hz2⟩ := sliceI_parts
    clear hV kS hy0 hy1 hyV hR1 hR2 y0 z0 hor c2 c12 HB1 hv2 hb2 hb kB
    go_wp2_with fail
    refine cC.mono ?_; rintro e w3 ⟨p3, l3, q3, rfl, hv3, k3⟩
    clear cC
    go_wp2_with (at_builtin; refine wpList_append_own _ rfl _ _ 59 rfl w3.heap.size 23 i1 (.slice none 0 0) 1 24 slicesL hi1 hz0 hz1 hz2 rfl (by decide) _ _ _ rfl (World.ownsRow_nil _ _ _ _) ⟨w3.heap.size, 0, none⟩ 1 1 [.slice p3 l3 q3] rfl rfl (cell_one_new _ _ _) (by simp [Value.oneCell']) (by unfold maxLen; omega) (by omega) (by simp) ?_; intro v' w' hown' hgrow hnil)
    have kg := kp_own (World.ownsRow_nil (w3.alloc (.cells #[.slice p3 l3 q3] 23)) w3.heap.size 23 1) hgrow
    have k4 : Kp noB w3 w' := (Kp.alloc noB w3 _).over kg (fun j hj f => by unfold fromN at f; omega)
    have hv4 := hv3.kp k4
    have kF := (kV.trans k3).trans k4
    rw [rounds_succ]
    go_wp2
    go_ret
    exact ⟨_, rfl, bb_owns1 hown' hv4, kF⟩
end Go.Proofs.YtolnaodlghahlaaGreatDoor
