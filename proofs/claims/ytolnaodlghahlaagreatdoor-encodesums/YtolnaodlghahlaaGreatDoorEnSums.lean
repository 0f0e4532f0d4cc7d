/- encode: the forms of sums. -/
import Derived.Test.YtolnaodlghahlaaGreatDoorEnForm
import Derived.Test.YtolnaodlghahlaaGreatDoorDecDec
import Derived.Test.YtolnaodlghahlaaGreatDoorOrdFree
namespace Go.Proofs.YtolnaodlghahlaaGreatDoor
open Go.ChangeShapes Go.WideShapes Go.ChangeAt Go.RowKit
set_option linter.unusedVariables false

def wdM (s : Int) : Int := if s = 1 then 0 else 1
theorem wdM_bd (s : Int) : 0 ≤ wdM s ∧ wdM s ≤ 1 := by unfold wdM; split <;> omega

def numL (n : Int) (s : Nat) : List Int := [n % 256, n / 256 % 256, n / 65536 % 256, n / 16777216].take s
theorem numL_len (n : Int) (s : Nat) : (numL n s).length ≤ 4 := by unfold numL; simp; omega

theorem number_bsl (w : World) (n : Int) (n0 : 0 ≤ n) (n1 : n < 4294967296) (s : Nat) (hs : s = 0 ∨ s = 1 ∨ s = 2 ∨ s = 4) :
    Calls Tryz.prog 260 #[.int .u32 n, .int .i64 s] w fun e w' => ∃ p l k, e = .returned (.slice p l k) ∧ BSl w' (.slice p l k) (numL n s) ∧ Kp noB w w' := by
  refine (enNum_ok w n n0 n1 s hs).mono ?_
  rintro e w' ⟨rfl, rfl⟩
  refine ⟨_, _, _, rfl, ?_, Kp.alloc _ _ _⟩
  have hh := (MapKept.heap_alloc w (.cells #[.int .u8 (n % 256), .int .u8 (n / 256 % 256), .int .u8 (n / 65536 % 256), .int .u8 (n / 16777216)] 5)).1
  have e : s = (numL n s).length := by unfold numL; simp; omega
  have := row_bsl (b := numL n s) hh (fun j x hx => by
    unfold numL at hx
    have hj : j < s := by
      have := (List.getElem?_eq_some_iff.1 hx).1
      simp at this
      omega
    rw [List.getElem?_take_of_lt hj] at hx
    match j, hx with
    | 0, hx => simpa using hx
    | 1, hx => simpa using hx
    | 2, hx => simpa using hx
    | 3, hx => simpa using hx) s
  rw [← e] at this
  exact this

theorem newRow {W wn : World} {O : Obj} (kn : Kp noB (W.alloc O) wn) : wn.heap[W.heap.size]? = some O :=
  (kn.block _ (by simp) (fun f => f)).trans (MapKept.heap_alloc W O).1
theorem trA {w1 W wn : World} {O : Obj} (kk : Kp noB w1 W) (kn : Kp noB (W.alloc O) wn) : Kp noB w1 wn := (kk.trans (Kp.alloc noB W O)).trans kn
theorem trR {W wn : World} {g : Nat} {O : Obj} (h : W.heap[g]? = some O) (kn : Kp noB W wn) : wn.heap[g]? = some O := (kn.block _ (Array.getElem?_eq_some_iff.1 h).1 (fun f => f)).trans h

def forms5 (x : Ins) (wd : Int) (g : Nat) (p : Option Addr) (l k : Nat) : Array Value := (formV (IntKind.i64.wrap (8 * x.sub + wd)) true x.b.reg x.a (.slice none 0 0)) ++ (formV (IntKind.i64.wrap (IntKind.i64.wrap (8 * x.sub + 2) + wd)) true x.a.reg x.b (.slice none 0 0)) ++ (formV (IntKind.i64.wrap (IntKind.i64.wrap (8 * x.sub + 4) + wd)) false 0 Opd.zero (.slice p l k)) ++ (formV (IntKind.i64.wrap (128 + wd)) true x.sub x.a (.slice p l k)) ++ (formV 131 true x.sub x.a (.slice (some ⟨g, 0, none⟩) 1 1))

set_option maxRecDepth 100000 in
set_option maxHeartbeats 20000000 in
theorem sums_ok (w : World) (x : Ins) (s : Nat) (hsz : x.size = s) (hs : s = 1 ∨ s = 2 ∨ s = 4) (hsub : 0 ≤ x.sub ∧ x.sub < 8) (hi : 0 ≤ x.b.imm ∧ x.b.imm < 4294967296) :
    Calls Tryz.prog 233 #[.agg (insV x)] w fun e w' => ∃ g r p l k, e = .returned (.slice (some ⟨r, 0, none⟩) 5 5) ∧ BSl w' (.slice p l k) (numL x.b.imm s) ∧ w'.heap[g]? = some (.cells #[.int .u8 (IntKind.u8.wrap x.b.imm)] 5 (0, 0)) ∧ w'.heap[r]? = some (.cells (forms5 x (wdM s) g p l k) 77 (0, 0)) ∧ Kp noB w w' := by
  have hR : (w.alloc (.cells (insV x) 28)).heap[w.heap.size]? = some (.cells (insV x) 28 (0, 0)) := (MapKept.heap_alloc w _).1
  have k0 : Kp noB w (w.alloc (.cells (insV x) 28)) := Kp.alloc _ _ _
  obtain ⟨X, hX⟩ : ∃ X, X = w.heap.size := ⟨_, rfl⟩
  obtain ⟨W0, hW0⟩ : ∃ W, W = w.alloc (.cells (insV x) 28) := ⟨_, rfl⟩
  rw [← hX] at hR
  rw [← hW0] at hR k0
  have HWd : Hid (∀ W, Calls Tryz.prog 259 #[.int .i64 s] W fun e w' => e = .returned (.int .i64 (wdM s)) ∧ w' = W) := fun W => wide_any W s
  have HNm : Hid (∀ W, Calls Tryz.prog 260 #[.int .u32 x.b.imm, .int .i64 s] W fun e w' => ∃ p l k, e = .returned (.slice p l k) ∧ BSl w' (.slice p l k) (numL x.b.imm s) ∧ Kp noB W w') := fun W => number_bsl W x.b.imm hi.1 hi.2 s (by omega)
  obtain ⟨wb0, wb1⟩ := wdM_bd s
  generalize wdM s = wd at *
  go_enter Tryz.func233, Tryz.ntmps233
  go_upto_region 1 with fail
  rw [← hW0, ← hX]
  have HS0 : Hid (W0.drew.cell? ⟨X, 2, none⟩ = some (.int .i64 s) ∧ W0.drew.cell? ⟨X, 20, none⟩ = some (.int .u32 x.b.imm)) := ⟨by rw [cellA (w := W0.drew) hR, ← hsz]; rfl, by rw [cellA (w := W0.drew) hR]; rfl⟩
  have HSK : Hid (∀ W', Kp noB W0.drew W' → (W'.cell? ⟨X, 2, none⟩ = some (.int .i64 s) ∧ W'.cell? ⟨X, 20, none⟩ = some (.int .u32 x.b.imm))) := fun W' k => ⟨cellK HS0.out.1 k (Array.getElem?_eq_some_iff.1 hR).1, cellK HS0.out.2 k (Array.getElem?_eq_some_iff.1 hR).1⟩
  clear hW0 hX
  go_region_held3 (fun W => W.cell? ⟨X, 2, none⟩ = some (.int .i64 s) ∧ W.cell? ⟨X, 20, none⟩ = some (.int .u32 x.b.imm))
    (first | with_reducible exact HS0.out | with_reducible exact HSK.out _ k1)
    (first
      | (go_at_call 259; refine (HWd.out _).mono ?_; rintro e wq ⟨rfl, hw⟩; replace hw := hw.symm; subst hw)
      | (go_at_call 260; refine (HNm.out _).mono ?_; rintro e w1 ⟨pn, ln, kn, rfl, hnm, k1⟩))
  replace k1 : Kp noB W0 w1 := ⟨k1.os, k1.tape, k1.output, k1.size, k1.block⟩
  have hR1 : w1.heap[X]? = some (.cells (insV x) 28 (0, 0)) := trR hR k1
  have kW1 : Kp noB w w1 := k0.trans k1
  have c1 : w1.cell? ⟨X, 1, none⟩ = some (.int .i64 x.sub) := by rw [cellA hR1]; rfl
  have s8 : (x.sub == 8) = false := by simp; omega
  have s9 : (x.sub == 9) = false := by simp; omega
  have s10 : (x.sub == 10) = false := by simp; omega
  have s11 : (x.sub == 11) = false := by simp; omega
  have s12 : (x.sub == 12) = false := by simp; omega
  have e8 : wrap64 (8 * x.sub) = 8 * x.sub := by unfold wrap64; omega
  clear hR k0 k1 HS0 HSK HWd HNm hsz
  go_upto_region 14 with fail
  have HSK : Hid (∀ W', Kp noB w1 W' → (W'.cell? ⟨X, 1, none⟩ = some (.int .i64 x.sub) ∧ W'.cell? ⟨X, 3, none⟩ = some (.int .i64 x.a.kind) ∧ W'.cell? ⟨X, 4, none⟩ = some (.int .i64 x.a.reg) ∧ W'.cell? ⟨X, 5, none⟩ = some (.int .i64 x.a.size) ∧ W'.cell? ⟨X, 6, none⟩ = some (.int .i64 x.a.seg) ∧ W'.cell? ⟨X, 7, none⟩ = some (.int .i64 x.a.base) ∧ W'.cell? ⟨X, 8, none⟩ = some (.int .i64 x.a.index) ∧ W'.cell? ⟨X, 9, none⟩ = some (.int .i64 x.a.scale) ∧ W'.cell? ⟨X, 10, none⟩ = some (.int .u32 x.a.disp) ∧ W'.cell? ⟨X, 11, none⟩ = some (.int .u32 x.a.imm) ∧ W'.cell? ⟨X, 12, none⟩ = some (.int .i64 x.b.kind) ∧ W'.cell? ⟨X, 13, none⟩ = some (.int .i64 x.b.reg) ∧ W'.cell? ⟨X, 14, none⟩ = some (.int .i64 x.b.size) ∧ W'.cell? ⟨X, 15, none⟩ = some (.int .i64 x.b.seg) ∧ W'.cell? ⟨X, 16, none⟩ = some (.int .i64 x.b.base) ∧ W'.cell? ⟨X, 17, none⟩ = some (.int .i64 x.b.index) ∧ W'.cell? ⟨X, 18, none⟩ = some (.int .i64 x.b.scale) ∧ W'.cell? ⟨X, 19, none⟩ = some (.int .u32 x.b.disp) ∧ W'.cell? ⟨X, 20, none⟩ = some (.int .u32 x.b.imm))) := fun W' k => by
    have h := trR hR1 k
    exact ⟨by rw [cellA h]; rfl, by rw [cellA h]; rfl, by rw [cellA h]; rfl, by rw [cellA h]; rfl, by rw [cellA h]; rfl, by rw [cellA h]; rfl, by rw [cellA h]; rfl, by rw [cellA h]; rfl, by rw [cellA h]; rfl, by rw [cellA h]; rfl, by rw [cellA h]; rfl, by rw [cellA h]; rfl, by rw [cellA h]; rfl, by rw [cellA h]; rfl, by rw [cellA h]; rfl, by rw [cellA h]; rfl, by rw [cellA h]; rfl, by rw [cellA h]; rfl, by rw [cellA h]; rfl⟩
  have HA : Hid (∀ (W : World) (c n : Int) (p : Option Addr) (l k : Nat), Calls Tryz.prog 261 #[.int .i64 c, .int .i64 n, .agg #[.int .i64 x.a.kind, .int .i64 x.a.reg, .int .i64 x.a.size, .int .i64 x.a.seg, .int .i64 x.a.base, .int .i64 x.a.index, .int .i64 x.a.scale, .int .u32 x.a.disp, .int .u32 x.a.imm], .slice p l k] W fun e w' => e = .returned (.agg (formV c true n x.a (.slice p l k))) ∧ Kp noB W w') := fun W c n p l k => with_any W c n x.a p l k
  have HB : Hid (∀ (W : World) (c n : Int) (p : Option Addr) (l k : Nat), Calls Tryz.prog 261 #[.int .i64 c, .int .i64 n, .agg #[.int .i64 x.b.kind, .int .i64 x.b.reg, .int .i64 x.b.size, .int .i64 x.b.seg, .int .i64 x.b.base, .int .i64 x.b.index, .int .i64 x.b.scale, .int .u32 x.b.disp, .int .u32 x.b.imm], .slice p l k] W fun e w' => e = .returned (.agg (formV c true n x.b (.slice p l k))) ∧ Kp noB W w') := fun W c n p l k => with_any W c n x.b p l k
  refine OrdFree.region_vals (τ := Nat × Nat) (fun t => [(.int .i64 (8 * x.sub)), (.int .i64 (wd)), (.int .i64 (IntKind.i64.wrap (8 * x.sub + wd))), (.pointer (some ⟨X, 12, none⟩)), (.pointer (some ⟨X, 13, none⟩)), (.int .i64 (x.b.reg)), (.pointer (some ⟨X, 3, none⟩)), (.agg #[.int .i64 x.a.kind, .int .i64 x.a.reg, .int .i64 x.a.size, .int .i64 x.a.seg, .int .i64 x.a.base, .int .i64 x.a.index, .int .i64 x.a.scale, .int .u32 x.a.disp, .int .u32 x.a.imm]), (.agg (formV (IntKind.i64.wrap (8 * x.sub + wd)) true x.b.reg x.a (.slice none 0 0))), (.int .i64 (8 * x.sub)), (.int .i64 (IntKind.i64.wrap (8 * x.sub + 2))), (.int .i64 (wd)), (.int .i64 (IntKind.i64.wrap (IntKind.i64.wrap (8 * x.sub + 2) + wd))), (.pointer (some ⟨X, 3, none⟩)), (.pointer (some ⟨X, 4, none⟩)), (.int .i64 (x.a.reg)), (.pointer (some ⟨X, 12, none⟩)), (.agg #[.int .i64 x.b.kind, .int .i64 x.b.reg, .int .i64 x.b.size, .int .i64 x.b.seg, .int .i64 x.b.base, .int .i64 x.b.index, .int .i64 x.b.scale, .int .u32 x.b.disp, .int .u32 x.b.imm]), (.agg (formV (IntKind.i64.wrap (IntKind.i64.wrap (8 * x.sub + 2) + wd)) true x.a.reg x.b (.slice none 0 0))), (.int .i64 (8 * x.sub)), (.int .i64 (IntKind.i64.wrap (8 * x.sub + 4))), (.int .i64 (wd)), (.int .i64 (IntKind.i64.wrap (IntKind.i64.wrap (8 * x.sub + 4) + wd))), (.slice pn ln kn), (.agg (formV (IntKind.i64.wrap (IntKind.i64.wrap (8 * x.sub + 4) + wd)) false 0 Opd.zero (.slice pn ln kn))), (.int .i64 (wd)), (.int .i64 (IntKind.i64.wrap (128 + wd))), (.pointer (some ⟨X, 1, none⟩)), (.int .i64 (x.sub)), (.pointer (some ⟨X, 3, none⟩)), (.agg #[.int .i64 x.a.kind, .int .i64 x.a.reg, .int .i64 x.a.size, .int .i64 x.a.seg, .int .i64 x.a.base, .int .i64 x.a.index, .int .i64 x.a.scale, .int .u32 x.a.disp, .int .u32 x.a.imm]), (.slice pn ln kn), (.agg (formV (IntKind.i64.wrap (128 + wd)) true x.sub x.a (.slice pn ln kn))), (.pointer (some ⟨X, 1, none⟩)), (.int .i64 (x.sub)), (.pointer (some ⟨X, 3, none⟩)), (.agg #[.int .i64 x.a.kind, .int .i64 x.a.reg, .int .i64 x.a.size, .int .i64 x.a.seg, .int .i64 x.a.base, .int .i64 x.a.index, .int .i64 x.a.scale, .int .u32 x.a.disp, .int .u32 x.a.imm]), (.pointer (some ⟨X, 12, none⟩)), (.pointer (some ⟨X, 20, none⟩)), (.int .u32 x.b.imm), (.int .u8 (IntKind.u8.wrap x.b.imm)), (.slice (some ⟨t.1, 0, none⟩) 1 1), (.agg (formV 131 true x.sub x.a (.slice (some ⟨t.1, 0, none⟩) 1 1))), (.slice (some ⟨t.2, 0, none⟩) 5 5), (.slice (some ⟨t.2, 0, none⟩) 5 5)]) (fun t listed W => Kp noB w1 W ∧ (listed.getD 41 false = true → W.heap[t.1]? = some (.cells #[.int .u8 (IntKind.u8.wrap x.b.imm)] 5 (0, 0))) ∧ (listed.getD 43 false = true → W.heap[t.2]? = some (.cells (forms5 x wd t.1 pn ln kn) 77 (0, 0)))) (0, 0) (by kernel_rfl) (by kernel_rfl) (by kernel_rfl) (by kernel_rfl) (fun _ => rfl) (fun t => by simp only [OrdFree.puts, Act.put, List.setIfInBounds_toArray, List.set_cons_zero, List.set_cons_succ]; rfl) ⟨(Kp.refl _ w1).drew, fun h => (by cases h), fun h => (by cases h)⟩ ?_ ?_
  · refine ⟨?_, ?_, ?_, ?_, ?_, ?_, ?_, ?_, ?_, ?_, ?_, ?_, ?_, ?_, ?_, ?_, ?_, ?_, ?_, ?_, ?_, ?_, ?_, ?_, ?_, ?_, ?_, ?_, ?_, ?_, ?_, ?_, ?_, ?_, ?_, ?_, ?_, ?_, ?_, ?_, ?_, ?_, ?_, ?_, ?_, trivial⟩
    all_goals (intro t listed W hz hSh hl hI hb K hK hK0; obtain ⟨kk, hrow, hfor⟩ := hI; obtain ⟨c1, c3, c4, c5, c6, c7, c8, c9, c10, c11, c12, c13, c14, c15, c16, c17, c18, c19, c20⟩ := HSK.out W kk)
    · go_simp
      exact hK0 W ⟨kk, fun h => hrow (by rwa [getD_set_ne false (by decide)] at h), fun h => hfor (by rwa [getD_set_ne false (by decide)] at h)⟩
    · go_simp
      exact hK0 W ⟨kk, fun h => hrow (by rwa [getD_set_ne false (by decide)] at h), fun h => hfor (by rwa [getD_set_ne false (by decide)] at h)⟩
    · go_simp
      exact hK0 W ⟨kk, fun h => hrow (by rwa [getD_set_ne false (by decide)] at h), fun h => hfor (by rwa [getD_set_ne false (by decide)] at h)⟩
    · go_simp
      exact hK0 W ⟨kk, fun h => hrow (by rwa [getD_set_ne false (by decide)] at h), fun h => hfor (by rwa [getD_set_ne false (by decide)] at h)⟩
    · go_simp
      exact hK0 W ⟨kk, fun h => hrow (by rwa [getD_set_ne false (by decide)] at h), fun h => hfor (by rwa [getD_set_ne false (by decide)] at h)⟩
    · go_simp
      exact hK0 W ⟨kk, fun h => hrow (by rwa [getD_set_ne false (by decide)] at h), fun h => hfor (by rwa [getD_set_ne false (by decide)] at h)⟩
    · go_simp
      exact hK0 W ⟨kk, fun h => hrow (by rwa [getD_set_ne false (by decide)] at h), fun h => hfor (by rwa [getD_set_ne false (by decide)] at h)⟩
    · go_simp
      exact hK0 W ⟨kk, fun h => hrow (by rwa [getD_set_ne false (by decide)] at h), fun h => hfor (by rwa [getD_set_ne false (by decide)] at h)⟩
    · go_simp
      with_reducible refine (HA.out _ _ _ _ _ _).mono ?_
      rintro e wn ⟨rfl, kn⟩
      exact hK0 wn ⟨kk.trans kn, fun h => trR (hrow (by rwa [getD_set_ne false (by decide)] at h)) kn, fun h => trR (hfor (by rwa [getD_set_ne false (by decide)] at h)) kn⟩
    · go_simp
      exact hK0 W ⟨kk, fun h => hrow (by rwa [getD_set_ne false (by decide)] at h), fun h => hfor (by rwa [getD_set_ne false (by decide)] at h)⟩
    · go_simp
      exact hK0 W ⟨kk, fun h => hrow (by rwa [getD_set_ne false (by decide)] at h), fun h => hfor (by rwa [getD_set_ne false (by decide)] at h)⟩
    · go_simp
      exact hK0 W ⟨kk, fun h => hrow (by rwa [getD_set_ne false (by decide)] at h), fun h => hfor (by rwa [getD_set_ne false (by decide)] at h)⟩
    · go_simp
      exact hK0 W ⟨kk, fun h => hrow (by rwa [getD_set_ne false (by decide)] at h), fun h => hfor (by rwa [getD_set_ne false (by decide)] at h)⟩
    · go_simp
      exact hK0 W ⟨kk, fun h => hrow (by rwa [getD_set_ne false (by decide)] at h), fun h => hfor (by rwa [getD_set_ne false (by decide)] at h)⟩
    · go_simp
      exact hK0 W ⟨kk, fun h => hrow (by rwa [getD_set_ne false (by decide)] at h), fun h => hfor (by rwa [getD_set_ne false (by decide)] at h)⟩
    · go_simp
      exact hK0 W ⟨kk, fun h => hrow (by rwa [getD_set_ne false (by decide)] at h), fun h => hfor (by rwa [getD_set_ne false (by decide)] at h)⟩
    · go_simp
      exact hK0 W ⟨kk, fun h => hrow (by rwa [getD_set_ne false (by decide)] at h), fun h => hfor (by rwa [getD_set_ne false (by decide)] at h)⟩
    · go_simp
      exact hK0 W ⟨kk, fun h => hrow (by rwa [getD_set_ne false (by decide)] at h), fun h => hfor (by rwa [getD_set_ne false (by decide)] at h)⟩
    · go_simp
      with_reducible refine (HB.out _ _ _ _ _ _).mono ?_
      rintro e wn ⟨rfl, kn⟩
      exact hK0 wn ⟨kk.trans kn, fun h => trR (hrow (by rwa [getD_set_ne false (by decide)] at h)) kn, fun h => trR (hfor (by rwa [getD_set_ne false (by decide)] at h)) kn⟩
    · go_simp
      exact hK0 W ⟨kk, fun h => hrow (by rwa [getD_set_ne false (by decide)] at h), fun h => hfor (by rwa [getD_set_ne false (by decide)] at h)⟩
    · go_simp
      exact hK0 W ⟨kk, fun h => hrow (by rwa [getD_set_ne false (by decide)] at h), fun h => hfor (by rwa [getD_set_ne false (by decide)] at h)⟩
    · go_simp
      exact hK0 W ⟨kk, fun h => hrow (by rwa [getD_set_ne false (by decide)] at h), fun h => hfor (by rwa [getD_set_ne false (by decide)] at h)⟩
    · go_simp
      exact hK0 W ⟨kk, fun h => hrow (by rwa [getD_set_ne false (by decide)] at h), fun h => hfor (by rwa [getD_set_ne false (by decide)] at h)⟩
    · go_simp
      exact hK0 W ⟨kk, fun h => hrow (by rwa [getD_set_ne false (by decide)] at h), fun h => hfor (by rwa [getD_set_ne false (by decide)] at h)⟩
    · go_simp
      with_reducible refine (alone_any _ _ _ _ _).mono ?_
      rintro e wn ⟨rfl, kn⟩
      exact hK0 wn ⟨kk.trans kn, fun h => trR (hrow (by rwa [getD_set_ne false (by decide)] at h)) kn, fun h => trR (hfor (by rwa [getD_set_ne false (by decide)] at h)) kn⟩
    · go_simp
      exact hK0 W ⟨kk, fun h => hrow (by rwa [getD_set_ne false (by decide)] at h), fun h => hfor (by rwa [getD_set_ne false (by decide)] at h)⟩
    · go_simp
      exact hK0 W ⟨kk, fun h => hrow (by rwa [getD_set_ne false (by decide)] at h), fun h => hfor (by rwa [getD_set_ne false (by decide)] at h)⟩
    · go_simp
      exact hK0 W ⟨kk, fun h => hrow (by rwa [getD_set_ne false (by decide)] at h), fun h => hfor (by rwa [getD_set_ne false (by decide)] at h)⟩
    · go_simp
      exact hK0 W ⟨kk, fun h => hrow (by rwa [getD_set_ne false (by decide)] at h), fun h => hfor (by rwa [getD_set_ne false (by decide)] at h)⟩
    · go_simp
      exact hK0 W ⟨kk, fun h => hrow (by rwa [getD_set_ne false (by decide)] at h), fun h => hfor (by rwa [getD_set_ne false (by decide)] at h)⟩
    · go_simp
      exact hK0 W ⟨kk, fun h => hrow (by rwa [getD_set_ne false (by decide)] at h), fun h => hfor (by rwa [getD_set_ne false (by decide)] at h)⟩
    · go_simp
      exact hK0 W ⟨kk, fun h => hrow (by rwa [getD_set_ne false (by decide)] at h), fun h => hfor (by rwa [getD_set_ne false (by decide)] at h)⟩
    · go_simp
      with_reducible refine (HA.out _ _ _ _ _ _).mono ?_
      rintro e wn ⟨rfl, kn⟩
      exact hK0 wn ⟨kk.trans kn, fun h => trR (hrow (by rwa [getD_set_ne false (by decide)] at h)) kn, fun h => trR (hfor (by rwa [getD_set_ne false (by decide)] at h)) kn⟩
    · go_simp
      exact hK0 W ⟨kk, fun h => hrow (by rwa [getD_set_ne false (by decide)] at h), fun h => hfor (by rwa [getD_set_ne false (by decide)] at h)⟩
    · go_simp
      exact hK0 W ⟨kk, fun h => hrow (by rwa [getD_set_ne false (by decide)] at h), fun h => hfor (by rwa [getD_set_ne false (by decide)] at h)⟩
    · go_simp
      exact hK0 W ⟨kk, fun h => hrow (by rwa [getD_set_ne false (by decide)] at h), fun h => hfor (by rwa [getD_set_ne false (by decide)] at h)⟩
    · go_simp
      exact hK0 W ⟨kk, fun h => hrow (by rwa [getD_set_ne false (by decide)] at h), fun h => hfor (by rwa [getD_set_ne false (by decide)] at h)⟩
    · go_simp
      exact hK0 W ⟨kk, fun h => hrow (by rwa [getD_set_ne false (by decide)] at h), fun h => hfor (by rwa [getD_set_ne false (by decide)] at h)⟩
    · go_simp
      exact hK0 W ⟨kk, fun h => hrow (by rwa [getD_set_ne false (by decide)] at h), fun h => hfor (by rwa [getD_set_ne false (by decide)] at h)⟩
    · go_simp
      exact hK0 W ⟨kk, fun h => hrow (by rwa [getD_set_ne false (by decide)] at h), fun h => hfor (by rwa [getD_set_ne false (by decide)] at h)⟩
    · go_simp
      exact hK0 W ⟨kk, fun h => hrow (by rwa [getD_set_ne false (by decide)] at h), fun h => hfor (by rwa [getD_set_ne false (by decide)] at h)⟩
    · have n42 := OrdFree.shut_no (j := 42) hSh hl (by kernel_rfl)
      have n43 := OrdFree.shut_no (j := 43) hSh n42 (by kernel_rfl)
      refine OrdFree.wp_of_run (v := .slice (some ⟨W.heap.size, 0, none⟩) 1 1) (w' := W.alloc (.cells #[.int .u8 (IntKind.u8.wrap x.b.imm)] 5)) (by kernel_rfl) (hK _ _ ⟨(W.heap.size, t.2), rfl, (OrdFree.vals_two (i := 41) (k := 42) (u := .slice (some ⟨W.heap.size, 0, none⟩) 1 1) (v := .agg (formV 131 true x.sub x.a (.slice (some ⟨W.heap.size, 0, none⟩) 1 1))) rfl hl n42), kk.trans (Kp.alloc _ _ _), fun _ => (MapKept.heap_alloc W _).1, fun h => ?_⟩)
      rw [getD_set_ne false (by decide), n43] at h
      cases h
    · go_simp
      with_reducible refine (HA.out _ _ _ _ _ _).mono ?_
      rintro e wn ⟨rfl, kn⟩
      exact hK0 wn ⟨kk.trans kn, fun h => trR (hrow (by rwa [getD_set_ne false (by decide)] at h)) kn, fun h => trR (hfor (by rwa [getD_set_ne false (by decide)] at h)) kn⟩
    · have n44 := OrdFree.shut_no (j := 44) hSh hl (by kernel_rfl)
      exact OrdFree.wp_of_run (v := .slice (some ⟨W.heap.size, 0, none⟩) 5 5) (w' := W.alloc (.cells (forms5 x wd t.1 pn ln kn) 77)) (by kernel_rfl) (hK _ _ ⟨(t.1, W.heap.size), rfl, (OrdFree.vals_two (i := 43) (k := 44) (u := .slice (some ⟨W.heap.size, 0, none⟩) 5 5) (v := .slice (some ⟨W.heap.size, 0, none⟩) 5 5) rfl hl n44), kk.trans (Kp.alloc _ _ _), fun h => trR (hrow (by rwa [getD_set_ne false (by decide)] at h)) (Kp.alloc _ _ _), fun _ => (MapKept.heap_alloc W _).1⟩)
    · go_simp
      exact hK0 W ⟨kk, fun h => hrow (by rwa [getD_set_ne false (by decide)] at h), fun h => hfor (by rwa [getD_set_ne false (by decide)] at h)⟩
  · rename_i Kx hKx
    intro t listed W hall hI
    obtain ⟨kk, hrow, hfor⟩ := hI
    replace hrow := hrow (hall 41 (by exact (by decide : 41 < 45)))
    replace hfor := hfor (hall 43 (by exact (by decide : 43 < 45)))
    refine hKx _ _ ?_
    go_wp2
    exact ⟨rfl, .slice (some ⟨t.2, 0, none⟩) 5 5, (by kernel_rfl), t.1, t.2, pn, ln, kn, rfl, hnm.kp kk, hrow, hfor, kW1.trans kk⟩
end Go.Proofs.YtolnaodlghahlaaGreatDoor
