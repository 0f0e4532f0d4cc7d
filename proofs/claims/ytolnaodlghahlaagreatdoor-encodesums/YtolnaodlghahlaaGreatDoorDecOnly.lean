/- 'is' over any slice of parts; which numbers are let; strings. -/
import Derived.Test.YtolnaodlghahlaaGreatDoorDecIs
import Derived.LoopTactic
namespace Go.Proofs.YtolnaodlghahlaaGreatDoor
open Go.ChangeShapes Go.WideShapes Go.ChangeAt Go.RowKit
set_option linter.unusedVariables false

def stpF (X : Cx) (s : Int) : Nat → List (Cx → Int → Sg → Opd × Sg) → Sg → Sg
  | _, [], σ => σ
  | i, f :: r, σ => stpF X s (i + 1) r (setI i (f X s σ))

theorem stp_map (X : Cx) (s : Int) : ∀ (R : List Prt) (i : Nat) (σ : Sg), stp X s i R σ = stpF X s i (R.map Prt.f) σ
  | [], _, _ => rfl
  | p :: R, i, σ => stp_map X s R (i + 1) _

/-- What 'is' makes of the form. -/
def isM (X : Cx) (op sub s : Int) (fs : List (Cx → Int → Sg → Opd × Sg)) (σ : Sg) : Sg := stpF X s 0 fs (hdS op sub s σ)

def Prt.val (p : Prt) : Value := .func (.func p.n) #[] p.cap

theorem is_gen (W : World) (X : Cx) (σ : Sg) (h : St X W σ) (op sub s : Int) (q : Nat) (R : List Prt) (hR : R.length ≤ 3) (hq : ¬ X.own q) (hh : W.heap[q]? = some (.cells (R.map Prt.val).toArray 85 (0, 0))) (hp : ∀ p ∈ R, PartOk X W p.n p.cap p.f s) :
    Calls Tryz.prog 64 #[.pointer (some ⟨X.F, 0, none⟩), .int .i64 op, .int .i64 sub, .int .i64 s, .slice (some ⟨q, 0, none⟩) R.length R.length] W fun e w' => e = .returned (.tuple #[]) ∧ Done X W (isM X op sub s (R.map Prt.f) σ) w' := by
  have c := is_any W X σ h op sub s (some ⟨q, 0, none⟩) R hR (fun j p hj => ⟨⟨q, 0, rfl, hq, by
    have : (R.map Prt.val).toArray[j]? = some p.val := by rw [List.getElem?_toArray, List.getElem?_map, hj]; rfl
    simp [World.cell?, hh, hj, Prt.val]⟩, hp p (List.mem_of_getElem? hj)⟩)
  rw [stp_map] at c
  exact c

theorem is_nil (W : World) (X : Cx) (σ : Sg) (h : St X W σ) (op sub s : Int) :
    Calls Tryz.prog 64 #[.pointer (some ⟨X.F, 0, none⟩), .int .i64 op, .int .i64 sub, .int .i64 s, .slice none 0 0] W fun e w' => e = .returned (.tuple #[]) ∧ Done X W (isM X op sub s [] σ) w' :=
  is_any W X σ h op sub s none [] (by decide) (fun j p hj => by simp at hj)

theorem plain_ok {X : Cx} {w0 : World} {n : Nat} {f : Cx → Int → Sg → Opd × Sg} {s : Int} (h1 : ∀ (a b : Value) (w : World), (callFunc n #[a, b]).run Tryz.prog w = .ok (.enter n #[a, b]) w) (h2 : ∀ (w : World) (σ : Sg), St X w σ → Calls Tryz.prog n #[.pointer (some ⟨X.F, 0, none⟩), .int .i64 s] w fun e w' => e = .returned (.agg (f X s σ).1.vals) ∧ Done X w (f X s σ).2 w') : PartOk X w0 n #[] f s :=
  ⟨fun w => h1 _ _ w, fun w σ _ hst => h2 w σ hst⟩

def pSeg (r : Int) (X : Cx) (s : Int) (σ : Sg) : Opd × Sg := (segO r, σ)
def pNum (r : Int) (X : Cx) (s : Int) (σ : Sg) : Opd × Sg := (numO r, σ)

theorem seg_ok {X : Cx} {w0 : World} {s r : Int} {q : Nat} (hq : ¬ X.own q) (hc : w0.cell? ⟨q, 0, none⟩ = some (.int .i64 r)) : PartOk X w0 252 #[.pointer (some ⟨q, 0, none⟩)] (pSeg r) s :=
  ⟨fun w => by kernel_rfl, fun w σ k hst => (segment1_ok w _ s r q (cell_kept hc k hq)).mono (by rintro e w' ⟨h1, h2⟩; exact ⟨h1, hst.no h2, h2.any⟩)⟩

theorem num_ok {X : Cx} {w0 : World} {s r : Int} {q : Nat} (hq : ¬ X.own q) (hc : w0.cell? ⟨q, 0, none⟩ = some (.int .u32 r)) : PartOk X w0 258 #[.pointer (some ⟨q, 0, none⟩)] (pNum r) s :=
  ⟨fun w => by kernel_rfl, fun w σ k hst => (constant1_ok w _ s r q (cell_kept hc k hq)).mono (by rintro e w' ⟨h1, h2⟩; exact ⟨h1, hst.no h2, h2.any⟩)⟩

theorem index_ok (w : World) (q k : Nat) (x : Int) (L : List Int) (hL : k = L.length) (hk : k ≤ 8) (hc : ∀ j, j < k → w.cell? ⟨q, j, none⟩ = some (.int .i64 (L.getD j 0))) :
    Calls Tryz.prog 267 #[.slice (some ⟨q, 0, none⟩) k k, .int .i64 x] w fun e w' => (∃ r : Int, e = .returned (.int .i64 r) ∧ decide (0 ≤ r) = L.contains x) ∧ w' = w := by
  have HL : Hid (k = L.length) := hL
  have Hc : Hid _ := hc
  clear hL hc
  go_enter Tryz.func267, Tryz.ntmps267
  go_wp2
  go_loopw [8] (fun vi wr => ∃ i : Nat, vi = .int .i64 i ∧ i ≤ k ∧ Hid (∀ j, j < i → L.getD j 0 ≠ x) ∧ wr = w) (fun vi _ => (k - intOf vi).toNat)
  case atStart => exact ⟨0, rfl, Nat.zero_le _, fun j hj => absurd hj (Nat.not_lt_zero _), rfl⟩
  case round =>
    obtain ⟨i, rfl, hi, hno, rfl⟩ := hrel
    by_cases hlt : (i : Int) < (k : Int)
    · have c := Hc.out i (by omega)
      obtain ⟨y, hy⟩ : ∃ y, y = L.getD i 0 := ⟨_, rfl⟩
      rw [← hy] at c
      have Hy : Hid (y = L.getD i 0) := hy
      clear hy
      by_cases hxy : x = y
      · go_wp2
        go_ret
        refine ⟨⟨_, rfl, ?_⟩, rfl⟩
        have hm : x ∈ L := by
          rw [hxy, Hy.out, List.getD_eq_getElem?_getD, List.getElem?_eq_getElem (by have := HL.out; omega)]
          exact List.getElem_mem _
        simp [hm]
      · go_wp2
        go_roundw
        case rel =>
          refine ⟨i + 1, by go_num, by omega, fun j hj => ?_, by first | rfl | trivial⟩
          by_cases hji : j = i
          · rw [hji, ← Hy.out]; exact fun e => hxy e.symm
          · exact hno.out j (by omega)
        case measure => simp [intOf]; omega
    · go_wp2
      go_ret
      refine ⟨⟨_, rfl, ?_⟩, rfl⟩
      have hm : x ∉ L := fun hm => by
        obtain ⟨j, hj, e⟩ := List.getElem_of_mem hm
        have := hno.out j (by have := HL.out; omega)
        rw [List.getD_eq_getElem?_getD, List.getElem?_eq_getElem hj] at this
        exact this e
      simp [hm]

theorem contains_ok (w : World) (q k : Nat) (x : Int) (L : List Int) (hL : k = L.length) (hk : k ≤ 8) (hc : ∀ j, j < k → w.cell? ⟨q, j, none⟩ = some (.int .i64 (L.getD j 0))) :
    Calls Tryz.prog 256 #[.slice (some ⟨q, 0, none⟩) k k, .int .i64 x] w fun e w' => e = .returned (.bool (L.contains x)) ∧ w' = w := by
  have c := index_ok w q k x L hL hk hc
  obtain ⟨T, hT⟩ : ∃ T, T = L.contains x := ⟨_, rfl⟩
  rw [← hT] at c ⊢
  clear hL hc hT
  go_enter Tryz.func256, Tryz.ntmps256
  go_wp2_with fail
  refine c.mono ?_; rintro e w' ⟨⟨r, rfl, hr⟩, hw⟩; replace hw := hw.symm; subst hw
  go_wp2
  go_ret
  exact ⟨ret_bool (by first | exact hr | rfl), rfl⟩

def onlyM (X : Cx) (L : List Int) (σ : Sg) : Sg := if L.contains (modrm X σ).1.2.1 = true then (modrm X σ).2 else refuse (modrm X σ).2
def onlyMem (X : Cx) (σ : Sg) : Sg := if (modrm X σ).1.1 = 3 then refuse (modrm X σ).2 else (modrm X σ).2

theorem only_ok (w : World) (X : Cx) (σ : Sg) (h : St X w σ) (q k : Nat) (L : List Int) (hL : k = L.length) (hk : k ≤ 8) (hq : ¬ X.own q) (hc : ∀ j, j < k → w.cell? ⟨q, j, none⟩ = some (.int .i64 (L.getD j 0))) :
    Calls Tryz.prog 118 #[.pointer (some ⟨X.F, 0, none⟩), .slice (some ⟨q, 0, none⟩) k k] w fun e w' => e = .returned (.tuple #[]) ∧ Done X w (onlyM X L σ) w' := by
  have cM := modrm_ok _ X σ h
  obtain ⟨⟨m, n, r⟩, hm⟩ : ∃ x, x = (modrm X σ).1 := ⟨_, rfl⟩
  obtain ⟨T, hT⟩ : ∃ T, T = L.contains n := ⟨_, rfl⟩
  have eO : onlyM X L σ = if T = true then (modrm X σ).2 else refuse (modrm X σ).2 := by unfold onlyM; rw [← hm, hT]
  rw [← hm] at cM
  simp only [mrV] at cM
  rw [eO]
  have fl1 := fld1
  clear hm eO
  have HT : Hid (T = L.contains n) := hT
  have Hc : Hid _ := hc
  have HL : Hid _ := hL
  clear hT hc hL
  cases T
  · go_enter Tryz.func118, Tryz.ntmps118
    go_wp2_with fail
    refine cM.mono ?_; rintro e w1 ⟨rfl, h1, k1⟩
    go_wp2_with fail
    refine (contains_ok w1 q k n L HL.out hk (fun j hj => cell_kept (Hc.out j hj) k1 hq)).mono ?_; rintro e w' ⟨rfl, hw⟩; subst hw
    rw [← HT.out]
    have c1 := h1.f1
    have cR := refuse_ok _ X _ h1
    go_wp2_with fail
    refine cR.mono ?_; rintro e w2 ⟨rfl, h2, k2⟩
    go_wp2
    go_end0
    exact ⟨rfl, h2, k1.trans k2⟩
  · go_enter Tryz.func118, Tryz.ntmps118
    go_wp2_with fail
    refine cM.mono ?_; rintro e w1 ⟨rfl, h1, k1⟩
    go_wp2_with fail
    refine (contains_ok w1 q k n L HL.out hk (fun j hj => cell_kept (Hc.out j hj) k1 hq)).mono ?_; rintro e w' ⟨rfl, hw⟩; subst hw
    rw [← HT.out]
    go_wp2
    go_end0
    exact ⟨rfl, h1, k1⟩

theorem onlyMem_ok (w : World) (X : Cx) (σ : Sg) (h : St X w σ) :
    Calls Tryz.prog 255 #[.pointer (some ⟨X.F, 0, none⟩)] w fun e w' => e = .returned (.tuple #[]) ∧ Done X w (onlyMem X σ) w' := by
  have cM := modrm_ok _ X σ h
  obtain ⟨⟨m, n, r⟩, hm⟩ : ∃ x, x = (modrm X σ).1 := ⟨_, rfl⟩
  have eO : onlyMem X σ = if m = 3 then refuse (modrm X σ).2 else (modrm X σ).2 := by unfold onlyMem; rw [← hm]
  rw [← hm] at cM
  simp only [mrV] at cM
  rw [eO]
  have fl0 := fld0
  clear hm eO
  by_cases h3 : m = 3
  · rw [if_pos h3]
    go_enter Tryz.func255, Tryz.ntmps255
    go_wp2_with fail
    refine cM.mono ?_; rintro e w1 ⟨rfl, h1, k1⟩
    have c1 := h1.f1
    have cR := refuse_ok _ X _ h1
    go_wp2_with fail
    refine cR.mono ?_; rintro e w2 ⟨rfl, h2, k2⟩
    go_wp2
    go_end0
    exact ⟨rfl, h2, k1.trans k2⟩
  · rw [if_neg h3]
    go_enter Tryz.func255, Tryz.ntmps255
    go_wp2_with fail
    refine cM.mono ?_; rintro e w1 ⟨rfl, h1, k1⟩
    go_wp2
    go_end0
    exact ⟨rfl, h1, k1⟩

end Go.Proofs.YtolnaodlghahlaaGreatDoor
