/- The contract of encode.forms: sums of Sub 0 to 7; sizes that there are not. -/
import Derived.Test.YtolnaodlghahlaaGreatDoorEnBody2
import Derived.Test.YtolnaodlghahlaaGreatDoorEnSums
namespace Go.Proofs.YtolnaodlghahlaaGreatDoor
open Go.ChangeShapes Go.WideShapes Go.ChangeAt Go.RowKit
set_option linter.unusedVariables false
set_option maxRecDepth 20000

/-- The five forms of a sum. -/
def fm5 (x : Ins) (s : Nat) : List Fm :=
  [⟨8 * x.sub + wdM s, true, x.b.reg, x.a, []⟩, ⟨8 * x.sub + 2 + wdM s, true, x.a.reg, x.b, []⟩, ⟨8 * x.sub + 4 + wdM s, false, 0, Opd.zero, numL x.b.imm s⟩, ⟨128 + wdM s, true, x.sub, x.a, numL x.b.imm s⟩, ⟨131, true, x.sub, x.a, [x.b.imm % 256]⟩]

theorem five_get {A B C D E : Array Value} (hA : A.size = 13) (hB : B.size = 13) (hC : C.size = 13) (hD : D.size = 13) (k : Nat) (hk : k < 13) :
    (A ++ B ++ C ++ D ++ E)[0 + k]? = A[k]? ∧ (A ++ B ++ C ++ D ++ E)[13 + k]? = B[k]? ∧ (A ++ B ++ C ++ D ++ E)[26 + k]? = C[k]? ∧ (A ++ B ++ C ++ D ++ E)[39 + k]? = D[k]? ∧ (A ++ B ++ C ++ D ++ E)[52 + k]? = E[k]? := by
  refine ⟨?_, ?_, ?_, ?_, ?_⟩
  · rw [Array.getElem?_append_left (by simp; omega), Array.getElem?_append_left (by simp; omega), Array.getElem?_append_left (by simp; omega), Array.getElem?_append_left (by omega)]
    congr 1; omega
  · rw [Array.getElem?_append_left (by simp; omega), Array.getElem?_append_left (by simp; omega), Array.getElem?_append_left (by simp; omega), Array.getElem?_append_right (by omega)]
    congr 1; omega
  · rw [Array.getElem?_append_left (by simp; omega), Array.getElem?_append_left (by simp; omega), Array.getElem?_append_right (by simp; omega)]
    congr 1; simp; omega
  · rw [Array.getElem?_append_left (by simp; omega), Array.getElem?_append_right (by simp; omega)]
    congr 1; simp; omega
  · rw [Array.getElem?_append_right (by simp; omega)]
    congr 1; simp; omega

theorem formV_size (c : Int) (md : Bool) (n : Int) (o : Opd) (bh : Value) : (formV c md n o bh).size = 13 := rfl

theorem formV_lt {c : Int} {md : Bool} {n : Int} {o : Opd} {bh v : Value} {j : Nat} (h : (formV c md n o bh)[j]? = some v) : j < 13 := (Array.getElem?_eq_some_iff.1 h).1

theorem wr62 {n : Int} (h0 : 0 ≤ n) (h1 : n < 4096) : IntKind.i64.wrap n = n := wraps62 n h0 (by omega)

theorem forms5_fs {w : World} {x : Ins} {s g r : Nat} {p : Option Addr} {l k : Nat} (hsub : 0 ≤ x.sub ∧ x.sub < 8) (hi : 0 ≤ x.b.imm ∧ x.b.imm < 4294967296) (hn : BSl w (.slice p l k) (numL x.b.imm s)) (hg : w.heap[g]? = some (.cells #[.int .u8 (IntKind.u8.wrap x.b.imm)] 5 (0, 0))) (hr : w.heap[r]? = some (.cells (forms5 x (wdM s) g p l k) 77 (0, 0))) : FS w (.slice (some ⟨r, 0, none⟩) 5 5) (fm5 x s) := by
  have hw := wdM_bd (s : Int)
  have nil : BSl w (.slice none 0 0) [] := ⟨none, 0, rfl, .inl ⟨rfl, rfl, rfl⟩⟩
  have h8 : IntKind.u8.wrap x.b.imm = x.b.imm % 256 := by simp [IntKind.wrap, IntKind.bits, IntKind.signed]
  have hb5 : BSl w (.slice (some ⟨g, 0, none⟩) 1 1) [x.b.imm % 256] := row_bsl (b := [x.b.imm % 256]) hg (fun j y hy => by
    match j, hy with
    | 0, hy => rw [h8]; simpa using hy) 1
  have e1 : IntKind.i64.wrap (8 * x.sub + wdM s) = 8 * x.sub + wdM s := wr62 (by omega) (by omega)
  have e2 : IntKind.i64.wrap (IntKind.i64.wrap (8 * x.sub + 2) + wdM s) = 8 * x.sub + 2 + wdM s := by rw [wr62 (n := 8 * x.sub + 2) (by omega) (by omega), wr62 (by omega) (by omega)]
  have e3 : IntKind.i64.wrap (IntKind.i64.wrap (8 * x.sub + 4) + wdM s) = 8 * x.sub + 4 + wdM s := by rw [wr62 (n := 8 * x.sub + 4) (by omega) (by omega), wr62 (by omega) (by omega)]
  have e4 : IntKind.i64.wrap (128 + wdM s) = 128 + wdM s := wr62 (by omega) (by omega)
  unfold forms5 at hr
  rw [e1, e2, e3, e4] at hr
  have five := fun m hm => five_get (A := formV (8 * x.sub + wdM s) true x.b.reg x.a (.slice none 0 0)) (B := formV (8 * x.sub + 2 + wdM s) true x.a.reg x.b (.slice none 0 0)) (C := formV (8 * x.sub + 4 + wdM s) false 0 Opd.zero (.slice p l k)) (D := formV (128 + wdM s) true x.sub x.a (.slice p l k)) (E := formV 131 true x.sub x.a (.slice (some ⟨g, 0, none⟩) 1 1)) rfl rfl rfl rfl m hm
  refine ⟨_, 5, rfl, .inr ⟨r, 0, rfl, (Array.getElem?_eq_some_iff.1 hr).1, fun j f hf => ?_⟩⟩
  match j, hf with
  | 0, hf =>
    simp [fm5] at hf
    subst hf
    refine ⟨none, 0, 0, nil, fun m v hv => ?_⟩
    have hm := formV_lt hv
    rw [cellA hr, show 0 + 0 * 13 + m = 0 + m by omega, (five m hm).1]
    exact hv
  | 1, hf =>
    simp [fm5] at hf
    subst hf
    refine ⟨none, 0, 0, nil, fun m v hv => ?_⟩
    have hm := formV_lt hv
    rw [cellA hr, show 0 + 1 * 13 + m = 13 + m by omega, (five m hm).2.1]
    exact hv
  | 2, hf =>
    simp [fm5] at hf
    subst hf
    refine ⟨p, l, k, hn, fun m v hv => ?_⟩
    have hm := formV_lt hv
    rw [cellA hr, show 0 + 2 * 13 + m = 26 + m by omega, (five m hm).2.2.1]
    exact hv
  | 3, hf =>
    simp [fm5] at hf
    subst hf
    refine ⟨p, l, k, hn, fun m v hv => ?_⟩
    have hm := formV_lt hv
    rw [cellA hr, show 0 + 3 * 13 + m = 39 + m by omega, (five m hm).2.2.2.1]
    exact hv
  | 4, hf =>
    simp [fm5] at hf
    subst hf
    refine ⟨some ⟨g, 0, none⟩, 1, 1, hb5, fun m v hv => ?_⟩
    have hm := formV_lt hv
    rw [cellA hr, show 0 + 4 * 13 + m = 52 + m by omega, (five m hm).2.2.2.2]
    exact hv
  | n + 5, hf => simp [fm5] at hf

set_option maxHeartbeats 4000000 in
theorem forms_sum (w : World) (x : Ins) (s : Nat) (hop : x.op = 1) (hsz : x.size = s) (hs : s = 1 ∨ s = 2 ∨ s = 4) (hsub : 0 ≤ x.sub ∧ x.sub < 8) (hi : 0 ≤ x.b.imm ∧ x.b.imm < 4294967296) :
    Calls Tryz.prog 57 #[.agg (insV x)] w fun e w' => ∃ v, e = .returned v ∧ FS w' v (fm5 x s) ∧ Kp noB w w' := by
  obtain ⟨T, nI, Z, fsI, psI, h⟩ := vlF
  have H : Hid _ := h
  obtain ⟨vl, vs, vb, va, ve⟩ := h.ops
  have vx := h.box
  have v1 := h.agg
  have v2 := h.size
  have v3 := h.zero
  have v4 := h.under
  have v5 := h.map
  have v7 := h.zs
  have v8 := h.zn
  have s0 := h.v.cells x
  have hqx := (MapKept.heap_alloc w (.cells (insV x) T)).1
  have l0 := h.get hqx
  have K1 : Hid (Kp noB w (w.alloc (.cells (insV x) T))) := Kp.alloc _ _ _
  have HS : Hid _ := sums_ok (w.alloc (.cells (insV x) T)) x s hsz hs hsub hi
  have HX : Hid ((0 ≤ x.sub ∧ x.sub < 8) ∧ (0 ≤ x.b.imm ∧ x.b.imm < 4294967296)) := ⟨hsub, hi⟩
  have c0 : (w.alloc (.cells (insV x) T)).cell? ⟨w.heap.size, 0, none⟩ = some (.int .i64 1) := by rw [← hop]; exact cell_of_row _ _ _ _ _ _ hqx
  have c2 : (w.alloc (.cells (insV x) T)).cell? ⟨w.heap.size, 2, none⟩ = some (.int .i64 s) := by rw [← hsz]; exact cell_of_row _ _ _ _ _ _ hqx
  clear h hqx hsub hi hop hsz
  rcases hs with rfl | rfl | rfl
  all_goals
    go_enter Tryz.func57, Tryz.ntmps57
    simp only [vl, vx]
    go_wp2_with fail
    refine Calls.mono HS.out ?_; rintro e w1 ⟨g, r, p, l, k, rfl, hn, hg, hr, k1⟩
    have hF := forms5_fs HX.out.1 HX.out.2 hn hg hr
    have HFS : Hid _ := hF
    have KF : Hid _ := K1.out.trans k1
    clear hF hn hg hr k1
    go_wp2
    go_ret
    exact ⟨_, rfl, HFS.out, KF.out⟩

set_option maxHeartbeats 4000000 in
theorem forms_no (w : World) (x : Ins) (h1 : ¬ x.size = 1) (h2 : ¬ x.size = 2) (h4 : ¬ x.size = 4) :
    Calls Tryz.prog 57 #[.agg (insV x)] w fun e w' => ∃ v, e = .returned v ∧ FS w' v [] ∧ Kp noB w w' := by
  obtain ⟨T, nI, Z, fsI, psI, h⟩ := vlF
  obtain ⟨vl, vs, vb, va, ve⟩ := h.ops
  have vx := h.box
  have v1 := h.agg
  have v2 := h.size
  have v3 := h.zero
  have v4 := h.under
  have v5 := h.map
  have v7 := h.zs
  have v8 := h.zn
  have s0 := h.v.cells x
  have hqx := (MapKept.heap_alloc w (.cells (insV x) T)).1
  have c2 : (w.alloc (.cells (insV x) T)).cell? ⟨w.heap.size, 2, none⟩ = some (.int .i64 x.size) := cell_of_row _ _ _ _ _ _ hqx
  have n1 : (x.size != 1) = true := by simp [h1]
  have n2 : (x.size != 2) = true := by simp [h2]
  have n4 : (x.size != 4) = true := by simp [h4]
  clear h hqx h1 h2 h4
  go_enter Tryz.func57, Tryz.ntmps57
  simp only [vl, vx]
  go_wp2
  go_ret
  exact ⟨_, rfl, ⟨none, 0, rfl, .inl ⟨rfl, rfl, rfl⟩⟩, Kp.alloc _ _ _⟩
end Go.Proofs.YtolnaodlghahlaaGreatDoor
