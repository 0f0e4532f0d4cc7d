/- Contracts of muldiv.Mul and of what lies between it and the leaves: for every input within their kinds they return what is named, and the world has at most new blocks. -/
import Derived.Test.YtecfkgnffhiemabMulHalf
import Derived.Test.YtecfkgnffhiemabAluFlags
namespace Go.Proofs.Ytecfkgnffhiemab
open Go.ChangeShapes Go.WideShapes Go.ChangeAt Go.RowKit
set_option linter.unusedVariables false

theorem ret_four {k l m o : IntKind} {a b c d e f g h : Int} (h1 : a = b) (h2 : c = d) (h3 : e = f) (h4 : g = h) : Ending.returned (.tuple #[.int k a, .int l c, .int m e, .int o g]) = .returned (.tuple #[.int k b, .int l d, .int m f, .int o h]) := by rw [h1, h2, h3, h4]

theorem Grown.holds {W w' : World} (h : Grown W w') {p : Addr} {v : Value} (hc : W.cell? p = some v) : w'.cell? p = some v := by
  have hp : p.block < W.heap.size := by
    refine Nat.lt_of_not_le fun hn => ?_
    have e : W.heap[p.block]? = none := Array.getElem?_eq_none hn
    unfold World.cell? at hc
    rw [e] at hc
    cases hc
  rw [Grown.cell h hp]; exact hc

theorem mdProduct_any {s H M : Int} {W : Nat} (hS : Sw s H M W) (sg : Bool) (a b : Int) (w : World) (a0 : 0 ≤ a) (a1 : a < 4294967296) (b0 : 0 ≤ b) (b1 : b < 4294967296) :
    Calls Try.prog 15 #[.agg #[.int .i64 s, .int .u64 (W : Int)], .bool sg, .int .u32 a, .int .u32 b] w fun e w' => e = .returned (.int .u64 (mulP sg M H a b % 18446744073709551616)) ∧ Grown w w' := by
  have mp := hS.pow.2.2.2.2.2.1
  have mt := hS.pow.2.2.2.2.1
  have hb := mulP_bd hS sg a b
  have wa : IntKind.u64.wrap a = a := by rw [wrap_u64']; omega
  have wb : IntKind.u64.wrap b = b := by rw [wrap_u64']; omega
  have x0 := (mod_bd mp a).1
  have x1 := (mod_bd mp a).2
  have y0 := (mod_bd mp b).1
  have y1 := (mod_bd mp b).2
  cases sg
  · have HP : Hid (mulP false M H a b = a % M * (b % M)) := (rfl : mulP false M H a b = a % M * (b % M))
    have HB : Hid (0 ≤ a % M * (b % M) ∧ a % M * (b % M) < 18446744073709551616) := (by have e := HP.out; have h1 := hb.2.2.2 rfl; have h2 := hb.2.1; rw [e] at h1 h2; exact ⟨h1, by omega⟩ : 0 ≤ a % M * (b % M) ∧ a % M * (b % M) < 18446744073709551616)
    clear hb
    have wx : IntKind.u64.wrap (a % M) = a % M := by rw [wrap_u64']; omega
    have wy : IntKind.u64.wrap (b % M) = b % M := by rw [wrap_u64']; omega
    have wp : IntKind.u64.wrap (a % M * (b % M)) = a % M * (b % M) := by rw [wrap_u64']; exact Int.emod_eq_of_lt HB.out.1 HB.out.2
    go_enter Try.func15, Try.ntmps15
    go_wp2
    go_region_held3 (fun w' => w'.cell? ⟨w.heap.size, 0, none⟩ = some (.int .i64 s) ∧ w'.cell? ⟨w.heap.size, 1, none⟩ = some (.int .u64 (W : Int)))
      (simp [go_sem])
      ((go_at_call 17; refine (mdCut_any hS _ _ (by omega) (by omega)).mono ?_; rintro e w1 ⟨rfl, hw⟩; replace hw := hw.symm; subst hw))
    go_wp2
    go_ret
    refine ⟨ret_int (by rw [HP.out, Int.emod_eq_of_lt HB.out.1 HB.out.2]), ?_⟩
    repeat (first | exact Grown.refl _ | apply Grown.drew | apply Grown.alloc)
  · have HP : Hid (mulP true M H a b = sgv M H (a % M) * sgv M H (b % M)) := (rfl : mulP true M H a b = sgv M H (a % M) * sgv M H (b % M))
    have HB : Hid (-4611686018427387904 ≤ sgv M H (a % M) * sgv M H (b % M) ∧ sgv M H (a % M) * sgv M H (b % M) ≤ 4611686018427387904) := (by have e := HP.out; have h1 := hb.2.2.1 rfl; have h2 := hb.1; rw [e] at h1 h2; exact ⟨h2, h1⟩ : -4611686018427387904 ≤ sgv M H (a % M) * sgv M H (b % M) ∧ sgv M H (a % M) * sgv M H (b % M) ≤ 4611686018427387904)
    clear hb
    have wp : IntKind.i64.wrap (sgv M H (a % M) * sgv M H (b % M)) = sgv M H (a % M) * sgv M H (b % M) := by rw [wrap_i64']; have := HB.out; omega
    have wq : wrap64 (sgv M H (a % M) * sgv M H (b % M)) = sgv M H (a % M) * sgv M H (b % M) := by unfold wrap64; have := HB.out; omega
    go_enter Try.func15, Try.ntmps15
    go_wp2
    go_region_held3 (fun w' => w'.cell? ⟨w.heap.size, 0, none⟩ = some (.int .i64 s) ∧ w'.cell? ⟨w.heap.size, 1, none⟩ = some (.int .u64 (W : Int)))
      (simp [go_sem])
      ((go_at_call 33; refine (mdSigned_any hS _ _ (by omega) (by omega)).mono ?_; rintro e w1 ⟨rfl, hw⟩; replace hw := hw.symm; subst hw))
    go_wp2
    go_ret
    refine ⟨ret_int (by rw [HP.out]; rfl), ?_⟩
    repeat (first | exact Grown.refl _ | apply Grown.drew | apply Grown.alloc)

theorem mdAbove_any {s H M : Int} {W : Nat} (hS : Sw s H M W) (sg : Bool) (l : Int) (w : World) (l0 : 0 ≤ l) (l1 : l < M) :
    Calls Try.prog 16 #[.agg #[.int .i64 s, .int .u64 (W : Int)], .bool sg, .int .u32 l] w fun e w' => e = .returned (.int .u32 (mulX sg M H l)) ∧ Grown w w' := by
  have mp := hS.pow.2.2.2.2.2.1
  have mt := hS.pow.2.2.2.2.1
  have wl : IntKind.u64.wrap l = l := by rw [wrap_u64']; omega
  cases sg
  · go_enter Try.func16, Try.ntmps16
    go_wp2
    go_ret
    exact ⟨rfl, Grown.alloc (Grown.refl _) _ _⟩
  · have HE : Hid (sgv M H l % 18446744073709551616 / M % M = mulX true M H l) := above_hi hS l l0 l1
    have hm : l % M = l := Int.emod_eq_of_lt l0 l1
    have d0 : 0 ≤ sgv M H l % 18446744073709551616 := by omega
    have d1 : sgv M H l % 18446744073709551616 < 18446744073709551616 := by omega
    go_enter Try.func16, Try.ntmps16
    go_wp2
    go_region_held3 (fun w' => w'.cell? ⟨w.heap.size, 0, none⟩ = some (.int .i64 s) ∧ w'.cell? ⟨w.heap.size, 1, none⟩ = some (.int .u64 (W : Int)))
      (first | (simp [go_sem]; done) | (refine ⟨?_, ?_⟩ <;> (rw [Grown.cell hg (by simp)]; simp [go_sem])))
      ((first
      | (go_at_call 33; refine (mdSigned_any hS _ _ (by omega) (by omega)).mono ?_; rintro e w1 ⟨rfl, hw⟩; replace hw := hw.symm; subst hw)
      | (go_at_call 14; refine (mdHalves_any hS _ _ d0 d1).mono ?_; rintro e w1 ⟨rfl, hg⟩)))
    go_wp2
    go_ret
    exact ⟨ret_int HE.out, Grown.trans (Grown.alloc (Grown.refl _) _ _).drew hg⟩

theorem or_two {f : Int} (f0 : 0 ≤ f) (f1 : f < 4294967296) : bits .or .u32 f 2049 = setF (setF f 1 true) 2048 true := by
  have a1 := or_bd f0 f1 (b := 2049) (by decide) (by decide)
  have b1 := bd1 f0 f1 1 fl1 true
  have b2 := bd1 b1.1 b1.2 2048 fl2048 true
  refine tb_ext a1.1 b2.1 fun i => ?_
  rw [tb_or f0 f1 (by decide) (by decide), tb_2049, tb_set2048 b1.1, tb_set1 f0]
  by_cases h0 : i = 0
  · subst h0; simp
  · by_cases h11 : i = 11
    · subst h11; simp
    · simp [h0, h11]

theorem not_two {f : Int} (f0 : 0 ≤ f) (f1 : f < 4294967296) : bits .andNot .u32 f 2049 = setF (setF f 1 false) 2048 false := by
  have a1 := andNot_bd f0 f1 (b := 2049) (by decide) (by decide)
  have b1 := bd1 f0 f1 1 fl1 false
  have b2 := bd1 b1.1 b1.2 2048 fl2048 false
  refine tb_ext a1.1 b2.1 fun i => ?_
  rw [tb_andNot f0 f1 (by decide) (by decide), tb_2049, tb_set2048 b1.1, tb_set1 f0]
  by_cases h0 : i = 0
  · subst h0; simp
  · by_cases h11 : i = 11
    · subst h11; simp
    · simp [h0, h11]

theorem tb_pow (j i : Nat) : tb ((2 ^ j : Nat) : Int) i = decide (i = j) := by
  have h := tb_flg true j i
  simpa [flg] using h

theorem or_pow {f : Int} (f0 : 0 ≤ f) (f1 : f < 4294967296) (j : Nat) (hk : isFlag ((2 ^ j : Nat) : Int)) : bits .or .u32 f ((2 ^ j : Nat) : Int) = setF f ((2 ^ j : Nat) : Int) true := by
  have k0 : 0 ≤ ((2 ^ j : Nat) : Int) ∧ ((2 ^ j : Nat) : Int) < 4294967296 := by unfold isFlag at hk; omega
  have a1 := or_bd f0 f1 k0.1 k0.2
  have b1 := bd1 f0 f1 _ hk true
  refine tb_ext a1.1 b1.1 fun i => ?_
  rw [tb_or f0 f1 k0.1 k0.2, tb_pow, tb_setF f f0 j]
  by_cases h : i = j
  · simp [h]
  · simp [h]

theorem not_pow {f : Int} (f0 : 0 ≤ f) (f1 : f < 4294967296) (j : Nat) (hk : isFlag ((2 ^ j : Nat) : Int)) : bits .andNot .u32 f ((2 ^ j : Nat) : Int) = setF f ((2 ^ j : Nat) : Int) false := by
  have k0 : 0 ≤ ((2 ^ j : Nat) : Int) ∧ ((2 ^ j : Nat) : Int) < 4294967296 := by unfold isFlag at hk; omega
  have a1 := andNot_bd f0 f1 k0.1 k0.2
  have b1 := bd1 f0 f1 _ hk false
  refine tb_ext a1.1 b1.1 fun i => ?_
  rw [tb_andNot f0 f1 k0.1 k0.2, tb_pow, tb_setF f f0 j]
  by_cases h : i = j
  · simp [h]
  · simp [h]

theorem mdMark_any (f k : Int) (b : Bool) (w : World) :
    Calls Try.prog 10 #[.int .u32 f, .int .u32 k, .bool b] w fun e w' => e = .returned (.int .u32 (bif b then bits .or .u32 f k else bits .andNot .u32 f k)) ∧ w' = w := by
  cases b
  · go_enter Try.func10, Try.ntmps10
    go_wp2
    go_ret
    exact ⟨rfl, rfl⟩
  · go_enter Try.func10, Try.ntmps10
    go_wp2
    go_ret
    exact ⟨rfl, rfl⟩

theorem mdMark2_any (f : Int) (b : Bool) (w : World) (f0 : 0 ≤ f) (f1 : f < 4294967296) :
    Calls Try.prog 10 #[.int .u32 f, .int .u32 2049, .bool b] w fun e w' => e = .returned (.int .u32 (setF (setF f 1 b) 2048 b)) ∧ w' = w := by
  refine (mdMark_any f 2049 b w).mono ?_
  rintro e w1 ⟨rfl, rfl⟩
  refine ⟨ret_int ?_, rfl⟩
  cases b
  · exact not_two f0 f1
  · exact or_two f0 f1

theorem mdMark1_any (f : Int) (j : Nat) (b : Bool) (w : World) (f0 : 0 ≤ f) (f1 : f < 4294967296) (hk : isFlag ((2 ^ j : Nat) : Int)) :
    Calls Try.prog 10 #[.int .u32 f, .int .u32 ((2 ^ j : Nat) : Int), .bool b] w fun e w' => e = .returned (.int .u32 (setF f ((2 ^ j : Nat) : Int) b)) ∧ w' = w := by
  refine (mdMark_any f _ b w).mono ?_
  rintro e w1 ⟨rfl, rfl⟩
  refine ⟨ret_int ?_, rfl⟩
  cases b
  · exact not_pow f0 f1 j hk
  · exact or_pow f0 f1 j hk

theorem mdMul_no (s : Int) (sg : Bool) (a b f : Int) (w : World) (hk : okSize s = false) :
    Calls Try.prog 7 #[.bool sg, .int .i64 s, .int .u32 a, .int .u32 b, .int .u32 f] w fun e w' => e = .returned (.tuple #[.int .u32 0, .int .u32 0, .int .u32 0, .int .i64 2]) ∧ Grown w w' := by
  go_enter Try.func7, Try.ntmps7
  go_wp2_with fail
  refine (mdSize_any _ _).mono ?_; rintro e w1 ⟨rfl, hw⟩; replace hw := hw.symm; subst hw
  go_wp2
  exact bodyPost_ret (v := .tuple #[.int .u32 0, .int .u32 0, .int .u32 0, .int .i64 2]) (by simp [results, Try.results7, go_sem]) rfl ⟨rfl, Grown.refl _⟩
theorem mdHalvesP_any {s H M : Int} {W : Nat} (hS : Sw s H M W) (sg : Bool) (a b : Int) (w : World) :
    Calls Try.prog 14 #[.agg #[.int .i64 s, .int .u64 (W : Int)], .int .u64 (mulP sg M H a b % 18446744073709551616)] w fun e w' => e = .returned (.tuple #[.int .u32 (mulL sg M H a b), .int .u32 (mulU sg M H a b)]) ∧ Grown w w' := by
  refine (mdHalves_any hS _ w (mod_bd (by decide) _).1 (mod_bd (by decide) _).2).mono ?_
  rintro e w1 ⟨rfl, hg⟩
  exact ⟨ret_two (half_lo hS _) (half_hi hS _), hg⟩

theorem mdMul_ok {s H M : Int} {W : Nat} (hS : Sw s H M W) (sg : Bool) (a b f : Int) (w : World) (a0 : 0 ≤ a) (a1 : a < 4294967296) (b0 : 0 ≤ b) (b1 : b < 4294967296) (f0 : 0 ≤ f) (f1 : f < 4294967296) :
    Calls Try.prog 7 #[.bool sg, .int .i64 s, .int .u32 a, .int .u32 b, .int .u32 f] w fun e w' => e = .returned (.tuple #[.int .u32 (mulL sg M H a b), .int .u32 (mulU sg M H a b), .int .u32 (mulF sg M H a b f), .int .i64 0]) ∧ Grown w w' := by
  have hk := hS.ok
  obtain ⟨sp, hZ⟩ := hS.sz
  have mt := hS.pow.2.2.2.2.1
  have HL : Hid (0 ≤ mulL sg M H a b ∧ mulL sg M H a b < M) := mulL_bd hS sg a b
  have HF1 : Hid _ := bd2 f0 f1 1 2048 fl1 fl2048 (mulC sg M H a b) (mulC sg M H a b)
  have HF2 : Hid _ := bd3 f0 f1 1 2048 16 fl1 fl2048 fl16 (mulC sg M H a b) (mulC sg M H a b) false
  have HF : Hid (byF H (mulL sg M H a b % M) (setF (setF (setF f 1 (mulC sg M H a b)) 2048 (mulC sg M H a b)) 16 false) = mulF sg M H a b f) := (by rw [Int.emod_eq_of_lt HL.out.1 HL.out.2]; rfl : byF H (mulL sg M H a b % M) (setF (setF (setF f 1 (mulC sg M H a b)) 2048 (mulC sg M H a b)) 16 false) = mulF sg M H a b f)
  go_enter Try.func7, Try.ntmps7
  go_wp2_with fail
  refine (mdSize_any _ _).mono ?_; rintro e w1 ⟨rfl, hw⟩; replace hw := hw.symm; subst hw
  go_wp2_with fail
  refine (mdWidth_any hS _).mono ?_; rintro e w1 ⟨rfl, hw⟩; replace hw := hw.symm; subst hw
  go_wp2
  go_region_held3 (fun w' => w'.cell? ⟨w.heap.size + 1, 0, none⟩ = some (.int .i64 s) ∧ w'.cell? ⟨w.heap.size + 1, 1, none⟩ = some (.int .u64 (W : Int)))
    (refine ⟨?_, ?_⟩ <;> first | (simp [go_sem]; done) | exact Grown.holds hgp (by simp [go_sem]) | (refine Grown.holds hg (Grown.holds hgp ?_); simp [go_sem]; done))
    ((first
    | (go_at_call 15; refine (mdProduct_any hS sg _ _ _ a0 a1 b0 b1).mono ?_; rintro e w0 ⟨rfl, hgp⟩)
    | (go_at_call 14; refine (mdHalvesP_any hS sg a b _).mono ?_; rintro e w1 ⟨rfl, hg⟩)))
  go_wp2_with fail
  refine (mdAbove_any hS sg _ _ HL.out.1 HL.out.2).mono ?_; rintro e w2 ⟨rfl, hg2⟩
  go_wp2_with fail
  refine (mdMark2_any f (mulC sg M H a b) _ f0 f1).mono ?_; rintro e w3 ⟨rfl, hw⟩; replace hw := hw.symm; subst hw
  go_wp2_with fail
  refine (mdMark1_any _ 4 false _ HF1.out.1 HF1.out.2 fl16).mono ?_; rintro e w4 ⟨rfl, hw⟩; replace hw := hw.symm; subst hw
  go_wp2_with fail
  refine (Flags_ok hZ _ _ _ HL.out.1 (Int.lt_of_lt_of_le HL.out.2 mt) HF2.out.1 HF2.out.2).mono ?_; rintro e w5 ⟨rfl, hg5⟩
  go_wp2
  exact bodyPost_ret (v := .tuple #[.int .u32 (mulL sg M H a b), .int .u32 (mulU sg M H a b), .int .u32 (byF H (mulL sg M H a b % M) (setF (setF (setF f 1 (mulC sg M H a b)) 2048 (mulC sg M H a b)) 16 false)), .int .i64 0]) (by simp [results, Try.results7, go_sem]) rfl
    ⟨ret_four rfl rfl HF.out rfl, Grown.trans (Grown.trans (Grown.trans (Grown.trans (Grown.alloc (Grown.alloc (Grown.refl _) _ _) _ _).drew hgp) hg) hg2) hg5⟩
end Go.Proofs.Ytecfkgnffhiemab
