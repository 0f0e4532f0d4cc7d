/- Contracts of the document's answer to adjustments (drawloomref03.daa): for every input within its kinds it returns what is named, and the world stays. -/
import Derived.Test.YtecfkgnffhiemaaRef01
import Derived.Test.YtecfkgnffhiemaaMulAdj
namespace Go.Proofs.Ytecfkgnffhiemaa
open Go.ChangeShapes Go.WideShapes Go.ChangeAt Go.RowKit
set_option linter.unusedVariables false

theorem over1 {f : Int} (f0 : 0 ≤ f) (f1 : f < 4294967296) (x y : Bool) : setF (setF f 1 x) 1 y = setF f 1 y := by
  have b := bd1 f0 f1 1 fl1 x
  refine tb_ext (bd1 b.1 b.2 1 fl1 y).1 (bd1 f0 f1 1 fl1 y).1 fun i => ?_
  rw [tb_set1 b.1, tb_set1 f0, tb_set1 f0]
  by_cases h : i = 0
  · simp [h]
  · simp [h]

theorem comm16 {f : Int} (f0 : 0 ≤ f) (f1 : f < 4294967296) (x a : Bool) : setF (setF f 1 x) 16 a = setF (setF f 16 a) 1 x := by
  have b := bd1 f0 f1 1 fl1 x
  have c := bd1 f0 f1 16 fl16 a
  refine tb_ext (bd1 b.1 b.2 16 fl16 a).1 (bd1 c.1 c.2 1 fl1 x).1 fun i => ?_
  rw [tb_set16 b.1, tb_set1 f0, tb_set1 c.1, tb_set16 f0]
  by_cases h : i = 0
  · subst h; simp
  · simp [h]

theorem has_over {f : Int} (f0 : 0 ≤ f) (f1 : f < 4294967296) (x : Bool) : hasF (setF f 1 x) 16 = hasF f 16 := by
  have b := bd1 f0 f1 1 fl1 x
  have e : ∀ g, 0 ≤ g → hasF g 16 = tb g 4 := fun g g0 => hasF_tb g0 4
  rw [e _ b.1, e _ f0, tb_set1 f0]
  simp

theorem Has_is (f k : Int) (o : Bool) (w : World) (f0 : 0 ≤ f) (f1 : f < 4294967296) (hk : isFlag k) (h : hasF f k = o) :
    Calls Try.prog 36 #[.int .u32 f, .int .u32 k] w fun e w' => e = .returned (.bool o) ∧ w' = w := by
  subst h; exact Has_any f k w f0 f1 hk

theorem ret_xf {k l : IntKind} {a b c d : Int} (h : a = b) (g : c = d) : Ending.returned (.tuple #[.int k a, .int l c]) = .returned (.tuple #[.int k b, .int l d]) := by rw [h, g]

set_option maxHeartbeats 1000000 in
theorem daa_fGA (al f : Int) (w : World) (a0 : 0 ≤ al) (a1 : al < 256) (f0 : 0 ≤ f) (f1 : f < 4294967296) (hg : 9 < al % 16) (h153 : 153 < al) :
    Calls Try.prog 37 #[.bool false, .int .u64 al, .int .u32 f] w fun e w' => e = .returned (.tuple #[.int .u64 ((al + 6 + 96) % 256), .int .u32 (setF (setF f 16 true) 1 (true))]) ∧ w' = w := by
  have B1 : Hid _ := bd1 f0 f1 1 fl1 false
  have B2 : Hid (0 ≤ setF f 1 false ∧ setF f 1 false < 4294967296) := B1
  have B3 : Hid (0 ≤ setF (setF f 1 false) 16 true ∧ setF (setF f 1 false) 16 true < 4294967296) := bd1 B2.out.1 B2.out.2 16 fl16 true
  have HF : Hid (setF (setF (setF f 1 false) 16 true) 1 true = setF (setF f 16 true) 1 (true)) := (by
    rw [comm16 f0 f1]; exact over1 (bd1 f0 f1 16 fl16 true).1 (bd1 f0 f1 16 fl16 true).2 _ _ : setF (setF (setF f 1 false) 16 true) 1 true = setF (setF f 16 true) 1 (true))
  have HC : Hid (∀ w : World, Calls Try.prog 36 #[.int .u32 f, .int .u32 1] w fun e w' => e = .returned (.bool (hasF f 1)) ∧ w' = w) := fun w => Has_any f 1 w f0 f1 fl1
  go_enter Try.func37, Try.ntmps37
  go_wp2_with fail
  refine (HC.out _).mono ?_; rintro e w1 ⟨rfl, hw⟩; replace hw := hw.symm; subst hw
  go_wp2_with fail
  refine (Set_any _ _ _ _ f0 f1 fl1).mono ?_; rintro e w1 ⟨rfl, hw⟩; replace hw := hw.symm; subst hw
  go_wp2_with fail
  refine (Set_any _ _ _ _ B2.out.1 B2.out.2 fl16).mono ?_; rintro e w1 ⟨rfl, hw⟩; replace hw := hw.symm; subst hw
  go_wp2_with fail
  refine (Set_any _ _ _ _ B3.out.1 B3.out.2 fl1).mono ?_; rintro e w1 ⟨rfl, hw⟩; replace hw := hw.symm; subst hw
  go_wp2
  exact bodyPost_ret (v := .tuple #[.int .u64 ((al + 6 + 96) % 256), .int .u32 (setF (setF (setF f 1 false) 16 true) 1 true)]) (by first | (simp [results, Try.results37, go_sem]; done) | (simp [results, Try.results37, go_sem]; omega)) rfl
    ⟨ret_xf rfl HF.out, rfl⟩

set_option maxHeartbeats 1000000 in
theorem daa_fGBT (al f : Int) (w : World) (a0 : 0 ≤ al) (a1 : al < 256) (f0 : 0 ≤ f) (f1 : f < 4294967296) (hg : 9 < al % 16) (h153 : ¬ 153 < al) (hc : hasF f 1 = true) :
    Calls Try.prog 37 #[.bool false, .int .u64 al, .int .u32 f] w fun e w' => e = .returned (.tuple #[.int .u64 ((al + 6 + 96) % 256), .int .u32 (setF (setF f 16 true) 1 (true))]) ∧ w' = w := by
  have B1 : Hid _ := bd1 f0 f1 1 fl1 false
  have B2 : Hid (0 ≤ setF f 1 false ∧ setF f 1 false < 4294967296) := B1
  have B3 : Hid (0 ≤ setF (setF f 1 false) 16 true ∧ setF (setF f 1 false) 16 true < 4294967296) := bd1 B2.out.1 B2.out.2 16 fl16 true
  have HF : Hid (setF (setF (setF f 1 false) 16 true) 1 true = setF (setF f 16 true) 1 (true)) := (by
    rw [comm16 f0 f1]; exact over1 (bd1 f0 f1 16 fl16 true).1 (bd1 f0 f1 16 fl16 true).2 _ _ : setF (setF (setF f 1 false) 16 true) 1 true = setF (setF f 16 true) 1 (true))
  have HC : Hid (∀ w : World, Calls Try.prog 36 #[.int .u32 f, .int .u32 1] w fun e w' => e = .returned (.bool true) ∧ w' = w) := fun w => Has_is _ _ _ w f0 f1 fl1 hc
  clear hc
  go_enter Try.func37, Try.ntmps37
  go_wp2_with fail
  refine (HC.out _).mono ?_; rintro e w1 ⟨rfl, hw⟩; replace hw := hw.symm; subst hw
  go_wp2_with fail
  refine (Set_any _ _ _ _ f0 f1 fl1).mono ?_; rintro e w1 ⟨rfl, hw⟩; replace hw := hw.symm; subst hw
  go_wp2_with fail
  refine (Set_any _ _ _ _ B2.out.1 B2.out.2 fl16).mono ?_; rintro e w1 ⟨rfl, hw⟩; replace hw := hw.symm; subst hw
  go_wp2_with fail
  refine (Set_any _ _ _ _ B3.out.1 B3.out.2 fl1).mono ?_; rintro e w1 ⟨rfl, hw⟩; replace hw := hw.symm; subst hw
  go_wp2
  exact bodyPost_ret (v := .tuple #[.int .u64 ((al + 6 + 96) % 256), .int .u32 (setF (setF (setF f 1 false) 16 true) 1 true)]) (by first | (simp [results, Try.results37, go_sem]; done) | (simp [results, Try.results37, go_sem]; omega)) rfl
    ⟨ret_xf rfl HF.out, rfl⟩

set_option maxHeartbeats 1000000 in
theorem daa_fGBF (al f : Int) (w : World) (a0 : 0 ≤ al) (a1 : al < 256) (f0 : 0 ≤ f) (f1 : f < 4294967296) (hg : 9 < al % 16) (h153 : ¬ 153 < al) (hc : hasF f 1 = false) :
    Calls Try.prog 37 #[.bool false, .int .u64 al, .int .u32 f] w fun e w' => e = .returned (.tuple #[.int .u64 ((al + 6) % 256), .int .u32 (setF (setF f 16 true) 1 (false))]) ∧ w' = w := by
  have B1 : Hid _ := bd1 f0 f1 1 fl1 false
  have B2 : Hid (0 ≤ setF f 1 false ∧ setF f 1 false < 4294967296) := B1
  have B3 : Hid (0 ≤ setF (setF f 1 false) 16 true ∧ setF (setF f 1 false) 16 true < 4294967296) := bd1 B2.out.1 B2.out.2 16 fl16 true
  have HF : Hid (setF (setF f 1 false) 16 true = setF (setF f 16 true) 1 (false)) := (by
    rw [comm16 f0 f1] : setF (setF f 1 false) 16 true = setF (setF f 16 true) 1 (false))
  have HC : Hid (∀ w : World, Calls Try.prog 36 #[.int .u32 f, .int .u32 1] w fun e w' => e = .returned (.bool false) ∧ w' = w) := fun w => Has_is _ _ _ w f0 f1 fl1 hc
  clear hc
  go_enter Try.func37, Try.ntmps37
  go_wp2_with fail
  refine (HC.out _).mono ?_; rintro e w1 ⟨rfl, hw⟩; replace hw := hw.symm; subst hw
  go_wp2_with fail
  refine (Set_any _ _ _ _ f0 f1 fl1).mono ?_; rintro e w1 ⟨rfl, hw⟩; replace hw := hw.symm; subst hw
  go_wp2_with fail
  refine (Set_any _ _ _ _ B2.out.1 B2.out.2 fl16).mono ?_; rintro e w1 ⟨rfl, hw⟩; replace hw := hw.symm; subst hw
  go_wp2
  exact bodyPost_ret (v := .tuple #[.int .u64 ((al + 6) % 256), .int .u32 (setF (setF f 1 false) 16 true)]) (by first | (simp [results, Try.results37, go_sem]; done) | (simp [results, Try.results37, go_sem]; omega)) rfl
    ⟨ret_xf rfl HF.out, rfl⟩

set_option maxHeartbeats 1000000 in
theorem daa_fNTA (al f : Int) (w : World) (a0 : 0 ≤ al) (a1 : al < 256) (f0 : 0 ≤ f) (f1 : f < 4294967296) (hg : ¬ 9 < al % 16) (hv : hasF f 16 = true) (h153 : 153 < al) :
    Calls Try.prog 37 #[.bool false, .int .u64 al, .int .u32 f] w fun e w' => e = .returned (.tuple #[.int .u64 ((al + 6 + 96) % 256), .int .u32 (setF (setF f 16 true) 1 (true))]) ∧ w' = w := by
  have B1 : Hid _ := bd1 f0 f1 1 fl1 false
  have B2 : Hid (0 ≤ setF f 1 false ∧ setF f 1 false < 4294967296) := B1
  have B3 : Hid (0 ≤ setF (setF f 1 false) 16 true ∧ setF (setF f 1 false) 16 true < 4294967296) := bd1 B2.out.1 B2.out.2 16 fl16 true
  have HF : Hid (setF (setF (setF f 1 false) 16 true) 1 true = setF (setF f 16 true) 1 (true)) := (by
    rw [comm16 f0 f1]; exact over1 (bd1 f0 f1 16 fl16 true).1 (bd1 f0 f1 16 fl16 true).2 _ _ : setF (setF (setF f 1 false) 16 true) 1 true = setF (setF f 16 true) 1 (true))
  have HV : Hid (∀ w : World, Calls Try.prog 36 #[.int .u32 (setF f 1 false), .int .u32 16] w fun e w' => e = .returned (.bool true) ∧ w' = w) := fun w => Has_is _ _ _ w B1.out.1 B1.out.2 fl16 ((has_over f0 f1 false).trans hv)
  clear hv
  have HC : Hid (∀ w : World, Calls Try.prog 36 #[.int .u32 f, .int .u32 1] w fun e w' => e = .returned (.bool (hasF f 1)) ∧ w' = w) := fun w => Has_any f 1 w f0 f1 fl1
  go_enter Try.func37, Try.ntmps37
  go_wp2_with fail
  refine (HC.out _).mono ?_; rintro e w1 ⟨rfl, hw⟩; replace hw := hw.symm; subst hw
  go_wp2_with fail
  refine (Set_any _ _ _ _ f0 f1 fl1).mono ?_; rintro e w1 ⟨rfl, hw⟩; replace hw := hw.symm; subst hw
  go_wp2_with fail
  refine (HV.out _).mono ?_; rintro e w1 ⟨rfl, hw⟩; replace hw := hw.symm; subst hw
  go_wp2_with fail
  refine (Set_any _ _ _ _ B2.out.1 B2.out.2 fl16).mono ?_; rintro e w1 ⟨rfl, hw⟩; replace hw := hw.symm; subst hw
  go_wp2_with fail
  refine (Set_any _ _ _ _ B3.out.1 B3.out.2 fl1).mono ?_; rintro e w1 ⟨rfl, hw⟩; replace hw := hw.symm; subst hw
  go_wp2
  exact bodyPost_ret (v := .tuple #[.int .u64 ((al + 6 + 96) % 256), .int .u32 (setF (setF (setF f 1 false) 16 true) 1 true)]) (by first | (simp [results, Try.results37, go_sem]; done) | (simp [results, Try.results37, go_sem]; omega)) rfl
    ⟨ret_xf rfl HF.out, rfl⟩

set_option maxHeartbeats 1000000 in
theorem daa_fNTBT (al f : Int) (w : World) (a0 : 0 ≤ al) (a1 : al < 256) (f0 : 0 ≤ f) (f1 : f < 4294967296) (hg : ¬ 9 < al % 16) (hv : hasF f 16 = true) (h153 : ¬ 153 < al) (hc : hasF f 1 = true) :
    Calls Try.prog 37 #[.bool false, .int .u64 al, .int .u32 f] w fun e w' => e = .returned (.tuple #[.int .u64 ((al + 6 + 96) % 256), .int .u32 (setF (setF f 16 true) 1 (true))]) ∧ w' = w := by
  have B1 : Hid _ := bd1 f0 f1 1 fl1 false
  have B2 : Hid (0 ≤ setF f 1 false ∧ setF f 1 false < 4294967296) := B1
  have B3 : Hid (0 ≤ setF (setF f 1 false) 16 true ∧ setF (setF f 1 false) 16 true < 4294967296) := bd1 B2.out.1 B2.out.2 16 fl16 true
  have HF : Hid (setF (setF (setF f 1 false) 16 true) 1 true = setF (setF f 16 true) 1 (true)) := (by
    rw [comm16 f0 f1]; exact over1 (bd1 f0 f1 16 fl16 true).1 (bd1 f0 f1 16 fl16 true).2 _ _ : setF (setF (setF f 1 false) 16 true) 1 true = setF (setF f 16 true) 1 (true))
  have HV : Hid (∀ w : World, Calls Try.prog 36 #[.int .u32 (setF f 1 false), .int .u32 16] w fun e w' => e = .returned (.bool true) ∧ w' = w) := fun w => Has_is _ _ _ w B1.out.1 B1.out.2 fl16 ((has_over f0 f1 false).trans hv)
  clear hv
  have HC : Hid (∀ w : World, Calls Try.prog 36 #[.int .u32 f, .int .u32 1] w fun e w' => e = .returned (.bool true) ∧ w' = w) := fun w => Has_is _ _ _ w f0 f1 fl1 hc
  clear hc
  go_enter Try.func37, Try.ntmps37
  go_wp2_with fail
  refine (HC.out _).mono ?_; rintro e w1 ⟨rfl, hw⟩; replace hw := hw.symm; subst hw
  go_wp2_with fail
  refine (Set_any _ _ _ _ f0 f1 fl1).mono ?_; rintro e w1 ⟨rfl, hw⟩; replace hw := hw.symm; subst hw
  go_wp2_with fail
  refine (HV.out _).mono ?_; rintro e w1 ⟨rfl, hw⟩; replace hw := hw.symm; subst hw
  go_wp2_with fail
  refine (Set_any _ _ _ _ B2.out.1 B2.out.2 fl16).mono ?_; rintro e w1 ⟨rfl, hw⟩; replace hw := hw.symm; subst hw
  go_wp2_with fail
  refine (Set_any _ _ _ _ B3.out.1 B3.out.2 fl1).mono ?_; rintro e w1 ⟨rfl, hw⟩; replace hw := hw.symm; subst hw
  go_wp2
  exact bodyPost_ret (v := .tuple #[.int .u64 ((al + 6 + 96) % 256), .int .u32 (setF (setF (setF f 1 false) 16 true) 1 true)]) (by first | (simp [results, Try.results37, go_sem]; done) | (simp [results, Try.results37, go_sem]; omega)) rfl
    ⟨ret_xf rfl HF.out, rfl⟩

set_option maxHeartbeats 1000000 in
theorem daa_fNTBF (al f : Int) (w : World) (a0 : 0 ≤ al) (a1 : al < 256) (f0 : 0 ≤ f) (f1 : f < 4294967296) (hg : ¬ 9 < al % 16) (hv : hasF f 16 = true) (h153 : ¬ 153 < al) (hc : hasF f 1 = false) :
    Calls Try.prog 37 #[.bool false, .int .u64 al, .int .u32 f] w fun e w' => e = .returned (.tuple #[.int .u64 ((al + 6) % 256), .int .u32 (setF (setF f 16 true) 1 (false))]) ∧ w' = w := by
  have B1 : Hid _ := bd1 f0 f1 1 fl1 false
  have B2 : Hid (0 ≤ setF f 1 false ∧ setF f 1 false < 4294967296) := B1
  have B3 : Hid (0 ≤ setF (setF f 1 false) 16 true ∧ setF (setF f 1 false) 16 true < 4294967296) := bd1 B2.out.1 B2.out.2 16 fl16 true
  have HF : Hid (setF (setF f 1 false) 16 true = setF (setF f 16 true) 1 (false)) := (by
    rw [comm16 f0 f1] : setF (setF f 1 false) 16 true = setF (setF f 16 true) 1 (false))
  have HV : Hid (∀ w : World, Calls Try.prog 36 #[.int .u32 (setF f 1 false), .int .u32 16] w fun e w' => e = .returned (.bool true) ∧ w' = w) := fun w => Has_is _ _ _ w B1.out.1 B1.out.2 fl16 ((has_over f0 f1 false).trans hv)
  clear hv
  have HC : Hid (∀ w : World, Calls Try.prog 36 #[.int .u32 f, .int .u32 1] w fun e w' => e = .returned (.bool false) ∧ w' = w) := fun w => Has_is _ _ _ w f0 f1 fl1 hc
  clear hc
  go_enter Try.func37, Try.ntmps37
  go_wp2_with fail
  refine (HC.out _).mono ?_; rintro e w1 ⟨rfl, hw⟩; replace hw := hw.symm; subst hw
  go_wp2_with fail
  refine (Set_any _ _ _ _ f0 f1 fl1).mono ?_; rintro e w1 ⟨rfl, hw⟩; replace hw := hw.symm; subst hw
  go_wp2_with fail
  refine (HV.out _).mono ?_; rintro e w1 ⟨rfl, hw⟩; replace hw := hw.symm; subst hw
  go_wp2_with fail
  refine (Set_any _ _ _ _ B2.out.1 B2.out.2 fl16).mono ?_; rintro e w1 ⟨rfl, hw⟩; replace hw := hw.symm; subst hw
  go_wp2
  exact bodyPost_ret (v := .tuple #[.int .u64 ((al + 6) % 256), .int .u32 (setF (setF f 1 false) 16 true)]) (by first | (simp [results, Try.results37, go_sem]; done) | (simp [results, Try.results37, go_sem]; omega)) rfl
    ⟨ret_xf rfl HF.out, rfl⟩

set_option maxHeartbeats 1000000 in
theorem daa_fNFA (al f : Int) (w : World) (a0 : 0 ≤ al) (a1 : al < 256) (f0 : 0 ≤ f) (f1 : f < 4294967296) (hg : ¬ 9 < al % 16) (hv : hasF f 16 = false) (h153 : 153 < al) :
    Calls Try.prog 37 #[.bool false, .int .u64 al, .int .u32 f] w fun e w' => e = .returned (.tuple #[.int .u64 ((al + 96) % 256), .int .u32 (setF (setF f 16 false) 1 (true))]) ∧ w' = w := by
  have B1 : Hid _ := bd1 f0 f1 1 fl1 false
  have B2 : Hid (0 ≤ setF f 1 false ∧ setF f 1 false < 4294967296) := B1
  have B3 : Hid (0 ≤ setF (setF f 1 false) 16 false ∧ setF (setF f 1 false) 16 false < 4294967296) := bd1 B2.out.1 B2.out.2 16 fl16 false
  have HF : Hid (setF (setF (setF f 1 false) 16 false) 1 true = setF (setF f 16 false) 1 (true)) := (by
    rw [comm16 f0 f1]; exact over1 (bd1 f0 f1 16 fl16 false).1 (bd1 f0 f1 16 fl16 false).2 _ _ : setF (setF (setF f 1 false) 16 false) 1 true = setF (setF f 16 false) 1 (true))
  have HV : Hid (∀ w : World, Calls Try.prog 36 #[.int .u32 (setF f 1 false), .int .u32 16] w fun e w' => e = .returned (.bool false) ∧ w' = w) := fun w => Has_is _ _ _ w B1.out.1 B1.out.2 fl16 ((has_over f0 f1 false).trans hv)
  clear hv
  have HC : Hid (∀ w : World, Calls Try.prog 36 #[.int .u32 f, .int .u32 1] w fun e w' => e = .returned (.bool (hasF f 1)) ∧ w' = w) := fun w => Has_any f 1 w f0 f1 fl1
  go_enter Try.func37, Try.ntmps37
  go_wp2_with fail
  refine (HC.out _).mono ?_; rintro e w1 ⟨rfl, hw⟩; replace hw := hw.symm; subst hw
  go_wp2_with fail
  refine (Set_any _ _ _ _ f0 f1 fl1).mono ?_; rintro e w1 ⟨rfl, hw⟩; replace hw := hw.symm; subst hw
  go_wp2_with fail
  refine (HV.out _).mono ?_; rintro e w1 ⟨rfl, hw⟩; replace hw := hw.symm; subst hw
  go_wp2_with fail
  refine (Set_any _ _ _ _ B2.out.1 B2.out.2 fl16).mono ?_; rintro e w1 ⟨rfl, hw⟩; replace hw := hw.symm; subst hw
  go_wp2_with fail
  refine (Set_any _ _ _ _ B3.out.1 B3.out.2 fl1).mono ?_; rintro e w1 ⟨rfl, hw⟩; replace hw := hw.symm; subst hw
  go_wp2
  exact bodyPost_ret (v := .tuple #[.int .u64 ((al + 96) % 256), .int .u32 (setF (setF (setF f 1 false) 16 false) 1 true)]) (by first | (simp [results, Try.results37, go_sem]; done) | (simp [results, Try.results37, go_sem]; omega)) rfl
    ⟨ret_xf rfl HF.out, rfl⟩

set_option maxHeartbeats 1000000 in
theorem daa_fNFBT (al f : Int) (w : World) (a0 : 0 ≤ al) (a1 : al < 256) (f0 : 0 ≤ f) (f1 : f < 4294967296) (hg : ¬ 9 < al % 16) (hv : hasF f 16 = false) (h153 : ¬ 153 < al) (hc : hasF f 1 = true) :
    Calls Try.prog 37 #[.bool false, .int .u64 al, .int .u32 f] w fun e w' => e = .returned (.tuple #[.int .u64 ((al + 96) % 256), .int .u32 (setF (setF f 16 false) 1 (true))]) ∧ w' = w := by
  have B1 : Hid _ := bd1 f0 f1 1 fl1 false
  have B2 : Hid (0 ≤ setF f 1 false ∧ setF f 1 false < 4294967296) := B1
  have B3 : Hid (0 ≤ setF (setF f 1 false) 16 false ∧ setF (setF f 1 false) 16 false < 4294967296) := bd1 B2.out.1 B2.out.2 16 fl16 false
  have HF : Hid (setF (setF (setF f 1 false) 16 false) 1 true = setF (setF f 16 false) 1 (true)) := (by
    rw [comm16 f0 f1]; exact over1 (bd1 f0 f1 16 fl16 false).1 (bd1 f0 f1 16 fl16 false).2 _ _ : setF (setF (setF f 1 false) 16 false) 1 true = setF (setF f 16 false) 1 (true))
  have HV : Hid (∀ w : World, Calls Try.prog 36 #[.int .u32 (setF f 1 false), .int .u32 16] w fun e w' => e = .returned (.bool false) ∧ w' = w) := fun w => Has_is _ _ _ w B1.out.1 B1.out.2 fl16 ((has_over f0 f1 false).trans hv)
  clear hv
  have HC : Hid (∀ w : World, Calls Try.prog 36 #[.int .u32 f, .int .u32 1] w fun e w' => e = .returned (.bool true) ∧ w' = w) := fun w => Has_is _ _ _ w f0 f1 fl1 hc
  clear hc
  go_enter Try.func37, Try.ntmps37
  go_wp2_with fail
  refine (HC.out _).mono ?_; rintro e w1 ⟨rfl, hw⟩; replace hw := hw.symm; subst hw
  go_wp2_with fail
  refine (Set_any _ _ _ _ f0 f1 fl1).mono ?_; rintro e w1 ⟨rfl, hw⟩; replace hw := hw.symm; subst hw
  go_wp2_with fail
  refine (HV.out _).mono ?_; rintro e w1 ⟨rfl, hw⟩; replace hw := hw.symm; subst hw
  go_wp2_with fail
  refine (Set_any _ _ _ _ B2.out.1 B2.out.2 fl16).mono ?_; rintro e w1 ⟨rfl, hw⟩; replace hw := hw.symm; subst hw
  go_wp2_with fail
  refine (Set_any _ _ _ _ B3.out.1 B3.out.2 fl1).mono ?_; rintro e w1 ⟨rfl, hw⟩; replace hw := hw.symm; subst hw
  go_wp2
  exact bodyPost_ret (v := .tuple #[.int .u64 ((al + 96) % 256), .int .u32 (setF (setF (setF f 1 false) 16 false) 1 true)]) (by first | (simp [results, Try.results37, go_sem]; done) | (simp [results, Try.results37, go_sem]; omega)) rfl
    ⟨ret_xf rfl HF.out, rfl⟩

set_option maxHeartbeats 1000000 in
theorem daa_fNFBF (al f : Int) (w : World) (a0 : 0 ≤ al) (a1 : al < 256) (f0 : 0 ≤ f) (f1 : f < 4294967296) (hg : ¬ 9 < al % 16) (hv : hasF f 16 = false) (h153 : ¬ 153 < al) (hc : hasF f 1 = false) :
    Calls Try.prog 37 #[.bool false, .int .u64 al, .int .u32 f] w fun e w' => e = .returned (.tuple #[.int .u64 (al), .int .u32 (setF (setF f 16 false) 1 (false))]) ∧ w' = w := by
  have B1 : Hid _ := bd1 f0 f1 1 fl1 false
  have B2 : Hid (0 ≤ setF f 1 false ∧ setF f 1 false < 4294967296) := B1
  have B3 : Hid (0 ≤ setF (setF f 1 false) 16 false ∧ setF (setF f 1 false) 16 false < 4294967296) := bd1 B2.out.1 B2.out.2 16 fl16 false
  have HF : Hid (setF (setF f 1 false) 16 false = setF (setF f 16 false) 1 (false)) := (by
    rw [comm16 f0 f1] : setF (setF f 1 false) 16 false = setF (setF f 16 false) 1 (false))
  have HV : Hid (∀ w : World, Calls Try.prog 36 #[.int .u32 (setF f 1 false), .int .u32 16] w fun e w' => e = .returned (.bool false) ∧ w' = w) := fun w => Has_is _ _ _ w B1.out.1 B1.out.2 fl16 ((has_over f0 f1 false).trans hv)
  clear hv
  have HC : Hid (∀ w : World, Calls Try.prog 36 #[.int .u32 f, .int .u32 1] w fun e w' => e = .returned (.bool false) ∧ w' = w) := fun w => Has_is _ _ _ w f0 f1 fl1 hc
  clear hc
  go_enter Try.func37, Try.ntmps37
  go_wp2_with fail
  refine (HC.out _).mono ?_; rintro e w1 ⟨rfl, hw⟩; replace hw := hw.symm; subst hw
  go_wp2_with fail
  refine (Set_any _ _ _ _ f0 f1 fl1).mono ?_; rintro e w1 ⟨rfl, hw⟩; replace hw := hw.symm; subst hw
  go_wp2_with fail
  refine (HV.out _).mono ?_; rintro e w1 ⟨rfl, hw⟩; replace hw := hw.symm; subst hw
  go_wp2_with fail
  refine (Set_any _ _ _ _ B2.out.1 B2.out.2 fl16).mono ?_; rintro e w1 ⟨rfl, hw⟩; replace hw := hw.symm; subst hw
  go_wp2
  exact bodyPost_ret (v := .tuple #[.int .u64 (al), .int .u32 (setF (setF f 1 false) 16 false)]) (by first | (simp [results, Try.results37, go_sem]; done) | (simp [results, Try.results37, go_sem]; omega)) rfl
    ⟨ret_xf rfl HF.out, rfl⟩

set_option maxHeartbeats 1000000 in
theorem daa_tGA (al f : Int) (w : World) (a0 : 0 ≤ al) (a1 : al < 256) (f0 : 0 ≤ f) (f1 : f < 4294967296) (hg : 9 < al % 16) (h153 : 153 < al) :
    Calls Try.prog 37 #[.bool true, .int .u64 al, .int .u32 f] w fun e w' => e = .returned (.tuple #[.int .u64 ((al - 6 - 96) % 256), .int .u32 (setF (setF f 16 true) 1 (true))]) ∧ w' = w := by
  have B1 : Hid _ := bd1 f0 f1 1 fl1 false
  have B2 : Hid (0 ≤ setF (setF f 1 false) 1 (decide (al < 6)) ∧ setF (setF f 1 false) 1 (decide (al < 6)) < 4294967296) := bd1 B1.out.1 B1.out.2 1 fl1 (decide (al < 6))
  have B3 : Hid (0 ≤ setF (setF (setF f 1 false) 1 (decide (al < 6))) 16 true ∧ setF (setF (setF f 1 false) 1 (decide (al < 6))) 16 true < 4294967296) := bd1 B2.out.1 B2.out.2 16 fl16 true
  have HF : Hid (setF (setF (setF (setF f 1 false) 1 (decide (al < 6))) 16 true) 1 true = setF (setF f 16 true) 1 (true)) := (by
    rw [over1 f0 f1]; rw [comm16 f0 f1]; exact over1 (bd1 f0 f1 16 fl16 true).1 (bd1 f0 f1 16 fl16 true).2 _ _ : setF (setF (setF (setF f 1 false) 1 (decide (al < 6))) 16 true) 1 true = setF (setF f 16 true) 1 (true))
  have HC : Hid (∀ w : World, Calls Try.prog 36 #[.int .u32 f, .int .u32 1] w fun e w' => e = .returned (.bool (hasF f 1)) ∧ w' = w) := fun w => Has_any f 1 w f0 f1 fl1
  go_enter Try.func37, Try.ntmps37
  go_wp2_with fail
  refine (HC.out _).mono ?_; rintro e w1 ⟨rfl, hw⟩; replace hw := hw.symm; subst hw
  go_wp2_with fail
  refine (Set_any _ _ _ _ f0 f1 fl1).mono ?_; rintro e w1 ⟨rfl, hw⟩; replace hw := hw.symm; subst hw
  go_wp2_with fail
  refine (Set_any _ _ (decide (al < 6)) _ B1.out.1 B1.out.2 fl1).mono ?_; rintro e w1 ⟨rfl, hw⟩; replace hw := hw.symm; subst hw
  go_wp2_with fail
  refine (Set_any _ _ _ _ B2.out.1 B2.out.2 fl16).mono ?_; rintro e w1 ⟨rfl, hw⟩; replace hw := hw.symm; subst hw
  go_wp2_with fail
  refine (Set_any _ _ _ _ B3.out.1 B3.out.2 fl1).mono ?_; rintro e w1 ⟨rfl, hw⟩; replace hw := hw.symm; subst hw
  go_wp2
  exact bodyPost_ret (v := .tuple #[.int .u64 ((al - 6 - 96) % 256), .int .u32 (setF (setF (setF (setF f 1 false) 1 (decide (al < 6))) 16 true) 1 true)]) (by first | (simp [results, Try.results37, go_sem]; done) | (simp [results, Try.results37, go_sem]; omega)) rfl
    ⟨ret_xf rfl HF.out, rfl⟩

set_option maxHeartbeats 1000000 in
theorem daa_tGBT (al f : Int) (w : World) (a0 : 0 ≤ al) (a1 : al < 256) (f0 : 0 ≤ f) (f1 : f < 4294967296) (hg : 9 < al % 16) (h153 : ¬ 153 < al) (hc : hasF f 1 = true) :
    Calls Try.prog 37 #[.bool true, .int .u64 al, .int .u32 f] w fun e w' => e = .returned (.tuple #[.int .u64 ((al - 6 - 96) % 256), .int .u32 (setF (setF f 16 true) 1 (true))]) ∧ w' = w := by
  have B1 : Hid _ := bd1 f0 f1 1 fl1 false
  have B2 : Hid (0 ≤ setF (setF f 1 false) 1 (decide (al < 6)) ∧ setF (setF f 1 false) 1 (decide (al < 6)) < 4294967296) := bd1 B1.out.1 B1.out.2 1 fl1 (decide (al < 6))
  have B3 : Hid (0 ≤ setF (setF (setF f 1 false) 1 (decide (al < 6))) 16 true ∧ setF (setF (setF f 1 false) 1 (decide (al < 6))) 16 true < 4294967296) := bd1 B2.out.1 B2.out.2 16 fl16 true
  have HF : Hid (setF (setF (setF (setF f 1 false) 1 (decide (al < 6))) 16 true) 1 true = setF (setF f 16 true) 1 (true)) := (by
    rw [over1 f0 f1]; rw [comm16 f0 f1]; exact over1 (bd1 f0 f1 16 fl16 true).1 (bd1 f0 f1 16 fl16 true).2 _ _ : setF (setF (setF (setF f 1 false) 1 (decide (al < 6))) 16 true) 1 true = setF (setF f 16 true) 1 (true))
  have HC : Hid (∀ w : World, Calls Try.prog 36 #[.int .u32 f, .int .u32 1] w fun e w' => e = .returned (.bool true) ∧ w' = w) := fun w => Has_is _ _ _ w f0 f1 fl1 hc
  clear hc
  go_enter Try.func37, Try.ntmps37
  go_wp2_with fail
  refine (HC.out _).mono ?_; rintro e w1 ⟨rfl, hw⟩; replace hw := hw.symm; subst hw
  go_wp2_with fail
  refine (Set_any _ _ _ _ f0 f1 fl1).mono ?_; rintro e w1 ⟨rfl, hw⟩; replace hw := hw.symm; subst hw
  go_wp2_with fail
  refine (Set_any _ _ (decide (al < 6)) _ B1.out.1 B1.out.2 fl1).mono ?_; rintro e w1 ⟨rfl, hw⟩; replace hw := hw.symm; subst hw
  go_wp2_with fail
  refine (Set_any _ _ _ _ B2.out.1 B2.out.2 fl16).mono ?_; rintro e w1 ⟨rfl, hw⟩; replace hw := hw.symm; subst hw
  go_wp2_with fail
  refine (Set_any _ _ _ _ B3.out.1 B3.out.2 fl1).mono ?_; rintro e w1 ⟨rfl, hw⟩; replace hw := hw.symm; subst hw
  go_wp2
  exact bodyPost_ret (v := .tuple #[.int .u64 ((al - 6 - 96) % 256), .int .u32 (setF (setF (setF (setF f 1 false) 1 (decide (al < 6))) 16 true) 1 true)]) (by first | (simp [results, Try.results37, go_sem]; done) | (simp [results, Try.results37, go_sem]; omega)) rfl
    ⟨ret_xf rfl HF.out, rfl⟩

set_option maxHeartbeats 1000000 in
theorem daa_tGBF (al f : Int) (w : World) (a0 : 0 ≤ al) (a1 : al < 256) (f0 : 0 ≤ f) (f1 : f < 4294967296) (hg : 9 < al % 16) (h153 : ¬ 153 < al) (hc : hasF f 1 = false) :
    Calls Try.prog 37 #[.bool true, .int .u64 al, .int .u32 f] w fun e w' => e = .returned (.tuple #[.int .u64 ((al - 6) % 256), .int .u32 (setF (setF f 16 true) 1 (decide (al < 6)))]) ∧ w' = w := by
  have B1 : Hid _ := bd1 f0 f1 1 fl1 false
  have B2 : Hid (0 ≤ setF (setF f 1 false) 1 (decide (al < 6)) ∧ setF (setF f 1 false) 1 (decide (al < 6)) < 4294967296) := bd1 B1.out.1 B1.out.2 1 fl1 (decide (al < 6))
  have B3 : Hid (0 ≤ setF (setF (setF f 1 false) 1 (decide (al < 6))) 16 true ∧ setF (setF (setF f 1 false) 1 (decide (al < 6))) 16 true < 4294967296) := bd1 B2.out.1 B2.out.2 16 fl16 true
  have HF : Hid (setF (setF (setF f 1 false) 1 (decide (al < 6))) 16 true = setF (setF f 16 true) 1 (decide (al < 6))) := (by
    rw [over1 f0 f1]; rw [comm16 f0 f1] : setF (setF (setF f 1 false) 1 (decide (al < 6))) 16 true = setF (setF f 16 true) 1 (decide (al < 6)))
  have HC : Hid (∀ w : World, Calls Try.prog 36 #[.int .u32 f, .int .u32 1] w fun e w' => e = .returned (.bool false) ∧ w' = w) := fun w => Has_is _ _ _ w f0 f1 fl1 hc
  clear hc
  go_enter Try.func37, Try.ntmps37
  go_wp2_with fail
  refine (HC.out _).mono ?_; rintro e w1 ⟨rfl, hw⟩; replace hw := hw.symm; subst hw
  go_wp2_with fail
  refine (Set_any _ _ _ _ f0 f1 fl1).mono ?_; rintro e w1 ⟨rfl, hw⟩; replace hw := hw.symm; subst hw
  go_wp2_with fail
  refine (Set_any _ _ (decide (al < 6)) _ B1.out.1 B1.out.2 fl1).mono ?_; rintro e w1 ⟨rfl, hw⟩; replace hw := hw.symm; subst hw
  go_wp2_with fail
  refine (Set_any _ _ _ _ B2.out.1 B2.out.2 fl16).mono ?_; rintro e w1 ⟨rfl, hw⟩; replace hw := hw.symm; subst hw
  go_wp2
  exact bodyPost_ret (v := .tuple #[.int .u64 ((al - 6) % 256), .int .u32 (setF (setF (setF f 1 false) 1 (decide (al < 6))) 16 true)]) (by first | (simp [results, Try.results37, go_sem]; done) | (simp [results, Try.results37, go_sem]; omega)) rfl
    ⟨ret_xf rfl HF.out, rfl⟩

set_option maxHeartbeats 1000000 in
theorem daa_tNTA (al f : Int) (w : World) (a0 : 0 ≤ al) (a1 : al < 256) (f0 : 0 ≤ f) (f1 : f < 4294967296) (hg : ¬ 9 < al % 16) (hv : hasF f 16 = true) (h153 : 153 < al) :
    Calls Try.prog 37 #[.bool true, .int .u64 al, .int .u32 f] w fun e w' => e = .returned (.tuple #[.int .u64 ((al - 6 - 96) % 256), .int .u32 (setF (setF f 16 true) 1 (true))]) ∧ w' = w := by
  have B1 : Hid _ := bd1 f0 f1 1 fl1 false
  have B2 : Hid (0 ≤ setF (setF f 1 false) 1 (decide (al < 6)) ∧ setF (setF f 1 false) 1 (decide (al < 6)) < 4294967296) := bd1 B1.out.1 B1.out.2 1 fl1 (decide (al < 6))
  have B3 : Hid (0 ≤ setF (setF (setF f 1 false) 1 (decide (al < 6))) 16 true ∧ setF (setF (setF f 1 false) 1 (decide (al < 6))) 16 true < 4294967296) := bd1 B2.out.1 B2.out.2 16 fl16 true
  have HF : Hid (setF (setF (setF (setF f 1 false) 1 (decide (al < 6))) 16 true) 1 true = setF (setF f 16 true) 1 (true)) := (by
    rw [over1 f0 f1]; rw [comm16 f0 f1]; exact over1 (bd1 f0 f1 16 fl16 true).1 (bd1 f0 f1 16 fl16 true).2 _ _ : setF (setF (setF (setF f 1 false) 1 (decide (al < 6))) 16 true) 1 true = setF (setF f 16 true) 1 (true))
  have HV : Hid (∀ w : World, Calls Try.prog 36 #[.int .u32 (setF f 1 false), .int .u32 16] w fun e w' => e = .returned (.bool true) ∧ w' = w) := fun w => Has_is _ _ _ w B1.out.1 B1.out.2 fl16 ((has_over f0 f1 false).trans hv)
  clear hv
  have HC : Hid (∀ w : World, Calls Try.prog 36 #[.int .u32 f, .int .u32 1] w fun e w' => e = .returned (.bool (hasF f 1)) ∧ w' = w) := fun w => Has_any f 1 w f0 f1 fl1
  go_enter Try.func37, Try.ntmps37
  go_wp2_with fail
  refine (HC.out _).mono ?_; rintro e w1 ⟨rfl, hw⟩; replace hw := hw.symm; subst hw
  go_wp2_with fail
  refine (Set_any _ _ _ _ f0 f1 fl1).mono ?_; rintro e w1 ⟨rfl, hw⟩; replace hw := hw.symm; subst hw
  go_wp2_with fail
  refine (HV.out _).mono ?_; rintro e w1 ⟨rfl, hw⟩; replace hw := hw.symm; subst hw
  go_wp2_with fail
  refine (Set_any _ _ (decide (al < 6)) _ B1.out.1 B1.out.2 fl1).mono ?_; rintro e w1 ⟨rfl, hw⟩; replace hw := hw.symm; subst hw
  go_wp2_with fail
  refine (Set_any _ _ _ _ B2.out.1 B2.out.2 fl16).mono ?_; rintro e w1 ⟨rfl, hw⟩; replace hw := hw.symm; subst hw
  go_wp2_with fail
  refine (Set_any _ _ _ _ B3.out.1 B3.out.2 fl1).mono ?_; rintro e w1 ⟨rfl, hw⟩; replace hw := hw.symm; subst hw
  go_wp2
  exact bodyPost_ret (v := .tuple #[.int .u64 ((al - 6 - 96) % 256), .int .u32 (setF (setF (setF (setF f 1 false) 1 (decide (al < 6))) 16 true) 1 true)]) (by first | (simp [results, Try.results37, go_sem]; done) | (simp [results, Try.results37, go_sem]; omega)) rfl
    ⟨ret_xf rfl HF.out, rfl⟩

set_option maxHeartbeats 1000000 in
theorem daa_tNTBT (al f : Int) (w : World) (a0 : 0 ≤ al) (a1 : al < 256) (f0 : 0 ≤ f) (f1 : f < 4294967296) (hg : ¬ 9 < al % 16) (hv : hasF f 16 = true) (h153 : ¬ 153 < al) (hc : hasF f 1 = true) :
    Calls Try.prog 37 #[.bool true, .int .u64 al, .int .u32 f] w fun e w' => e = .returned (.tuple #[.int .u64 ((al - 6 - 96) % 256), .int .u32 (setF (setF f 16 true) 1 (true))]) ∧ w' = w := by
  have B1 : Hid _ := bd1 f0 f1 1 fl1 false
  have B2 : Hid (0 ≤ setF (setF f 1 false) 1 (decide (al < 6)) ∧ setF (setF f 1 false) 1 (decide (al < 6)) < 4294967296) := bd1 B1.out.1 B1.out.2 1 fl1 (decide (al < 6))
  have B3 : Hid (0 ≤ setF (setF (setF f 1 false) 1 (decide (al < 6))) 16 true ∧ setF (setF (setF f 1 false) 1 (decide (al < 6))) 16 true < 4294967296) := bd1 B2.out.1 B2.out.2 16 fl16 true
  have HF : Hid (setF (setF (setF (setF f 1 false) 1 (decide (al < 6))) 16 true) 1 true = setF (setF f 16 true) 1 (true)) := (by
    rw [over1 f0 f1]; rw [comm16 f0 f1]; exact over1 (bd1 f0 f1 16 fl16 true).1 (bd1 f0 f1 16 fl16 true).2 _ _ : setF (setF (setF (setF f 1 false) 1 (decide (al < 6))) 16 true) 1 true = setF (setF f 16 true) 1 (true))
  have HV : Hid (∀ w : World, Calls Try.prog 36 #[.int .u32 (setF f 1 false), .int .u32 16] w fun e w' => e = .returned (.bool true) ∧ w' = w) := fun w => Has_is _ _ _ w B1.out.1 B1.out.2 fl16 ((has_over f0 f1 false).trans hv)
  clear hv
  have HC : Hid (∀ w : World, Calls Try.prog 36 #[.int .u32 f, .int .u32 1] w fun e w' => e = .returned (.bool true) ∧ w' = w) := fun w => Has_is _ _ _ w f0 f1 fl1 hc
  clear hc
  go_enter Try.func37, Try.ntmps37
  go_wp2_with fail
  refine (HC.out _).mono ?_; rintro e w1 ⟨rfl, hw⟩; replace hw := hw.symm; subst hw
  go_wp2_with fail
  refine (Set_any _ _ _ _ f0 f1 fl1).mono ?_; rintro e w1 ⟨rfl, hw⟩; replace hw := hw.symm; subst hw
  go_wp2_with fail
  refine (HV.out _).mono ?_; rintro e w1 ⟨rfl, hw⟩; replace hw := hw.symm; subst hw
  go_wp2_with fail
  refine (Set_any _ _ (decide (al < 6)) _ B1.out.1 B1.out.2 fl1).mono ?_; rintro e w1 ⟨rfl, hw⟩; replace hw := hw.symm; subst hw
  go_wp2_with fail
  refine (Set_any _ _ _ _ B2.out.1 B2.out.2 fl16).mono ?_; rintro e w1 ⟨rfl, hw⟩; replace hw := hw.symm; subst hw
  go_wp2_with fail
  refine (Set_any _ _ _ _ B3.out.1 B3.out.2 fl1).mono ?_; rintro e w1 ⟨rfl, hw⟩; replace hw := hw.symm; subst hw
  go_wp2
  exact bodyPost_ret (v := .tuple #[.int .u64 ((al - 6 - 96) % 256), .int .u32 (setF (setF (setF (setF f 1 false) 1 (decide (al < 6))) 16 true) 1 true)]) (by first | (simp [results, Try.results37, go_sem]; done) | (simp [results, Try.results37, go_sem]; omega)) rfl
    ⟨ret_xf rfl HF.out, rfl⟩

set_option maxHeartbeats 1000000 in
theorem daa_tNTBF (al f : Int) (w : World) (a0 : 0 ≤ al) (a1 : al < 256) (f0 : 0 ≤ f) (f1 : f < 4294967296) (hg : ¬ 9 < al % 16) (hv : hasF f 16 = true) (h153 : ¬ 153 < al) (hc : hasF f 1 = false) :
    Calls Try.prog 37 #[.bool true, .int .u64 al, .int .u32 f] w fun e w' => e = .returned (.tuple #[.int .u64 ((al - 6) % 256), .int .u32 (setF (setF f 16 true) 1 (decide (al < 6)))]) ∧ w' = w := by
  have B1 : Hid _ := bd1 f0 f1 1 fl1 false
  have B2 : Hid (0 ≤ setF (setF f 1 false) 1 (decide (al < 6)) ∧ setF (setF f 1 false) 1 (decide (al < 6)) < 4294967296) := bd1 B1.out.1 B1.out.2 1 fl1 (decide (al < 6))
  have B3 : Hid (0 ≤ setF (setF (setF f 1 false) 1 (decide (al < 6))) 16 true ∧ setF (setF (setF f 1 false) 1 (decide (al < 6))) 16 true < 4294967296) := bd1 B2.out.1 B2.out.2 16 fl16 true
  have HF : Hid (setF (setF (setF f 1 false) 1 (decide (al < 6))) 16 true = setF (setF f 16 true) 1 (decide (al < 6))) := (by
    rw [over1 f0 f1]; rw [comm16 f0 f1] : setF (setF (setF f 1 false) 1 (decide (al < 6))) 16 true = setF (setF f 16 true) 1 (decide (al < 6)))
  have HV : Hid (∀ w : World, Calls Try.prog 36 #[.int .u32 (setF f 1 false), .int .u32 16] w fun e w' => e = .returned (.bool true) ∧ w' = w) := fun w => Has_is _ _ _ w B1.out.1 B1.out.2 fl16 ((has_over f0 f1 false).trans hv)
  clear hv
  have HC : Hid (∀ w : World, Calls Try.prog 36 #[.int .u32 f, .int .u32 1] w fun e w' => e = .returned (.bool false) ∧ w' = w) := fun w => Has_is _ _ _ w f0 f1 fl1 hc
  clear hc
  go_enter Try.func37, Try.ntmps37
  go_wp2_with fail
  refine (HC.out _).mono ?_; rintro e w1 ⟨rfl, hw⟩; replace hw := hw.symm; subst hw
  go_wp2_with fail
  refine (Set_any _ _ _ _ f0 f1 fl1).mono ?_; rintro e w1 ⟨rfl, hw⟩; replace hw := hw.symm; subst hw
  go_wp2_with fail
  refine (HV.out _).mono ?_; rintro e w1 ⟨rfl, hw⟩; replace hw := hw.symm; subst hw
  go_wp2_with fail
  refine (Set_any _ _ (decide (al < 6)) _ B1.out.1 B1.out.2 fl1).mono ?_; rintro e w1 ⟨rfl, hw⟩; replace hw := hw.symm; subst hw
  go_wp2_with fail
  refine (Set_any _ _ _ _ B2.out.1 B2.out.2 fl16).mono ?_; rintro e w1 ⟨rfl, hw⟩; replace hw := hw.symm; subst hw
  go_wp2
  exact bodyPost_ret (v := .tuple #[.int .u64 ((al - 6) % 256), .int .u32 (setF (setF (setF f 1 false) 1 (decide (al < 6))) 16 true)]) (by first | (simp [results, Try.results37, go_sem]; done) | (simp [results, Try.results37, go_sem]; omega)) rfl
    ⟨ret_xf rfl HF.out, rfl⟩

set_option maxHeartbeats 1000000 in
theorem daa_tNFA (al f : Int) (w : World) (a0 : 0 ≤ al) (a1 : al < 256) (f0 : 0 ≤ f) (f1 : f < 4294967296) (hg : ¬ 9 < al % 16) (hv : hasF f 16 = false) (h153 : 153 < al) :
    Calls Try.prog 37 #[.bool true, .int .u64 al, .int .u32 f] w fun e w' => e = .returned (.tuple #[.int .u64 ((al - 96) % 256), .int .u32 (setF (setF f 16 false) 1 (true))]) ∧ w' = w := by
  have B1 : Hid _ := bd1 f0 f1 1 fl1 false
  have B2 : Hid (0 ≤ setF f 1 false ∧ setF f 1 false < 4294967296) := B1
  have B3 : Hid (0 ≤ setF (setF f 1 false) 16 false ∧ setF (setF f 1 false) 16 false < 4294967296) := bd1 B2.out.1 B2.out.2 16 fl16 false
  have HF : Hid (setF (setF (setF f 1 false) 16 false) 1 true = setF (setF f 16 false) 1 (true)) := (by
    rw [comm16 f0 f1]; exact over1 (bd1 f0 f1 16 fl16 false).1 (bd1 f0 f1 16 fl16 false).2 _ _ : setF (setF (setF f 1 false) 16 false) 1 true = setF (setF f 16 false) 1 (true))
  have HV : Hid (∀ w : World, Calls Try.prog 36 #[.int .u32 (setF f 1 false), .int .u32 16] w fun e w' => e = .returned (.bool false) ∧ w' = w) := fun w => Has_is _ _ _ w B1.out.1 B1.out.2 fl16 ((has_over f0 f1 false).trans hv)
  clear hv
  have HC : Hid (∀ w : World, Calls Try.prog 36 #[.int .u32 f, .int .u32 1] w fun e w' => e = .returned (.bool (hasF f 1)) ∧ w' = w) := fun w => Has_any f 1 w f0 f1 fl1
  go_enter Try.func37, Try.ntmps37
  go_wp2_with fail
  refine (HC.out _).mono ?_; rintro e w1 ⟨rfl, hw⟩; replace hw := hw.symm; subst hw
  go_wp2_with fail
  refine (Set_any _ _ _ _ f0 f1 fl1).mono ?_; rintro e w1 ⟨rfl, hw⟩; replace hw := hw.symm; subst hw
  go_wp2_with fail
  refine (HV.out _).mono ?_; rintro e w1 ⟨rfl, hw⟩; replace hw := hw.symm; subst hw
  go_wp2_with fail
  refine (Set_any _ _ _ _ B2.out.1 B2.out.2 fl16).mono ?_; rintro e w1 ⟨rfl, hw⟩; replace hw := hw.symm; subst hw
  go_wp2_with fail
  refine (Set_any _ _ _ _ B3.out.1 B3.out.2 fl1).mono ?_; rintro e w1 ⟨rfl, hw⟩; replace hw := hw.symm; subst hw
  go_wp2
  exact bodyPost_ret (v := .tuple #[.int .u64 ((al - 96) % 256), .int .u32 (setF (setF (setF f 1 false) 16 false) 1 true)]) (by first | (simp [results, Try.results37, go_sem]; done) | (simp [results, Try.results37, go_sem]; omega)) rfl
    ⟨ret_xf rfl HF.out, rfl⟩

set_option maxHeartbeats 1000000 in
theorem daa_tNFBT (al f : Int) (w : World) (a0 : 0 ≤ al) (a1 : al < 256) (f0 : 0 ≤ f) (f1 : f < 4294967296) (hg : ¬ 9 < al % 16) (hv : hasF f 16 = false) (h153 : ¬ 153 < al) (hc : hasF f 1 = true) :
    Calls Try.prog 37 #[.bool true, .int .u64 al, .int .u32 f] w fun e w' => e = .returned (.tuple #[.int .u64 ((al - 96) % 256), .int .u32 (setF (setF f 16 false) 1 (true))]) ∧ w' = w := by
  have B1 : Hid _ := bd1 f0 f1 1 fl1 false
  have B2 : Hid (0 ≤ setF f 1 false ∧ setF f 1 false < 4294967296) := B1
  have B3 : Hid (0 ≤ setF (setF f 1 false) 16 false ∧ setF (setF f 1 false) 16 false < 4294967296) := bd1 B2.out.1 B2.out.2 16 fl16 false
  have HF : Hid (setF (setF (setF f 1 false) 16 false) 1 true = setF (setF f 16 false) 1 (true)) := (by
    rw [comm16 f0 f1]; exact over1 (bd1 f0 f1 16 fl16 false).1 (bd1 f0 f1 16 fl16 false).2 _ _ : setF (setF (setF f 1 false) 16 false) 1 true = setF (setF f 16 false) 1 (true))
  have HV : Hid (∀ w : World, Calls Try.prog 36 #[.int .u32 (setF f 1 false), .int .u32 16] w fun e w' => e = .returned (.bool false) ∧ w' = w) := fun w => Has_is _ _ _ w B1.out.1 B1.out.2 fl16 ((has_over f0 f1 false).trans hv)
  clear hv
  have HC : Hid (∀ w : World, Calls Try.prog 36 #[.int .u32 f, .int .u32 1] w fun e w' => e = .returned (.bool true) ∧ w' = w) := fun w => Has_is _ _ _ w f0 f1 fl1 hc
  clear hc
  go_enter Try.func37, Try.ntmps37
  go_wp2_with fail
  refine (HC.out _).mono ?_; rintro e w1 ⟨rfl, hw⟩; replace hw := hw.symm; subst hw
  go_wp2_with fail
  refine (Set_any _ _ _ _ f0 f1 fl1).mono ?_; rintro e w1 ⟨rfl, hw⟩; replace hw := hw.symm; subst hw
  go_wp2_with fail
  refine (HV.out _).mono ?_; rintro e w1 ⟨rfl, hw⟩; replace hw := hw.symm; subst hw
  go_wp2_with fail
  refine (Set_any _ _ _ _ B2.out.1 B2.out.2 fl16).mono ?_; rintro e w1 ⟨rfl, hw⟩; replace hw := hw.symm; subst hw
  go_wp2_with fail
  refine (Set_any _ _ _ _ B3.out.1 B3.out.2 fl1).mono ?_; rintro e w1 ⟨rfl, hw⟩; replace hw := hw.symm; subst hw
  go_wp2
  exact bodyPost_ret (v := .tuple #[.int .u64 ((al - 96) % 256), .int .u32 (setF (setF (setF f 1 false) 16 false) 1 true)]) (by first | (simp [results, Try.results37, go_sem]; done) | (simp [results, Try.results37, go_sem]; omega)) rfl
    ⟨ret_xf rfl HF.out, rfl⟩

set_option maxHeartbeats 1000000 in
theorem daa_tNFBF (al f : Int) (w : World) (a0 : 0 ≤ al) (a1 : al < 256) (f0 : 0 ≤ f) (f1 : f < 4294967296) (hg : ¬ 9 < al % 16) (hv : hasF f 16 = false) (h153 : ¬ 153 < al) (hc : hasF f 1 = false) :
    Calls Try.prog 37 #[.bool true, .int .u64 al, .int .u32 f] w fun e w' => e = .returned (.tuple #[.int .u64 (al), .int .u32 (setF (setF f 16 false) 1 (false))]) ∧ w' = w := by
  have B1 : Hid _ := bd1 f0 f1 1 fl1 false
  have B2 : Hid (0 ≤ setF f 1 false ∧ setF f 1 false < 4294967296) := B1
  have B3 : Hid (0 ≤ setF (setF f 1 false) 16 false ∧ setF (setF f 1 false) 16 false < 4294967296) := bd1 B2.out.1 B2.out.2 16 fl16 false
  have HF : Hid (setF (setF f 1 false) 16 false = setF (setF f 16 false) 1 (false)) := (by
    rw [comm16 f0 f1] : setF (setF f 1 false) 16 false = setF (setF f 16 false) 1 (false))
  have HV : Hid (∀ w : World, Calls Try.prog 36 #[.int .u32 (setF f 1 false), .int .u32 16] w fun e w' => e = .returned (.bool false) ∧ w' = w) := fun w => Has_is _ _ _ w B1.out.1 B1.out.2 fl16 ((has_over f0 f1 false).trans hv)
  clear hv
  have HC : Hid (∀ w : World, Calls Try.prog 36 #[.int .u32 f, .int .u32 1] w fun e w' => e = .returned (.bool false) ∧ w' = w) := fun w => Has_is _ _ _ w f0 f1 fl1 hc
  clear hc
  go_enter Try.func37, Try.ntmps37
  go_wp2_with fail
  refine (HC.out _).mono ?_; rintro e w1 ⟨rfl, hw⟩; replace hw := hw.symm; subst hw
  go_wp2_with fail
  refine (Set_any _ _ _ _ f0 f1 fl1).mono ?_; rintro e w1 ⟨rfl, hw⟩; replace hw := hw.symm; subst hw
  go_wp2_with fail
  refine (HV.out _).mono ?_; rintro e w1 ⟨rfl, hw⟩; replace hw := hw.symm; subst hw
  go_wp2_with fail
  refine (Set_any _ _ _ _ B2.out.1 B2.out.2 fl16).mono ?_; rintro e w1 ⟨rfl, hw⟩; replace hw := hw.symm; subst hw
  go_wp2
  exact bodyPost_ret (v := .tuple #[.int .u64 (al), .int .u32 (setF (setF f 1 false) 16 false)]) (by first | (simp [results, Try.results37, go_sem]; done) | (simp [results, Try.results37, go_sem]; omega)) rfl
    ⟨ret_xf rfl HF.out, rfl⟩

end Go.Proofs.Ytecfkgnffhiemaa
