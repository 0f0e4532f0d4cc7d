/- The contract of the document's answer drawloomref04.Extend: for every input within its kinds it returns what is named, and the world stays. -/
import Derived.Test.YtelclgelooljlaaRefOne
import Derived.Test.YtelclgelooljlaaBitBit
namespace Go.Proofs.Ytelclgelooljlaa
open Go.ChangeShapes Go.WideShapes Go.ChangeAt Go.RowKit
set_option linter.unusedVariables false

theorem rExt_size (sg : Bool) (s t a : Int) (w : World) (hk : okSize s = false) :
    Calls Try.prog 17 #[.bool sg, .int .i64 s, .int .i64 t, .int .u32 a] w fun e w' => e = .returned (.tuple #[.int .u32 0, .int .i64 2]) ∧ w' = w := by
  rcases two_ways (okSize t) with ht | ht
  · obtain ⟨H, M, sp, bt, hT⟩ := Sz_of ht
    go_enter Try.func17, Try.ntmps17
    go_wp2_with fail
    refine (Bits_no _ _ hk).mono ?_; rintro e w1 ⟨rfl, hw⟩; replace hw := hw.symm; subst hw
    go_wp2_with fail
    refine (Bits_ok hT _).mono ?_; rintro e w1 ⟨rfl, hw⟩; replace hw := hw.symm; subst hw
    go_wp2
    go_ret2
    exact ⟨rfl, rfl⟩
  · go_enter Try.func17, Try.ntmps17
    go_wp2_with fail
    refine (Bits_no _ _ hk).mono ?_; rintro e w1 ⟨rfl, hw⟩; replace hw := hw.symm; subst hw
    go_wp2_with fail
    refine (Bits_no _ _ ht).mono ?_; rintro e w1 ⟨rfl, hw⟩; replace hw := hw.symm; subst hw
    go_wp2
    go_ret2
    exact ⟨rfl, rfl⟩

theorem Sz.bt {s H M sp bt : Int} (hS : Sz s H M sp bt) : (bt == 0) = false := by
  rcases hS with ⟨rfl, rfl, rfl, rfl, rfl⟩ | ⟨rfl, rfl, rfl, rfl, rfl⟩ | ⟨rfl, rfl, rfl, rfl, rfl⟩ <;> rfl

theorem rExt_to (sg : Bool) (s t a : Int) (w : World) (hk : okSize s = true) (ht : okSize t = false) :
    Calls Try.prog 17 #[.bool sg, .int .i64 s, .int .i64 t, .int .u32 a] w fun e w' => e = .returned (.tuple #[.int .u32 0, .int .i64 2]) ∧ w' = w := by
  obtain ⟨H, M, sp, bt, hS⟩ := Sz_of hk
  have hb := hS.bt
  go_enter Try.func17, Try.ntmps17
  go_wp2_with fail
  refine (Bits_ok hS _).mono ?_; rintro e w1 ⟨rfl, hw⟩; replace hw := hw.symm; subst hw
  go_wp2_with fail
  refine (Bits_no _ _ ht).mono ?_; rintro e w1 ⟨rfl, hw⟩; replace hw := hw.symm; subst hw
  go_wp2
  go_ret2
  exact ⟨rfl, rfl⟩

theorem rExt_less (sg : Bool) (s t a : Int) (w : World) (hk : okSize s = true) (ht : okSize t = true) (hl : t < s) :
    Calls Try.prog 17 #[.bool sg, .int .i64 s, .int .i64 t, .int .u32 a] w fun e w' => e = .returned (.tuple #[.int .u32 0, .int .i64 2]) ∧ w' = w := by
  have g1 : decide (t < s) = true := by simpa using hl
  obtain ⟨H, M, sp, bt, hS⟩ := Sz_of hk
  obtain ⟨G, N, sq, bu, hT⟩ := Sz_of ht
  have hb := hS.bt
  have hu := hT.bt
  go_enter Try.func17, Try.ntmps17
  go_wp2_with fail
  refine (Bits_ok hS _).mono ?_; rintro e w1 ⟨rfl, hw⟩; replace hw := hw.symm; subst hw
  go_wp2_with fail
  refine (Bits_ok hT _).mono ?_; rintro e w1 ⟨rfl, hw⟩; replace hw := hw.symm; subst hw
  go_wp2
  go_ret2
  exact ⟨rfl, rfl⟩

theorem rExt_no (sg : Bool) (s t a : Int) (w : World) (h : okSize s = false ∨ okSize t = false ∨ t < s) :
    Calls Try.prog 17 #[.bool sg, .int .i64 s, .int .i64 t, .int .u32 a] w fun e w' => e = .returned (.tuple #[.int .u32 0, .int .i64 2]) ∧ w' = w := by
  rcases two_ways (okSize s) with hs | hs
  · rcases two_ways (okSize t) with ht | ht
    · rcases h with h | h | h
      · rw [h] at hs; cases hs
      · rw [h] at ht; cases ht
      · exact rExt_less sg s t a w hs ht h
    · exact rExt_to sg s t a w hs ht
  · exact rExt_size sg s t a w hs

theorem rExt_1_1 (sg : Bool) (a : Int) (w : World) (a0 : 0 ≤ a) (a1 : a < 4294967296) :
    Calls Try.prog 17 #[.bool sg, .int .i64 1, .int .i64 1, .int .u32 a] w fun e w' => e = .returned (.tuple #[.int .u32 (extR sg 256 256 128 (a % 256)), .int .i64 0]) ∧ w' = w := by
  have x0 : 0 ≤ a % 256 := by omega
  have x1 : a % 256 < 256 := by omega
  have wa : IntKind.u64.wrap a = a := by rw [wrap_u64']; omega
  have hq := fun w => Cut_any sz1 a w a0 (by omega)
  have hg := fun w => Sign_any sz1 (a % 256) w x0 x1
  have hb : sgn 128 (a % 256) = true → 128 ≤ a % 256 := fun h => by simpa [sgn] using h
  revert hq x0 x1 hg hb
  generalize a % 256 = x
  intro x0 x1 hq hg hb
  cases sg
  · go_enter Try.func17, Try.ntmps17
    go_wp2_with fail
    refine (Bits_ok sz1 _).mono ?_; rintro e w1 ⟨rfl, hw⟩; replace hw := hw.symm; subst hw
    go_wp2_with fail
    refine (Bits_ok sz1 _).mono ?_; rintro e w1 ⟨rfl, hw⟩; replace hw := hw.symm; subst hw
    go_wp2_with fail
    refine (hq _).mono ?_; rintro e w1 ⟨rfl, hw⟩; replace hw := hw.symm; subst hw
    go_wp2
    go_ret2
    exact ⟨rfl, rfl⟩
  · rcases two_ways (sgn 128 x) with hs | hs
    · have HB : Hid _ := hb hs
      have HE : Hid (extR true 256 256 128 x = x + 256 - 256) := (by unfold extR; rw [hs]; rfl : extR true 256 256 128 x = x + 256 - 256)
      clear hb
      go_enter Try.func17, Try.ntmps17
      go_wp2_with fail
      refine (Bits_ok sz1 _).mono ?_; rintro e w1 ⟨rfl, hw⟩; replace hw := hw.symm; subst hw
      go_wp2_with fail
      refine (Bits_ok sz1 _).mono ?_; rintro e w1 ⟨rfl, hw⟩; replace hw := hw.symm; subst hw
      go_wp2_with fail
      refine (hq _).mono ?_; rintro e w1 ⟨rfl, hw⟩; replace hw := hw.symm; subst hw
      go_wp2_with fail
      refine (hg _).mono ?_; rintro e w1 ⟨rfl, hw⟩; replace hw := hw.symm; subst hw
      go_wp2
      go_ret2
      exact ⟨ret_two (by have h := HE.out; omega) rfl, rfl⟩
    · have HE : Hid (extR true 256 256 128 x = x) := (by unfold extR; rw [hs]; rfl : extR true 256 256 128 x = x)
      clear hb
      go_enter Try.func17, Try.ntmps17
      go_wp2_with fail
      refine (Bits_ok sz1 _).mono ?_; rintro e w1 ⟨rfl, hw⟩; replace hw := hw.symm; subst hw
      go_wp2_with fail
      refine (Bits_ok sz1 _).mono ?_; rintro e w1 ⟨rfl, hw⟩; replace hw := hw.symm; subst hw
      go_wp2_with fail
      refine (hq _).mono ?_; rintro e w1 ⟨rfl, hw⟩; replace hw := hw.symm; subst hw
      go_wp2_with fail
      refine (hg _).mono ?_; rintro e w1 ⟨rfl, hw⟩; replace hw := hw.symm; subst hw
      go_wp2
      go_ret2
      exact ⟨ret_two (by rw [HE.out]) rfl, rfl⟩

theorem rExt_1_2 (sg : Bool) (a : Int) (w : World) (a0 : 0 ≤ a) (a1 : a < 4294967296) :
    Calls Try.prog 17 #[.bool sg, .int .i64 1, .int .i64 2, .int .u32 a] w fun e w' => e = .returned (.tuple #[.int .u32 (extR sg 256 65536 128 (a % 256)), .int .i64 0]) ∧ w' = w := by
  have x0 : 0 ≤ a % 256 := by omega
  have x1 : a % 256 < 256 := by omega
  have wa : IntKind.u64.wrap a = a := by rw [wrap_u64']; omega
  have hq := fun w => Cut_any sz1 a w a0 (by omega)
  have hg := fun w => Sign_any sz1 (a % 256) w x0 x1
  have hb : sgn 128 (a % 256) = true → 128 ≤ a % 256 := fun h => by simpa [sgn] using h
  revert hq x0 x1 hg hb
  generalize a % 256 = x
  intro x0 x1 hq hg hb
  cases sg
  · go_enter Try.func17, Try.ntmps17
    go_wp2_with fail
    refine (Bits_ok sz1 _).mono ?_; rintro e w1 ⟨rfl, hw⟩; replace hw := hw.symm; subst hw
    go_wp2_with fail
    refine (Bits_ok sz2 _).mono ?_; rintro e w1 ⟨rfl, hw⟩; replace hw := hw.symm; subst hw
    go_wp2_with fail
    refine (hq _).mono ?_; rintro e w1 ⟨rfl, hw⟩; replace hw := hw.symm; subst hw
    go_wp2
    go_ret2
    exact ⟨rfl, rfl⟩
  · rcases two_ways (sgn 128 x) with hs | hs
    · have HB : Hid _ := hb hs
      have HE : Hid (extR true 256 65536 128 x = x + 65536 - 256) := (by unfold extR; rw [hs]; rfl : extR true 256 65536 128 x = x + 65536 - 256)
      clear hb
      go_enter Try.func17, Try.ntmps17
      go_wp2_with fail
      refine (Bits_ok sz1 _).mono ?_; rintro e w1 ⟨rfl, hw⟩; replace hw := hw.symm; subst hw
      go_wp2_with fail
      refine (Bits_ok sz2 _).mono ?_; rintro e w1 ⟨rfl, hw⟩; replace hw := hw.symm; subst hw
      go_wp2_with fail
      refine (hq _).mono ?_; rintro e w1 ⟨rfl, hw⟩; replace hw := hw.symm; subst hw
      go_wp2_with fail
      refine (hg _).mono ?_; rintro e w1 ⟨rfl, hw⟩; replace hw := hw.symm; subst hw
      go_wp2
      go_ret2
      exact ⟨ret_two (by have h := HE.out; omega) rfl, rfl⟩
    · have HE : Hid (extR true 256 65536 128 x = x) := (by unfold extR; rw [hs]; rfl : extR true 256 65536 128 x = x)
      clear hb
      go_enter Try.func17, Try.ntmps17
      go_wp2_with fail
      refine (Bits_ok sz1 _).mono ?_; rintro e w1 ⟨rfl, hw⟩; replace hw := hw.symm; subst hw
      go_wp2_with fail
      refine (Bits_ok sz2 _).mono ?_; rintro e w1 ⟨rfl, hw⟩; replace hw := hw.symm; subst hw
      go_wp2_with fail
      refine (hq _).mono ?_; rintro e w1 ⟨rfl, hw⟩; replace hw := hw.symm; subst hw
      go_wp2_with fail
      refine (hg _).mono ?_; rintro e w1 ⟨rfl, hw⟩; replace hw := hw.symm; subst hw
      go_wp2
      go_ret2
      exact ⟨ret_two (by rw [HE.out]) rfl, rfl⟩

theorem rExt_1_4 (sg : Bool) (a : Int) (w : World) (a0 : 0 ≤ a) (a1 : a < 4294967296) :
    Calls Try.prog 17 #[.bool sg, .int .i64 1, .int .i64 4, .int .u32 a] w fun e w' => e = .returned (.tuple #[.int .u32 (extR sg 256 4294967296 128 (a % 256)), .int .i64 0]) ∧ w' = w := by
  have x0 : 0 ≤ a % 256 := by omega
  have x1 : a % 256 < 256 := by omega
  have wa : IntKind.u64.wrap a = a := by rw [wrap_u64']; omega
  have hq := fun w => Cut_any sz1 a w a0 (by omega)
  have hg := fun w => Sign_any sz1 (a % 256) w x0 x1
  have hb : sgn 128 (a % 256) = true → 128 ≤ a % 256 := fun h => by simpa [sgn] using h
  revert hq x0 x1 hg hb
  generalize a % 256 = x
  intro x0 x1 hq hg hb
  cases sg
  · go_enter Try.func17, Try.ntmps17
    go_wp2_with fail
    refine (Bits_ok sz1 _).mono ?_; rintro e w1 ⟨rfl, hw⟩; replace hw := hw.symm; subst hw
    go_wp2_with fail
    refine (Bits_ok sz4 _).mono ?_; rintro e w1 ⟨rfl, hw⟩; replace hw := hw.symm; subst hw
    go_wp2_with fail
    refine (hq _).mono ?_; rintro e w1 ⟨rfl, hw⟩; replace hw := hw.symm; subst hw
    go_wp2
    go_ret2
    exact ⟨rfl, rfl⟩
  · rcases two_ways (sgn 128 x) with hs | hs
    · have HB : Hid _ := hb hs
      have HE : Hid (extR true 256 4294967296 128 x = x + 4294967296 - 256) := (by unfold extR; rw [hs]; rfl : extR true 256 4294967296 128 x = x + 4294967296 - 256)
      clear hb
      go_enter Try.func17, Try.ntmps17
      go_wp2_with fail
      refine (Bits_ok sz1 _).mono ?_; rintro e w1 ⟨rfl, hw⟩; replace hw := hw.symm; subst hw
      go_wp2_with fail
      refine (Bits_ok sz4 _).mono ?_; rintro e w1 ⟨rfl, hw⟩; replace hw := hw.symm; subst hw
      go_wp2_with fail
      refine (hq _).mono ?_; rintro e w1 ⟨rfl, hw⟩; replace hw := hw.symm; subst hw
      go_wp2_with fail
      refine (hg _).mono ?_; rintro e w1 ⟨rfl, hw⟩; replace hw := hw.symm; subst hw
      go_wp2
      go_ret2
      exact ⟨ret_two (by have h := HE.out; omega) rfl, rfl⟩
    · have HE : Hid (extR true 256 4294967296 128 x = x) := (by unfold extR; rw [hs]; rfl : extR true 256 4294967296 128 x = x)
      clear hb
      go_enter Try.func17, Try.ntmps17
      go_wp2_with fail
      refine (Bits_ok sz1 _).mono ?_; rintro e w1 ⟨rfl, hw⟩; replace hw := hw.symm; subst hw
      go_wp2_with fail
      refine (Bits_ok sz4 _).mono ?_; rintro e w1 ⟨rfl, hw⟩; replace hw := hw.symm; subst hw
      go_wp2_with fail
      refine (hq _).mono ?_; rintro e w1 ⟨rfl, hw⟩; replace hw := hw.symm; subst hw
      go_wp2_with fail
      refine (hg _).mono ?_; rintro e w1 ⟨rfl, hw⟩; replace hw := hw.symm; subst hw
      go_wp2
      go_ret2
      exact ⟨ret_two (by rw [HE.out]) rfl, rfl⟩

theorem rExt_2_2 (sg : Bool) (a : Int) (w : World) (a0 : 0 ≤ a) (a1 : a < 4294967296) :
    Calls Try.prog 17 #[.bool sg, .int .i64 2, .int .i64 2, .int .u32 a] w fun e w' => e = .returned (.tuple #[.int .u32 (extR sg 65536 65536 32768 (a % 65536)), .int .i64 0]) ∧ w' = w := by
  have x0 : 0 ≤ a % 65536 := by omega
  have x1 : a % 65536 < 65536 := by omega
  have wa : IntKind.u64.wrap a = a := by rw [wrap_u64']; omega
  have hq := fun w => Cut_any sz2 a w a0 (by omega)
  have hg := fun w => Sign_any sz2 (a % 65536) w x0 x1
  have hb : sgn 32768 (a % 65536) = true → 32768 ≤ a % 65536 := fun h => by simpa [sgn] using h
  revert hq x0 x1 hg hb
  generalize a % 65536 = x
  intro x0 x1 hq hg hb
  cases sg
  · go_enter Try.func17, Try.ntmps17
    go_wp2_with fail
    refine (Bits_ok sz2 _).mono ?_; rintro e w1 ⟨rfl, hw⟩; replace hw := hw.symm; subst hw
    go_wp2_with fail
    refine (Bits_ok sz2 _).mono ?_; rintro e w1 ⟨rfl, hw⟩; replace hw := hw.symm; subst hw
    go_wp2_with fail
    refine (hq _).mono ?_; rintro e w1 ⟨rfl, hw⟩; replace hw := hw.symm; subst hw
    go_wp2
    go_ret2
    exact ⟨rfl, rfl⟩
  · rcases two_ways (sgn 32768 x) with hs | hs
    · have HB : Hid _ := hb hs
      have HE : Hid (extR true 65536 65536 32768 x = x + 65536 - 65536) := (by unfold extR; rw [hs]; rfl : extR true 65536 65536 32768 x = x + 65536 - 65536)
      clear hb
      go_enter Try.func17, Try.ntmps17
      go_wp2_with fail
      refine (Bits_ok sz2 _).mono ?_; rintro e w1 ⟨rfl, hw⟩; replace hw := hw.symm; subst hw
      go_wp2_with fail
      refine (Bits_ok sz2 _).mono ?_; rintro e w1 ⟨rfl, hw⟩; replace hw := hw.symm; subst hw
      go_wp2_with fail
      refine (hq _).mono ?_; rintro e w1 ⟨rfl, hw⟩; replace hw := hw.symm; subst hw
      go_wp2_with fail
      refine (hg _).mono ?_; rintro e w1 ⟨rfl, hw⟩; replace hw := hw.symm; subst hw
      go_wp2
      go_ret2
      exact ⟨ret_two (by have h := HE.out; omega) rfl, rfl⟩
    · have HE : Hid (extR true 65536 65536 32768 x = x) := (by unfold extR; rw [hs]; rfl : extR true 65536 65536 32768 x = x)
      clear hb
      go_enter Try.func17, Try.ntmps17
      go_wp2_with fail
      refine (Bits_ok sz2 _).mono ?_; rintro e w1 ⟨rfl, hw⟩; replace hw := hw.symm; subst hw
      go_wp2_with fail
      refine (Bits_ok sz2 _).mono ?_; rintro e w1 ⟨rfl, hw⟩; replace hw := hw.symm; subst hw
      go_wp2_with fail
      refine (hq _).mono ?_; rintro e w1 ⟨rfl, hw⟩; replace hw := hw.symm; subst hw
      go_wp2_with fail
      refine (hg _).mono ?_; rintro e w1 ⟨rfl, hw⟩; replace hw := hw.symm; subst hw
      go_wp2
      go_ret2
      exact ⟨ret_two (by rw [HE.out]) rfl, rfl⟩

theorem rExt_2_4 (sg : Bool) (a : Int) (w : World) (a0 : 0 ≤ a) (a1 : a < 4294967296) :
    Calls Try.prog 17 #[.bool sg, .int .i64 2, .int .i64 4, .int .u32 a] w fun e w' => e = .returned (.tuple #[.int .u32 (extR sg 65536 4294967296 32768 (a % 65536)), .int .i64 0]) ∧ w' = w := by
  have x0 : 0 ≤ a % 65536 := by omega
  have x1 : a % 65536 < 65536 := by omega
  have wa : IntKind.u64.wrap a = a := by rw [wrap_u64']; omega
  have hq := fun w => Cut_any sz2 a w a0 (by omega)
  have hg := fun w => Sign_any sz2 (a % 65536) w x0 x1
  have hb : sgn 32768 (a % 65536) = true → 32768 ≤ a % 65536 := fun h => by simpa [sgn] using h
  revert hq x0 x1 hg hb
  generalize a % 65536 = x
  intro x0 x1 hq hg hb
  cases sg
  · go_enter Try.func17, Try.ntmps17
    go_wp2_with fail
    refine (Bits_ok sz2 _).mono ?_; rintro e w1 ⟨rfl, hw⟩; replace hw := hw.symm; subst hw
    go_wp2_with fail
    refine (Bits_ok sz4 _).mono ?_; rintro e w1 ⟨rfl, hw⟩; replace hw := hw.symm; subst hw
    go_wp2_with fail
    refine (hq _).mono ?_; rintro e w1 ⟨rfl, hw⟩; replace hw := hw.symm; subst hw
    go_wp2
    go_ret2
    exact ⟨rfl, rfl⟩
  · rcases two_ways (sgn 32768 x) with hs | hs
    · have HB : Hid _ := hb hs
      have HE : Hid (extR true 65536 4294967296 32768 x = x + 4294967296 - 65536) := (by unfold extR; rw [hs]; rfl : extR true 65536 4294967296 32768 x = x + 4294967296 - 65536)
      clear hb
      go_enter Try.func17, Try.ntmps17
      go_wp2_with fail
      refine (Bits_ok sz2 _).mono ?_; rintro e w1 ⟨rfl, hw⟩; replace hw := hw.symm; subst hw
      go_wp2_with fail
      refine (Bits_ok sz4 _).mono ?_; rintro e w1 ⟨rfl, hw⟩; replace hw := hw.symm; subst hw
      go_wp2_with fail
      refine (hq _).mono ?_; rintro e w1 ⟨rfl, hw⟩; replace hw := hw.symm; subst hw
      go_wp2_with fail
      refine (hg _).mono ?_; rintro e w1 ⟨rfl, hw⟩; replace hw := hw.symm; subst hw
      go_wp2
      go_ret2
      exact ⟨ret_two (by have h := HE.out; omega) rfl, rfl⟩
    · have HE : Hid (extR true 65536 4294967296 32768 x = x) := (by unfold extR; rw [hs]; rfl : extR true 65536 4294967296 32768 x = x)
      clear hb
      go_enter Try.func17, Try.ntmps17
      go_wp2_with fail
      refine (Bits_ok sz2 _).mono ?_; rintro e w1 ⟨rfl, hw⟩; replace hw := hw.symm; subst hw
      go_wp2_with fail
      refine (Bits_ok sz4 _).mono ?_; rintro e w1 ⟨rfl, hw⟩; replace hw := hw.symm; subst hw
      go_wp2_with fail
      refine (hq _).mono ?_; rintro e w1 ⟨rfl, hw⟩; replace hw := hw.symm; subst hw
      go_wp2_with fail
      refine (hg _).mono ?_; rintro e w1 ⟨rfl, hw⟩; replace hw := hw.symm; subst hw
      go_wp2
      go_ret2
      exact ⟨ret_two (by rw [HE.out]) rfl, rfl⟩

theorem rExt_4_4 (sg : Bool) (a : Int) (w : World) (a0 : 0 ≤ a) (a1 : a < 4294967296) :
    Calls Try.prog 17 #[.bool sg, .int .i64 4, .int .i64 4, .int .u32 a] w fun e w' => e = .returned (.tuple #[.int .u32 (extR sg 4294967296 4294967296 2147483648 (a % 4294967296)), .int .i64 0]) ∧ w' = w := by
  have x0 : 0 ≤ a % 4294967296 := by omega
  have x1 : a % 4294967296 < 4294967296 := by omega
  have wa : IntKind.u64.wrap a = a := by rw [wrap_u64']; omega
  have hq := fun w => Cut_any sz4 a w a0 (by omega)
  have hg := fun w => Sign_any sz4 (a % 4294967296) w x0 x1
  have hb : sgn 2147483648 (a % 4294967296) = true → 2147483648 ≤ a % 4294967296 := fun h => by simpa [sgn] using h
  revert hq x0 x1 hg hb
  generalize a % 4294967296 = x
  intro x0 x1 hq hg hb
  cases sg
  · go_enter Try.func17, Try.ntmps17
    go_wp2_with fail
    refine (Bits_ok sz4 _).mono ?_; rintro e w1 ⟨rfl, hw⟩; replace hw := hw.symm; subst hw
    go_wp2_with fail
    refine (Bits_ok sz4 _).mono ?_; rintro e w1 ⟨rfl, hw⟩; replace hw := hw.symm; subst hw
    go_wp2_with fail
    refine (hq _).mono ?_; rintro e w1 ⟨rfl, hw⟩; replace hw := hw.symm; subst hw
    go_wp2
    go_ret2
    exact ⟨rfl, rfl⟩
  · rcases two_ways (sgn 2147483648 x) with hs | hs
    · have HB : Hid _ := hb hs
      have HE : Hid (extR true 4294967296 4294967296 2147483648 x = x + 4294967296 - 4294967296) := (by unfold extR; rw [hs]; rfl : extR true 4294967296 4294967296 2147483648 x = x + 4294967296 - 4294967296)
      clear hb
      go_enter Try.func17, Try.ntmps17
      go_wp2_with fail
      refine (Bits_ok sz4 _).mono ?_; rintro e w1 ⟨rfl, hw⟩; replace hw := hw.symm; subst hw
      go_wp2_with fail
      refine (Bits_ok sz4 _).mono ?_; rintro e w1 ⟨rfl, hw⟩; replace hw := hw.symm; subst hw
      go_wp2_with fail
      refine (hq _).mono ?_; rintro e w1 ⟨rfl, hw⟩; replace hw := hw.symm; subst hw
      go_wp2_with fail
      refine (hg _).mono ?_; rintro e w1 ⟨rfl, hw⟩; replace hw := hw.symm; subst hw
      go_wp2
      go_ret2
      exact ⟨ret_two (by have h := HE.out; omega) rfl, rfl⟩
    · have HE : Hid (extR true 4294967296 4294967296 2147483648 x = x) := (by unfold extR; rw [hs]; rfl : extR true 4294967296 4294967296 2147483648 x = x)
      clear hb
      go_enter Try.func17, Try.ntmps17
      go_wp2_with fail
      refine (Bits_ok sz4 _).mono ?_; rintro e w1 ⟨rfl, hw⟩; replace hw := hw.symm; subst hw
      go_wp2_with fail
      refine (Bits_ok sz4 _).mono ?_; rintro e w1 ⟨rfl, hw⟩; replace hw := hw.symm; subst hw
      go_wp2_with fail
      refine (hq _).mono ?_; rintro e w1 ⟨rfl, hw⟩; replace hw := hw.symm; subst hw
      go_wp2_with fail
      refine (hg _).mono ?_; rintro e w1 ⟨rfl, hw⟩; replace hw := hw.symm; subst hw
      go_wp2
      go_ret2
      exact ⟨ret_two (by rw [HE.out]) rfl, rfl⟩

theorem rExt_ok {s H M t G N : Int} {W V : Nat} (hS : Sw s H M W) (hT : Sw t G N V) (hl : s ≤ t) (sg : Bool) (a : Int) (w : World) (a0 : 0 ≤ a) (a1 : a < 4294967296) :
    Calls Try.prog 17 #[.bool sg, .int .i64 s, .int .i64 t, .int .u32 a] w fun e w' => e = .returned (.tuple #[.int .u32 (extR sg M N H (a % M)), .int .i64 0]) ∧ w' = w := by
  rcases hS with ⟨rfl, rfl, rfl, rfl⟩ | ⟨rfl, rfl, rfl, rfl⟩ | ⟨rfl, rfl, rfl, rfl⟩ <;>
  rcases hT with ⟨rfl, rfl, rfl, rfl⟩ | ⟨rfl, rfl, rfl, rfl⟩ | ⟨rfl, rfl, rfl, rfl⟩
  · exact rExt_1_1 sg a w a0 a1
  · exact rExt_1_2 sg a w a0 a1
  · exact rExt_1_4 sg a w a0 a1
  · exact absurd hl (by decide)
  · exact rExt_2_2 sg a w a0 a1
  · exact rExt_2_4 sg a w a0 a1
  · exact absurd hl (by decide)
  · exact absurd hl (by decide)
  · exact rExt_4_4 sg a w a0 a1
end Go.Proofs.Ytelclgelooljlaa
