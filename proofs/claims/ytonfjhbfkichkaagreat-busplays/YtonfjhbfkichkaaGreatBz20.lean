/- The bus and its devices: PtRead, PtOps, PtAwake, RtBase, RtVal. -/
import Derived.Test.YtonfjhbfkichkaaGreatBz19
import Derived.Test.YtonfjhbfkichkaaGreatBz18
import Derived.Laws.CopyRow
import Derived.Deep.MidRow
namespace Go.Proofs.YtonfjhbfkichkaaGreat.Pt
open Go.ChangeShapes Go.WideShapes Go.ChangeAt Go.RowKit
set_option linter.unusedVariables false
section
variable {w : World} {B o : Nat} {f : Nat → Cn} {i : Nat} {c : Cn}
theorem hold_ok (h : CAt w B o f i c) (k : c.Ok) (now : Int) : Calls Tryz.prog 168 #[.pointer (some ⟨B, o, none⟩), .int .u64 now] w fun e w' => e = .returned (.tuple #[]) ∧ CAt w' B o f i (c.hold now) ∧ Kp (isB B) w w' := by
 have c9 := h.c9
 have HV : Hid _ := value_ok h k now
 unfold Cn.hold
 cases e : c.holds
 ·rw [e] at c9
  have hC : Hid (CAt w B o f i c) := h
  clear h
  obtain ⟨V, hV⟩ : ∃ V, V = c.value now := ⟨_, rfl⟩
  rw [← hV] at HV ⊢
  clear hV
  go_enter Tryz.func168, Tryz.ntmps168
  go_wp2_with fail
  refine Calls.mono HV.out ?_; rintro e w1 ⟨rfl, k1⟩
  have h1 := hC.out.kept k1 id
  clear c9
  have c8 := h1.c8
  have c9 := h1.c9
  have z8 := h1.fz (o + 8)
  have z9 := h1.fz (o + 9)
  go_wp2
  go_end0
  exact ⟨rfl, (h1.set (k := 8) (by decide) _ { c with held := V } rfl).set (k := 9) (by decide) _ { c with held := V, holds := true } rfl, (k1.any.trans (kpB B _ _ _)).trans (kpB B _ _ _)⟩
 ·rw [e] at c9
  go_enter Tryz.func168, Tryz.ntmps168
  go_wp2
  go_end0
  exact ⟨rfl, h, Kp.refl _ _⟩
theorem read_h1 (h : CAt w B o f i c) (k : c.Ok) (now : Int) (e9 : c.holds = true) (e1 : c.how = 1) (e7 : c.upper = false) : Calls Tryz.prog 147 #[.pointer (some ⟨B, o, none⟩), .int .u64 now] w fun e w' => e = .returned (.int .u8 ((c.held) % 256)) ∧ CAt w' B o f i { c with holds := false } ∧ Kp (isB B) w w' := by
 have hC : Hid (CAt w B o f i c) := h
 have h1 := h
 have hb := k.held
 have c1 := h1.c1
 have c7 := h1.c7
 have c8 := h1.c8
 have c9 := h1.c9
 rw [e1] at c1
 rw [e7] at c7
 rw [e9] at c9
 have z9 := h1.fz (o + 9)
 obtain ⟨b0, b1⟩ := hb
 clear h h1
 go_enter Tryz.func147, Tryz.ntmps147
 go_wp2
 go_ret
 exact ⟨ret_int (by omega), (hC.out.set (k := 9) (by decide) _ { c with holds := false } rfl), (Kp.refl _ _).trans (kpB B _ _ _)⟩
theorem read_h1' (h : CAt w B o f i c) (k : c.Ok) (now : Int) (e9 : c.holds = true) (e1 : c.how = 1) (e7 : c.upper = false) : Calls Tryz.prog 147 #[.pointer (some ⟨B, o, none⟩), .int .u64 now] w fun e w' => e = .returned (.int .u8 (c.told now)) ∧ CAt w' B o f i c.read ∧ Kp (isB B) w w' := by
 have eR : c.read = { c with holds := false } := by
  obtain ⟨x0, x1, x2, x3, x4, x5, x6, x7, x8, x9⟩ := c
  simp only at e9 e1 e7
  subst e9 e1 e7
  simp [Cn.read]
 have eT : c.told now = (c.held) % 256 := by simp [Cn.told, Cn.seen, e9, e7]
 rw [eR, eT]
 exact read_h1 h k now e9 e1 e7
theorem read_h2 (h : CAt w B o f i c) (k : c.Ok) (now : Int) (e9 : c.holds = true) (e1 : c.how = 2) (e7 : c.upper = true) : Calls Tryz.prog 147 #[.pointer (some ⟨B, o, none⟩), .int .u64 now] w fun e w' => e = .returned (.int .u8 ((c.held) / 256)) ∧ CAt w' B o f i { c with holds := false } ∧ Kp (isB B) w w' := by
 have hC : Hid (CAt w B o f i c) := h
 have h1 := h
 have hb := k.held
 have c1 := h1.c1
 have c7 := h1.c7
 have c8 := h1.c8
 have c9 := h1.c9
 rw [e1] at c1
 rw [e7] at c7
 rw [e9] at c9
 have z9 := h1.fz (o + 9)
 obtain ⟨b0, b1⟩ := hb
 clear h h1
 go_enter Tryz.func147, Tryz.ntmps147
 go_wp2
 go_ret
 exact ⟨ret_int (by omega), (hC.out.set (k := 9) (by decide) _ { c with holds := false } rfl), (Kp.refl _ _).trans (kpB B _ _ _)⟩
theorem read_h2' (h : CAt w B o f i c) (k : c.Ok) (now : Int) (e9 : c.holds = true) (e1 : c.how = 2) (e7 : c.upper = true) : Calls Tryz.prog 147 #[.pointer (some ⟨B, o, none⟩), .int .u64 now] w fun e w' => e = .returned (.int .u8 (c.told now)) ∧ CAt w' B o f i c.read ∧ Kp (isB B) w w' := by
 have eR : c.read = { c with holds := false } := by
  obtain ⟨x0, x1, x2, x3, x4, x5, x6, x7, x8, x9⟩ := c
  simp only at e9 e1 e7
  subst e9 e1 e7
  simp [Cn.read]
 have eT : c.told now = (c.held) / 256 := by simp [Cn.told, Cn.seen, e9, e7]
 rw [eR, eT]
 exact read_h2 h k now e9 e1 e7
theorem read_h3l (h : CAt w B o f i c) (k : c.Ok) (now : Int) (e9 : c.holds = true) (e1 : c.how = 3) (e7 : c.upper = false) : Calls Tryz.prog 147 #[.pointer (some ⟨B, o, none⟩), .int .u64 now] w fun e w' => e = .returned (.int .u8 ((c.held) % 256)) ∧ CAt w' B o f i { c with upper := true } ∧ Kp (isB B) w w' := by
 have hC : Hid (CAt w B o f i c) := h
 have h1 := h
 have hb := k.held
 have c1 := h1.c1
 have c7 := h1.c7
 have c8 := h1.c8
 have c9 := h1.c9
 rw [e1] at c1
 rw [e7] at c7
 rw [e9] at c9
 have z7 := h1.fz (o + 7)
 obtain ⟨b0, b1⟩ := hb
 clear h h1
 go_enter Tryz.func147, Tryz.ntmps147
 go_wp2
 go_ret
 exact ⟨ret_int (by omega), (hC.out.set (k := 7) (by decide) _ { c with upper := true } rfl), (Kp.refl _ _).trans (kpB B _ _ _)⟩
theorem read_h3l' (h : CAt w B o f i c) (k : c.Ok) (now : Int) (e9 : c.holds = true) (e1 : c.how = 3) (e7 : c.upper = false) : Calls Tryz.prog 147 #[.pointer (some ⟨B, o, none⟩), .int .u64 now] w fun e w' => e = .returned (.int .u8 (c.told now)) ∧ CAt w' B o f i c.read ∧ Kp (isB B) w w' := by
 have eR : c.read = { c with upper := true } := by
  obtain ⟨x0, x1, x2, x3, x4, x5, x6, x7, x8, x9⟩ := c
  simp only at e9 e1 e7
  subst e9 e1 e7
  simp [Cn.read]
 have eT : c.told now = (c.held) % 256 := by simp [Cn.told, Cn.seen, e9, e7]
 rw [eR, eT]
 exact read_h3l h k now e9 e1 e7
theorem read_h3u (h : CAt w B o f i c) (k : c.Ok) (now : Int) (e9 : c.holds = true) (e1 : c.how = 3) (e7 : c.upper = true) : Calls Tryz.prog 147 #[.pointer (some ⟨B, o, none⟩), .int .u64 now] w fun e w' => e = .returned (.int .u8 ((c.held) / 256)) ∧ CAt w' B o f i { c with upper := false, holds := false } ∧ Kp (isB B) w w' := by
 have hC : Hid (CAt w B o f i c) := h
 have h1 := h
 have hb := k.held
 have c1 := h1.c1
 have c7 := h1.c7
 have c8 := h1.c8
 have c9 := h1.c9
 rw [e1] at c1
 rw [e7] at c7
 rw [e9] at c9
 have z7 := h1.fz (o + 7)
 have z9 := h1.fz (o + 9)
 obtain ⟨b0, b1⟩ := hb
 clear h h1
 go_enter Tryz.func147, Tryz.ntmps147
 go_wp2
 go_ret
 exact ⟨ret_int (by omega), ((hC.out.set (k := 7) (by decide) _ { c with upper := false } rfl).set (k := 9) (by decide) _ { c with upper := false, holds := false } rfl), ((Kp.refl _ _).trans (kpB B _ _ _)).trans (kpB B _ _ _)⟩
theorem read_h3u' (h : CAt w B o f i c) (k : c.Ok) (now : Int) (e9 : c.holds = true) (e1 : c.how = 3) (e7 : c.upper = true) : Calls Tryz.prog 147 #[.pointer (some ⟨B, o, none⟩), .int .u64 now] w fun e w' => e = .returned (.int .u8 (c.told now)) ∧ CAt w' B o f i c.read ∧ Kp (isB B) w w' := by
 have eR : c.read = { c with upper := false, holds := false } := by
  obtain ⟨x0, x1, x2, x3, x4, x5, x6, x7, x8, x9⟩ := c
  simp only at e9 e1 e7
  subst e9 e1 e7
  simp [Cn.read]
 have eT : c.told now = (c.held) / 256 := by simp [Cn.told, Cn.seen, e9, e7]
 rw [eR, eT]
 exact read_h3u h k now e9 e1 e7
theorem read_n1 (h : CAt w B o f i c) (k : c.Ok) (now : Int) (e9 : c.holds = false) (e1 : c.how = 1) (e7 : c.upper = false) : Calls Tryz.prog 147 #[.pointer (some ⟨B, o, none⟩), .int .u64 now] w fun e w' => e = .returned (.int .u8 ((c.value now) % 256)) ∧ CAt w' B o f i { c with holds := false } ∧ Kp (isB B) w w' := by
 have hC : Hid (CAt w B o f i c) := h
 have HV : Hid _ := value_ok h k now
 have hb := c.value_bd now
 obtain ⟨V, hV⟩ : ∃ V, V = c.value now := ⟨_, rfl⟩
 rw [← hV] at HV hb ⊢
 clear hV
 have c8 := h.c8
 have c9 := h.c9
 rw [e9] at c9
 obtain ⟨b0, b1⟩ := hb
 clear h
 go_enter Tryz.func147, Tryz.ntmps147
 go_wp2_with fail
 refine Calls.mono HV.out ?_; rintro e w1 ⟨rfl, k1⟩
 have h1 := hC.out.kept k1 id
 clear c8 c9
 have c1 := h1.c1
 have c7 := h1.c7
 have c8 := h1.c8
 have c9 := h1.c9
 rw [e1] at c1
 rw [e7] at c7
 rw [e9] at c9
 have z9 := h1.fz (o + 9)
 go_wp2
 go_ret
 exact ⟨ret_int (by omega), (h1.set (k := 9) (by decide) _ { c with holds := false } rfl), (k1.any).trans (kpB B _ _ _)⟩
theorem read_n1' (h : CAt w B o f i c) (k : c.Ok) (now : Int) (e9 : c.holds = false) (e1 : c.how = 1) (e7 : c.upper = false) : Calls Tryz.prog 147 #[.pointer (some ⟨B, o, none⟩), .int .u64 now] w fun e w' => e = .returned (.int .u8 (c.told now)) ∧ CAt w' B o f i c.read ∧ Kp (isB B) w w' := by
 have eR : c.read = { c with holds := false } := by
  obtain ⟨x0, x1, x2, x3, x4, x5, x6, x7, x8, x9⟩ := c
  simp only at e9 e1 e7
  subst e9 e1 e7
  simp [Cn.read]
 have eT : c.told now = (c.value now) % 256 := by simp [Cn.told, Cn.seen, e9, e7]
 rw [eR, eT]
 exact read_n1 h k now e9 e1 e7
theorem read_n2 (h : CAt w B o f i c) (k : c.Ok) (now : Int) (e9 : c.holds = false) (e1 : c.how = 2) (e7 : c.upper = true) : Calls Tryz.prog 147 #[.pointer (some ⟨B, o, none⟩), .int .u64 now] w fun e w' => e = .returned (.int .u8 ((c.value now) / 256)) ∧ CAt w' B o f i { c with holds := false } ∧ Kp (isB B) w w' := by
 have hC : Hid (CAt w B o f i c) := h
 have HV : Hid _ := value_ok h k now
 have hb := c.value_bd now
 obtain ⟨V, hV⟩ : ∃ V, V = c.value now := ⟨_, rfl⟩
 rw [← hV] at HV hb ⊢
 clear hV
 have c8 := h.c8
 have c9 := h.c9
 rw [e9] at c9
 obtain ⟨b0, b1⟩ := hb
 clear h
 go_enter Tryz.func147, Tryz.ntmps147
 go_wp2_with fail
 refine Calls.mono HV.out ?_; rintro e w1 ⟨rfl, k1⟩
 have h1 := hC.out.kept k1 id
 clear c8 c9
 have c1 := h1.c1
 have c7 := h1.c7
 have c8 := h1.c8
 have c9 := h1.c9
 rw [e1] at c1
 rw [e7] at c7
 rw [e9] at c9
 have z9 := h1.fz (o + 9)
 go_wp2
 go_ret
 exact ⟨ret_int (by omega), (h1.set (k := 9) (by decide) _ { c with holds := false } rfl), (k1.any).trans (kpB B _ _ _)⟩
theorem read_n2' (h : CAt w B o f i c) (k : c.Ok) (now : Int) (e9 : c.holds = false) (e1 : c.how = 2) (e7 : c.upper = true) : Calls Tryz.prog 147 #[.pointer (some ⟨B, o, none⟩), .int .u64 now] w fun e w' => e = .returned (.int .u8 (c.told now)) ∧ CAt w' B o f i c.read ∧ Kp (isB B) w w' := by
 have eR : c.read = { c with holds := false } := by
  obtain ⟨x0, x1, x2, x3, x4, x5, x6, x7, x8, x9⟩ := c
  simp only at e9 e1 e7
  subst e9 e1 e7
  simp [Cn.read]
 have eT : c.told now = (c.value now) / 256 := by simp [Cn.told, Cn.seen, e9, e7]
 rw [eR, eT]
 exact read_n2 h k now e9 e1 e7
theorem read_n3l (h : CAt w B o f i c) (k : c.Ok) (now : Int) (e9 : c.holds = false) (e1 : c.how = 3) (e7 : c.upper = false) : Calls Tryz.prog 147 #[.pointer (some ⟨B, o, none⟩), .int .u64 now] w fun e w' => e = .returned (.int .u8 ((c.value now) % 256)) ∧ CAt w' B o f i { c with upper := true } ∧ Kp (isB B) w w' := by
 have hC : Hid (CAt w B o f i c) := h
 have HV : Hid _ := value_ok h k now
 have hb := c.value_bd now
 obtain ⟨V, hV⟩ : ∃ V, V = c.value now := ⟨_, rfl⟩
 rw [← hV] at HV hb ⊢
 clear hV
 have c8 := h.c8
 have c9 := h.c9
 rw [e9] at c9
 obtain ⟨b0, b1⟩ := hb
 clear h
 go_enter Tryz.func147, Tryz.ntmps147
 go_wp2_with fail
 refine Calls.mono HV.out ?_; rintro e w1 ⟨rfl, k1⟩
 have h1 := hC.out.kept k1 id
 clear c8 c9
 have c1 := h1.c1
 have c7 := h1.c7
 have c8 := h1.c8
 have c9 := h1.c9
 rw [e1] at c1
 rw [e7] at c7
 rw [e9] at c9
 have z7 := h1.fz (o + 7)
 go_wp2
 go_ret
 exact ⟨ret_int (by omega), (h1.set (k := 7) (by decide) _ { c with upper := true } rfl), (k1.any).trans (kpB B _ _ _)⟩
theorem read_n3l' (h : CAt w B o f i c) (k : c.Ok) (now : Int) (e9 : c.holds = false) (e1 : c.how = 3) (e7 : c.upper = false) : Calls Tryz.prog 147 #[.pointer (some ⟨B, o, none⟩), .int .u64 now] w fun e w' => e = .returned (.int .u8 (c.told now)) ∧ CAt w' B o f i c.read ∧ Kp (isB B) w w' := by
 have eR : c.read = { c with upper := true } := by
  obtain ⟨x0, x1, x2, x3, x4, x5, x6, x7, x8, x9⟩ := c
  simp only at e9 e1 e7
  subst e9 e1 e7
  simp [Cn.read]
 have eT : c.told now = (c.value now) % 256 := by simp [Cn.told, Cn.seen, e9, e7]
 rw [eR, eT]
 exact read_n3l h k now e9 e1 e7
theorem read_n3u (h : CAt w B o f i c) (k : c.Ok) (now : Int) (e9 : c.holds = false) (e1 : c.how = 3) (e7 : c.upper = true) : Calls Tryz.prog 147 #[.pointer (some ⟨B, o, none⟩), .int .u64 now] w fun e w' => e = .returned (.int .u8 ((c.value now) / 256)) ∧ CAt w' B o f i { c with upper := false, holds := false } ∧ Kp (isB B) w w' := by
 have hC : Hid (CAt w B o f i c) := h
 have HV : Hid _ := value_ok h k now
 have hb := c.value_bd now
 obtain ⟨V, hV⟩ : ∃ V, V = c.value now := ⟨_, rfl⟩
 rw [← hV] at HV hb ⊢
 clear hV
 have c8 := h.c8
 have c9 := h.c9
 rw [e9] at c9
 obtain ⟨b0, b1⟩ := hb
 clear h
 go_enter Tryz.func147, Tryz.ntmps147
 go_wp2_with fail
 refine Calls.mono HV.out ?_; rintro e w1 ⟨rfl, k1⟩
 have h1 := hC.out.kept k1 id
 clear c8 c9
 have c1 := h1.c1
 have c7 := h1.c7
 have c8 := h1.c8
 have c9 := h1.c9
 rw [e1] at c1
 rw [e7] at c7
 rw [e9] at c9
 have z7 := h1.fz (o + 7)
 have z9 := h1.fz (o + 9)
 go_wp2
 go_ret
 exact ⟨ret_int (by omega), ((h1.set (k := 7) (by decide) _ { c with upper := false } rfl).set (k := 9) (by decide) _ { c with upper := false, holds := false } rfl), ((k1.any).trans (kpB B _ _ _)).trans (kpB B _ _ _)⟩
theorem read_n3u' (h : CAt w B o f i c) (k : c.Ok) (now : Int) (e9 : c.holds = false) (e1 : c.how = 3) (e7 : c.upper = true) : Calls Tryz.prog 147 #[.pointer (some ⟨B, o, none⟩), .int .u64 now] w fun e w' => e = .returned (.int .u8 (c.told now)) ∧ CAt w' B o f i c.read ∧ Kp (isB B) w w' := by
 have eR : c.read = { c with upper := false, holds := false } := by
  obtain ⟨x0, x1, x2, x3, x4, x5, x6, x7, x8, x9⟩ := c
  simp only at e9 e1 e7
  subst e9 e1 e7
  simp [Cn.read]
 have eT : c.told now = (c.value now) / 256 := by simp [Cn.told, Cn.seen, e9, e7]
 rw [eR, eT]
 exact read_n3u h k now e9 e1 e7
theorem read_ok (h : CAt w B o f i c) (k : c.Ok) (now : Int) : Calls Tryz.prog 147 #[.pointer (some ⟨B, o, none⟩), .int .u64 now] w fun e w' => e = .returned (.int .u8 (c.told now)) ∧ CAt w' B o f i c.read ∧ Kp (isB B) w w' := by
 have hh := k.how
 have u1 := k.up
 have u2 := k.up2
 rcases (by omega : c.how = 1 ∨ c.how = 2 ∨ c.how = 3) with e1 | e1 | e1
 ·have e7 : c.upper = false := by
   cases e : c.upper
   ·rfl
   ·exact absurd e1 (u1 e)
  cases e9 : c.holds
  ·exact read_n1' h k now e9 e1 e7
  ·exact read_h1' h k now e9 e1 e7
 ·have e7 : c.upper = true := u2 e1
  cases e9 : c.holds
  ·exact read_n2' h k now e9 e1 e7
  ·exact read_h2' h k now e9 e1 e7
 ·cases e7 : c.upper
  ·cases e9 : c.holds
   ·exact read_n3l' h k now e9 e1 e7
   ·exact read_h3l' h k now e9 e1 e7
  ·cases e9 : c.holds
   ·exact read_n3u' h k now e9 e1 e7
   ·exact read_h3u' h k now e9 e1 e7
end
theorem and8_3' : ∀ n : Fin 256, bits .and .u8 (n.val : Int) 3 = (n.val : Int) % 4 := by decide +kernel
theorem and8_3 {v : Int} (v0 : 0 ≤ v) (v1 : v < 256) : bits .and .u8 v 3 = v % 4 := by
 have := and8_3' ⟨v.toNat, by omega⟩
 simp only [Int.toNat_of_nonneg v0] at this
 exact this
theorem and8_7' : ∀ n : Fin 256, bits .and .u8 (n.val : Int) 7 = (n.val : Int) % 8 := by decide +kernel
theorem and8_7 {v : Int} (v0 : 0 ≤ v) (v1 : v < 256) : bits .and .u8 v 7 = v % 8 := by
 have := and8_7' ⟨v.toNat, by omega⟩
 simp only [Int.toNat_of_nonneg v0] at this
 exact this
theorem PAt.at {w : World} {B : Nat} {f : Nat → Cn} (h : PAt w B f) (i o : Nat) (hi : i < 3) (ho : o = 10 * i) : CAt w B o f i (f i) := ⟨by rw [upd_self]; exact h, hi, ho⟩
section
variable {w : World} {B : Nat} {f : Nat → Cn}
theorem cmd_3 (h : PAt w B f) (v now : Int) (hn : v / 64 = 3) : Calls Tryz.prog 145 #[.pointer (some ⟨B, 0, none⟩), .int .u8 v, .int .u64 now] w fun e w' => e = .returned (.tuple #[]) ∧ PAt w' B f ∧ Kp (isB B) w w' := by
 go_enter Tryz.func145, Tryz.ntmps145
 go_wp2
 refine bodyPost_ret (results_none rfl _ _ _) rfl ?_
 exact ⟨rfl, h, Kp.refl _ _⟩
theorem cmdH_0 (h : PAt w B f) (k : Oks f) (v now : Int) (v0 : 0 ≤ v) (v1 : v < 256) (hn : v / 64 = 0) (hb : v / 16 % 4 = 0) : Calls Tryz.prog 145 #[.pointer (some ⟨B, 0, none⟩), .int .u8 v, .int .u64 now] w fun e w' => e = .returned (.tuple #[]) ∧ PAt w' B (upd f 0 ((f 0).hold now)) ∧ Kp (isB B) w w' := by
 have H : Hid (Calls _ _ #[.pointer (some ⟨B, 0, none⟩), .int .u64 now] w _) := hold_ok (h.at 0 0 (by decide) (by decide)) (k 0) now
 have a3 : bits .and .u8 (v / 16) 3 = v / 16 % 4 := and8_3 (by omega) (by omega)
 rw [hb] at a3
 go_enter Tryz.func145, Tryz.ntmps145
 go_wp2_with fail
 refine Calls.mono H.out ?_; rintro e w1 ⟨rfl, h1, k1⟩
 go_wp2
 go_end0
 exact ⟨rfl, h1.pit, k1⟩
theorem cmdS_0 (h : PAt w B f) (k : Oks f) (v now : Int) (v0 : 0 ≤ v) (v1 : v < 256) (hn : v / 64 = 0) (b : Int) (hb : v / 16 % 4 = b) (hb0 : ¬ b = 0) : Calls Tryz.prog 145 #[.pointer (some ⟨B, 0, none⟩), .int .u8 v, .int .u64 now] w fun e w' => e = .returned (.tuple #[]) ∧ PAt w' B (upd f 0 ((f 0).setUp b (v / 2 % 8))) ∧ Kp (isB B) w w' := by
 have H : Hid (Calls _ _ #[.pointer (some ⟨B, 0, none⟩), .int .u8 b, .int .u8 (v / 2 % 8)] w _) := setUp_ok (h.at 0 0 (by decide) (by decide)) b (v / 2 % 8) (by omega) (by omega)
 have a3 : bits .and .u8 (v / 16) 3 = v / 16 % 4 := and8_3 (by omega) (by omega)
 have a7 : bits .and .u8 (v / 2) 7 = v / 2 % 8 := and8_7 (by omega) (by omega)
 rw [hb] at a3
 have hz : (b == 0) = false := by simp [hb0]
 clear hb hb0
 go_enter Tryz.func145, Tryz.ntmps145
 go_wp2_with fail
 refine Calls.mono H.out ?_; rintro e w1 ⟨rfl, h1, k1⟩
 go_wp2
 go_end0
 exact ⟨rfl, h1.pit, k1⟩
theorem cmdH_1 (h : PAt w B f) (k : Oks f) (v now : Int) (v0 : 0 ≤ v) (v1 : v < 256) (hn : v / 64 = 1) (hb : v / 16 % 4 = 0) : Calls Tryz.prog 145 #[.pointer (some ⟨B, 0, none⟩), .int .u8 v, .int .u64 now] w fun e w' => e = .returned (.tuple #[]) ∧ PAt w' B (upd f 1 ((f 1).hold now)) ∧ Kp (isB B) w w' := by
 have H : Hid (Calls _ _ #[.pointer (some ⟨B, 10, none⟩), .int .u64 now] w _) := hold_ok (h.at 1 10 (by decide) (by decide)) (k 1) now
 have a3 : bits .and .u8 (v / 16) 3 = v / 16 % 4 := and8_3 (by omega) (by omega)
 rw [hb] at a3
 go_enter Tryz.func145, Tryz.ntmps145
 go_wp2_with fail
 refine Calls.mono H.out ?_; rintro e w1 ⟨rfl, h1, k1⟩
 go_wp2
 go_end0
 exact ⟨rfl, h1.pit, k1⟩
theorem cmdS_1 (h : PAt w B f) (k : Oks f) (v now : Int) (v0 : 0 ≤ v) (v1 : v < 256) (hn : v / 64 = 1) (b : Int) (hb : v / 16 % 4 = b) (hb0 : ¬ b = 0) : Calls Tryz.prog 145 #[.pointer (some ⟨B, 0, none⟩), .int .u8 v, .int .u64 now] w fun e w' => e = .returned (.tuple #[]) ∧ PAt w' B (upd f 1 ((f 1).setUp b (v / 2 % 8))) ∧ Kp (isB B) w w' := by
 have H : Hid (Calls _ _ #[.pointer (some ⟨B, 10, none⟩), .int .u8 b, .int .u8 (v / 2 % 8)] w _) := setUp_ok (h.at 1 10 (by decide) (by decide)) b (v / 2 % 8) (by omega) (by omega)
 have a3 : bits .and .u8 (v / 16) 3 = v / 16 % 4 := and8_3 (by omega) (by omega)
 have a7 : bits .and .u8 (v / 2) 7 = v / 2 % 8 := and8_7 (by omega) (by omega)
 rw [hb] at a3
 have hz : (b == 0) = false := by simp [hb0]
 clear hb hb0
 go_enter Tryz.func145, Tryz.ntmps145
 go_wp2_with fail
 refine Calls.mono H.out ?_; rintro e w1 ⟨rfl, h1, k1⟩
 go_wp2
 go_end0
 exact ⟨rfl, h1.pit, k1⟩
theorem cmdH_2 (h : PAt w B f) (k : Oks f) (v now : Int) (v0 : 0 ≤ v) (v1 : v < 256) (hn : v / 64 = 2) (hb : v / 16 % 4 = 0) : Calls Tryz.prog 145 #[.pointer (some ⟨B, 0, none⟩), .int .u8 v, .int .u64 now] w fun e w' => e = .returned (.tuple #[]) ∧ PAt w' B (upd f 2 ((f 2).hold now)) ∧ Kp (isB B) w w' := by
 have H : Hid (Calls _ _ #[.pointer (some ⟨B, 20, none⟩), .int .u64 now] w _) := hold_ok (h.at 2 20 (by decide) (by decide)) (k 2) now
 have a3 : bits .and .u8 (v / 16) 3 = v / 16 % 4 := and8_3 (by omega) (by omega)
 rw [hb] at a3
 go_enter Tryz.func145, Tryz.ntmps145
 go_wp2_with fail
 refine Calls.mono H.out ?_; rintro e w1 ⟨rfl, h1, k1⟩
 go_wp2
 go_end0
 exact ⟨rfl, h1.pit, k1⟩
theorem cmdS_2 (h : PAt w B f) (k : Oks f) (v now : Int) (v0 : 0 ≤ v) (v1 : v < 256) (hn : v / 64 = 2) (b : Int) (hb : v / 16 % 4 = b) (hb0 : ¬ b = 0) : Calls Tryz.prog 145 #[.pointer (some ⟨B, 0, none⟩), .int .u8 v, .int .u64 now] w fun e w' => e = .returned (.tuple #[]) ∧ PAt w' B (upd f 2 ((f 2).setUp b (v / 2 % 8))) ∧ Kp (isB B) w w' := by
 have H : Hid (Calls _ _ #[.pointer (some ⟨B, 20, none⟩), .int .u8 b, .int .u8 (v / 2 % 8)] w _) := setUp_ok (h.at 2 20 (by decide) (by decide)) b (v / 2 % 8) (by omega) (by omega)
 have a3 : bits .and .u8 (v / 16) 3 = v / 16 % 4 := and8_3 (by omega) (by omega)
 have a7 : bits .and .u8 (v / 2) 7 = v / 2 % 8 := and8_7 (by omega) (by omega)
 rw [hb] at a3
 have hz : (b == 0) = false := by simp [hb0]
 clear hb hb0
 go_enter Tryz.func145, Tryz.ntmps145
 go_wp2_with fail
 refine Calls.mono H.out ?_; rintro e w1 ⟨rfl, h1, k1⟩
 go_wp2
 go_end0
 exact ⟨rfl, h1.pit, k1⟩
theorem cmd_ok (h : PAt w B f) (k : Oks f) (v now : Int) (v0 : 0 ≤ v) (v1 : v < 256) : Calls Tryz.prog 145 #[.pointer (some ⟨B, 0, none⟩), .int .u8 v, .int .u64 now] w fun e w' => e = .returned (.tuple #[]) ∧ PAt w' B (cmdF f v now) ∧ Kp (isB B) w w' := by
 unfold cmdF
 by_cases e3 : v / 64 = 3
 ·rw [if_pos e3]; exact cmd_3 h v now e3
 ·rw [if_neg e3]
  have hn : v / 64 = 0 ∨ v / 64 = 1 ∨ v / 64 = 2 := by omega
  by_cases eb : v / 16 % 4 = 0
  ·rw [if_pos eb]
   rcases hn with e | e | e
   ·rw [e]; exact cmdH_0 h k v now v0 v1 e eb
   ·rw [e]; exact cmdH_1 h k v now v0 v1 e eb
   ·rw [e]; exact cmdH_2 h k v now v0 v1 e eb
  ·rw [if_neg eb]
   rcases hn with e | e | e
   ·rw [e]; exact cmdS_0 h k v now v0 v1 e _ rfl eb
   ·rw [e]; exact cmdS_1 h k v now v0 v1 e _ rfl eb
   ·rw [e]; exact cmdS_2 h k v now v0 v1 e _ rfl eb
theorem out_3 (h : PAt w B f) (k : Oks f) (v now : Int) (v0 : 0 ≤ v) (v1 : v < 256) : Calls Tryz.prog 110 #[.pointer (some ⟨B, 0, none⟩), .int .i64 3, .int .u8 v, .int .u64 now] w fun e w' => e = .returned (.int .i64 0) ∧ PAt w' B (cmdF f v now) ∧ Kp (isB B) w w' := by
 have HH : Hid _ := has_ok w ⟨B, 0, none⟩ 3 (by decide) (by decide)
 have H : Hid _ := cmd_ok h k v now v0 v1
 go_enter Tryz.func110, Tryz.ntmps110
 go_wp2_with fail
 refine Calls.mono HH.out ?_; rintro e w1 ⟨rfl, hw⟩; replace hw := hw.symm; subst hw
 go_wp2_with fail
 refine Calls.mono H.out ?_; rintro e w1 ⟨rfl, h1, k1⟩
 go_wp2
 go_ret
 exact ⟨rfl, h1, k1⟩
theorem in_3 (h : PAt w B f) (now : Int) : Calls Tryz.prog 111 #[.pointer (some ⟨B, 0, none⟩), .int .i64 3, .int .u64 now] w fun e w' => e = .returned (.tuple #[.int .u8 255, .int .i64 0]) ∧ PAt w' B f ∧ Kp (isB B) w w' := by
 have HH : Hid _ := has_ok w ⟨B, 0, none⟩ 3 (by decide) (by decide)
 go_enter Tryz.func111, Tryz.ntmps111
 go_wp2_with fail
 refine Calls.mono HH.out ?_; rintro e w1 ⟨rfl, hw⟩; replace hw := hw.symm; subst hw
 go_wp2
 go_ret2
 exact ⟨rfl, h, Kp.refl _ _⟩
theorem out_0 (h : PAt w B f) (k : Oks f) (v now : Int) (v0 : 0 ≤ v) (v1 : v < 256) : Calls Tryz.prog 110 #[.pointer (some ⟨B, 0, none⟩), .int .i64 0, .int .u8 v, .int .u64 now] w fun e w' => e = .returned (.int .i64 0) ∧ PAt w' B (upd f 0 ((f 0).write v now)) ∧ Kp (isB B) w w' := by
 have HH : Hid _ := has_ok w ⟨B, 0, none⟩ 0 (by decide) (by decide)
 have H : Hid (Calls _ _ #[.pointer (some ⟨B, 0, none⟩), .int .u8 v, .int .u64 now] w _) := write_ok (h.at 0 0 (by decide) (by decide)) (k 0) v now v0 v1
 go_enter Tryz.func110, Tryz.ntmps110
 go_wp2_with fail
 refine Calls.mono HH.out ?_; rintro e w1 ⟨rfl, hw⟩; replace hw := hw.symm; subst hw
 go_wp2_with fail
 refine Calls.mono H.out ?_; rintro e w1 ⟨rfl, h1, k1⟩
 go_wp2
 go_ret
 exact ⟨rfl, h1.pit, k1⟩
theorem in_0 (h : PAt w B f) (k : Oks f) (now : Int) : Calls Tryz.prog 111 #[.pointer (some ⟨B, 0, none⟩), .int .i64 0, .int .u64 now] w fun e w' => e = .returned (.tuple #[.int .u8 ((f 0).told now), .int .i64 0]) ∧ PAt w' B (upd f 0 (f 0).read) ∧ Kp (isB B) w w' := by
 have HH : Hid _ := has_ok w ⟨B, 0, none⟩ 0 (by decide) (by decide)
 have H : Hid (Calls _ _ #[.pointer (some ⟨B, 0, none⟩), .int .u64 now] w _) := read_ok (h.at 0 0 (by decide) (by decide)) (k 0) now
 go_enter Tryz.func111, Tryz.ntmps111
 go_wp2_with fail
 refine Calls.mono HH.out ?_; rintro e w1 ⟨rfl, hw⟩; replace hw := hw.symm; subst hw
 go_wp2_with fail
 refine Calls.mono H.out ?_; rintro e w1 ⟨rfl, h1, k1⟩
 go_wp2
 go_ret2
 exact ⟨rfl, h1.pit, k1⟩
theorem out_1 (h : PAt w B f) (k : Oks f) (v now : Int) (v0 : 0 ≤ v) (v1 : v < 256) : Calls Tryz.prog 110 #[.pointer (some ⟨B, 0, none⟩), .int .i64 1, .int .u8 v, .int .u64 now] w fun e w' => e = .returned (.int .i64 0) ∧ PAt w' B (upd f 1 ((f 1).write v now)) ∧ Kp (isB B) w w' := by
 have HH : Hid _ := has_ok w ⟨B, 0, none⟩ 1 (by decide) (by decide)
 have H : Hid (Calls _ _ #[.pointer (some ⟨B, 10, none⟩), .int .u8 v, .int .u64 now] w _) := write_ok (h.at 1 10 (by decide) (by decide)) (k 1) v now v0 v1
 go_enter Tryz.func110, Tryz.ntmps110
 go_wp2_with fail
 refine Calls.mono HH.out ?_; rintro e w1 ⟨rfl, hw⟩; replace hw := hw.symm; subst hw
 go_wp2_with fail
 refine Calls.mono H.out ?_; rintro e w1 ⟨rfl, h1, k1⟩
 go_wp2
 go_ret
 exact ⟨rfl, h1.pit, k1⟩
theorem in_1 (h : PAt w B f) (k : Oks f) (now : Int) : Calls Tryz.prog 111 #[.pointer (some ⟨B, 0, none⟩), .int .i64 1, .int .u64 now] w fun e w' => e = .returned (.tuple #[.int .u8 ((f 1).told now), .int .i64 0]) ∧ PAt w' B (upd f 1 (f 1).read) ∧ Kp (isB B) w w' := by
 have HH : Hid _ := has_ok w ⟨B, 0, none⟩ 1 (by decide) (by decide)
 have H : Hid (Calls _ _ #[.pointer (some ⟨B, 10, none⟩), .int .u64 now] w _) := read_ok (h.at 1 10 (by decide) (by decide)) (k 1) now
 go_enter Tryz.func111, Tryz.ntmps111
 go_wp2_with fail
 refine Calls.mono HH.out ?_; rintro e w1 ⟨rfl, hw⟩; replace hw := hw.symm; subst hw
 go_wp2_with fail
 refine Calls.mono H.out ?_; rintro e w1 ⟨rfl, h1, k1⟩
 go_wp2
 go_ret2
 exact ⟨rfl, h1.pit, k1⟩
theorem out_2 (h : PAt w B f) (k : Oks f) (v now : Int) (v0 : 0 ≤ v) (v1 : v < 256) : Calls Tryz.prog 110 #[.pointer (some ⟨B, 0, none⟩), .int .i64 2, .int .u8 v, .int .u64 now] w fun e w' => e = .returned (.int .i64 0) ∧ PAt w' B (upd f 2 ((f 2).write v now)) ∧ Kp (isB B) w w' := by
 have HH : Hid _ := has_ok w ⟨B, 0, none⟩ 2 (by decide) (by decide)
 have H : Hid (Calls _ _ #[.pointer (some ⟨B, 20, none⟩), .int .u8 v, .int .u64 now] w _) := write_ok (h.at 2 20 (by decide) (by decide)) (k 2) v now v0 v1
 go_enter Tryz.func110, Tryz.ntmps110
 go_wp2_with fail
 refine Calls.mono HH.out ?_; rintro e w1 ⟨rfl, hw⟩; replace hw := hw.symm; subst hw
 go_wp2_with fail
 refine Calls.mono H.out ?_; rintro e w1 ⟨rfl, h1, k1⟩
 go_wp2
 go_ret
 exact ⟨rfl, h1.pit, k1⟩
theorem in_2 (h : PAt w B f) (k : Oks f) (now : Int) : Calls Tryz.prog 111 #[.pointer (some ⟨B, 0, none⟩), .int .i64 2, .int .u64 now] w fun e w' => e = .returned (.tuple #[.int .u8 ((f 2).told now), .int .i64 0]) ∧ PAt w' B (upd f 2 (f 2).read) ∧ Kp (isB B) w w' := by
 have HH : Hid _ := has_ok w ⟨B, 0, none⟩ 2 (by decide) (by decide)
 have H : Hid (Calls _ _ #[.pointer (some ⟨B, 20, none⟩), .int .u64 now] w _) := read_ok (h.at 2 20 (by decide) (by decide)) (k 2) now
 go_enter Tryz.func111, Tryz.ntmps111
 go_wp2_with fail
 refine Calls.mono HH.out ?_; rintro e w1 ⟨rfl, hw⟩; replace hw := hw.symm; subst hw
 go_wp2_with fail
 refine Calls.mono H.out ?_; rintro e w1 ⟨rfl, h1, k1⟩
 go_wp2
 go_ret2
 exact ⟨rfl, h1.pit, k1⟩
theorem out_ok (h : PAt w B f) (k : Oks f) (p v now : Int) (p0 : 0 ≤ p) (p1 : p < 4) (v0 : 0 ≤ v) (v1 : v < 256) : Calls Tryz.prog 110 #[.pointer (some ⟨B, 0, none⟩), .int .i64 p, .int .u8 v, .int .u64 now] w fun e w' => e = .returned (.int .i64 0) ∧ PAt w' B (outF f p v now) ∧ Kp (isB B) w w' := by
 rcases (by omega : p = 0 ∨ p = 1 ∨ p = 2 ∨ p = 3) with rfl | rfl | rfl | rfl
 ·exact out_0 h k v now v0 v1
 ·exact out_1 h k v now v0 v1
 ·exact out_2 h k v now v0 v1
 ·exact out_3 h k v now v0 v1
theorem in_ok (h : PAt w B f) (k : Oks f) (p now : Int) (p0 : 0 ≤ p) (p1 : p < 4) : Calls Tryz.prog 111 #[.pointer (some ⟨B, 0, none⟩), .int .i64 p, .int .u64 now] w fun e w' => e = .returned (.tuple #[.int .u8 (innV f p now), .int .i64 0]) ∧ PAt w' B (innF f p) ∧ Kp (isB B) w w' := by
 rcases (by omega : p = 0 ∨ p = 1 ∨ p = 2 ∨ p = 3) with rfl | rfl | rfl | rfl
 ·exact in_0 h k now
 ·exact in_1 h k now
 ·exact in_2 h k now
 ·exact in_3 h now
end
theorem Kp.own {S : Nat → Prop} {w w1 w2 : World} {B : Nat} (h : Kp S w w1) (k : Kp (isB B) w1 w2) (hB : w.heap.size ≤ B) : Kp S w w2 := h.over k (fun j hj e => by have : j = B := e; omega)
def f00 : Nat → Cn := fun _ => cn0
theorem f00_ok : Oks f00 := fun _ => cn0_ok
set_option maxRecDepth 20000
structure RC where
 mode : Int
 how : Int
 len : Int
 began : Int
 st : Bool
 wants : Bool
 fst : Int
 upper : Bool
 held : Bool
 value : Int
def chV (r : RC) : Array Value := #[.int .i64 r.mode, .int .i64 r.how, .int .u64 r.len, .int .u64 r.began, .bool r.st, .bool r.wants, .int .u8 r.fst, .bool r.upper, .bool r.held, .int .u64 r.value]
def RC.zero : RC := ⟨0, 0, 0, 0, false, false, 0, false, false, 0⟩
theorem chV_size (r : RC) : (chV r).size = 10 := rfl
theorem one_chV (r : RC) : ∀ v ∈ (chV r).toList, v.oneCell' = true := by
 intro v hv
 simp only [chV, List.mem_cons, List.not_mem_nil, or_false] at hv
 rcases hv with rfl | rfl | rfl | rfl | rfl | rfl | rfl | rfl | rfl | rfl <;> rfl
structure VlC (T : TypeId) (n : Nat) (Z : Array Value) (fs : Array Field) (ps : Array (Nat × Nat)) : Prop where
 t : T = 144
 s : n = 10
 z : Z = chV RC.zero
 agg : ∀ w, (isAgg T).run Tryz.prog w = .ok true w
 size : ∀ w, (sizeOf T).run Tryz.prog w = .ok n w
 zero : ∀ w, (zeroValue T).run Tryz.prog w = .ok (.agg Z) w
 under : ∀ w, (underlying T).run Tryz.prog w = .ok (.struct fs) w
 map : ∀ w, (Array.mapM (fun f : Field => Prod.mk f.offset <$> sizeOf f.type) fs).run Tryz.prog w = .ok ps w
 zs : Z.size = n
theorem vlC : ∃ T n Z fs ps, VlC T n Z fs ps :=
 ⟨_, _, _, (match Tryz.prog.underlying 144 with | some (.struct f) => f | _ => #[]), #[(0, 1), (1, 1), (2, 1), (3, 1), (4, 1), (5, 1), (6, 1), (7, 1), (8, 1), (9, 1)], rfl, rfl, rfl, fun w => by kernel_rfl, fun w => by kernel_rfl, fun w => by kernel_rfl, fun w => by kernel_rfl, fun w => by kernel_rfl, rfl⟩
theorem VlC.ops {T : TypeId} {n : Nat} {Z : Array Value} {fs : Array Field} {ps : Array (Nat × Nat)} (h : VlC T n Z fs ps) :
  (∀ x, Op.load 144 x = Op.load T x) ∧ (∀ x y, Op.store 144 x y = Op.store T x y) ∧ Op.alloc 144 = Op.alloc T ∧ ∀ x, Op.box 144 x = Op.box T x := by
 rw [h.t]
 exact ⟨fun _ => rfl, fun _ _ => rfl, rfl, fun _ => rfl⟩
def KAt (w : World) (q : Nat) (r : RC) : Prop := w.heap[q]? = some (.cells (chV r) 144 (0, 0))
def chL (r : RC) : List Value := [.int .i64 r.mode, .int .i64 r.how, .int .u64 r.len, .int .u64 r.began, .bool r.st, .bool r.wants, .int .u8 r.fst, .bool r.upper, .bool r.held, .int .u64 r.value]
theorem chL_is (r : RC) : (chV r).toList = chL r := rfl
theorem chL_len (r : RC) : (chL r).length = 10 := rfl
def rowR (g : Nat → RC) : Array Value := (chL (g 0) ++ (chL (g 1) ++ chL (g 2))).toArray
structure RAt (w : World) (R : Nat) (g : Nat → RC) : Prop where
 blk : w.heap[R]? = some (.cells (rowR g) 147 (0, 0))
def updR (g : Nat → RC) (i : Nat) (r : RC) : Nat → RC := fun j => if j = i then r else g j
theorem updR_at (g : Nat → RC) (i : Nat) (r : RC) : updR g i r i = r := by unfold updR; rw [if_pos rfl]
theorem updR_ne (g : Nat → RC) {i j : Nat} (r : RC) (h : j ≠ i) : updR g i r j = g j := by unfold updR; rw [if_neg h]
theorem KAt.kept {S : Nat → Prop} {w w' : World} {q : Nat} {r : RC} (h : KAt w q r) (k : Kp S w w') (hS : ¬ S q) : KAt w' q r := heap_kept h k hS
theorem RAt.kept {S : Nat → Prop} {w w' : World} {R : Nat} {g : Nat → RC} (h : RAt w R g) (k : Kp S w w') (hS : ¬ S R) : RAt w' R g := ⟨heap_kept h.blk k hS⟩
theorem RAt.lt {w : World} {R : Nat} {g : Nat → RC} (h : RAt w R g) : R < w.heap.size := heap_lt h.blk
theorem RAt.drew {w : World} {R : Nat} {g : Nat → RC} (h : RAt w R g) : RAt w.drew R g := h.kept (Kp.refl noB w).drew id
theorem Kp.setRow {S : Nat → Prop} (w : World) {g : Nat} (hp : S g) (cs : Array Value) : Kp S w (w.setRow g cs) :=
 ⟨rfl, rfl, rfl, by simp [World.setRow], fun k hk hs => setRow_other w g k cs (fun e => hs (e ▸ hp))⟩
section
variable {T : TypeId} {n : Nat} {Z : Array Value} {fs : Array Field} {ps : Array (Nat × Nat)}
theorem VlC.load (h : VlC T n Z fs ps) {w : World} {q o : Nat} {r : RC} (hr : w.rangeAt q o (chV r).toList) : (loadCellsFrom ⟨q, o, none⟩ 0 n #[]).run Tryz.prog w = .ok (chV r) w := by
 have e := run_loadCells_list (P := Tryz.prog) w ⟨q, o, none⟩ (chV r).toList (fun j v hv => by rw [Addr.add_mid]; exact hr j v hv)
 rw [h.s]
 exact e
theorem VlC.get (h : VlC T n Z fs ps) {w : World} {q : Nat} {r : RC} (hq : KAt w q r) : (loadCellsFrom ⟨q, 0, none⟩ 0 n #[]).run Tryz.prog w = .ok (chV r) w :=
 h.load (fun j v hv => by
  rw [cell_of_row w q (0 + j) _ _ _ hq, Nat.zero_add, ← Array.getElem?_toList]
  exact hv)
theorem row_get (g : Nat → RC) {i : Nat} (hi : i < 3) {j : Nat} {v : Value} (hv : (chV (g i)).toList[j]? = some v) : (rowR g)[10 * i + j]? = some v := by
 have hj : j < 10 := (List.getElem?_eq_some_iff.1 hv).1
 rw [chL_is] at hv
 unfold rowR
 rw [List.getElem?_toArray]
 rcases (by omega : i = 0 ∨ i = 1 ∨ i = 2) with rfl | rfl | rfl
 ·rw [List.getElem?_append_left (by rw [chL_len]; omega), show 10 * 0 + j = j by omega]
  exact hv
 ·rw [List.getElem?_append_right (by rw [chL_len]; omega), chL_len, show 10 * 1 + j - 10 = j by omega, List.getElem?_append_left (by rw [chL_len]; omega)]
  exact hv
 ·rw [List.getElem?_append_right (by rw [chL_len]; omega), chL_len, show 10 * 2 + j - 10 = 10 + j by omega, List.getElem?_append_right (by rw [chL_len]; omega), chL_len, show 10 + j - 10 = j by omega]
  exact hv
theorem VlC.getR (h : VlC T n Z fs ps) {w : World} {R : Nat} {g : Nat → RC} (hq : RAt w R g) (i o : Nat) (hi : i < 3) (ho : o = 10 * i) : (loadCellsFrom ⟨R, o, none⟩ 0 n #[]).run Tryz.prog w = .ok (chV (g i)) w :=
 h.load (fun j v hv => by
  rw [cell_of_row w R (o + j) _ _ _ hq.blk, ho]
  exact row_get g hi hv)
theorem put_ch {w : World} {q : Nat} {c : Array Value} {T : TypeId} (h : w.heap[q]? = some (.cells c T (0, 0))) (hc : c.size = 10) (r : RC) : (storeCells ⟨q, 0, none⟩ (chV r).toList).run Tryz.prog w = .ok () (w.setRow q (chV r)) := by
 have e := run_storeCells_at Tryz.prog q 0 T (chV r).toList 0 c w h (by simp [hc, chV_size]) (one_chV r)
 rw [e]
 have e2 : (List.take (0 + 0) c.toList ++ (chV r).toList ++ List.drop (0 + 0 + (chV r).toList.length) c.toList).toArray = chV r := by
  have h1 : List.drop (0 + 0 + (chV r).toList.length) c.toList = [] := List.drop_eq_nil_of_le (by simp [hc, chV_size])
  rw [h1]
  simp
 rw [e2]
theorem put_R {w : World} {R : Nat} {g : Nat → RC} (h : RAt w R g) (i o : Nat) (hi : i < 3) (ho : o = 10 * i) (r : RC) : (storeCells ⟨R, o, none⟩ (chV r).toList).run Tryz.prog w = .ok () (w.setRow R (rowR (updR g i r))) := by
 subst ho
 have e := run_storeCells_at Tryz.prog R (10 * i) _ (chV r).toList 0 _ w h.blk (by rw [chL_is, chL_len]; show 10 * i + 0 + 10 ≤ (rowR g).size; rw [show (rowR g).size = 30 by simp [rowR, chL_len]]; omega) (one_chV r)
 rw [e]
 have e2 : (List.take (10 * i + 0) (rowR g).toList ++ (chV r).toList ++ List.drop (10 * i + 0 + (chV r).toList.length) (rowR g).toList).toArray = rowR (updR g i r) := by
  rw [chL_is, chL_len]
  unfold rowR
  congr 1
  have t10 : ∀ (x : RC) (l : List Value), List.take 10 (chL x ++ l) = chL x := fun x l => List.take_left' (chL_len x)
  have d10 : ∀ (x : RC) (l : List Value), List.drop 10 (chL x ++ l) = l := fun x l => List.drop_left' (chL_len x)
  rcases (by omega : i = 0 ∨ i = 1 ∨ i = 2) with rfl | rfl | rfl
  ·rw [updR_at, updR_ne _ _ (by decide : (1 : Nat) ≠ 0), updR_ne _ _ (by decide : (2 : Nat) ≠ 0)]
   show List.take 0 _ ++ chL r ++ List.drop 10 _ = _
   rw [d10, List.take_zero, List.nil_append]
  ·rw [updR_at, updR_ne _ _ (by decide : (0 : Nat) ≠ 1), updR_ne _ _ (by decide : (2 : Nat) ≠ 1)]
   show List.take 10 _ ++ chL r ++ List.drop (10 + 10) _ = _
   rw [t10, ← List.drop_drop, d10, d10, List.append_assoc]
  ·rw [updR_at, updR_ne _ _ (by decide : (0 : Nat) ≠ 2), updR_ne _ _ (by decide : (1 : Nat) ≠ 2)]
   show List.take 20 _ ++ chL r ++ List.drop (10 + 20) _ = _
   have e20 : List.take 20 (chL (g 0) ++ (chL (g 1) ++ chL (g 2))) = chL (g 0) ++ chL (g 1) := by
    rw [← List.append_assoc]
    exact List.take_left' (by rw [List.length_append, chL_len, chL_len])
   have e30 : List.drop (10 + 20) (chL (g 0) ++ (chL (g 1) ++ chL (g 2))) = [] := List.drop_eq_nil_of_le (by simp [chL_len])
   rw [e20, e30, List.append_nil, List.append_assoc]
 rw [e2]
theorem RAt.put {w : World} {R : Nat} {g : Nat → RC} (h : RAt w R g) (i : Nat) (r : RC) : RAt (w.setRow R (rowR (updR g i r))) R (updR g i r) := ⟨setRow_heap w R _ _ _ _ h.blk⟩
theorem setRow_alloc (W : World) (c A : Array Value) (T : TypeId) : (W.alloc (.cells c T)).setRow W.heap.size A = W.alloc (.cells A T) := by
 unfold World.setRow World.alloc
 congr 1
 apply Array.ext_getElem?
 intro i
 rw [Array.getElem?_modify]
 by_cases h : W.heap.size = i
 ·subst h; simp
 ·simp only [h, if_false]
  by_cases h2 : i < W.heap.size
  ·rw [Array.getElem?_push_lt h2, Array.getElem?_push_lt h2]
  ·rw [Array.getElem?_eq_none (by simp; omega), Array.getElem?_eq_none (by simp; omega)]
theorem VlC.new (h : VlC T n Z fs ps) (r : RC) (W : World) : (storeCells ⟨W.heap.size, 0, none⟩ (chV r).toList).run Tryz.prog (W.alloc (.cells Z T)) = .ok () (W.alloc (.cells (chV r) T)) := by
 rw [← setRow_alloc W Z (chV r) T, h.t]
 exact put_ch (heap_new W (.cells Z 144)) (by rw [h.z]; rfl) r
theorem VlC.at (h : VlC T n Z fs ps) (r : RC) (W : World) : KAt (W.alloc (.cells (chV r) T)) W.heap.size r := by
 rw [h.t]; exact heap_new _ _
theorem VlC.getNew (h : VlC T n Z fs ps) (r : RC) (W : World) : (loadCellsFrom ⟨W.heap.size, 0, none⟩ 0 n #[]).run Tryz.prog (W.alloc (.cells (chV r) T)) = .ok (chV r) (W.alloc (.cells (chV r) T)) := h.get (h.at r W)
end
theorem KAt.cell {w : World} {q : Nat} {r : RC} (h : KAt w q r) {j : Nat} {v : Value} (e : (chV r)[j]? = some v) : w.cell? ⟨q, j, none⟩ = some v := by
 rw [cell_of_row w q j _ _ _ h]; exact e
theorem KAt.fz {w : World} {q : Nat} {r : RC} (h : KAt w q r) (j : Nat) : w.frozen? ⟨q, j, none⟩ = false := frozen_of_row w q j _ _ h
theorem KAt.set {w : World} {q : Nat} {r : RC} (h : KAt w q r) (j : Nat) (v : Value) (r' : RC) (e : (chV r).setIfInBounds j v = chV r') : KAt (w.setCell ⟨q, j, none⟩ v) q r' := by
 unfold KAt
 rw [heap_set h, e]
theorem KAt.c1 {w : World} {q : Nat} {r : RC} (h : KAt w q r) : w.cell? ⟨q, 1, none⟩ = some (.int .i64 r.how) := h.cell rfl
theorem KAt.c7 {w : World} {q : Nat} {r : RC} (h : KAt w q r) : w.cell? ⟨q, 7, none⟩ = some (.bool r.upper) := h.cell rfl
theorem KAt.c8 {w : World} {q : Nat} {r : RC} (h : KAt w q r) : w.cell? ⟨q, 8, none⟩ = some (.bool r.held) := h.cell rfl
theorem KAt.c9 {w : World} {q : Nat} {r : RC} (h : KAt w q r) : w.cell? ⟨q, 9, none⟩ = some (.int .u64 r.value) := h.cell rfl
theorem RAt.fz {w : World} {R : Nat} {g : Nat → RC} (h : RAt w R g) (j : Nat) : w.frozen? ⟨R, j, none⟩ = false := frozen_of_row w R j _ _ h.blk
theorem Kp.new {S : Nat → Prop} {w W : World} (h : Kp S w W) {b : Nat} (hb : w.heap.size ≤ b) (k : Nat) (v : Value) : Kp S w (W.setCell ⟨b, k, none⟩ v) := h.own (kpB b W k v) hb
def RC.steps (r : RC) (now : Int) : Int := (now - r.began) % 18446744073709551616
def RC.val (r : RC) (now : Int) : Int :=
 if r.st then r.len % 65536
 else if r.mode = 0 then (r.len + 65536 - r.steps now % 65536) % 65536
 else if r.mode = 2 then (r.len - r.steps now % r.len) % 65536
 else if r.mode = 3 then (r.len - r.steps now % r.len) % 65536
 else r.len % 65536
def RC.line (r : RC) (now : Int) : Bool :=
 if r.st then r.mode != 0
 else if r.mode = 0 then decide (r.len ≤ r.steps now)
 else if r.mode = 2 then r.steps now % r.len != r.len - 1
 else if r.mode = 3 then decide (r.steps now % r.len < (r.len + 1) / 2)
 else true
theorem cnt3 {i : Nat} (hi : i < 3) : ((0 : Int) ≤ i ∧ (i : Int) < 3) ∧ decide ((i : Int) < 0) = false ∧ decide (3 < (i : Int)) = false ∧ ((i : Int) == 3) = false ∧ decide (2 < (i : Int)) = false :=
 ⟨by omega, decide_eq_false (by omega), decide_eq_false (by omega), by rw [beq_eq_false_iff_ne]; omega, decide_eq_false (by omega)⟩
theorem w64 (n : Int) : IntKind.u64.wrap n = n % 18446744073709551616 := by simp [IntKind.wrap, IntKind.bits, IntKind.signed]
theorem w64_in {n : Int} (h0 : 0 ≤ n) (h1 : n < 18446744073709551616) : IntKind.u64.wrap n = n := by rw [w64]; omega
theorem RC.steps_bd (r : RC) (now : Int) : 0 ≤ r.steps now ∧ r.steps now < 18446744073709551616 := by
 unfold RC.steps
 omega
set_option maxRecDepth 20000 in
set_option maxHeartbeats 1000000 in
theorem rval_st (w : World) (r : RC) (now : Int) (l0 : 1 ≤ r.len) (l1 : r.len ≤ 65536) (hs : r.st = true) : Calls Tryz.prog 162 #[.agg (chV r), .int .u64 now] w fun e w' => e = .returned (.int .u64 (r.len % 65536)) ∧ Kp noB w w' := by
 obtain ⟨T, nI, Z, fs, ps, V⟩ := vlC
 obtain ⟨vl, vs, va, vb⟩ := V.ops
 have v1 := V.agg
 have v2 := V.size
 have v3 := V.zero
 have v4 := V.under
 have v5 := V.map
 have v6 := V.zs
 have q0 : (chV r)[0]? = some (.int .i64 r.mode) := rfl
 have q2 : (chV r)[2]? = some (.int .u64 r.len) := rfl
 have q3 : (chV r)[3]? = some (.int .u64 r.began) := rfl
 have q4 : (chV r)[4]? = some (.bool r.st) := rfl
 have hN : IntKind.u64.wrap (now - r.began) = r.steps now := w64 _
 have bN := r.steps_bd now
 have hz : (r.len == 0) = false := by simp; omega
 have rb := rem_bd (n := r.steps now) l0
 have cs : ∀ r : RC, (chV r).size = nI := fun r => by rw [V.s]; rfl
 rw [hs] at q4
 obtain ⟨N, eN⟩ : ∃ N, N = r.steps now := ⟨_, rfl⟩
 rw [← eN] at hN bN rb
 try rw [← eN]
 obtain ⟨M, eM0⟩ : ∃ M, N % r.len = M := ⟨_, rfl⟩
 rw [eM0] at rb
 have eM : N.tmod r.len = M := by rw [Int.tmod_eq_emod_of_nonneg bN.1]; exact eM0
 have tL : r.len.tmod 65536 = r.len % 65536 := Int.tmod_eq_emod_of_nonneg (by omega)
 clear eN V
 go_enter Tryz.func162, Tryz.ntmps162
 simp only [vb]
 clear vl vs va vb
 go_wp2
 go_ret
 exact ⟨(ret_int (by first | rfl | simp only [tL])), Kp.alloc _ _ _⟩
set_option maxRecDepth 20000 in
set_option maxHeartbeats 1000000 in
theorem rval_0 (w : World) (r : RC) (now : Int) (l0 : 1 ≤ r.len) (l1 : r.len ≤ 65536) (hs : r.st = false) (hm : r.mode = 0) : Calls Tryz.prog 162 #[.agg (chV r), .int .u64 now] w fun e w' => e = .returned (.int .u64 ((r.len + 65536 - r.steps now % 65536) % 65536)) ∧ Kp noB w w' := by
 obtain ⟨T, nI, Z, fs, ps, V⟩ := vlC
 obtain ⟨vl, vs, va, vb⟩ := V.ops
 have v1 := V.agg
 have v2 := V.size
 have v3 := V.zero
 have v4 := V.under
 have v5 := V.map
 have v6 := V.zs
 have q0 : (chV r)[0]? = some (.int .i64 r.mode) := rfl
 have q2 : (chV r)[2]? = some (.int .u64 r.len) := rfl
 have q3 : (chV r)[3]? = some (.int .u64 r.began) := rfl
 have q4 : (chV r)[4]? = some (.bool r.st) := rfl
 have hN : IntKind.u64.wrap (now - r.began) = r.steps now := w64 _
 have bN := r.steps_bd now
 have hz : (r.len == 0) = false := by simp; omega
 have rb := rem_bd (n := r.steps now) l0
 have cs : ∀ r : RC, (chV r).size = nI := fun r => by rw [V.s]; rfl
 rw [hs] at q4
 rw [hm] at q0
 obtain ⟨N, eN⟩ : ∃ N, N = r.steps now := ⟨_, rfl⟩
 rw [← eN] at hN bN rb
 try rw [← eN]
 obtain ⟨M, eM0⟩ : ∃ M, N % r.len = M := ⟨_, rfl⟩
 rw [eM0] at rb
 have eM : N.tmod r.len = M := by rw [Int.tmod_eq_emod_of_nonneg bN.1]; exact eM0
 have tL : r.len.tmod 65536 = r.len % 65536 := Int.tmod_eq_emod_of_nonneg (by omega)
 obtain ⟨K, eK0⟩ : ∃ K, N % 65536 = K := ⟨_, rfl⟩
 have bK : 0 ≤ K ∧ K < 65536 := by omega
 rw [eK0]
 have eK : N.tmod 65536 = K := by rw [Int.tmod_eq_emod_of_nonneg bN.1]; exact eK0
 have a2 : IntKind.u64.wrap (r.len + 65536 - K) = r.len + 65536 - K := w64_in (by omega) (by omega)
 have t2 : (r.len + 65536 - K).tmod 65536 = (r.len + 65536 - K) % 65536 := Int.tmod_eq_emod_of_nonneg (by omega)
 clear bK bN rb eM eM0 eK0
 clear eN V
 go_enter Tryz.func162, Tryz.ntmps162
 simp only [vb]
 clear vl vs va vb
 go_wp2
 go_ret
 exact ⟨(ret_int (by first | rfl | simp only [hN, eK, a2, t2])), Kp.alloc _ _ _⟩
set_option maxRecDepth 20000 in
set_option maxHeartbeats 1000000 in
theorem rval_2 (w : World) (r : RC) (now : Int) (l0 : 1 ≤ r.len) (l1 : r.len ≤ 65536) (hs : r.st = false) (hm : r.mode = 2) : Calls Tryz.prog 162 #[.agg (chV r), .int .u64 now] w fun e w' => e = .returned (.int .u64 ((r.len - r.steps now % r.len) % 65536)) ∧ Kp noB w w' := by
 obtain ⟨T, nI, Z, fs, ps, V⟩ := vlC
 obtain ⟨vl, vs, va, vb⟩ := V.ops
 have v1 := V.agg
 have v2 := V.size
 have v3 := V.zero
 have v4 := V.under
 have v5 := V.map
 have v6 := V.zs
 have q0 : (chV r)[0]? = some (.int .i64 r.mode) := rfl
 have q2 : (chV r)[2]? = some (.int .u64 r.len) := rfl
 have q3 : (chV r)[3]? = some (.int .u64 r.began) := rfl
 have q4 : (chV r)[4]? = some (.bool r.st) := rfl
 have hN : IntKind.u64.wrap (now - r.began) = r.steps now := w64 _
 have bN := r.steps_bd now
 have hz : (r.len == 0) = false := by simp; omega
 have rb := rem_bd (n := r.steps now) l0
 have cs : ∀ r : RC, (chV r).size = nI := fun r => by rw [V.s]; rfl
 rw [hs] at q4
 rw [hm] at q0
 obtain ⟨N, eN⟩ : ∃ N, N = r.steps now := ⟨_, rfl⟩
 rw [← eN] at hN bN rb
 try rw [← eN]
 obtain ⟨M, eM0⟩ : ∃ M, N % r.len = M := ⟨_, rfl⟩
 rw [eM0] at rb
 have eM : N.tmod r.len = M := by rw [Int.tmod_eq_emod_of_nonneg bN.1]; exact eM0
 have tL : r.len.tmod 65536 = r.len % 65536 := Int.tmod_eq_emod_of_nonneg (by omega)
 rw [eM0]
 have a2 : IntKind.u64.wrap (r.len - M) = r.len - M := w64_in (by omega) (by omega)
 have t2 : (r.len - M).tmod 65536 = (r.len - M) % 65536 := Int.tmod_eq_emod_of_nonneg (by omega)
 clear eM0
 clear eN V
 go_enter Tryz.func162, Tryz.ntmps162
 simp only [vb]
 clear vl vs va vb
 go_wp2
 go_region
 all_goals
  go_wp2
  go_ret
  exact ⟨(ret_int (by first | rfl | simp only [hN, eM, a2, t2])), (Kp.alloc noB w _).drew⟩
set_option maxRecDepth 20000 in
set_option maxHeartbeats 1000000 in
theorem rval_3 (w : World) (r : RC) (now : Int) (l0 : 1 ≤ r.len) (l1 : r.len ≤ 65536) (hs : r.st = false) (hm : r.mode = 3) : Calls Tryz.prog 162 #[.agg (chV r), .int .u64 now] w fun e w' => e = .returned (.int .u64 ((r.len - r.steps now % r.len) % 65536)) ∧ Kp noB w w' := by
 obtain ⟨T, nI, Z, fs, ps, V⟩ := vlC
 obtain ⟨vl, vs, va, vb⟩ := V.ops
 have v1 := V.agg
 have v2 := V.size
 have v3 := V.zero
 have v4 := V.under
 have v5 := V.map
 have v6 := V.zs
 have q0 : (chV r)[0]? = some (.int .i64 r.mode) := rfl
 have q2 : (chV r)[2]? = some (.int .u64 r.len) := rfl
 have q3 : (chV r)[3]? = some (.int .u64 r.began) := rfl
 have q4 : (chV r)[4]? = some (.bool r.st) := rfl
 have hN : IntKind.u64.wrap (now - r.began) = r.steps now := w64 _
 have bN := r.steps_bd now
 have hz : (r.len == 0) = false := by simp; omega
 have rb := rem_bd (n := r.steps now) l0
 have cs : ∀ r : RC, (chV r).size = nI := fun r => by rw [V.s]; rfl
 rw [hs] at q4
 rw [hm] at q0
 obtain ⟨N, eN⟩ : ∃ N, N = r.steps now := ⟨_, rfl⟩
 rw [← eN] at hN bN rb
 try rw [← eN]
 obtain ⟨M, eM0⟩ : ∃ M, N % r.len = M := ⟨_, rfl⟩
 rw [eM0] at rb
 have eM : N.tmod r.len = M := by rw [Int.tmod_eq_emod_of_nonneg bN.1]; exact eM0
 have tL : r.len.tmod 65536 = r.len % 65536 := Int.tmod_eq_emod_of_nonneg (by omega)
 rw [eM0]
 have a2 : IntKind.u64.wrap (r.len - M) = r.len - M := w64_in (by omega) (by omega)
 have t2 : (r.len - M).tmod 65536 = (r.len - M) % 65536 := Int.tmod_eq_emod_of_nonneg (by omega)
 clear eM0
 clear eN V
 go_enter Tryz.func162, Tryz.ntmps162
 simp only [vb]
 clear vl vs va vb
 go_wp2
 go_region
 all_goals
  go_wp2
  go_ret
  exact ⟨(ret_int (by first | rfl | simp only [hN, eM, a2, t2])), (Kp.alloc noB w _).drew⟩
set_option maxRecDepth 20000 in
set_option maxHeartbeats 1000000 in
theorem rval_no (w : World) (r : RC) (now : Int) (l0 : 1 ≤ r.len) (l1 : r.len ≤ 65536) (hs : r.st = false) (hm : ¬ r.mode = 0 ∧ ¬ r.mode = 2 ∧ ¬ r.mode = 3) : Calls Tryz.prog 162 #[.agg (chV r), .int .u64 now] w fun e w' => e = .returned (.int .u64 (r.len % 65536)) ∧ Kp noB w w' := by
 obtain ⟨T, nI, Z, fs, ps, V⟩ := vlC
 obtain ⟨vl, vs, va, vb⟩ := V.ops
 have v1 := V.agg
 have v2 := V.size
 have v3 := V.zero
 have v4 := V.under
 have v5 := V.map
 have v6 := V.zs
 have q0 : (chV r)[0]? = some (.int .i64 r.mode) := rfl
 have q2 : (chV r)[2]? = some (.int .u64 r.len) := rfl
 have q3 : (chV r)[3]? = some (.int .u64 r.began) := rfl
 have q4 : (chV r)[4]? = some (.bool r.st) := rfl
 have hN : IntKind.u64.wrap (now - r.began) = r.steps now := w64 _
 have bN := r.steps_bd now
 have hz : (r.len == 0) = false := by simp; omega
 have rb := rem_bd (n := r.steps now) l0
 have cs : ∀ r : RC, (chV r).size = nI := fun r => by rw [V.s]; rfl
 rw [hs] at q4
 have m0 : (r.mode == 0) = false := by simp [hm.1]
 have m2 : (r.mode == 2) = false := by simp [hm.2.1]
 have m3 : (r.mode == 3) = false := by simp [hm.2.2]
 clear hm
 obtain ⟨N, eN⟩ : ∃ N, N = r.steps now := ⟨_, rfl⟩
 rw [← eN] at hN bN rb
 try rw [← eN]
 obtain ⟨M, eM0⟩ : ∃ M, N % r.len = M := ⟨_, rfl⟩
 rw [eM0] at rb
 have eM : N.tmod r.len = M := by rw [Int.tmod_eq_emod_of_nonneg bN.1]; exact eM0
 have tL : r.len.tmod 65536 = r.len % 65536 := Int.tmod_eq_emod_of_nonneg (by omega)
 clear eN V
 go_enter Tryz.func162, Tryz.ntmps162
 simp only [vb]
 clear vl vs va vb
 go_wp2
 go_ret
 exact ⟨(ret_int (by first | rfl | simp only [tL])), Kp.alloc _ _ _⟩
theorem rval_ok (w : World) (r : RC) (now : Int) (l0 : 1 ≤ r.len) (l1 : r.len ≤ 65536) : Calls Tryz.prog 162 #[.agg (chV r), .int .u64 now] w fun e w' => e = .returned (.int .u64 (r.val now)) ∧ Kp noB w w' := by
 unfold RC.val
 cases hs : r.st
 ·simp only [Bool.false_eq_true, if_false]
  by_cases h0 : r.mode = 0
  ·rw [if_pos h0]; exact rval_0 w r now l0 l1 hs h0
  ·rw [if_neg h0]
   by_cases h2 : r.mode = 2
   ·rw [if_pos h2]; exact rval_2 w r now l0 l1 hs h2
   ·rw [if_neg h2]
    by_cases h3 : r.mode = 3
    ·rw [if_pos h3]; exact rval_3 w r now l0 l1 hs h3
    ·rw [if_neg h3]; exact rval_no w r now l0 l1 hs ⟨h0, h2, h3⟩
 ·simp only [if_true]
  exact rval_st w r now l0 l1 hs
set_option maxRecDepth 20000 in
set_option maxHeartbeats 1000000 in
theorem rlin_st (w : World) (R : Nat) (g : Nat → RC) (r : RC) (h : RAt w R g) (hr : g 0 = r) (now : Int) (l0 : 1 ≤ r.len) (l1 : r.len ≤ 65536) (hs : r.st = true) : Calls Tryz.prog 76 #[.pointer (some ⟨R, 0, none⟩), .int .u64 now] w fun e w' => e = .returned (.bool (r.mode != 0)) ∧ Kp noB w w' := by
 obtain ⟨T, nI, Z, fs, ps, V⟩ := vlC
 obtain ⟨vl, vs, va, vb⟩ := V.ops
 have v1 := V.agg
 have v2 := V.size
 have v3 := V.zero
 have v4 := V.under
 have v5 := V.map
 have v6 := V.zs
 have q0 : (chV r)[0]? = some (.int .i64 r.mode) := rfl
 have q2 : (chV r)[2]? = some (.int .u64 r.len) := rfl
 have q3 : (chV r)[3]? = some (.int .u64 r.began) := rfl
 have q4 : (chV r)[4]? = some (.bool r.st) := rfl
 have hN : IntKind.u64.wrap (now - r.began) = r.steps now := w64 _
 have bN := r.steps_bd now
 have hz : (r.len == 0) = false := by simp; omega
 have rb := rem_bd (n := r.steps now) l0
 have cs : ∀ r : RC, (chV r).size = nI := fun r => by rw [V.s]; rfl
 have L := V.getR h 0 0 (by decide) (by decide)
 rw [hr] at L
 have vG := V.getNew
 have vN := V.new
 rw [hs] at q4
 obtain ⟨N, eN⟩ : ∃ N, N = r.steps now := ⟨_, rfl⟩
 rw [← eN] at hN bN rb
 try rw [← eN]
 obtain ⟨M, eM0⟩ : ∃ M, N % r.len = M := ⟨_, rfl⟩
 rw [eM0] at rb
 have eM : N.tmod r.len = M := by rw [Int.tmod_eq_emod_of_nonneg bN.1]; exact eM0
 have tL : r.len.tmod 65536 = r.len % 65536 := Int.tmod_eq_emod_of_nonneg (by omega)
 clear h
 clear eN V
 go_enter Tryz.func76, Tryz.ntmps76
 simp only [vl, vs, va]
 clear vl vs va vb
 go_wp2
 go_ret
 exact ⟨rfl, Kp.alloc _ _ _⟩
set_option maxRecDepth 20000 in
set_option maxHeartbeats 1000000 in
theorem rlin_0 (w : World) (R : Nat) (g : Nat → RC) (r : RC) (h : RAt w R g) (hr : g 0 = r) (now : Int) (l0 : 1 ≤ r.len) (l1 : r.len ≤ 65536) (hs : r.st = false) (hm : r.mode = 0) : Calls Tryz.prog 76 #[.pointer (some ⟨R, 0, none⟩), .int .u64 now] w fun e w' => e = .returned (.bool (decide (r.len ≤ r.steps now))) ∧ Kp noB w w' := by
 obtain ⟨T, nI, Z, fs, ps, V⟩ := vlC
 obtain ⟨vl, vs, va, vb⟩ := V.ops
 have v1 := V.agg
 have v2 := V.size
 have v3 := V.zero
 have v4 := V.under
 have v5 := V.map
 have v6 := V.zs
 have q0 : (chV r)[0]? = some (.int .i64 r.mode) := rfl
 have q2 : (chV r)[2]? = some (.int .u64 r.len) := rfl
 have q3 : (chV r)[3]? = some (.int .u64 r.began) := rfl
 have q4 : (chV r)[4]? = some (.bool r.st) := rfl
 have hN : IntKind.u64.wrap (now - r.began) = r.steps now := w64 _
 have bN := r.steps_bd now
 have hz : (r.len == 0) = false := by simp; omega
 have rb := rem_bd (n := r.steps now) l0
 have cs : ∀ r : RC, (chV r).size = nI := fun r => by rw [V.s]; rfl
 have L := V.getR h 0 0 (by decide) (by decide)
 rw [hr] at L
 have vG := V.getNew
 have vN := V.new
 rw [hs] at q4
 rw [hm] at q0
 obtain ⟨N, eN⟩ : ∃ N, N = r.steps now := ⟨_, rfl⟩
 rw [← eN] at hN bN rb
 try rw [← eN]
 obtain ⟨M, eM0⟩ : ∃ M, N % r.len = M := ⟨_, rfl⟩
 rw [eM0] at rb
 have eM : N.tmod r.len = M := by rw [Int.tmod_eq_emod_of_nonneg bN.1]; exact eM0
 have tL : r.len.tmod 65536 = r.len % 65536 := Int.tmod_eq_emod_of_nonneg (by omega)
 clear h
 clear eN V
 go_enter Tryz.func76, Tryz.ntmps76
 simp only [vl, vs, va]
 clear vl vs va vb
 go_wp2
 go_ret
 exact ⟨(ret_bool (by first | rfl | simp only [hN])), Kp.alloc _ _ _⟩
set_option maxRecDepth 20000 in
set_option maxHeartbeats 1000000 in
theorem rlin_2 (w : World) (R : Nat) (g : Nat → RC) (r : RC) (h : RAt w R g) (hr : g 0 = r) (now : Int) (l0 : 1 ≤ r.len) (l1 : r.len ≤ 65536) (hs : r.st = false) (hm : r.mode = 2) : Calls Tryz.prog 76 #[.pointer (some ⟨R, 0, none⟩), .int .u64 now] w fun e w' => e = .returned (.bool (r.steps now % r.len != r.len - 1)) ∧ Kp noB w w' := by
 obtain ⟨T, nI, Z, fs, ps, V⟩ := vlC
 obtain ⟨vl, vs, va, vb⟩ := V.ops
 have v1 := V.agg
 have v2 := V.size
 have v3 := V.zero
 have v4 := V.under
 have v5 := V.map
 have v6 := V.zs
 have q0 : (chV r)[0]? = some (.int .i64 r.mode) := rfl
 have q2 : (chV r)[2]? = some (.int .u64 r.len) := rfl
 have q3 : (chV r)[3]? = some (.int .u64 r.began) := rfl
 have q4 : (chV r)[4]? = some (.bool r.st) := rfl
 have hN : IntKind.u64.wrap (now - r.began) = r.steps now := w64 _
 have bN := r.steps_bd now
 have hz : (r.len == 0) = false := by simp; omega
 have rb := rem_bd (n := r.steps now) l0
 have cs : ∀ r : RC, (chV r).size = nI := fun r => by rw [V.s]; rfl
 have L := V.getR h 0 0 (by decide) (by decide)
 rw [hr] at L
 have vG := V.getNew
 have vN := V.new
 rw [hs] at q4
 rw [hm] at q0
 obtain ⟨N, eN⟩ : ∃ N, N = r.steps now := ⟨_, rfl⟩
 rw [← eN] at hN bN rb
 try rw [← eN]
 obtain ⟨M, eM0⟩ : ∃ M, N % r.len = M := ⟨_, rfl⟩
 rw [eM0] at rb
 have eM : N.tmod r.len = M := by rw [Int.tmod_eq_emod_of_nonneg bN.1]; exact eM0
 have tL : r.len.tmod 65536 = r.len % 65536 := Int.tmod_eq_emod_of_nonneg (by omega)
 rw [eM0]
 have a2 : IntKind.u64.wrap (r.len - 1) = r.len - 1 := w64_in (by omega) (by omega)
 clear eM0
 clear h
 clear eN V
 go_enter Tryz.func76, Tryz.ntmps76
 simp only [vl, vs, va]
 clear vl vs va vb
 go_wp2
 go_region
 all_goals
  go_wp2
  go_ret
  exact ⟨(ret_bool (by first | rfl | simp only [hN, eM, a2] | simp only [hN, eM, a2, t2])), (Kp.alloc noB w _).drew⟩
set_option maxRecDepth 20000 in
set_option maxHeartbeats 1000000 in
theorem rlin_3 (w : World) (R : Nat) (g : Nat → RC) (r : RC) (h : RAt w R g) (hr : g 0 = r) (now : Int) (l0 : 1 ≤ r.len) (l1 : r.len ≤ 65536) (hs : r.st = false) (hm : r.mode = 3) : Calls Tryz.prog 76 #[.pointer (some ⟨R, 0, none⟩), .int .u64 now] w fun e w' => e = .returned (.bool (decide (r.steps now % r.len < (r.len + 1) / 2))) ∧ Kp noB w w' := by
 obtain ⟨T, nI, Z, fs, ps, V⟩ := vlC
 obtain ⟨vl, vs, va, vb⟩ := V.ops
 have v1 := V.agg
 have v2 := V.size
 have v3 := V.zero
 have v4 := V.under
 have v5 := V.map
 have v6 := V.zs
 have q0 : (chV r)[0]? = some (.int .i64 r.mode) := rfl
 have q2 : (chV r)[2]? = some (.int .u64 r.len) := rfl
 have q3 : (chV r)[3]? = some (.int .u64 r.began) := rfl
 have q4 : (chV r)[4]? = some (.bool r.st) := rfl
 have hN : IntKind.u64.wrap (now - r.began) = r.steps now := w64 _
 have bN := r.steps_bd now
 have hz : (r.len == 0) = false := by simp; omega
 have rb := rem_bd (n := r.steps now) l0
 have cs : ∀ r : RC, (chV r).size = nI := fun r => by rw [V.s]; rfl
 have L := V.getR h 0 0 (by decide) (by decide)
 rw [hr] at L
 have vG := V.getNew
 have vN := V.new
 rw [hs] at q4
 rw [hm] at q0
 obtain ⟨N, eN⟩ : ∃ N, N = r.steps now := ⟨_, rfl⟩
 rw [← eN] at hN bN rb
 try rw [← eN]
 obtain ⟨M, eM0⟩ : ∃ M, N % r.len = M := ⟨_, rfl⟩
 rw [eM0] at rb
 have eM : N.tmod r.len = M := by rw [Int.tmod_eq_emod_of_nonneg bN.1]; exact eM0
 have tL : r.len.tmod 65536 = r.len % 65536 := Int.tmod_eq_emod_of_nonneg (by omega)
 rw [eM0]
 have a2 : IntKind.u64.wrap (r.len + 1) = r.len + 1 := w64_in (by omega) (by omega)
 have t2 : (r.len + 1).tdiv 2 = (r.len + 1) / 2 := Int.tdiv_eq_ediv_of_nonneg (by omega)
 clear eM0
 clear h
 clear eN V
 go_enter Tryz.func76, Tryz.ntmps76
 simp only [vl, vs, va]
 clear vl vs va vb
 go_wp2
 go_region
 all_goals
  go_wp2
  go_ret
  exact ⟨(ret_bool (by first | rfl | simp only [hN, eM, a2] | simp only [hN, eM, a2, t2])), (Kp.alloc noB w _).drew⟩
set_option maxRecDepth 20000 in
set_option maxHeartbeats 1000000 in
theorem rlin_no (w : World) (R : Nat) (g : Nat → RC) (r : RC) (h : RAt w R g) (hr : g 0 = r) (now : Int) (l0 : 1 ≤ r.len) (l1 : r.len ≤ 65536) (hs : r.st = false) (hm : ¬ r.mode = 0 ∧ ¬ r.mode = 2 ∧ ¬ r.mode = 3) : Calls Tryz.prog 76 #[.pointer (some ⟨R, 0, none⟩), .int .u64 now] w fun e w' => e = .returned (.bool true) ∧ Kp noB w w' := by
 obtain ⟨T, nI, Z, fs, ps, V⟩ := vlC
 obtain ⟨vl, vs, va, vb⟩ := V.ops
 have v1 := V.agg
 have v2 := V.size
 have v3 := V.zero
 have v4 := V.under
 have v5 := V.map
 have v6 := V.zs
 have q0 : (chV r)[0]? = some (.int .i64 r.mode) := rfl
 have q2 : (chV r)[2]? = some (.int .u64 r.len) := rfl
 have q3 : (chV r)[3]? = some (.int .u64 r.began) := rfl
 have q4 : (chV r)[4]? = some (.bool r.st) := rfl
 have hN : IntKind.u64.wrap (now - r.began) = r.steps now := w64 _
 have bN := r.steps_bd now
 have hz : (r.len == 0) = false := by simp; omega
 have rb := rem_bd (n := r.steps now) l0
 have cs : ∀ r : RC, (chV r).size = nI := fun r => by rw [V.s]; rfl
 have L := V.getR h 0 0 (by decide) (by decide)
 rw [hr] at L
 have vG := V.getNew
 have vN := V.new
 rw [hs] at q4
 have m0 : (r.mode == 0) = false := by simp [hm.1]
 have m2 : (r.mode == 2) = false := by simp [hm.2.1]
 have m3 : (r.mode == 3) = false := by simp [hm.2.2]
 clear hm
 obtain ⟨N, eN⟩ : ∃ N, N = r.steps now := ⟨_, rfl⟩
 rw [← eN] at hN bN rb
 try rw [← eN]
 obtain ⟨M, eM0⟩ : ∃ M, N % r.len = M := ⟨_, rfl⟩
 rw [eM0] at rb
 have eM : N.tmod r.len = M := by rw [Int.tmod_eq_emod_of_nonneg bN.1]; exact eM0
 have tL : r.len.tmod 65536 = r.len % 65536 := Int.tmod_eq_emod_of_nonneg (by omega)
 clear h
 clear eN V
 go_enter Tryz.func76, Tryz.ntmps76
 simp only [vl, vs, va]
 clear vl vs va vb
 go_wp2
 go_ret
 exact ⟨rfl, Kp.alloc _ _ _⟩
theorem rlin_ok (w : World) (R : Nat) (g : Nat → RC) (h : RAt w R g) (now : Int) (l0 : 1 ≤ (g 0).len) (l1 : (g 0).len ≤ 65536) : Calls Tryz.prog 76 #[.pointer (some ⟨R, 0, none⟩), .int .u64 now] w fun e w' => e = .returned (.bool ((g 0).line now)) ∧ Kp noB w w' := by
 unfold RC.line
 cases hs : (g 0).st
 ·simp only [Bool.false_eq_true, if_false]
  by_cases h0 : (g 0).mode = 0
  ·rw [if_pos h0]; exact rlin_0 w R g _ h rfl now l0 l1 hs h0
  ·rw [if_neg h0]
   by_cases h2 : (g 0).mode = 2
   ·rw [if_pos h2]; exact rlin_2 w R g _ h rfl now l0 l1 hs h2
   ·rw [if_neg h2]
    by_cases h3 : (g 0).mode = 3
    ·rw [if_pos h3]; exact rlin_3 w R g _ h rfl now l0 l1 hs h3
    ·rw [if_neg h3]; exact rlin_no w R g _ h rfl now l0 l1 hs ⟨h0, h2, h3⟩
 ·simp only [if_true]
  exact rlin_st w R g _ h rfl now l0 l1 hs
end Go.Proofs.YtonfjhbfkichkaaGreat.Pt
