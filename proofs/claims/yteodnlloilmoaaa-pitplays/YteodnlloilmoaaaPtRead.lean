/- The contracts of a counter's hold and read. -/
import Derived.Test.YteodnlloilmoaaaPtVal
import Derived.Test.YteodnlloilmoaaaPtWrt
namespace Go.Proofs.Yteodnlloilmoaaa
open Go.ChangeShapes Go.WideShapes Go.ChangeAt Go.RowKit
set_option linter.unusedVariables false

section
variable {w : World} {B o : Nat} {f : Nat → Cn} {i : Nat} {c : Cn}

theorem hold_ok (h : CAt w B o f i c) (k : c.Ok) (now : Int) : Calls Try.prog 25 #[.pointer (some ⟨B, o, none⟩), .int .u64 now] w fun e w' => e = .returned (.tuple #[]) ∧ CAt w' B o f i (c.hold now) ∧ Kp (isB B) w w' := by
  have c9 := h.c9
  have HV : Hid _ := value_ok h k now
  unfold Cn.hold
  cases e : c.holds
  · rw [e] at c9
    have hC : Hid (CAt w B o f i c) := h
    clear h
    obtain ⟨V, hV⟩ : ∃ V, V = c.value now := ⟨_, rfl⟩
    rw [← hV] at HV ⊢
    clear hV
    go_enter Try.func25, Try.ntmps25
    go_wp2_with fail
    refine Calls.mono HV.out ?_; rintro e w1 ⟨rfl, k1⟩
    have h1 := hC.out.kept k1 id
    clear c9
    have c8 := h1.c8
    have c9 := h1.c9
    have z8 := h1.fz (o + 8)
    have z9 := h1.fz (o + 9)
    go_wp2
    go_end0
    exact ⟨rfl, (h1.set (k := 8) (by decide) _ { c with held := V } rfl).set (k := 9) (by decide) _ { c with held := V, holds := true } rfl, (k1.any.trans (kpB B _ _ _)).trans (kpB B _ _ _)⟩
  · rw [e] at c9
    go_enter Try.func25, Try.ntmps25
    go_wp2
    go_end0
    exact ⟨rfl, h, Kp.refl _ _⟩

theorem read_h1 (h : CAt w B o f i c) (k : c.Ok) (now : Int) (e9 : c.holds = true) (e1 : c.how = 1) (e7 : c.upper = false) : Calls Try.prog 22 #[.pointer (some ⟨B, o, none⟩), .int .u64 now] w fun e w' => e = .returned (.int .u8 ((c.held) % 256)) ∧ CAt w' B o f i { c with holds := false } ∧ Kp (isB B) w w' := by
  have hC : Hid (CAt w B o f i c) := h
  have h1 := h
  have hb := k.held
  have c1 := h1.c1
  have c7 := h1.c7
  have c8 := h1.c8
  have c9 := h1.c9
  rw [e1] at c1
  rw [e7] at c7
  rw [e9] at c9
  have z9 := h1.fz (o + 9)
  obtain ⟨b0, b1⟩ := hb
  clear h h1
  go_enter Try.func22, Try.ntmps22
  go_wp2
  go_ret
  exact ⟨ret_int (by omega), (hC.out.set (k := 9) (by decide) _ { c with holds := false } rfl), (Kp.refl _ _).trans (kpB B _ _ _)⟩

theorem read_h1' (h : CAt w B o f i c) (k : c.Ok) (now : Int) (e9 : c.holds = true) (e1 : c.how = 1) (e7 : c.upper = false) : Calls Try.prog 22 #[.pointer (some ⟨B, o, none⟩), .int .u64 now] w fun e w' => e = .returned (.int .u8 (c.told now)) ∧ CAt w' B o f i c.read ∧ Kp (isB B) w w' := by
  have eR : c.read = { c with holds := false } := by
    obtain ⟨x0, x1, x2, x3, x4, x5, x6, x7, x8, x9⟩ := c
    simp only at e9 e1 e7
    subst e9 e1 e7
    simp [Cn.read]
  have eT : c.told now = (c.held) % 256 := by simp [Cn.told, Cn.seen, e9, e7]
  rw [eR, eT]
  exact read_h1 h k now e9 e1 e7

theorem read_h2 (h : CAt w B o f i c) (k : c.Ok) (now : Int) (e9 : c.holds = true) (e1 : c.how = 2) (e7 : c.upper = true) : Calls Try.prog 22 #[.pointer (some ⟨B, o, none⟩), .int .u64 now] w fun e w' => e = .returned (.int .u8 ((c.held) / 256)) ∧ CAt w' B o f i { c with holds := false } ∧ Kp (isB B) w w' := by
  have hC : Hid (CAt w B o f i c) := h
  have h1 := h
  have hb := k.held
  have c1 := h1.c1
  have c7 := h1.c7
  have c8 := h1.c8
  have c9 := h1.c9
  rw [e1] at c1
  rw [e7] at c7
  rw [e9] at c9
  have z9 := h1.fz (o + 9)
  obtain ⟨b0, b1⟩ := hb
  clear h h1
  go_enter Try.func22, Try.ntmps22
  go_wp2
  go_ret
  exact ⟨ret_int (by omega), (hC.out.set (k := 9) (by decide) _ { c with holds := false } rfl), (Kp.refl _ _).trans (kpB B _ _ _)⟩

theorem read_h2' (h : CAt w B o f i c) (k : c.Ok) (now : Int) (e9 : c.holds = true) (e1 : c.how = 2) (e7 : c.upper = true) : Calls Try.prog 22 #[.pointer (some ⟨B, o, none⟩), .int .u64 now] w fun e w' => e = .returned (.int .u8 (c.told now)) ∧ CAt w' B o f i c.read ∧ Kp (isB B) w w' := by
  have eR : c.read = { c with holds := false } := by
    obtain ⟨x0, x1, x2, x3, x4, x5, x6, x7, x8, x9⟩ := c
    simp only at e9 e1 e7
    subst e9 e1 e7
    simp [Cn.read]
  have eT : c.told now = (c.held) / 256 := by simp [Cn.told, Cn.seen, e9, e7]
  rw [eR, eT]
  exact read_h2 h k now e9 e1 e7

theorem read_h3l (h : CAt w B o f i c) (k : c.Ok) (now : Int) (e9 : c.holds = true) (e1 : c.how = 3) (e7 : c.upper = false) : Calls Try.prog 22 #[.pointer (some ⟨B, o, none⟩), .int .u64 now] w fun e w' => e = .returned (.int .u8 ((c.held) % 256)) ∧ CAt w' B o f i { c with upper := true } ∧ Kp (isB B) w w' := by
  have hC : Hid (CAt w B o f i c) := h
  have h1 := h
  have hb := k.held
  have c1 := h1.c1
  have c7 := h1.c7
  have c8 := h1.c8
  have c9 := h1.c9
  rw [e1] at c1
  rw [e7] at c7
  rw [e9] at c9
  have z7 := h1.fz (o + 7)
  obtain ⟨b0, b1⟩ := hb
  clear h h1
  go_enter Try.func22, Try.ntmps22
  go_wp2
  go_ret
  exact ⟨ret_int (by omega), (hC.out.set (k := 7) (by decide) _ { c with upper := true } rfl), (Kp.refl _ _).trans (kpB B _ _ _)⟩

theorem read_h3l' (h : CAt w B o f i c) (k : c.Ok) (now : Int) (e9 : c.holds = true) (e1 : c.how = 3) (e7 : c.upper = false) : Calls Try.prog 22 #[.pointer (some ⟨B, o, none⟩), .int .u64 now] w fun e w' => e = .returned (.int .u8 (c.told now)) ∧ CAt w' B o f i c.read ∧ Kp (isB B) w w' := by
  have eR : c.read = { c with upper := true } := by
    obtain ⟨x0, x1, x2, x3, x4, x5, x6, x7, x8, x9⟩ := c
    simp only at e9 e1 e7
    subst e9 e1 e7
    simp [Cn.read]
  have eT : c.told now = (c.held) % 256 := by simp [Cn.told, Cn.seen, e9, e7]
  rw [eR, eT]
  exact read_h3l h k now e9 e1 e7

theorem read_h3u (h : CAt w B o f i c) (k : c.Ok) (now : Int) (e9 : c.holds = true) (e1 : c.how = 3) (e7 : c.upper = true) : Calls Try.prog 22 #[.pointer (some ⟨B, o, none⟩), .int .u64 now] w fun e w' => e = .returned (.int .u8 ((c.held) / 256)) ∧ CAt w' B o f i { c with upper := false, holds := false } ∧ Kp (isB B) w w' := by
  have hC : Hid (CAt w B o f i c) := h
  have h1 := h
  have hb := k.held
  have c1 := h1.c1
  have c7 := h1.c7
  have c8 := h1.c8
  have c9 := h1.c9
  rw [e1] at c1
  rw [e7] at c7
  rw [e9] at c9
  have z7 := h1.fz (o + 7)
  have z9 := h1.fz (o + 9)
  obtain ⟨b0, b1⟩ := hb
  clear h h1
  go_enter Try.func22, Try.ntmps22
  go_wp2
  go_ret
  exact ⟨ret_int (by omega), ((hC.out.set (k := 7) (by decide) _ { c with upper := false } rfl).set (k := 9) (by decide) _ { c with upper := false, holds := false } rfl), ((Kp.refl _ _).trans (kpB B _ _ _)).trans (kpB B _ _ _)⟩

theorem read_h3u' (h : CAt w B o f i c) (k : c.Ok) (now : Int) (e9 : c.holds = true) (e1 : c.how = 3) (e7 : c.upper = true) : Calls Try.prog 22 #[.pointer (some ⟨B, o, none⟩), .int .u64 now] w fun e w' => e = .returned (.int .u8 (c.told now)) ∧ CAt w' B o f i c.read ∧ Kp (isB B) w w' := by
  have eR : c.read = { c with upper := false, holds := false } := by
    obtain ⟨x0, x1, x2, x3, x4, x5, x6, x7, x8, x9⟩ := c
    simp only at e9 e1 e7
    subst e9 e1 e7
    simp [Cn.read]
  have eT : c.told now = (c.held) / 256 := by simp [Cn.told, Cn.seen, e9, e7]
  rw [eR, eT]
  exact read_h3u h k now e9 e1 e7

theorem read_n1 (h : CAt w B o f i c) (k : c.Ok) (now : Int) (e9 : c.holds = false) (e1 : c.how = 1) (e7 : c.upper = false) : Calls Try.prog 22 #[.pointer (some ⟨B, o, none⟩), .int .u64 now] w fun e w' => e = .returned (.int .u8 ((c.value now) % 256)) ∧ CAt w' B o f i { c with holds := false } ∧ Kp (isB B) w w' := by
  have hC : Hid (CAt w B o f i c) := h
  have HV : Hid _ := value_ok h k now
  have hb := c.value_bd now
  obtain ⟨V, hV⟩ : ∃ V, V = c.value now := ⟨_, rfl⟩
  rw [← hV] at HV hb ⊢
  clear hV
  have c8 := h.c8
  have c9 := h.c9
  rw [e9] at c9
  obtain ⟨b0, b1⟩ := hb
  clear h
  go_enter Try.func22, Try.ntmps22
  go_wp2_with fail
  refine Calls.mono HV.out ?_; rintro e w1 ⟨rfl, k1⟩
  have h1 := hC.out.kept k1 id
  clear c8 c9
  have c1 := h1.c1
  have c7 := h1.c7
  have c8 := h1.c8
  have c9 := h1.c9
  rw [e1] at c1
  rw [e7] at c7
  rw [e9] at c9
  have z9 := h1.fz (o + 9)
  go_wp2
  go_ret
  exact ⟨ret_int (by omega), (h1.set (k := 9) (by decide) _ { c with holds := false } rfl), (k1.any).trans (kpB B _ _ _)⟩

theorem read_n1' (h : CAt w B o f i c) (k : c.Ok) (now : Int) (e9 : c.holds = false) (e1 : c.how = 1) (e7 : c.upper = false) : Calls Try.prog 22 #[.pointer (some ⟨B, o, none⟩), .int .u64 now] w fun e w' => e = .returned (.int .u8 (c.told now)) ∧ CAt w' B o f i c.read ∧ Kp (isB B) w w' := by
  have eR : c.read = { c with holds := false } := by
    obtain ⟨x0, x1, x2, x3, x4, x5, x6, x7, x8, x9⟩ := c
    simp only at e9 e1 e7
    subst e9 e1 e7
    simp [Cn.read]
  have eT : c.told now = (c.value now) % 256 := by simp [Cn.told, Cn.seen, e9, e7]
  rw [eR, eT]
  exact read_n1 h k now e9 e1 e7

theorem read_n2 (h : CAt w B o f i c) (k : c.Ok) (now : Int) (e9 : c.holds = false) (e1 : c.how = 2) (e7 : c.upper = true) : Calls Try.prog 22 #[.pointer (some ⟨B, o, none⟩), .int .u64 now] w fun e w' => e = .returned (.int .u8 ((c.value now) / 256)) ∧ CAt w' B o f i { c with holds := false } ∧ Kp (isB B) w w' := by
  have hC : Hid (CAt w B o f i c) := h
  have HV : Hid _ := value_ok h k now
  have hb := c.value_bd now
  obtain ⟨V, hV⟩ : ∃ V, V = c.value now := ⟨_, rfl⟩
  rw [← hV] at HV hb ⊢
  clear hV
  have c8 := h.c8
  have c9 := h.c9
  rw [e9] at c9
  obtain ⟨b0, b1⟩ := hb
  clear h
  go_enter Try.func22, Try.ntmps22
  go_wp2_with fail
  refine Calls.mono HV.out ?_; rintro e w1 ⟨rfl, k1⟩
  have h1 := hC.out.kept k1 id
  clear c8 c9
  have c1 := h1.c1
  have c7 := h1.c7
  have c8 := h1.c8
  have c9 := h1.c9
  rw [e1] at c1
  rw [e7] at c7
  rw [e9] at c9
  have z9 := h1.fz (o + 9)
  go_wp2
  go_ret
  exact ⟨ret_int (by omega), (h1.set (k := 9) (by decide) _ { c with holds := false } rfl), (k1.any).trans (kpB B _ _ _)⟩

theorem read_n2' (h : CAt w B o f i c) (k : c.Ok) (now : Int) (e9 : c.holds = false) (e1 : c.how = 2) (e7 : c.upper = true) : Calls Try.prog 22 #[.pointer (some ⟨B, o, none⟩), .int .u64 now] w fun e w' => e = .returned (.int .u8 (c.told now)) ∧ CAt w' B o f i c.read ∧ Kp (isB B) w w' := by
  have eR : c.read = { c with holds := false } := by
    obtain ⟨x0, x1, x2, x3, x4, x5, x6, x7, x8, x9⟩ := c
    simp only at e9 e1 e7
    subst e9 e1 e7
    simp [Cn.read]
  have eT : c.told now = (c.value now) / 256 := by simp [Cn.told, Cn.seen, e9, e7]
  rw [eR, eT]
  exact read_n2 h k now e9 e1 e7

theorem read_n3l (h : CAt w B o f i c) (k : c.Ok) (now : Int) (e9 : c.holds = false) (e1 : c.how = 3) (e7 : c.upper = false) : Calls Try.prog 22 #[.pointer (some ⟨B, o, none⟩), .int .u64 now] w fun e w' => e = .returned (.int .u8 ((c.value now) % 256)) ∧ CAt w' B o f i { c with upper := true } ∧ Kp (isB B) w w' := by
  have hC : Hid (CAt w B o f i c) := h
  have HV : Hid _ := value_ok h k now
  have hb := c.value_bd now
  obtain ⟨V, hV⟩ : ∃ V, V = c.value now := ⟨_, rfl⟩
  rw [← hV] at HV hb ⊢
  clear hV
  have c8 := h.c8
  have c9 := h.c9
  rw [e9] at c9
  obtain ⟨b0, b1⟩ := hb
  clear h
  go_enter Try.func22, Try.ntmps22
  go_wp2_with fail
  refine Calls.mono HV.out ?_; rintro e w1 ⟨rfl, k1⟩
  have h1 := hC.out.kept k1 id
  clear c8 c9
  have c1 := h1.c1
  have c7 := h1.c7
  have c8 := h1.c8
  have c9 := h1.c9
  rw [e1] at c1
  rw [e7] at c7
  rw [e9] at c9
  have z7 := h1.fz (o + 7)
  go_wp2
  go_ret
  exact ⟨ret_int (by omega), (h1.set (k := 7) (by decide) _ { c with upper := true } rfl), (k1.any).trans (kpB B _ _ _)⟩

theorem read_n3l' (h : CAt w B o f i c) (k : c.Ok) (now : Int) (e9 : c.holds = false) (e1 : c.how = 3) (e7 : c.upper = false) : Calls Try.prog 22 #[.pointer (some ⟨B, o, none⟩), .int .u64 now] w fun e w' => e = .returned (.int .u8 (c.told now)) ∧ CAt w' B o f i c.read ∧ Kp (isB B) w w' := by
  have eR : c.read = { c with upper := true } := by
    obtain ⟨x0, x1, x2, x3, x4, x5, x6, x7, x8, x9⟩ := c
    simp only at e9 e1 e7
    subst e9 e1 e7
    simp [Cn.read]
  have eT : c.told now = (c.value now) % 256 := by simp [Cn.told, Cn.seen, e9, e7]
  rw [eR, eT]
  exact read_n3l h k now e9 e1 e7

theorem read_n3u (h : CAt w B o f i c) (k : c.Ok) (now : Int) (e9 : c.holds = false) (e1 : c.how = 3) (e7 : c.upper = true) : Calls Try.prog 22 #[.pointer (some ⟨B, o, none⟩), .int .u64 now] w fun e w' => e = .returned (.int .u8 ((c.value now) / 256)) ∧ CAt w' B o f i { c with upper := false, holds := false } ∧ Kp (isB B) w w' := by
  have hC : Hid (CAt w B o f i c) := h
  have HV : Hid _ := value_ok h k now
  have hb := c.value_bd now
  obtain ⟨V, hV⟩ : ∃ V, V = c.value now := ⟨_, rfl⟩
  rw [← hV] at HV hb ⊢
  clear hV
  have c8 := h.c8
  have c9 := h.c9
  rw [e9] at c9
  obtain ⟨b0, b1⟩ := hb
  clear h
  go_enter Try.func22, Try.ntmps22
  go_wp2_with fail
  refine Calls.mono HV.out ?_; rintro e w1 ⟨rfl, k1⟩
  have h1 := hC.out.kept k1 id
  clear c8 c9
  have c1 := h1.c1
  have c7 := h1.c7
  have c8 := h1.c8
  have c9 := h1.c9
  rw [e1] at c1
  rw [e7] at c7
  rw [e9] at c9
  have z7 := h1.fz (o + 7)
  have z9 := h1.fz (o + 9)
  go_wp2
  go_ret
  exact ⟨ret_int (by omega), ((h1.set (k := 7) (by decide) _ { c with upper := false } rfl).set (k := 9) (by decide) _ { c with upper := false, holds := false } rfl), ((k1.any).trans (kpB B _ _ _)).trans (kpB B _ _ _)⟩

theorem read_n3u' (h : CAt w B o f i c) (k : c.Ok) (now : Int) (e9 : c.holds = false) (e1 : c.how = 3) (e7 : c.upper = true) : Calls Try.prog 22 #[.pointer (some ⟨B, o, none⟩), .int .u64 now] w fun e w' => e = .returned (.int .u8 (c.told now)) ∧ CAt w' B o f i c.read ∧ Kp (isB B) w w' := by
  have eR : c.read = { c with upper := false, holds := false } := by
    obtain ⟨x0, x1, x2, x3, x4, x5, x6, x7, x8, x9⟩ := c
    simp only at e9 e1 e7
    subst e9 e1 e7
    simp [Cn.read]
  have eT : c.told now = (c.value now) / 256 := by simp [Cn.told, Cn.seen, e9, e7]
  rw [eR, eT]
  exact read_n3u h k now e9 e1 e7

theorem read_ok (h : CAt w B o f i c) (k : c.Ok) (now : Int) : Calls Try.prog 22 #[.pointer (some ⟨B, o, none⟩), .int .u64 now] w fun e w' => e = .returned (.int .u8 (c.told now)) ∧ CAt w' B o f i c.read ∧ Kp (isB B) w w' := by
  have hh := k.how
  have u1 := k.up
  have u2 := k.up2
  rcases (by omega : c.how = 1 ∨ c.how = 2 ∨ c.how = 3) with e1 | e1 | e1
  · have e7 : c.upper = false := by
      cases e : c.upper
      · rfl
      · exact absurd e1 (u1 e)
    cases e9 : c.holds
    · exact read_n1' h k now e9 e1 e7
    · exact read_h1' h k now e9 e1 e7
  · have e7 : c.upper = true := u2 e1
    cases e9 : c.holds
    · exact read_n2' h k now e9 e1 e7
    · exact read_h2' h k now e9 e1 e7
  · cases e7 : c.upper
    · cases e9 : c.holds
      · exact read_n3l' h k now e9 e1 e7
      · exact read_h3l' h k now e9 e1 e7
    · cases e9 : c.holds
      · exact read_n3u' h k now e9 e1 e7
      · exact read_h3u' h k now e9 e1 e7
end
end Go.Proofs.Yteodnlloilmoaaa
