/- DecodeWidths: the walk. -/
import Derived.Test.YtopeccjghamjmaaGreatDecWid3
import Derived.Deep.CutRange
import Derived.Deep.CutBlock
namespace Go.Proofs.YtopeccjghamjmaaGreat
open Go.ChangeShapes Go.WideShapes Go.ChangeAt Go.RowKit
set_option linter.unusedVariables false
set_option maxRecDepth 20000

/-- How far the prefixes go, and that none is the size's. -/
def PreTo (L : Nat) (bt : Nat → Int) : Prop := ∃ i : Nat, i ≤ L ∧ i ≤ 15 ∧ (∀ j, j < i → isPre (bt j) = true ∧ bt j ≠ 102) ∧ (i = L ∨ i = 15 ∨ isPre (bt i) = false)

theorem widths' {L : Nat} {bt : Nat → Int} (h : PreTo L bt) : ((decM ruleOf L bt).2 = 60 → (decM ruleOf (1 + L) (pb 102 bt)).2 = 60 ∨ (decM ruleOf (1 + L) (pb 102 bt)).2 = 62) ∧
    ((decM ruleOf L bt).2 = 0 → (decM ruleOf (1 + L) (pb 102 bt)).2 = 0 → SimI (decM ruleOf L bt).1 (decM ruleOf (1 + L) (pb 102 bt)).1) := by
  obtain ⟨i, h1, h2, h3, h4⟩ := h
  exact widths i h1 h2 h3 h4

set_option maxHeartbeats 4000000 in
theorem DecodeWidths_walk (w : World) (a0 : Option Addr) (L cap : Nat) (bt : Nat → Int) (hB : BytIn w a0 L bt) :
    Calls Tryz.prog 8 #[.slice a0 L cap] w fun e w' => e = .returned (.bool true) ∧ Below w.heap.size w w' := by
  obtain ⟨T, nI, Z, fsI, psI, h⟩ := vlF
  have H : Hid _ := h
  obtain ⟨vl, vs, vb, va, ve⟩ := h.ops
  have v1 := h.agg
  have v2 := h.size
  have v3 := h.zero
  have v7 := h.zs
  have v8 := h.zn
  have cA := awake_ok tabOk w
  have HB : Hid _ := hB
  have hW := widths' (L := L) (bt := bt)
  have HD : Hid (∀ w1, Kp noB w w1 → Calls Tryz.prog 10 #[.slice a0 L cap] w1 fun e w' => e = .returned (.tuple #[.agg (insV (decM ruleOf L bt).1), .int .i64 (decM ruleOf L bt).2]) ∧ Kp noB w1 w') := fun w1 k => dec_in' cap (hB.kp' k)
  have HD2 : Hid (∀ (W : World) (g c : Nat), BytAt W (some ⟨g, 0, none⟩) (1 + L) (pb 102 bt) → Calls Tryz.prog 10 #[.slice (some ⟨g, 0, none⟩) (1 + L) c] W fun e w' => e = .returned (.tuple #[.agg (insV (decM ruleOf (1 + L) (pb 102 bt)).1), .int .i64 (decM ruleOf (1 + L) (pb 102 bt)).2]) ∧ Kp noB W w') := fun W g c hb => dec_bt c hb (pb_bd (by decide) hB.bd) (by have := hB.le; omega)
  generalize decM ruleOf L bt = DX at hW HD
  generalize decM ruleOf (1 + L) (pb 102 bt) = DY at hW HD2
  obtain ⟨x, ex⟩ := DX
  obtain ⟨y, fy⟩ := DY
  simp only at hW HD HD2
  have HW : Hid _ := hW
  have s1 := h.v.cells x
  have n1 := h.new x
  have s2 := h.v.cells y
  have n2 := h.new y
  clear h hB hW vl vb ve
  go_enter Tryz.func8, Tryz.ntmps8
  simp only [vs, va]
  clear vs va
  go_wp2_with fail
  refine cA.mono ?_; rintro e w1 ⟨rfl, k1⟩
  have cD := HD.out w1 k1
  clear cA
  go_wp2_with fail
  refine cD.mono ?_; rintro e w2 ⟨rfl, k2⟩
  have K2 := (k1.trans k2).trans (Kp.alloc noB w2 (.cells (insV x) T))
  have hq := (MapKept.heap_alloc w2 (.cells (insV x) T)).1
  obtain ⟨g1, cp1, w3, hr1, hb1, k3⟩ := pre_app (w2.alloc (.cells (insV x) T)) 102 cap (HB.out.kp' K2).at' (by have := HB.out.le; omega)
  rw [show (w2.alloc (.cells (insV x) T)).heap.size = w2.heap.size + 1 by simp] at hr1
  have cE := HD2.out w3 g1 cp1 hb1
  have hq3 := heap_kept hq k3 id
  have K3 := K2.trans k3
  have Hr1 : Hid _ := hr1
  have HK3 : Hid _ := K3
  have Hq3 : Hid _ := hq3
  clear cD k1 k2 HD HD2 hr1 hb1 k3 hq K2 K3 hq3
  go_wp2_with (first
    | (at_builtin; refine wpList_app rfl _ _ rfl rfl rfl rfl Hr1.out ?_))
  refine cE.mono ?_; rintro e w4 ⟨rfl, k4⟩
  have HK4 : Hid _ := (HK3.out.trans k4).trans (Kp.alloc noB w4 (.cells (insV y) T))
  have Hqx : Hid _ := heap_kept Hq3.out (k4.trans (Kp.alloc noB w4 (.cells (insV y) T))) id
  have Hqy : Hid _ := (MapKept.heap_alloc w4 (.cells (insV y) T)).1
  have HB4 : Hid _ := HB.out.kp' HK4.out
  clear cE k4 HK3 Hq3 Hr1 HB
  go_upto_block 0 with fail
  go_cut [] from 14 (fun wq => wq = w4.alloc (.cells (insV y) T) ∧ Hid (PreTo L bt))
  case first =>
    go_wp2_with fail
    go_loopw [8] (fun s8 wr => ∃ i : Nat, s8 = .int .i64 i ∧ i ≤ L ∧ i ≤ 15 ∧ Hid (∀ j, j < i → isPre (bt j) = true ∧ bt j ≠ 102) ∧ wr = w4.alloc (.cells (insV y) T)) (fun s8 _ => (15 - intOf s8).toNat)
    case atStart => exact ⟨0, rfl, by omega, by omega, fun j hj => absurd hj (by omega), rfl⟩
    case round =>
      obtain ⟨i, rfl, hL, h15, hp, rfl⟩ := hrel
      have i0 : (0 : Int) ≤ (i : Int) := by omega
      by_cases h1 : (i : Int) < (L : Int)
      · by_cases h2 : (i : Int) < 15
        · obtain ⟨b, o, rfl, hb, hc⟩ := HB4.out.at' i (by omega)
          obtain ⟨p, hpe⟩ : ∃ p, p = bt i := ⟨_, rfl⟩
          rw [← hpe] at hc
          have Hpe : Hid _ := hpe
          have hbd := HB4.out.bd i (by omega)
          rw [← hpe] at hbd
          obtain ⟨p0, p1⟩ := hbd
          have hwi : IntKind.i64.wrap ((i : Int) + 1) = (i : Int) + 1 := IntWalk.i64_in _ ⟨by omega, by omega⟩
          have Hnext : Hid (isPre p = true → p ≠ 102 → ∀ j, j < i + 1 → isPre (bt j) = true ∧ bt j ≠ 102) := fun q1 q2 j hj => by
            by_cases hji : j < i
            · exact hp.out j hji
            · obtain rfl : j = i := by omega
              rw [← Hpe.out]; exact ⟨q1, q2⟩
          clear hpe
          by_cases q102 : p = 102
          · subst q102
            as_aux_lemma =>
              go_wp2
              go_ret
              exact ⟨rfl, HK4.out.below⟩
          by_cases q38 : p = 38
          · subst q38
            have Hn := Hid.out Hnext rfl (by decide)
            have HN : Hid _ := Hn
            clear Hn
            as_aux_lemma =>
              go_wp2
              go_roundw
              case rel => exact ⟨i + 1, rfl, by omega, by omega, HN.out, by first | trivial | rfl⟩
              case measure => simp [intOf]; omega
          by_cases q46 : p = 46
          · subst q46
            have Hn := Hid.out Hnext rfl (by decide)
            have HN : Hid _ := Hn
            clear Hn
            as_aux_lemma =>
              go_wp2
              go_roundw
              case rel => exact ⟨i + 1, rfl, by omega, by omega, HN.out, by first | trivial | rfl⟩
              case measure => simp [intOf]; omega
          by_cases q54 : p = 54
          · subst q54
            have Hn := Hid.out Hnext rfl (by decide)
            have HN : Hid _ := Hn
            clear Hn
            as_aux_lemma =>
              go_wp2
              go_roundw
              case rel => exact ⟨i + 1, rfl, by omega, by omega, HN.out, by first | trivial | rfl⟩
              case measure => simp [intOf]; omega
          by_cases q62 : p = 62
          · subst q62
            have Hn := Hid.out Hnext rfl (by decide)
            have HN : Hid _ := Hn
            clear Hn
            as_aux_lemma =>
              go_wp2
              go_roundw
              case rel => exact ⟨i + 1, rfl, by omega, by omega, HN.out, by first | trivial | rfl⟩
              case measure => simp [intOf]; omega
          by_cases q100 : p = 100
          · subst q100
            have Hn := Hid.out Hnext rfl (by decide)
            have HN : Hid _ := Hn
            clear Hn
            as_aux_lemma =>
              go_wp2
              go_roundw
              case rel => exact ⟨i + 1, rfl, by omega, by omega, HN.out, by first | trivial | rfl⟩
              case measure => simp [intOf]; omega
          by_cases q101 : p = 101
          · subst q101
            have Hn := Hid.out Hnext rfl (by decide)
            have HN : Hid _ := Hn
            clear Hn
            as_aux_lemma =>
              go_wp2
              go_roundw
              case rel => exact ⟨i + 1, rfl, by omega, by omega, HN.out, by first | trivial | rfl⟩
              case measure => simp [intOf]; omega
          by_cases q242 : p = 242
          · subst q242
            have Hn := Hid.out Hnext rfl (by decide)
            have HN : Hid _ := Hn
            clear Hn
            as_aux_lemma =>
              go_wp2
              go_roundw
              case rel => exact ⟨i + 1, rfl, by omega, by omega, HN.out, by first | trivial | rfl⟩
              case measure => simp [intOf]; omega
          by_cases q243 : p = 243
          · subst q243
            have Hn := Hid.out Hnext rfl (by decide)
            have HN : Hid _ := Hn
            clear Hn
            as_aux_lemma =>
              go_wp2
              go_roundw
              case rel => exact ⟨i + 1, rfl, by omega, by omega, HN.out, by first | trivial | rfl⟩
              case measure => simp [intOf]; omega
          have n102 : (p != 102) = true := by simpa using q102
          have m102 : (p == 102) = false := by simpa using q102
          have n38 : (p != 38) = true := by simpa using q38
          have m38 : (p == 38) = false := by simpa using q38
          have n46 : (p != 46) = true := by simpa using q46
          have m46 : (p == 46) = false := by simpa using q46
          have n54 : (p != 54) = true := by simpa using q54
          have m54 : (p == 54) = false := by simpa using q54
          have n62 : (p != 62) = true := by simpa using q62
          have m62 : (p == 62) = false := by simpa using q62
          have n100 : (p != 100) = true := by simpa using q100
          have m100 : (p == 100) = false := by simpa using q100
          have n101 : (p != 101) = true := by simpa using q101
          have m101 : (p == 101) = false := by simpa using q101
          have n242 : (p != 242) = true := by simpa using q242
          have m242 : (p == 242) = false := by simpa using q242
          have n243 : (p != 243) = true := by simpa using q243
          have m243 : (p == 243) = false := by simpa using q243
          have hno : isPre p = false := by simp [isPre, m102, m38, m46, m54, m62, m100, m101, m242, m243]
          have HN : Hid (PreTo L bt) := ⟨i, by omega, by omega, hp.out, Or.inr (Or.inr (by rw [← Hpe.out]; exact hno))⟩
          clear hno Hnext q102 q38 q46 q54 q62 q100 q101 q242 q243
          as_aux_lemma =>
            go_wp2
            go_meet
            case rel => exact ⟨rfl, HN⟩
        · have HN : Hid (PreTo L bt) := ⟨i, by omega, by omega, hp.out, Or.inr (Or.inl (by omega))⟩
          as_aux_lemma =>
            go_wp2
            go_meet
            case rel => exact ⟨rfl, HN⟩
      · have HN : Hid (PreTo L bt) := ⟨i, by omega, by omega, hp.out, Or.inl (by omega)⟩
        as_aux_lemma =>
          go_wp2
          go_meet
          case rel => exact ⟨rfl, HN⟩
  case rest =>
    obtain ⟨rfl, hpt⟩ := hcut
    obtain ⟨W1, W2⟩ := HW.out hpt.out
    have HW1 : Hid _ := W1
    have HW2 : Hid _ := W2
    clear W1 W2 hpt
    by_cases h60 : ex = 60
    · subst h60
      rcases HW1.out rfl with hf | hf
      all_goals
        subst hf
        go_wp2
        go_ret
        exact ⟨rfl, HK4.out.below⟩
    · have h60' : (ex == 60) = false := by simpa using h60
      by_cases he : ex = 0
      · subst he
        by_cases hf : fy = 0
        · subst hf
          have S := HW2.out rfl rfl
          have hx : ∀ k, (w4.alloc (.cells (insV y) T)).cell? ⟨w2.heap.size, k, none⟩ = (insV x)[k]? := fun k => cell_of_row _ _ _ _ _ _ Hqx.out
          have hy : ∀ k, (w4.alloc (.cells (insV y) T)).cell? ⟨w4.heap.size, k, none⟩ = (insV y)[k]? := fun k => cell_of_row _ _ _ _ _ _ Hqy.out
          have x0 : (w4.alloc (.cells (insV y) T)).cell? ⟨w2.heap.size, 0, none⟩ = some (.int .i64 x.op) := hx 0
          have y0 : (w4.alloc (.cells (insV y) T)).cell? ⟨w4.heap.size, 0, none⟩ = some (.int .i64 x.op) := by rw [hy 0, ← S.op]; rfl
          have x1 : (w4.alloc (.cells (insV y) T)).cell? ⟨w2.heap.size, 1, none⟩ = some (.int .i64 x.sub) := hx 1
          have y1 : (w4.alloc (.cells (insV y) T)).cell? ⟨w4.heap.size, 1, none⟩ = some (.int .i64 x.sub) := by rw [hy 1, ← S.sub]; rfl
          have x30 : (w4.alloc (.cells (insV y) T)).cell? ⟨w2.heap.size, 30, none⟩ = some (.int .i64 x.rep) := hx 30
          have y30 : (w4.alloc (.cells (insV y) T)).cell? ⟨w4.heap.size, 30, none⟩ = some (.int .i64 x.rep) := by rw [hy 30, ← S.rep]; rfl
          have x3 : (w4.alloc (.cells (insV y) T)).cell? ⟨w2.heap.size, 3, none⟩ = some (.int .i64 x.a.kind) := hx 3
          have y3 : (w4.alloc (.cells (insV y) T)).cell? ⟨w4.heap.size, 3, none⟩ = some (.int .i64 x.a.kind) := by rw [hy 3, ← S.a.kind]; rfl
          have x12 : (w4.alloc (.cells (insV y) T)).cell? ⟨w2.heap.size, 12, none⟩ = some (.int .i64 x.b.kind) := hx 12
          have y12 : (w4.alloc (.cells (insV y) T)).cell? ⟨w4.heap.size, 12, none⟩ = some (.int .i64 x.b.kind) := by rw [hy 12, ← S.b.kind]; rfl
          have x21 : (w4.alloc (.cells (insV y) T)).cell? ⟨w2.heap.size, 21, none⟩ = some (.int .i64 x.c.kind) := hx 21
          have y21 : (w4.alloc (.cells (insV y) T)).cell? ⟨w4.heap.size, 21, none⟩ = some (.int .i64 x.c.kind) := by rw [hy 21, ← S.c.kind]; rfl
          have x4 : (w4.alloc (.cells (insV y) T)).cell? ⟨w2.heap.size, 4, none⟩ = some (.int .i64 x.a.reg) := hx 4
          have y4 : (w4.alloc (.cells (insV y) T)).cell? ⟨w4.heap.size, 4, none⟩ = some (.int .i64 x.a.reg) := by rw [hy 4, ← S.a.reg]; rfl
          have x7 : (w4.alloc (.cells (insV y) T)).cell? ⟨w2.heap.size, 7, none⟩ = some (.int .i64 x.a.base) := hx 7
          have y7 : (w4.alloc (.cells (insV y) T)).cell? ⟨w4.heap.size, 7, none⟩ = some (.int .i64 x.a.base) := by rw [hy 7, ← S.a.base]; rfl
          have x8 : (w4.alloc (.cells (insV y) T)).cell? ⟨w2.heap.size, 8, none⟩ = some (.int .i64 x.a.index) := hx 8
          have y8 : (w4.alloc (.cells (insV y) T)).cell? ⟨w4.heap.size, 8, none⟩ = some (.int .i64 x.a.index) := by rw [hy 8, ← S.a.index]; rfl
          have x6 : (w4.alloc (.cells (insV y) T)).cell? ⟨w2.heap.size, 6, none⟩ = some (.int .i64 x.a.seg) := hx 6
          have y6 : (w4.alloc (.cells (insV y) T)).cell? ⟨w4.heap.size, 6, none⟩ = some (.int .i64 x.a.seg) := by rw [hy 6, ← S.a.seg]; rfl
          have x9 : (w4.alloc (.cells (insV y) T)).cell? ⟨w2.heap.size, 9, none⟩ = some (.int .i64 x.a.scale) := hx 9
          have y9 : (w4.alloc (.cells (insV y) T)).cell? ⟨w4.heap.size, 9, none⟩ = some (.int .i64 x.a.scale) := by rw [hy 9, ← S.a.scale]; rfl
          have x13 : (w4.alloc (.cells (insV y) T)).cell? ⟨w2.heap.size, 13, none⟩ = some (.int .i64 x.b.reg) := hx 13
          have y13 : (w4.alloc (.cells (insV y) T)).cell? ⟨w4.heap.size, 13, none⟩ = some (.int .i64 x.b.reg) := by rw [hy 13, ← S.b.reg]; rfl
          have x16 : (w4.alloc (.cells (insV y) T)).cell? ⟨w2.heap.size, 16, none⟩ = some (.int .i64 x.b.base) := hx 16
          have y16 : (w4.alloc (.cells (insV y) T)).cell? ⟨w4.heap.size, 16, none⟩ = some (.int .i64 x.b.base) := by rw [hy 16, ← S.b.base]; rfl
          have x17 : (w4.alloc (.cells (insV y) T)).cell? ⟨w2.heap.size, 17, none⟩ = some (.int .i64 x.b.index) := hx 17
          have y17 : (w4.alloc (.cells (insV y) T)).cell? ⟨w4.heap.size, 17, none⟩ = some (.int .i64 x.b.index) := by rw [hy 17, ← S.b.index]; rfl
          have x15 : (w4.alloc (.cells (insV y) T)).cell? ⟨w2.heap.size, 15, none⟩ = some (.int .i64 x.b.seg) := hx 15
          have y15 : (w4.alloc (.cells (insV y) T)).cell? ⟨w4.heap.size, 15, none⟩ = some (.int .i64 x.b.seg) := by rw [hy 15, ← S.b.seg]; rfl
          have x18 : (w4.alloc (.cells (insV y) T)).cell? ⟨w2.heap.size, 18, none⟩ = some (.int .i64 x.b.scale) := hx 18
          have y18 : (w4.alloc (.cells (insV y) T)).cell? ⟨w4.heap.size, 18, none⟩ = some (.int .i64 x.b.scale) := by rw [hy 18, ← S.b.scale]; rfl
          have xs : (w4.alloc (.cells (insV y) T)).cell? ⟨w2.heap.size, 2, none⟩ = some (.int .i64 x.size) := hx 2
          have ys : (w4.alloc (.cells (insV y) T)).cell? ⟨w4.heap.size, 2, none⟩ = some (.int .i64 y.size) := hy 2
          have Hs : Hid _ := S.size
          clear hx hy S
          go_upto_region 16 with fail
          go_cut [11] from 14 (fun s11 wq => s11 = .bool true ∧ wq = w4.alloc (.cells (insV y) T))
          case first =>
            as_aux_lemma =>
              rcases Hs.out with e | ⟨e1, e2⟩
              · rw [e] at ys
                go_wp2
                go_meet
                case rel => exact ⟨rfl, rfl⟩
              · rw [e1] at xs
                rw [e2] at ys
                go_wp2
                go_meet
                case rel => exact ⟨rfl, rfl⟩
          case rest =>
            as_aux_lemma =>
              obtain ⟨rfl, rfl⟩ := hcut
              go_wp2
              go_ret
              exact ⟨rfl, HK4.out.below⟩
        · have hf' : (fy != 0) = true := by simpa using hf
          go_wp2
          go_ret
          exact ⟨rfl, HK4.out.below⟩
      · have he' : (ex != 0) = true := by simpa using he
        go_wp2
        go_ret
        exact ⟨rfl, HK4.out.below⟩

end Go.Proofs.YtopeccjghamjmaaGreat
