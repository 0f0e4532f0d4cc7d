/- The contracts of In, Line, Written. -/
import Derived.Test.YtddalplpmgmplaaIdOps
namespace Go.Proofs.Ytddalplpmgmplaa
open Go.ChangeShapes Go.WideShapes Go.ChangeAt Go.RowKit
set_option linter.unusedVariables false

section
variable {w : World} {B : Nat} {dn : Int} {sv : Value} {d : Id}

theorem inn_off (ho : d.off = true) (reg : Int) (s : Nat) : d.inn reg s = d := by unfold Id.inn; rw [if_pos ho]

theorem in_off (h : IAt w B dn sv d) (hd : Dn d dn) (k : d.Ok) (ho : d.off = true) (reg size : Int) (hc : chkV (some ⟨B, 0, none⟩) reg size = 0) (h6 : reg ≠ 6) : Calls Try.prog 9 #[.pointer (some ⟨B, 0, none⟩), .int .i64 reg, .int .i64 size] w fun e w' => e = .returned (.tuple #[.int .u32 (d.inV reg size.toNat), .int .i64 0]) ∧ DOk w B sv (d.inn reg size.toNat) w' := by
  have HC : Hid _ := check_any w (some ⟨B, 0, none⟩) reg size
  rw [hc] at HC
  have HO : Hid _ := isOther_any h k
  rw [ho] at HO
  have H : Hid (DOk w B sv (d.inn reg size.toNat) w) := by
    show DOk _ _ _ _ _
    rw [inn_off ho]
    exact h.ok hd
  have e : d.inV reg size.toNat = 0 := by unfold Id.inV; rw [if_pos ⟨ho, h6⟩]
  rw [e]
  have t6 : (reg != 6) = true := by simpa using h6
  clear h hd k ho hc h6 e
  go_enter Try.func9, Try.ntmps9
  go_wp2_with fail
  refine Calls.mono HC.out ?_; rintro e w1 ⟨rfl, hw⟩; replace hw := hw.symm; subst hw
  go_wp2_with fail
  refine Calls.mono HO.out ?_; rintro e w1 ⟨rfl, hw⟩; replace hw := hw.symm; subst hw
  go_wp2
  go_ret2
  exact ⟨rfl, H.out⟩

/-- A register is read. -/
theorem in_reg (h : IAt w B dn sv d) (hd : Dn d dn) (k : d.Ok) (size : Int) (j : Nat) (j1 : 1 ≤ j) (j6 : j ≤ 6) (ho : d.off = false ∨ j = 6) : Calls Try.prog 9 #[.pointer (some ⟨B, 0, none⟩), .int .i64 j, .int .i64 size] w fun e w' => e = .returned (.tuple #[.int .u32 (d.inV j size.toNat), .int .i64 0]) ∧ DOk w B sv (d.inn j size.toNat) w' := by
  have HC : Hid _ := check_any w (some ⟨B, 0, none⟩) j size
  rw [chk_n _ _ size (by omega) (by omega)] at HC
  have HO : Hid _ := isOther_any h k
  have H : Hid (DOk w B sv (d.inn j size.toNat) w) := by
    have e : d.inn j size.toNat = d := by
      unfold Id.inn
      split
      · rfl
      · rw [if_neg (by omega), if_neg (by omega)]
    show DOk _ _ _ _ _
    rw [e]
    exact h.ok hd
  have e : d.inV j size.toNat = d.reg j := by
    unfold Id.inV
    rw [if_neg (by
      rintro ⟨a, b⟩
      rcases ho with c | c
      · rw [a] at c; cases c
      · exact b (by omega))]
    rcases (by omega : j = 1 ∨ j = 2 ∨ j = 3 ∨ j = 4 ∨ j = 5 ∨ j = 6) with rfl | rfl | rfl | rfl | rfl | rfl <;> rfl
  have cc := h.cr j (by omega)
  have by0 : 0 ≤ d.reg j ∧ d.reg j < 256 := by
    rcases (by omega : j = 1 ∨ j = 2 ∨ j = 3 ∨ j = 4 ∨ j = 5 ∨ j = 6) with rfl | rfl | rfl | rfl | rfl | rfl
    · exact k.r1
    · exact k.r2
    · exact k.r3
    · exact k.r4
    · exact k.r5
    · exact k.r6
  obtain ⟨y0, y1⟩ := by0
  rw [e]
  generalize d.reg j = y at *
  clear h hd k e
  rcases (by omega : j = 1 ∨ j = 2 ∨ j = 3 ∨ j = 4 ∨ j = 5 ∨ j = 6) with rfl | rfl | rfl | rfl | rfl | rfl
  all_goals
    simp only [Nat.reduceAdd] at cc
    cases q : d.off
    all_goals
      rw [q] at HO ho
      clear q
      first
        | (exfalso; simp at ho; done)
        | (clear ho
           go_enter Try.func9, Try.ntmps9
           go_wp2_with fail
           refine Calls.mono HC.out ?_; rintro e w1 ⟨rfl, hw⟩; replace hw := hw.symm; subst hw
           go_wp2_with fail
           refine Calls.mono HO.out ?_; rintro e w1 ⟨rfl, hw⟩; replace hw := hw.symm; subst hw
           go_wp2
           go_ret2
           exact ⟨rfl, H.out⟩)

theorem in_7 (h : IAt w B dn sv d) (hd : Dn d dn) (k : d.Ok) (size : Int) (ho : d.off = false) : Calls Try.prog 9 #[.pointer (some ⟨B, 0, none⟩), .int .i64 7, .int .i64 size] w fun e w' => e = .returned (.tuple #[.int .u32 (d.inV 7 size.toNat), .int .i64 0]) ∧ DOk w B sv (d.inn 7 size.toNat) w' := by
  have HC : Hid _ := check_any w (some ⟨B, 0, none⟩) 7 size
  rw [chk_n _ _ size (by omega) (by omega)] at HC
  have HO : Hid _ := isOther_any h k
  rw [ho] at HO
  have h2 : IAt (w.setCell ⟨B, 33292, none⟩ (.bool false)) B dn sv { d with mark := false } := (h.raw.setmk false).id _ rfl rfl rfl rfl rfl rfl rfl h.fl
  have k2 : Id.Ok { d with mark := false } := { k with }
  have HH : Hid _ := howItIs_any h2 k2
  have e : d.inV 7 size.toNat = ({ d with mark := false } : Id).status := by
    unfold Id.inV
    rw [if_neg (by rintro ⟨a, _⟩; rw [a] at ho; cases ho)]
    rfl
  have H : Hid (DOk w B sv (d.inn 7 size.toNat) (w.setCell ⟨B, 33292, none⟩ (.bool false))) := by
    have e : d.inn 7 size.toNat = { d with mark := false } := by
      unfold Id.inn
      rw [if_neg (by rw [ho]; decide), if_neg (by decide), if_pos rfl]
    show DOk _ _ _ _ _
    rw [e]
    exact ⟨dn, h2, hd, kpB B _ _ _⟩
  rw [e]
  have cm := h.cmk
  have zm := h.fz 33292
  generalize ({ d with mark := false } : Id).status = y at *
  clear h hd k e h2 k2 ho
  go_enter Try.func9, Try.ntmps9
  go_wp2_with fail
  refine Calls.mono HC.out ?_; rintro e w1 ⟨rfl, hw⟩; replace hw := hw.symm; subst hw
  go_wp2_with fail
  refine Calls.mono HO.out ?_; rintro e w1 ⟨rfl, hw⟩; replace hw := hw.symm; subst hw
  go_wp2_with fail
  refine Calls.mono HH.out ?_; rintro e w1 ⟨rfl, rfl⟩
  go_wp2
  go_ret2
  exact ⟨rfl, H.out⟩

theorem in_8 (h : IAt w B dn sv d) (hd : Dn d dn) (k : d.Ok) (size : Int) (ho : d.off = false) : Calls Try.prog 9 #[.pointer (some ⟨B, 0, none⟩), .int .i64 8, .int .i64 size] w fun e w' => e = .returned (.tuple #[.int .u32 (d.inV 8 size.toNat), .int .i64 0]) ∧ DOk w B sv (d.inn 8 size.toNat) w' := by
  have HC : Hid _ := check_any w (some ⟨B, 0, none⟩) 8 size
  rw [chk_n _ _ size (by omega) (by omega)] at HC
  have HO : Hid _ := isOther_any h k
  rw [ho] at HO
  have HH : Hid _ := howItIs_any h k
  have e : d.inV 8 size.toNat = d.status := by
    unfold Id.inV
    rw [if_neg (by rintro ⟨a, _⟩; rw [a] at ho; cases ho)]
    rfl
  have H : Hid (DOk w B sv (d.inn 8 size.toNat) w) := by
    have e : d.inn 8 size.toNat = d := by
      unfold Id.inn
      rw [if_neg (by rw [ho]; decide), if_neg (by decide), if_neg (by decide)]
    show DOk _ _ _ _ _
    rw [e]
    exact h.ok hd
  rw [e]
  generalize d.status = y at *
  clear h hd k e ho
  go_enter Try.func9, Try.ntmps9
  go_wp2_with fail
  refine Calls.mono HC.out ?_; rintro e w1 ⟨rfl, hw⟩; replace hw := hw.symm; subst hw
  go_wp2_with fail
  refine Calls.mono HO.out ?_; rintro e w1 ⟨rfl, hw⟩; replace hw := hw.symm; subst hw
  go_wp2_with fail
  refine Calls.mono HH.out ?_; rintro e w1 ⟨rfl, hw⟩; replace hw := hw.symm; subst hw
  go_wp2
  go_ret2
  exact ⟨rfl, H.out⟩

/-- Four bytes make a number. -/
theorem four_or {a b c e : Int} (ha : byt a) (hb : byt b) (hc : byt c) (he : byt e) :
    bits .or .u32 a (b * 256) = a + b * 256 ∧ bits .or .u32 (a + b * 256) (c * 65536) = a + b * 256 + c * 65536 ∧ bits .or .u32 (a + b * 256 + c * 65536) (e * 16777216) = a + b * 256 + c * 65536 + e * 16777216 := by
  obtain ⟨a0, a1⟩ := ha
  obtain ⟨b0, b1⟩ := hb
  obtain ⟨c0, c1⟩ := hc
  obtain ⟨e0, e1⟩ := he
  exact ⟨u32_or8 _ _ (by omega) (by omega) (by omega) (by omega) (by omega), u32_or16 _ _ (by omega) (by omega) (by omega) (by omega) (by omega), u32_or24 _ _ (by omega) (by omega) (by omega) (by omega) (by omega)⟩

def zz4 : Array Value := #[.int .u8 0, .int .u8 0, .int .u8 0, .int .u8 0]

/-- The bytes that were given, the rest noughts. -/
def gB (d : Id) (s j : Nat) : Int := if j < s then (d.gets j).getV else 0

theorem gB_byt (k : d.Ok) (s j : Nat) : byt (gB d s j) := by
  unfold gB
  split
  · exact (k.gets j).getV
  · exact byt0

theorem gB_sum (s : Nat) (hs : s = 1 ∨ s = 2 ∨ s = 4) : gB d s 0 + gB d s 1 * 256 + gB d s 2 * 65536 + gB d s 3 * 16777216 = d.getsV s := by
  rcases hs with rfl | rfl | rfl
  · show d.getV + 0 * 256 + 0 * 65536 + 0 * 16777216 = 0 + d.getV * 2 ^ (8 * 0)
    omega
  · show d.getV + (d.gets 1).getV * 256 + 0 * 65536 + 0 * 16777216 = 0 + d.getV * 2 ^ (8 * 0) + (d.gets 1).getV * 2 ^ (8 * 1)
    omega
  · show d.getV + (d.gets 1).getV * 256 + (d.gets 2).getV * 65536 + (d.gets 3).getV * 16777216 = 0 + d.getV * 2 ^ (8 * 0) + (d.gets 1).getV * 2 ^ (8 * 1) + (d.gets 2).getV * 2 ^ (8 * 2) + (d.gets 3).getV * 2 ^ (8 * 3)
    omega

theorem in_0 (h : IAt w B dn sv d) (hd : Dn d dn) (k : d.Ok) (s : Nat) (hs : s = 1 ∨ s = 2 ∨ s = 4) (ho : d.off = false) : Calls Try.prog 9 #[.pointer (some ⟨B, 0, none⟩), .int .i64 0, .int .i64 s] w fun e w' => e = .returned (.tuple #[.int .u32 (d.inV 0 s), .int .i64 0]) ∧ DOk w B sv (d.inn 0 s) w' := by
  have HC : Hid _ := check_any w (some ⟨B, 0, none⟩) 0 s
  rw [chk_0 _ s (by omega)] at HC
  have HO : Hid _ := isOther_any h k
  rw [ho] at HO
  have e : d.inV 0 s = gB d s 0 + gB d s 1 * 256 + gB d s 2 * 65536 + gB d s 3 * 16777216 := by
    rw [gB_sum s hs]
    unfold Id.inV
    rw [if_neg (by rintro ⟨a, _⟩; rw [a] at ho; cases ho), if_pos rfl]
  have e2 : d.inn 0 s = d.gets s := by
    unfold Id.inn
    rw [if_neg (by rw [ho]; decide), if_pos rfl]
  obtain ⟨w1, e1⟩ : ∃ w1, w1 = w.alloc (.cells zz4 54) := ⟨_, rfl⟩
  have k1 : Kp noB w w1 := by rw [e1]; exact Kp.alloc _ _ _
  have hq : w1.heap[w.heap.size]? = some (.cells zz4 54 (0, 0)) := by rw [e1]; exact heap_new _ _
  have hlt := h.lt
  have HG : Hid _ := give_ok (h.keep k1) hd k w.heap.size 0 s 4 zz4 54 hq (by show 0 + s ≤ 4; omega) (by omega) (by omega) (by omega) (fun e => by
    obtain ⟨cur, g⟩ := h.log.lt e
    have := heap_lt g
    omega)
  have HF : Hid (∀ w2, GSt w1 B sv d w.heap.size 0 zz4 54 s w2 → DOk w B sv (d.gets s) w2 ∧ ∀ j, j < 4 → w2.cell? ⟨w.heap.size, j, none⟩ = some (.int .u8 (gB d s j))) := by
    rintro w2 ⟨dn', g1, g2, ⟨cur', g3, g4⟩, g5⟩
    refine ⟨⟨dn', g1, g2, ?_⟩, fun j hj => ?_⟩
    · exact k1.any.over g5 (fun j hj e => by rcases e with e | e; exact e; omega)
    · rw [cell_at g3, g4.2 j]
      unfold gB
      by_cases q : j < s
      · rw [if_pos (by omega), if_pos q, Nat.sub_zero]
      · rw [if_neg (by omega), if_neg q]
        rcases (by omega : j = 0 ∨ j = 1 ∨ j = 2 ∨ j = 3) with rfl | rfl | rfl | rfl <;> rfl
  rw [e, e2]
  have b0 := gB_byt k s 0
  have b1 := gB_byt k s 1
  have b2 := gB_byt k s 2
  have b3 := gB_byt k s 3
  have hor := four_or b0 b1 b2 b3
  obtain ⟨o1, o2, o3⟩ := hor
  obtain ⟨p00, p01⟩ := b0
  obtain ⟨p10, p11⟩ := b1
  obtain ⟨p20, p21⟩ := b2
  obtain ⟨p30, p31⟩ := b3
  have HF' : Hid (∀ w2, GSt w1 B sv d w.heap.size 0 zz4 54 s w2 → DOk w B sv (d.gets s) w2 ∧ w2.cell? ⟨w.heap.size, 0, none⟩ = some (.int .u8 (gB d s 0)) ∧ w2.cell? ⟨w.heap.size, 1, none⟩ = some (.int .u8 (gB d s 1)) ∧ w2.cell? ⟨w.heap.size, 2, none⟩ = some (.int .u8 (gB d s 2)) ∧ w2.cell? ⟨w.heap.size, 3, none⟩ = some (.int .u8 (gB d s 3))) := fun w2 g => by
    obtain ⟨g1, g2⟩ := HF.out w2 g
    exact ⟨g1, g2 0 (by decide), g2 1 (by decide), g2 2 (by decide), g2 3 (by decide)⟩
  generalize gB d s 0 = y0 at *
  generalize gB d s 1 = y1 at *
  generalize gB d s 2 = y2 at *
  generalize gB d s 3 = y3 at *
  rw [e1] at HG HF'
  unfold zz4 at HG HF'
  clear h hd k e e1 e2 ho hq k1 hlt HF
  rcases hs with rfl | rfl | rfl
  all_goals
    go_enter Try.func9, Try.ntmps9
    go_wp2_with fail
    refine Calls.mono HC.out ?_; rintro e w1 ⟨rfl, hw⟩; replace hw := hw.symm; subst hw
    go_wp2_with fail
    refine Calls.mono HO.out ?_; rintro e w1 ⟨rfl, hw⟩; replace hw := hw.symm; subst hw
    go_wp2_with fail
    refine Calls.mono HG.out ?_; rintro e w2 ⟨rfl, h2⟩
    obtain ⟨g0, g1, g2, g3, g4⟩ := HF'.out _ h2
    have H : Hid _ := g0
    clear h2 g0 HF' HG
    go_wp2
    go_ret2
    exact ⟨rfl, H.out⟩

theorem in_ok (h : IAt w B dn sv d) (hd : Dn d dn) (k : d.Ok) (reg size : Int) (hc : chkV (some ⟨B, 0, none⟩) reg size = 0) : Calls Try.prog 9 #[.pointer (some ⟨B, 0, none⟩), .int .i64 reg, .int .i64 size] w fun e w' => e = .returned (.tuple #[.int .u32 (d.inV reg size.toNat), .int .i64 0]) ∧ DOk w B sv (d.inn reg size.toNat) w' := by
  have hr : 0 ≤ reg ∧ reg < 9 ∧ (reg = 0 → size = 1 ∨ size = 2 ∨ size = 4) := by
    have hc := hc
    unfold chkV at hc
    split at hc
    · cases hc
    · split at hc
      · cases hc
      · rename_i a b
        refine ⟨?_, ?_, ?_⟩
        · exact Int.not_lt.1 (fun g => a (.inr (.inl g)))
        · exact Int.not_le.1 (fun g => a (.inr (.inr g)))
        · intro e
          omega
  obtain ⟨r0, r9, rs⟩ := hr
  cases ho : d.off
  · rcases (by omega : reg = 0 ∨ (1 ≤ reg ∧ reg ≤ 6) ∨ reg = 7 ∨ reg = 8) with rfl | g | rfl | rfl
    · have hs := rs rfl
      obtain ⟨s, rfl⟩ : ∃ s : Nat, size = s := ⟨size.toNat, by omega⟩
      rw [Int.toNat_natCast]
      exact in_0 h hd k s (by omega) ho
    · obtain ⟨j, rfl⟩ : ∃ j : Nat, reg = j := ⟨reg.toNat, by omega⟩
      exact in_reg h hd k size j (by omega) (by omega) (.inl ho)
    · exact in_7 h hd k size ho
    · exact in_8 h hd k size ho
  · by_cases q : reg = 6
    · subst q
      exact in_reg h hd k size 6 (by decide) (by decide) (.inr rfl)
    · exact in_off h hd k ho reg size hc q

theorem line_ok (h : IAt w B dn sv d) (k : d.Ok) : Calls Try.prog 14 #[.pointer (some ⟨B, 0, none⟩)] w fun e w' => e = .returned (.bool d.line) ∧ w' = w := by
  have cm := h.cmk
  have c8 := h.c8
  have e2 := iand2 k.c
  clear h k
  unfold Id.line
  cases q : d.mark
  · rw [q] at cm
    clear q
    go_enter Try.func14, Try.ntmps14
    go_wp2
    go_ret
    exact ⟨rfl, rfl⟩
  · rw [q] at cm
    clear q
    go_enter Try.func14, Try.ntmps14
    go_wp2
    go_ret
    exact ⟨ret_bool (by simp), rfl⟩

theorem line_nil (w : World) : Calls Try.prog 14 #[.pointer none] w fun e w' => e = .returned (.bool false) ∧ w' = w := by
  go_enter Try.func14, Try.ntmps14
  go_wp2
  go_ret
  exact ⟨rfl, rfl⟩

theorem written_nil (w : World) : Calls Try.prog 12 #[.pointer none] w fun e w' => e = .returned (.slice none 0 0) ∧ w' = w := by
  go_enter Try.func12, Try.ntmps12
  go_wp2
  go_ret
  exact ⟨rfl, rfl⟩

theorem disk_nil (w : World) : Calls Try.prog 16 #[.pointer none] w fun e w' => e = .returned (.slice none 0 0) ∧ w' = w := by
  go_enter Try.func16, Try.ntmps16
  go_wp2
  go_ret
  exact ⟨rfl, rfl⟩

theorem written_ok (h : IAt w B dn sv d) : Calls Try.prog 12 #[.pointer (some ⟨B, 0, none⟩)] w fun e w' => e = .returned sv ∧ IAt w' B dn (.slice none 0 0) d.told ∧ Kp (isB B) w w' := by
  have cs := h.csv
  have zs := h.fz 33293
  have H : Hid (IAt (w.setCell ⟨B, 33293, none⟩ (.slice none 0 0)) B dn (.slice none 0 0) d.told) := (h.raw.setsv _ [] (OwnI.nil w)).id _ rfl rfl rfl rfl rfl rfl rfl h.fl
  obtain ⟨p, c, es⟩ := h.log.sl
  subst es
  generalize d.log.length = n at *
  clear h
  go_enter Try.func12, Try.ntmps12
  go_wp2
  go_ret
  exact ⟨rfl, H.out, kpB B _ _ _⟩
end
end Go.Proofs.Ytddalplpmgmplaa
