/- The contracts of Out, In, Line, Written, Disk. -/
import Derived.Test.YtddalplpmgmplaaIdGive
namespace Go.Proofs.Ytddalplpmgmplaa
open Go.ChangeShapes Go.WideShapes Go.ChangeAt Go.RowKit
set_option linter.unusedVariables false

section
variable {w : World} {B : Nat} {dn : Int} {sv : Value} {d : Id}

theorem chk_0 (a : Addr) (size : Int) (hs : size = 1 ∨ size = 2 ∨ size = 4) : chkV (some a) 0 size = 0 := by
  unfold chkV
  rw [if_neg (by simp), if_neg (by omega)]

theorem chk_n (a : Addr) (reg size : Int) (h0 : 0 < reg) (h9 : reg < 9) : chkV (some a) reg size = 0 := by
  unfold chkV
  rw [if_neg (by rintro (q | q | q); cases q; omega; omega), if_neg (by omega)]

theorem out_no (w : World) (x : Option Addr) (reg size v : Int) (h : chkV x reg size ≠ 0) : Calls Try.prog 7 #[.pointer x, .int .i64 reg, .int .i64 size, .int .u32 v] w fun e w' => e = .returned (.int .i64 (chkV x reg size)) ∧ w' = w := by
  have HC : Hid _ := check_any w x reg size
  have h1 : (chkV x reg size != 0) = true := by simpa using h
  generalize chkV x reg size = g at *
  clear h
  go_enter Try.func7, Try.ntmps7
  go_wp2_with fail
  refine Calls.mono HC.out ?_; rintro e w1 ⟨rfl, hw⟩; replace hw := hw.symm; subst hw
  go_wp2
  go_ret
  exact ⟨rfl, rfl⟩

theorem in_no (w : World) (x : Option Addr) (reg size : Int) (h : chkV x reg size ≠ 0) : Calls Try.prog 9 #[.pointer x, .int .i64 reg, .int .i64 size] w fun e w' => e = .returned (.tuple #[.int .u32 0, .int .i64 (chkV x reg size)]) ∧ w' = w := by
  have HC : Hid _ := check_any w x reg size
  have h1 : (chkV x reg size != 0) = true := by simpa using h
  generalize chkV x reg size = g at *
  clear h
  go_enter Try.func9, Try.ntmps9
  go_wp2_with fail
  refine Calls.mono HC.out ?_; rintro e w1 ⟨rfl, hw⟩; replace hw := hw.symm; subst hw
  go_wp2
  go_ret2
  exact ⟨rfl, rfl⟩

/-- A register is written. -/
theorem out_set (h : IAt w B dn sv d) (hd : Dn d dn) (reg size v : Int) (j : Nat) (hj : reg = j) (j2 : 2 ≤ j) (j6 : j ≤ 6) (v0 : 0 ≤ v) (v1 : v < 4294967296) (d' : Id) (hr : d'.reg = setB d.reg j (v % 256)) (e1 : d'.log = d.log) (e2 : d'.D = d.D) (e3 : d'.n = d.n) (e4 : d'.buf = d.buf) (e5 : d'.mode = d.mode) (e6 : d'.mark = d.mark) (e7 : d'.don = d.don) (e8 : d'.failed = d.failed) (e9 : d'.r1 = d.r1) :
    Calls Try.prog 7 #[.pointer (some ⟨B, 0, none⟩), .int .i64 reg, .int .i64 size, .int .u32 v] w fun e w' => e = .returned (.int .i64 0) ∧ DOut w B sv d' w' := by
  have HC : Hid _ := check_any w (some ⟨B, 0, none⟩) reg size
  rw [chk_n _ reg size (by omega) (by omega)] at HC
  have H : Hid (DOut w B sv d' (w.setCell ⟨B, 32769 + j, none⟩ (.int .u8 (v % 256)))) := by
    refine ⟨dn, sv, (h.raw.setR j (by omega) _ rfl (v % 256)).id d' e1.symm e2.symm e3.symm hr.symm e4.symm (by rw [e5]) e6.symm (by rw [e8, e9]; exact h.fl), ?_, fun _ g => .inl g, (kpB B _ _ _).foot⟩
    intro q
    rw [e7]
    exact hd (by rw [← e5]; exact q)
  have cc := h.cr j (by omega)
  have zz := h.fz (32769 + j)
  clear h hd hr e1 e2 e3 e4 e5 e6 e7 e8 e9
  subst hj
  rcases (by omega : j = 2 ∨ j = 3 ∨ j = 4 ∨ j = 5 ∨ j = 6) with rfl | rfl | rfl | rfl | rfl
  all_goals
    simp only [Nat.reduceAdd] at H cc zz
    go_enter Try.func7, Try.ntmps7
    go_wp2_with fail
    refine Calls.mono HC.out ?_; rintro e w1 ⟨rfl, hw⟩; replace hw := hw.symm; subst hw
    go_wp2
    go_ret
    exact ⟨rfl, H.out⟩

theorem out_1 (h : IAt w B dn sv d) (hd : Dn d dn) (size v : Int) : Calls Try.prog 7 #[.pointer (some ⟨B, 0, none⟩), .int .i64 1, .int .i64 size, .int .u32 v] w fun e w' => e = .returned (.int .i64 0) ∧ DOut w B sv d w' := by
  have HC : Hid _ := check_any w (some ⟨B, 0, none⟩) 1 size
  rw [chk_n _ 1 size (by omega) (by omega)] at HC
  have H : Hid (DOut w B sv d w) := (h.ok hd).out
  clear h hd
  go_enter Try.func7, Try.ntmps7
  go_wp2_with fail
  refine Calls.mono HC.out ?_; rintro e w1 ⟨rfl, hw⟩; replace hw := hw.symm; subst hw
  go_wp2
  go_ret
  exact ⟨rfl, H.out⟩

theorem out_7 (h : IAt w B dn sv d) (hd : Dn d dn) (k : d.Ok) (size v : Int) (v0 : 0 ≤ v) (v1 : v < 4294967296) : Calls Try.prog 7 #[.pointer (some ⟨B, 0, none⟩), .int .i64 7, .int .i64 size, .int .u32 v] w fun e w' => e = .returned (.int .i64 0) ∧ DOut w B sv (d.command (v % 256)) w' := by
  have HC : Hid _ := check_any w (some ⟨B, 0, none⟩) 7 size
  rw [chk_n _ 7 size (by omega) (by omega)] at HC
  have HM : Hid _ := command_ok h k hd (v % 256)
  clear h hd k
  go_enter Try.func7, Try.ntmps7
  go_wp2_with fail
  refine Calls.mono HC.out ?_; rintro e w1 ⟨rfl, hw⟩; replace hw := hw.symm; subst hw
  go_wp2_with fail
  refine Calls.mono HM.out ?_; rintro e w2 ⟨rfl, h2⟩
  have H : Hid (DOut w B sv (d.command (v % 256)) w2) := h2.out
  clear h2 HM
  go_wp2
  go_ret
  exact ⟨rfl, H.out⟩

theorem out_8 (h : IAt w B dn sv d) (hd : Dn d dn) (k : d.Ok) (size v : Int) (v0 : 0 ≤ v) (v1 : v < 4294967296) : Calls Try.prog 7 #[.pointer (some ⟨B, 0, none⟩), .int .i64 8, .int .i64 size, .int .u32 v] w fun e w' => e = .returned (.int .i64 0) ∧ DOut w B sv (d.ctl (v % 256)) w' := by
  have HC : Hid _ := check_any w (some ⟨B, 0, none⟩) 8 size
  rw [chk_n _ 8 size (by omega) (by omega)] at HC
  have HM : Hid _ := setControl_ok h hd (v % 256) byt_m
  clear h hd k
  go_enter Try.func7, Try.ntmps7
  go_wp2_with fail
  refine Calls.mono HC.out ?_; rintro e w1 ⟨rfl, hw⟩; replace hw := hw.symm; subst hw
  go_wp2_with fail
  refine Calls.mono HM.out ?_; rintro e w2 ⟨rfl, h2⟩
  have H : Hid (DOut w B sv (d.ctl (v % 256)) w2) := h2.out
  clear h2 HM
  go_wp2
  go_ret
  exact ⟨rfl, H.out⟩

theorem bytL_get (v : Int) (n j : Nat) (h : j < n) : (bytL v n).getD j 0 = v / 2 ^ (8 * j) % 256 := by
  unfold bytL
  rw [List.getD_eq_getElem?_getD, List.getElem?_map, List.getElem?_range h]
  rfl
theorem bytL_len (v : Int) (n : Nat) : (bytL v n).length = n := by unfold bytL; simp

theorem take_any (h : IAt w B dn sv d) (hd : Dn d dn) (k : d.Ok) (q L c : Nat) (v : Int) (hc : L ≤ c) (hL : L ≤ 4) (hb : ∀ j, j < L → w.cell? ⟨q, j, none⟩ = some (.int .u8 (v / 2 ^ (8 * j) % 256))) (hq : ¬ foot B sv q) (hw : d.work + L < 9007199254740992) : Calls Try.prog 21 #[.pointer (some ⟨B, 0, none⟩), .slice (some ⟨q, 0, none⟩) L c] w fun e w' => e = .returned (.tuple #[]) ∧ DOut w B sv (d.out 0 L v) w' := by
  have e0 : d.out 0 L v = if d.off = true then d else d.puts v L := rfl
  rw [e0]
  cases ho : d.off
  · rw [if_neg (by decide), ← putL_puts]
    exact take_on h hd k ho q 0 L c (bytL v L) (bytL_len _ _) hc hL (fun j hj => by rw [bytL_get _ _ _ hj, Nat.zero_add]; exact hb j hj) (bytL_byt _ _) hq hw
  · rw [if_pos rfl]
    exact take_off h hd k ho _

theorem out_0 (h : IAt w B dn sv d) (hd : Dn d dn) (k : d.Ok) (s : Nat) (hs : s = 1 ∨ s = 2 ∨ s = 4) (v : Int) (v0 : 0 ≤ v) (v1 : v < 4294967296) (hw : d.work + 4 < 9007199254740992) : Calls Try.prog 7 #[.pointer (some ⟨B, 0, none⟩), .int .i64 0, .int .i64 s, .int .u32 v] w fun e w' => e = .returned (.int .i64 0) ∧ DOut w B sv (d.out 0 s v) w' := by
  have HC : Hid _ := check_any w (some ⟨B, 0, none⟩) 0 s
  rw [chk_0 _ s (by omega)] at HC
  obtain ⟨w1, e1⟩ : ∃ w1, w1 = w.alloc (.cells #[.int .u8 (v % 256), .int .u8 (v / 256 % 256), .int .u8 (v / 65536 % 256), .int .u8 (v / 16777216)] 54) := ⟨_, rfl⟩
  have k1 : Kp noB w w1 := by rw [e1]; exact Kp.alloc _ _ _
  have hq : w1.heap[w.heap.size]? = some (.cells #[.int .u8 (v % 256), .int .u8 (v / 256 % 256), .int .u8 (v / 65536 % 256), .int .u8 (v / 16777216)] 54 (0, 0)) := by rw [e1]; exact heap_new _ _
  have HT : Hid _ := take_any (h.keep k1) hd k w.heap.size s 4 v (by omega) (by omega) (fun j hj => by
    rw [cell_at hq]
    rcases (by omega : j = 0 ∨ j = 1 ∨ j = 2 ∨ j = 3) with rfl | rfl | rfl | rfl
    · show some (Value.int .u8 (v % 256)) = some (Value.int .u8 (v / 1 % 256))
      rw [Int.ediv_one]
    · rfl
    · rfl
    · show some (Value.int .u8 (v / 16777216)) = some (Value.int .u8 (v / 16777216 % 256))
      rw [Int.emod_eq_of_lt (by omega) (by omega)]) (by
    rintro (e | e)
    · have := h.lt; omega
    · obtain ⟨cur, g⟩ := h.log.lt e
      have := heap_lt g
      omega) (by omega)
  have HF : Hid (∀ w2, DOut w1 B sv (d.out 0 s v) w2 → DOut w B sv (d.out 0 s v) w2) := fun w2 h2 => DOut.then (fun _ g => .inl g) k1.any h2
  rw [e1] at HT HF
  clear h hd k hq k1 e1
  rcases hs with rfl | rfl | rfl
  all_goals
    go_enter Try.func7, Try.ntmps7
    go_wp2_with fail
    refine Calls.mono HC.out ?_; rintro e w1 ⟨rfl, hw⟩; replace hw := hw.symm; subst hw
    go_wp2_with fail
    refine Calls.mono HT.out ?_; rintro e w2 ⟨rfl, h2⟩
    have h3 := HF.out _ h2
    have H : Hid _ := h3
    clear h2 h3 HF HT
    go_wp2
    go_ret
    exact ⟨rfl, H.out⟩

theorem out_ok (h : IAt w B dn sv d) (hd : Dn d dn) (k : d.Ok) (reg size v : Int) (v0 : 0 ≤ v) (v1 : v < 4294967296) (hw : d.work + 4 < 9007199254740992) (hc : chkV (some ⟨B, 0, none⟩) reg size = 0) : Calls Try.prog 7 #[.pointer (some ⟨B, 0, none⟩), .int .i64 reg, .int .i64 size, .int .u32 v] w fun e w' => e = .returned (.int .i64 0) ∧ DOut w B sv (d.out reg size.toNat v) w' := by
  have hr : 0 ≤ reg ∧ reg < 9 ∧ (reg = 0 → size = 1 ∨ size = 2 ∨ size = 4) := by
    unfold chkV at hc
    split at hc
    · cases hc
    · split at hc
      · cases hc
      · rename_i a b
        refine ⟨?_, ?_, ?_⟩
        · exact Int.not_lt.1 (fun g => a (.inr (.inl g)))
        · exact Int.not_le.1 (fun g => a (.inr (.inr g)))
        · intro e
          omega
  obtain ⟨r0, r9, rs⟩ := hr
  clear hc
  rcases (by omega : reg = 0 ∨ reg = 1 ∨ reg = 2 ∨ reg = 3 ∨ reg = 4 ∨ reg = 5 ∨ reg = 6 ∨ reg = 7 ∨ reg = 8) with rfl | rfl | rfl | rfl | rfl | rfl | rfl | rfl | rfl
  · have hs := rs rfl
    obtain ⟨s, rfl⟩ : ∃ s : Nat, size = s := ⟨size.toNat, by omega⟩
    rw [Int.toNat_natCast]
    exact out_0 h hd k s (by omega) v v0 v1 hw
  · exact out_1 h hd size v
  · exact out_set h hd 2 size v 2 rfl (by decide) (by decide) v0 v1 _ (reg_2 _) rfl rfl rfl rfl rfl rfl rfl rfl rfl
  · exact out_set h hd 3 size v 3 rfl (by decide) (by decide) v0 v1 _ (reg_3 _) rfl rfl rfl rfl rfl rfl rfl rfl rfl
  · exact out_set h hd 4 size v 4 rfl (by decide) (by decide) v0 v1 _ (reg_4 _) rfl rfl rfl rfl rfl rfl rfl rfl rfl
  · exact out_set h hd 5 size v 5 rfl (by decide) (by decide) v0 v1 _ (reg_5 _) rfl rfl rfl rfl rfl rfl rfl rfl rfl
  · exact out_set h hd 6 size v 6 rfl (by decide) (by decide) v0 v1 _ (reg_6 _) rfl rfl rfl rfl rfl rfl rfl rfl rfl
  · exact out_7 h hd k size v v0 v1
  · exact out_8 h hd k size v v0 v1
end
end Go.Proofs.Ytddalplpmgmplaa
