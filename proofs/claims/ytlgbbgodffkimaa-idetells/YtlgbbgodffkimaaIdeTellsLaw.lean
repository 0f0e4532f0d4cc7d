/- The walk of IdeTells. -/
import Derived.Test.YtlgbbgodffkimaaIdSec
namespace Go.Proofs.Ytlgbbgodffkimaa
open Go.ChangeShapes Go.WideShapes Go.ChangeAt Go.RowKit
set_option linter.unusedVariables false

/-- The word that EC tells. -/
def vE (m i : Nat) : Int := ecB m (2 * i) + ecB m (2 * i + 1) * 256
theorem vE_60 {m : Nat} (h : m < 5) : vE m 60 = m := by
  show (m : Int) % 256 + 0 * 256 = m
  omega
theorem vE_49 (m : Nat) : vE m 49 = 512 := rfl
theorem vE_61 (m : Nat) : vE m 61 = 0 := rfl

theorem ec_cmd (n : Nat) (D : Nat → Int) : (id0 n D).o 7 1 236 = { (id0 n D).clear with buf := ecB n, mode := 3, don := 0, mark := true } := by
  rw [o_of (by decide)]
  rfl

/-- The disk behind EC. -/
def dE (n : Nat) (D : Nat → Int) : Id := { (id0 n D).clear with buf := ecB n, mode := 3, don := 0, mark := true }

/-- There is no sector behind the last one. -/
def dN (n : Nat) (D : Nat → Int) : Id := ((eE (dE n D) 256).set n).clear.fail 16

theorem none_cmd {n : Nat} (hn : n < 5) (D : Nat → Int) : (eE (dE n D) 256).sector 32 n = dN n D := by
  rw [sector_is]
  exact cmd_none _ (by omega) (by omega) (by show ((n : Nat) : Int) < n + 1; omega)

def dQ (n : Nat) (D : Nat → Int) : Id := { dN n D with mark := false }

/-- Ahead of reading many. -/
def dM (n : Nat) (D : Nat → Int) (f : Nat) : Id := ({ dQ n D with r3 := (f : Int) % 256, r2 := ((n : Int) - f) % 256 } : Id).clear

theorem many_cmd {n f : Nat} (hn : n < 5) (hf : f < n) (D : Nat → Int) : (((dQ n D).o 3 1 f).o 2 1 ((n : Int) - f)).o 7 1 32 = tT (dM n D f) (512 * f) := by
  rw [o_of (by decide), o_of (by decide), o_of (by decide)]
  obtain ⟨x, hx⟩ : ∃ x : Id, x = ({ dQ n D with r3 := (f : Int) % 256, r2 := ((n : Int) - f) % 256 } : Id) := ⟨_, rfl⟩
  have e1 : (((dQ n D).out 3 (1 : Int).toNat f).out 2 (1 : Int).toNat ((n : Int) - f)) = x := by rw [hx]; rfl
  rw [e1]
  have hp : x.clear.place = f := by
    rw [hx]
    show (f : Int) % 256 + 0 * 256 + 0 * 65536 + 64 % 16 * 16777216 = f
    omega
  have ht : x.clear.there = true := by
    unfold Id.there
    rw [hp, decide_eq_true_eq, hx]
    show (f : Int) + 1 ≤ (n : Int)
    omega
  have ha : x.clear.at = f * 512 := by
    unfold Id.at
    rw [hp, Int.toNat_natCast]
  have ho : x.off = false := by rw [hx]; rfl
  have hm : x.meant = true := by rw [hx]; rfl
  have e2 : x.out 7 (1 : Int).toNat 32 = x.command 32 := rfl
  rw [e2]
  unfold Id.command
  rw [if_neg (by rw [ho]; decide), if_pos (by decide), hm, if_pos rfl, if_pos (by decide)]
  unfold Id.begin
  rw [if_pos ht, if_pos rfl, ha]
  have hn' : (dM n D f).n = n := rfl
  unfold tT
  rw [hn', if_pos (by omega), show 512 * f / 512 = f by omega, show 512 * f % 512 = 0 by omega]
  have e3 : x.clear = dM n D f := by rw [hx]; rfl
  rw [e3]
  have r3 : (dM n D f).r3 = (f : Int) := by show (f : Int) % 256 = f; omega
  have r2 : (dM n D f).r2 = ((n - f : Nat) : Int) := by show ((n : Int) - f) % 256 = _; omega
  unfold tS
  rw [hn', ← r3, ← r2]
  rfl

set_option maxRecDepth 20000 in
set_option maxHeartbeats 4000000 in
theorem IdeTells_walk (W : World) (s : Int) (s0 : -9223372036854775808 ≤ s) (s1 : s ≤ 9223372036854775807) (fr : Int) (f0 : -9223372036854775808 ≤ fr) (f1 : fr ≤ 9223372036854775807) : Calls Try.prog 8 #[.int .i64 s, .int .i64 fr] W fun e w' => e = .returned (.bool true) ∧ Below W.heap.size W w' := by
  have HA : Hid (∀ w, _) := awake_ok
  have HD : Hid (∀ w, _) := fun w => lDisk_any w s 3 s0 s1 ⟨by decide, by decide⟩
  obtain ⟨m, hm⟩ : ∃ m, m = secN s := ⟨_, rfl⟩
  have m5 := secN_lt s
  rw [← hm] at HD m5
  obtain ⟨D, hDD⟩ : ∃ D, D = dB (512 * m) (dskS 3) := ⟨_, rfl⟩
  have HN : Hid (∀ w g (_ : RowB w g (512 * m) (dskS 3)), Calls Try.prog 10 #[.slice (some ⟨g, 0, none⟩) (512 * m) (512 * m)] w fun e w' => e = .returned (.tuple #[.pointer (some ⟨w.heap.size, 0, none⟩), .int .i64 0]) ∧ ∃ S, IW w' S w.heap.size (id0 m D) ∧ (∀ k, S k → w.heap.size ≤ k) ∧ Kp noB w w') := fun w g r => by
    have := wNew w _ (512 * m) (512 * m) _ r.at (by omega) (by omega)
    unfold INew at this
    rw [show 512 * m / 512 = m by omega, ← hDD] at this
    exact this
  have HE : Hid (∀ w', Kp noB W w' → Below W.heap.size W w') := fun w' h => h.every
  have ok0 : Hid (id0 m D).Ok := by
    show (id0 m D).Ok
    rw [hDD]
    exact id0_ok (by omega) (fun i _ => dB_byt (fun j _ => dskS_byt 3 j) i)
  have D0 : Hid (∀ j, j < 512 * m → D j = dskS 3 j) := fun j hj => by
    rw [hDD]
    unfold dB
    rw [if_pos hj]
  clear hm hDD
  go_enter Try.func8, Try.ntmps8
  go_wp2_with fail
  refine Calls.mono (HA.out _) ?_; rintro e w1 ⟨rfl, k1⟩
  go_wp2_with fail
  refine Calls.mono (HD.out _) ?_; rintro e w2 ⟨rfl, r2, k2⟩
  go_wp2_with fail
  refine Calls.mono (HN.out _ _ r2) ?_; rintro e w3 ⟨rfl, S3, h3, n3, k3⟩
  obtain ⟨cur, ir, hg⟩ := r2.is
  have P3 : Hid (St W w3 w2.heap.size [(w1.heap.size, rowO cur)] (id0 m D)) := by
    refine ⟨⟨S3, h3, ⟨fun k g => Nat.le_trans (k1.trans k2).size (n3 k g), (k1.trans k2).trans k3⟩, fun x hx => ?_⟩, ok0.out⟩
    rw [List.mem_singleton] at hx
    subst hx
    exact ⟨fun g => by have := n3 _ g; have := r2.lt; omega, heap_kept hg k3 id⟩
  have IR : Hid (isRow cur (512 * m) (dskS 3)) := ir
  clear HA HD HN k1 k2 k3 r2 h3 n3 ir hg
  generalize w2.heap.size = B at *
  generalize w1.heap.size = g at *
  have q1 : ((512 * m : Nat) : Int) / 512 = m := by omega
  have HO1 : Hid _ := P3.out.out 7 1 236 (by decide) (by decide) (by rw [id0_work]; decide)
  rw [ck71, ec_cmd] at HO1
  have HI1 : Hid (∀ w i, i < 256 → St W w B [(g, rowO cur)] (eE (dE m D) i) → Calls Try.prog 14 #[.pointer (some ⟨B, 0, none⟩), .int .i64 0, .int .i64 2] w fun e w' => e = .returned (.tuple #[.int .u32 (vE m i), .int .i64 0]) ∧ St W w' B [(g, rowO cur)] (eE (dE m D) (i + 1))) := fun w i hi h => by
    have := h.in' 0 2
    have ho : (eE (dE m D) i).off = false := by rw [eE_off]; rfl
    have es := eE_step (dE m D) rfl i hi
    rw [ck02, (i02 ho).1, (i02 ho).2, es.1, es.2.1, es.2.2] at this
    exact this
  clear P3
  go_wp2_with fail
  refine Calls.mono HO1.out ?_; rintro e w4 ⟨rfl, h4⟩
  have P4 : Hid (St W w4 B [(g, rowO cur)] (eE (dE m D) 0)) := by
    show St _ _ _ _ _
    rw [eE_0 _ rfl]
    exact h4
  clear h4 HO1
  go_wp2
  go_loopw [10] (fun s10 wr => ∃ i : Nat, i ≤ 256 ∧ s10 = .int .i64 i ∧ St W wr B [(g, rowO cur)] (eE (dE m D) i)) (fun s10 _ => 256 - (intOf s10).toNat)
  case atStart => exact ⟨0, by omega, rfl, P4.out⟩
  case round =>
    clear P4
    obtain ⟨i, hi, rfl, st⟩ := hrel
    by_cases hlt : i < 256
    · have HI : Hid _ := HI1.out _ i hlt st
      clear st HI1
      by_cases c60 : i = 60
      · subst c60
        rw [vE_60 m5] at HI
        go_wp2_with fail
        refine Calls.mono HI.out ?_; rintro e w5 ⟨rfl, h5⟩
        have H5 : Hid _ := h5
        clear h5 HI
        go_wp2
        go_roundw
        case rel => exact ⟨61, by omega, rfl, H5.out⟩
        case measure => simp [intOf]
      · by_cases c49 : i = 49
        · subst c49
          rw [vE_49] at HI
          go_wp2_with fail
          refine Calls.mono HI.out ?_; rintro e w5 ⟨rfl, h5⟩
          have H5 : Hid _ := h5
          clear h5 HI
          go_wp2
          go_roundw
          case rel => exact ⟨50, by omega, rfl, H5.out⟩
          case measure => simp [intOf]
        · by_cases c61 : i = 61
          · subst c61
            rw [vE_61] at HI
            go_wp2_with fail
            refine Calls.mono HI.out ?_; rintro e w5 ⟨rfl, h5⟩
            have H5 : Hid _ := h5
            clear h5 HI
            go_wp2
            go_roundw
            case rel => exact ⟨62, by omega, rfl, H5.out⟩
            case measure => simp [intOf]
          · have t60 : ((i : Int) == 60) = false := by rw [beq_eq_false_iff_ne]; omega
            have t49 : ((i : Int) == 49) = false := by rw [beq_eq_false_iff_ne]; omega
            have t61 : ((i : Int) == 61) = false := by rw [beq_eq_false_iff_ne]; omega
            clear c60 c49 c61
            generalize vE m i = y at *
            go_wp2_with fail
            refine Calls.mono HI.out ?_; rintro e w5 ⟨rfl, h5⟩
            have H5 : Hid _ := h5
            clear h5 HI
            go_wp2
            go_roundw
            case rel => exact ⟨i + 1, by omega, by go_num, H5.out⟩
            case measure => simp [intOf]; omega
    · have e : i = 256 := by omega
      subst e
      clear HI1
      have HSc : Hid _ := sector_ok st 32 m (by decide) (by decide) (by omega) (by omega) (by rw [eE_work _ rfl rfl]; decide)
      rw [none_cmd m5] at HSc
      clear st
      have HI7 : Hid (∀ w, St W w B [(g, rowO cur)] (dN m D) → Calls Try.prog 14 #[.pointer (some ⟨B, 0, none⟩), .int .i64 7, .int .i64 1] w fun e w' => e = .returned (.tuple #[.int .u32 81, .int .i64 0]) ∧ St W w' B [(g, rowO cur)] (dQ m D)) := fun w h => by
        have := h.in' 7 1
        rw [ck71, (i71 (show (dN m D).off = false from rfl)).1, (i71 (show (dN m D).off = false from rfl)).2] at this
        exact this
      have HI1 : Hid (∀ w, St W w B [(g, rowO cur)] (dQ m D) → Calls Try.prog 14 #[.pointer (some ⟨B, 0, none⟩), .int .i64 1, .int .i64 1] w fun e w' => e = .returned (.tuple #[.int .u32 16, .int .i64 0]) ∧ St W w' B [(g, rowO cur)] (dQ m D)) := fun w h => by
        have := h.in' 1 1
        rw [show ck 1 1 = 0 from by decide, (i11 (show (dQ m D).off = false from rfl)).1, (i11 (show (dQ m D).off = false from rfl)).2] at this
        exact this
      go_wp2_with fail
      refine Calls.mono HSc.out ?_; rintro e w5 ⟨rfl, h5⟩
      clear HSc
      go_wp2_with fail
      refine Calls.mono (HI7.out _ h5) ?_; rintro e w6 ⟨rfl, h6⟩
      clear HI7 h5
      go_wp2_with fail
      refine Calls.mono (HI1.out _ h6) ?_; rintro e w7 ⟨rfl, h7⟩
      clear HI1 h6
      by_cases m0 : m = 0
      · subst m0
        have H7 : Hid _ := HE.out _ h7.kp
        clear h7
        go_wp2
        go_ret
        exact ⟨rfl, H7.out⟩
      · have m0' : ((m : Int) == 0) = false := by rw [beq_eq_false_iff_ne]; omega
        obtain ⟨f, hf⟩ : ∃ f : Nat, f = (foldN fr % m).toNat := ⟨_, rfl⟩
        have fb : 0 ≤ foldN fr % m ∧ foldN fr % m < m := ⟨Int.emod_nonneg _ (by omega), Int.emod_lt_of_pos _ (by omega)⟩
        have fm : f < m := by omega
        have fe : foldN fr % m = f := by omega
        have hw3 : (dQ m D).work = 0 := rfl
        have HO3 : Hid _ := h7.out 3 1 f (by omega) (by omega) (by rw [hw3]; decide)
        have w3 := o_work h7.ok 3 1 f
        rw [hw3] at w3
        have ok3 := h7.ok.o 3 1 f
        have w2 := o_work ok3 2 1 ((m : Int) - f)
        have HO2 : Hid (∀ w, St W w B [(g, rowO cur)] ((dQ m D).o 3 1 f) → _) := fun w h => h.out 2 1 ((m : Int) - f) (by omega) (by omega) (by omega)
        have HO7 : Hid (∀ w, St W w B [(g, rowO cur)] (((dQ m D).o 3 1 f).o 2 1 ((m : Int) - f)) → _) := fun w h => h.out 7 1 32 (by decide) (by decide) (by omega)
        rw [many_cmd m5 fm] at HO7
        obtain ⟨b, hb⟩ : ∃ b, b = dM m D f := ⟨_, rfl⟩
        rw [← hb] at HO7
        have bn : Hid (b.n = m) := by show b.n = m; rw [hb]; rfl
        have bD : Hid (b.D = D) := by show b.D = D; rw [hb]; rfl
        have bf : Hid (b.failed = false) := by show b.failed = false; rw [hb]; rfl
        have bl : Hid (b.log = []) := by show b.log = []; rw [hb]; rfl
        have HI0 : Hid (∀ w i, i < 512 * m → St W w B [(g, rowO cur)] (tT b i) → Calls Try.prog 14 #[.pointer (some ⟨B, 0, none⟩), .int .i64 0, .int .i64 1] w fun e w' => e = .returned (.tuple #[.int .u32 (dskS 3 i), .int .i64 0]) ∧ St W w' B [(g, rowO cur)] (tT b (i + 1))) := fun w i hi h => by
          have := h.in' 0 1
          have es := tT_step b (by rw [bn.out]; omega) i (by rw [bn.out]; exact hi)
          rw [show ck 0 1 = 0 from by decide, (i01 (tT_off b i)).1, (i01 (tT_off b i)).2, es.1, es.2, bD.out, D0.out i hi] at this
          exact this
        have HZ7 : Hid (∀ w, St W w B [(g, rowO cur)] (tT b (512 * m)) → Calls Try.prog 14 #[.pointer (some ⟨B, 0, none⟩), .int .i64 7, .int .i64 1] w fun e w' => e = .returned (.tuple #[.int .u32 80, .int .i64 0]) ∧ St W w' B [(g, rowO cur)] { tT b (512 * m) with mark := false }) := fun w h => by
          have := h.in' 7 1
          have es := (tT_end b bf.out).1
          rw [bn.out] at es
          rw [ck71, (i71 (tT_off b _)).1, (i71 (tT_off b _)).2, es] at this
          exact this
        have HZ0 : Hid (∀ w, St W w B [(g, rowO cur)] { tT b (512 * m) with mark := false } → Calls Try.prog 14 #[.pointer (some ⟨B, 0, none⟩), .int .i64 0, .int .i64 1] w fun e w' => e = .returned (.tuple #[.int .u32 255, .int .i64 0]) ∧ St W w' B [(g, rowO cur)] ({ tT b (512 * m) with mark := false } : Id).get) := fun w h => by
          have := h.in' 0 1
          have es := (tT_end b bf.out).2
          rw [bn.out] at es
          have ho : ({ tT b (512 * m) with mark := false } : Id).off = false := tT_off b _
          have eg : ({ tT b (512 * m) with mark := false } : Id).getV = (tT b (512 * m)).getV := rfl
          rw [show ck 0 1 = 0 from by decide, (i01 ho).1, (i01 ho).2, eg, es] at this
          exact this
        rw [show ck 3 1 = 0 from by decide] at HO3
        rw [show ck 2 1 = 0 from by decide] at HO2
        rw [ck71] at HO7
        clear h7 w3 w2 ok3 hb hf hw3
        have neg : fr < 0 ∨ ¬ fr < 0 := by omega
        rcases neg with neg | neg
        · have fq : (-(fr + 1)).tmod m = f := by
            rw [Int.tmod_eq_emod_of_nonneg (by omega)]
            unfold foldN at fe
            rw [if_pos neg] at fe
            exact fe
          clear fe fb
          go_wp2_with fail
          refine Calls.mono HO3.out ?_; rintro e w8 ⟨rfl, h8⟩
          go_wp2_with fail
          refine Calls.mono (HO2.out _ h8) ?_; rintro e w9 ⟨rfl, h9⟩
          clear h8
          go_wp2_with fail
          refine Calls.mono (HO7.out _ h9) ?_; rintro e wA ⟨rfl, hA⟩
          have PA : Hid _ := hA
          clear h9 hA HO3 HO2 HO7
          go_wp2
          go_loopw [17] (fun s17 wr => ∃ i : Nat, i ≤ 512 * m ∧ s17 = .int .i64 i ∧ St W wr B [(g, rowO cur)] (tT b i)) (fun s17 _ => 512 * m - (intOf s17).toNat)
          case atStart => exact ⟨512 * f, by omega, by congr 1; omega, PA.out⟩
          case round =>
            clear PA
            obtain ⟨i, hi, rfl, st⟩ := hrel
            by_cases hlt : i < 512 * m
            · have HI : Hid _ := HI0.out _ i hlt st
              have RX : Hid (∀ w d', St W w B [(g, rowO cur)] d' → w.cell? ⟨g, i, none⟩ = some (.int .u8 (dskS 3 i))) := fun w d' h => (IR.out.row (h.heap (.head _))).cell hlt
              have yb := dskS_byt 3 i
              obtain ⟨y0, y1⟩ := yb
              have hlt' : (i : Int) < ((512 * m : Nat) : Int) := by omega
              clear st HI0 HZ7 HZ0
              generalize dskS 3 i = y at *
              go_wp2_with fail
              refine Calls.mono HI.out ?_; rintro e wB ⟨rfl, hB⟩
              have cB := RX.out _ _ hB
              have H5 : Hid _ := hB
              clear hB HI RX
              go_wp2
              go_roundw
              case rel => exact ⟨i + 1, by omega, by go_num, H5.out⟩
              case measure => simp [intOf]; omega
            · have e : i = 512 * m := by omega
              subst e
              have hZ : Hid _ := HZ7.out _ st
              clear st HI0 HZ7
              go_wp2_with fail
              refine Calls.mono hZ.out ?_; rintro e wB ⟨rfl, hB⟩
              have hY : Hid _ := HZ0.out _ hB
              clear hB hZ HZ0
              go_wp2_with fail
              refine Calls.mono hY.out ?_; rintro e wC ⟨rfl, hC⟩
              have hX : Hid _ := HE.out _ hC.kp
              clear hC hY
              go_wp2
              go_ret
              exact ⟨rfl, hX.out⟩
        · have fq : fr.tmod m = f := by
            rw [Int.tmod_eq_emod_of_nonneg (by omega)]
            unfold foldN at fe
            rw [if_neg neg] at fe
            exact fe
          have fq2 : fr % m = f := by unfold foldN at fe; rw [if_neg neg] at fe; exact fe
          clear fe fb
          go_wp2_with fail
          refine Calls.mono HO3.out ?_; rintro e w8 ⟨rfl, h8⟩
          go_wp2_with fail
          refine Calls.mono (HO2.out _ h8) ?_; rintro e w9 ⟨rfl, h9⟩
          clear h8
          go_wp2_with fail
          refine Calls.mono (HO7.out _ h9) ?_; rintro e wA ⟨rfl, hA⟩
          have PA : Hid _ := hA
          clear h9 hA HO3 HO2 HO7
          go_wp2
          go_loopw [17] (fun s17 wr => ∃ i : Nat, i ≤ 512 * m ∧ s17 = .int .i64 i ∧ St W wr B [(g, rowO cur)] (tT b i)) (fun s17 _ => 512 * m - (intOf s17).toNat)
          case atStart => exact ⟨512 * f, by omega, by congr 1; omega, PA.out⟩
          case round =>
            clear PA
            obtain ⟨i, hi, rfl, st⟩ := hrel
            by_cases hlt : i < 512 * m
            · have HI : Hid _ := HI0.out _ i hlt st
              have RX : Hid (∀ w d', St W w B [(g, rowO cur)] d' → w.cell? ⟨g, i, none⟩ = some (.int .u8 (dskS 3 i))) := fun w d' h => (IR.out.row (h.heap (.head _))).cell hlt
              have yb := dskS_byt 3 i
              obtain ⟨y0, y1⟩ := yb
              have hlt' : (i : Int) < ((512 * m : Nat) : Int) := by omega
              clear st HI0 HZ7 HZ0
              generalize dskS 3 i = y at *
              go_wp2_with fail
              refine Calls.mono HI.out ?_; rintro e wB ⟨rfl, hB⟩
              have cB := RX.out _ _ hB
              have H5 : Hid _ := hB
              clear hB HI RX
              go_wp2
              go_roundw
              case rel => exact ⟨i + 1, by omega, by go_num, H5.out⟩
              case measure => simp [intOf]; omega
            · have e : i = 512 * m := by omega
              subst e
              have hZ : Hid _ := HZ7.out _ st
              clear st HI0 HZ7
              go_wp2_with fail
              refine Calls.mono hZ.out ?_; rintro e wB ⟨rfl, hB⟩
              have hY : Hid _ := HZ0.out _ hB
              clear hB hZ HZ0
              go_wp2_with fail
              refine Calls.mono hY.out ?_; rintro e wC ⟨rfl, hC⟩
              have hX : Hid _ := HE.out _ hC.kp
              clear hC hY
              go_wp2
              go_ret
              exact ⟨rfl, hX.out⟩
end Go.Proofs.Ytlgbbgodffkimaa
