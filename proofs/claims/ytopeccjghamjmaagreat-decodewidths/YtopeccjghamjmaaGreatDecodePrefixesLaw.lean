/- DecodePrefixes: the walk. -/
import Derived.Test.YtopeccjghamjmaaGreatDecodeEndsLaw
import Derived.Deep.Cut
namespace Go.Proofs.YtopeccjghamjmaaGreat
open Go.ChangeShapes Go.WideShapes Go.ChangeAt Go.RowKit
set_option linter.unusedVariables false
set_option maxRecDepth 20000

def preB (k : Int) : Int := if k = 0 then 38 else if k = 1 then 46 else if k = 2 then 54 else if k = 3 then 62 else if k = 4 then 100 else if k = 5 then 101 else if k = 6 then 102 else if k = 7 then 242 else 243

theorem preB_is (k : Int) : isPre (preB k) = true := by
  unfold preB
  repeat' split
  all_goals rfl

theorem preB_bd (k : Int) : 0 ≤ preB k ∧ preB k < 256 := by
  unfold preB
  repeat' split
  all_goals exact ⟨by decide, by decide⟩

/-- What was asked, without its sign. -/
def absB (a : Int) : Int := if a < 0 then -(a + 1) else a

theorem absB_bd {a : Int} (h : -9223372036854775808 ≤ a ∧ a ≤ 9223372036854775807) : 0 ≤ absB a ∧ absB a ≤ 9223372036854775807 := by
  unfold absB
  split <;> omega

/-- p ahead of bytes. -/
def pb (p : Int) (ct : Nat → Int) (j : Nat) : Int := if j = 0 then p else ct (j - 1)

def ctN (p : Int) (ct : Nat → Int) : Nat → Nat → Int
  | 0 => ct
  | n + 1 => pb p (ctN p ct n)

theorem ctN_head (p : Int) (ct : Nat → Int) (h0 : ct 0 = p) : ∀ (n k : Nat), k ≤ n → ctN p ct n k = p
  | 0, k, h => by obtain rfl : k = 0 := by omega
                  exact h0
  | n + 1, k, h => by
    show pb p (ctN p ct n) k = p
    unfold pb
    split
    · rfl
    · exact ctN_head p ct h0 n (k - 1) (by omega)

theorem ctN_tail (p : Int) (ct : Nat → Int) : ∀ (n k : Nat), ctN p ct n (k + n) = ct k
  | 0, k => rfl
  | n + 1, k => by
    show pb p (ctN p ct n) (k + (n + 1)) = ct k
    unfold pb
    rw [if_neg (by omega), show k + (n + 1) - 1 = k + n by omega]
    exact ctN_tail p ct n k

theorem pb_bd {p : Int} {ct : Nat → Int} {M : Nat} (hp : 0 ≤ p ∧ p < 256) (h : ∀ j, j < M → 0 ≤ ct j ∧ ct j < 256) : ∀ j, j < 1 + M → 0 ≤ pb p ct j ∧ pb p ct j < 256 := by
  intro j hj
  unfold pb
  split
  · exact hp
  · exact h _ (by omega)

/-- A byte ahead of bytes. -/
theorem pre_app (W : World) (p : Int) {a : Option Addr} {M : Nat} (c : Nat) {ct : Nat → Int} (hB : BytAt W a M ct) (hs : 1 + M ≤ 140737488355328) :
    ∃ g' cap' w', (Builtin.append_ #[23, 23] 23 #[.slice (some ⟨W.heap.size, 0, none⟩) 1 1, .slice a M c]).run Tryz.prog (W.alloc (.cells #[.int .u8 p] 5)) = .ok (.slice (some ⟨g', 0, none⟩) (1 + M) cap') w' ∧ BytAt w' (some ⟨g', 0, none⟩) (1 + M) (pb p ct) ∧ Kp noB W w' := by
  have kb : Kp noB W (W.alloc (.cells #[.int .u8 p] 5)) := Kp.alloc _ _ _
  have ho : OwnB (W.alloc (.cells #[.int .u8 p] 5)) W.heap.size (.slice (some ⟨W.heap.size, 0, none⟩) 1 1) [p] := OwnB.new W W.heap.size (Nat.le_refl _) [p] (by simp)
  have hB' : BytAt (W.alloc (.cells #[.int .u8 p] 5)) a M ct := fun j hj => by
    obtain ⟨b, o, e, hb, hc⟩ := hB j hj
    exact ⟨b, o, e, Nat.lt_of_lt_of_le hb kb.size, cell_kept hc kb id⟩
  obtain ⟨v', w', hr, hown, k⟩ := app_ok kb ho c hB' (by simpa using hs)
  obtain ⟨g, cap, rfl, hbt⟩ := hown.byt (by simp)
  have hlen : ([p] ++ rngB M ct).length = 1 + M := by simp [rngB]; omega
  rw [hlen] at hr hbt
  refine ⟨g, cap, w', hr, fun j hj => ?_, k⟩
  obtain ⟨b, o, e, hb, hc⟩ := hbt j hj
  refine ⟨b, o, e, hb, ?_⟩
  rw [hc]
  congr 2
  show ([p] ++ rngB M ct).getD j 0 = pb p ct j
  unfold pb
  by_cases h0 : j = 0
  · subst h0; rfl
  · rw [if_neg h0, List.getD_eq_getElem?_getD, List.getElem?_append_right (by simp; omega)]
    simp [rngB, show j - 1 < M by omega]

theorem BytAt.kp {w w' : World} {a : Option Addr} {L : Nat} {bt : Nat → Int} (h : BytAt w a L bt) (k : Kp noB w w') : BytAt w' a L bt := fun j hj => by
  obtain ⟨b, o, e, hb, hc⟩ := h j hj
  exact ⟨b, o, e, Nat.lt_of_lt_of_le hb k.size, cell_kept hc k id⟩

theorem Kp.setNew {w W : World} (k : Kp noB w W) {q : Nat} (hq : w.heap.size ≤ q) (o : Nat) (v : Value) : Kp noB w (W.setCell ⟨q, o, none⟩ v) := by
  have h := Kp.setCell (S := fun b => b = q) W (p := ⟨q, o, none⟩) rfl v
  exact ⟨h.os.trans k.os, h.tape.trans k.tape, h.output.trans k.output, Nat.le_trans k.size h.size, fun i hi hs => (h.block i (Nat.lt_of_lt_of_le hi k.size) (by show ¬ i = q; omega)).trans (k.block i hi hs)⟩

theorem pre_cell (W : World) (q : Nat) (hq : W.heap[q]? = some (.cells #[.int .u8 38, .int .u8 46, .int .u8 54, .int .u8 62, .int .u8 100, .int .u8 101, .int .u8 102, .int .u8 242, .int .u8 243] 5 (0, 0))) (j : Nat) (hj : j < 9) : W.cell? ⟨q, j, none⟩ = some (.int .u8 (preB j)) := by
  rw [cell_of_row _ _ _ _ _ _ hq]
  rcases (by omega : j = 0 ∨ j = 1 ∨ j = 2 ∨ j = 3 ∨ j = 4 ∨ j = 5 ∨ j = 6 ∨ j = 7 ∨ j = 8) with rfl | rfl | rfl | rfl | rfl | rfl | rfl | rfl | rfl <;> rfl

set_option maxHeartbeats 4000000 in
theorem DecodePrefixes_walk (w : World) (a0 : Option Addr) (L cap : Nat) (bt : Nat → Int) (hB : BytIn w a0 L bt) (a1 : Int) (h1 : -9223372036854775808 ≤ a1 ∧ a1 ≤ 9223372036854775807) (a2 : Int) (h2 : -9223372036854775808 ≤ a2 ∧ a2 ≤ 9223372036854775807) :
    Calls Tryz.prog 6 #[.slice a0 L cap, .int .i64 a1, .int .i64 a2] w fun e w' => e = .returned (.bool true) ∧ Below w.heap.size w w' := by
  obtain ⟨T, nI, Z, fsI, psI, h⟩ := vlF
  have H : Hid _ := h
  obtain ⟨vl, vs, vb, va, ve⟩ := h.ops
  have v1 := h.agg
  have v2 := h.size
  have v3 := h.zero
  have v4 := h.under
  have v5 := h.map
  have v6 := h.guard
  have v7 := h.zs
  have v8 := h.zn
  have cA := awake_ok tabOk w
  have HB : Hid _ := hB
  have d1 := absB_bd h1
  have d2 := absB_bd h2
  clear h hB
  go_enter Tryz.func6, Tryz.ntmps6
  simp only [vl, vs, va, ve]
  clear vl vs vb va ve
  go_wp2_with fail
  refine cA.mono ?_; rintro e w1 ⟨rfl, k1⟩
  clear cA
  have K1 : Hid _ := k1
  clear k1
  go_upto_if 20 with fail
  go_cut [1] from 18 (fun s1 wq => s1 = .int .i64 (absB a1) ∧ wq = w1)
  case first =>
    by_cases hn : a1 < 0
    · have hw1 : IntKind.i64.wrap (a1 + 1) = a1 + 1 := IntWalk.i64_in _ ⟨by omega, by omega⟩
      have hw2 : IntKind.i64.wrap (-(a1 + 1)) = -(a1 + 1) := IntWalk.i64_in _ ⟨by omega, by omega⟩
      have HN : Hid _ := hn
      go_wp2
      go_meet
      case rel => exact ⟨by unfold absB; rw [if_pos HN.out], rfl⟩
    · have HN : Hid _ := hn
      go_wp2
      go_meet
      case rel => exact ⟨by unfold absB; rw [if_neg HN.out], rfl⟩
  case rest =>
    obtain ⟨rfl, hwc⟩ := hcut
    replace hwc := hwc.symm
    subst hwc
    go_upto_if 25 with fail
    go_cut [2] from 18 (fun s2 wq => s2 = .int .i64 (absB a2) ∧ wq = w1)
    case first =>
      by_cases hn : a2 < 0
      · have hw1 : IntKind.i64.wrap (a2 + 1) = a2 + 1 := IntWalk.i64_in _ ⟨by omega, by omega⟩
        have hw2 : IntKind.i64.wrap (-(a2 + 1)) = -(a2 + 1) := IntWalk.i64_in _ ⟨by omega, by omega⟩
        have HN : Hid _ := hn
        go_wp2
        go_meet
        case rel => exact ⟨by unfold absB; rw [if_pos HN.out], rfl⟩
      · have HN : Hid _ := hn
        go_wp2
        go_meet
        case rel => exact ⟨by unfold absB; rw [if_neg HN.out], rfl⟩
    case rest =>
      obtain ⟨rfl, hwc⟩ := hcut
      replace hwc := hwc.symm
      subst hwc
      generalize absB a1 = A at *
      generalize absB a2 = B at *
      obtain ⟨A0, A1⟩ := d1
      obtain ⟨B0, B1⟩ := d2
      obtain ⟨j, hj⟩ : ∃ j : Nat, A % 9 = (j : Int) := ⟨(A % 9).toNat, by omega⟩
      obtain ⟨m, hm⟩ : ∃ m : Nat, B % 3 = (m : Int) := ⟨(B % 3).toNat, by omega⟩
      have j0 : (0 : Int) ≤ (j : Int) := by omega
      have j1 : (j : Int) < 9 := by omega
      have m3 : m < 3 := by omega
      have c9 := pre_cell (w1.alloc (.cells #[.int .u8 38, .int .u8 46, .int .u8 54, .int .u8 62, .int .u8 100, .int .u8 101, .int .u8 102, .int .u8 242, .int .u8 243] 5)) w1.heap.size (MapKept.heap_alloc w1 _).1 j (by omega)
      have hpi := preB_is (j : Int)
      have hpb := preB_bd (j : Int)
      generalize preB (j : Int) = p at *
      have k2 : Kp noB w (w1.alloc (.cells #[.int .u8 38, .int .u8 46, .int .u8 54, .int .u8 62, .int .u8 100, .int .u8 101, .int .u8 102, .int .u8 242, .int .u8 243] 5)) := K1.out.trans (Kp.alloc _ _ _)
      obtain ⟨g1, cp1, w3, hr1, hb1, k3⟩ := pre_app (w1.alloc (.cells #[.int .u8 38, .int .u8 46, .int .u8 54, .int .u8 62, .int .u8 100, .int .u8 101, .int .u8 102, .int .u8 242, .int .u8 243] 5)) p cap (HB.out.kp' k2).at' (by have := HB.out.le; omega)
      rw [show (w1.alloc (.cells #[.int .u8 38, .int .u8 46, .int .u8 54, .int .u8 62, .int .u8 100, .int .u8 101, .int .u8 102, .int .u8 242, .int .u8 243] 5)).heap.size = w1.heap.size + 1 by simp] at hr1
      have Hr1 : Hid _ := hr1
      have Hb1 : Hid _ := hb1
      have HK3 : Hid _ := k2.trans k3
      have HLe : Hid _ := HB.out.le
      have Hbd : Hid _ := pb_bd hpb HB.out.bd
      have Hpi : Hid _ := hpi
      have Hpb : Hid _ := hpb
      have hwm : IntKind.i64.wrap (1 + (m : Int)) = 1 + (m : Int) := IntWalk.i64_in _ ⟨by omega, by omega⟩
      clear hr1 hb1 k2 k3 hpi hpb h1 h2 K1
      go_wp2_with (first
        | (at_builtin; refine wpList_app rfl _ _ rfl rfl rfl rfl Hr1.out ?_))
      go_loopw [12, 13] (fun s12 s13 wr => ∃ (i M g c : Nat), s12 = .slice (some ⟨g, 0, none⟩) M c ∧ s13 = .int .i64 i ∧ i ≤ 1 + m ∧ M = i + (1 + L) ∧ Hid (BytAt wr (some ⟨g, 0, none⟩) M (ctN p (pb p bt) i)) ∧ Hid (Kp noB w3 wr)) (fun _ s13 _ => (1 + (m : Int) - intOf s13).toNat)
      case atStart => exact ⟨0, 1 + L, g1, cp1, rfl, rfl, by omega, by omega, Hb1, Kp.refl _ _⟩
      case round =>
        obtain ⟨i, M, g, c, rfl, rfl, him, hM, hbi, hki⟩ := hrel
        by_cases hlt : (i : Int) < 1 + (m : Int)
        · obtain ⟨g2, cp2, w4, hr2, hb2, k4⟩ := pre_app wr p c hbi.out (by have := HLe.out; omega)
          have Hr2 : Hid _ := hr2
          have Hb2 : Hid _ := hb2
          have Hk4 : Hid _ := hki.out.trans k4
          have HM : Hid _ := hM
          have hwi : IntKind.i64.wrap ((i : Int) + 1) = (i : Int) + 1 := IntWalk.i64_in _ ⟨by omega, by omega⟩
          clear hr2 hb2 k4 hbi hki hM
          go_wp2_with (first
            | (at_builtin; refine wpList_app rfl _ _ rfl rfl rfl rfl Hr2.out ?_))
          go_roundw
          case rel => exact ⟨i + 1, 1 + M, g2, cp2, rfl, rfl, by omega, by have := HM.out; omega, Hb2, Hk4⟩
          case measure => simp [intOf]; omega
        · have hi : i = 1 + m := by omega
          have PM := pre_more (rl := ruleOf) Hpi.out i (1 + L) (pb p bt) (ctN p (pb p bt) i) (by omega) (by omega) (by omega) rfl (fun k hk => ctN_head p (pb p bt) rfl i k hk) (fun k _ _ => ctN_tail p (pb p bt) i k)
          rw [show 1 + L + i = M by omega] at PM
          have hct : ∀ q, q < M → 0 ≤ ctN p (pb p bt) i q ∧ ctN p (pb p bt) i q < 256 := fun q hq => by
            by_cases hqi : q ≤ i
            · rw [ctN_head p (pb p bt) rfl i q hqi]; exact Hpb.out
            · have := ctN_tail p (pb p bt) i (q - i)
              rw [show q - i + i = q by omega] at this
              rw [this]; exact Hbd.out _ (by omega)
          have cX := dec_bt cp1 (BytAt.kp Hb1.out hki.out) Hbd.out (by have := HLe.out; omega)
          have Hcy : Hid (∀ W, Kp noB wr W → Calls Tryz.prog 10 #[.slice (some ⟨g, 0, none⟩) M c] W fun e w' => e = .returned (.tuple #[.agg (insV (decM ruleOf M (ctN p (pb p bt) i)).1), .int .i64 (decM ruleOf M (ctN p (pb p bt) i)).2]) ∧ Kp noB W w') := fun W k => dec_bt c (BytAt.kp hbi.out k) hct (by have := HLe.out; omega)
          have hlen : (decM ruleOf (1 + L) (pb p bt)).2 = 0 → ∃ k : Nat, (decM ruleOf (1 + L) (pb p bt)).1.len = k ∧ 1 ≤ k ∧ k ≤ 15 := fun h0 => by
            obtain ⟨k, e1, _, e3, e4, _⟩ := ends_len h0
            exact ⟨k, e1, e3, e4⟩
          generalize decM ruleOf (1 + L) (pb p bt) = DX at PM cX hlen
          generalize decM ruleOf M (ctN p (pb p bt) i) = DY at PM Hcy
          obtain ⟨x, ex⟩ := DX
          obtain ⟨y, fy⟩ := DY
          simp only at PM cX hlen
          have HPM : Hid _ := PM
          have HLen : Hid _ := hlen
          have n1 := H.out.new x
          have s1 := H.out.v.cells x
          have n2 := H.out.new y
          have s2 := H.out.v.cells y
          have HKr : Hid _ := HK3.out.trans hki.out
          clear PM hlen hct hbi hki hM
          go_wp2_with fail
          refine cX.mono ?_; rintro e w5 ⟨rfl, k5⟩
          have cY := Hcy.out (w5.alloc (.cells (insV x) T)) (k5.trans (Kp.alloc _ _ _))
          have hqx := (MapKept.heap_alloc w5 (.cells (insV x) T)).1
          have HK5 : Hid _ := (HKr.out.trans k5).trans (Kp.alloc noB w5 (.cells (insV x) T))
          have hw5 : w.heap.size ≤ w5.heap.size := (HKr.out.trans k5).size
          clear cX k5 HKr
          go_wp2_with fail
          refine cY.mono ?_; rintro e w6 ⟨rfl, k6⟩
          have hqx6 := heap_kept hqx (k6.trans (Kp.alloc noB w6 (.cells (insV y) T))) id
          have hqy := (MapKept.heap_alloc w6 (.cells (insV y) T)).1
          have hne : ¬ w6.heap.size = w5.heap.size := by have := heap_lt (heap_kept hqx k6 id); omega
          have HK6 : Hid _ := (HK5.out.trans k6).trans (Kp.alloc noB w6 (.cells (insV y) T))
          have c31 : (w6.alloc (.cells (insV y) T)).cell? ⟨w5.heap.size, 31, none⟩ = some (.int .i64 x.len) := cell_of_row _ _ _ _ _ _ hqx6
          have z31 : (w6.alloc (.cells (insV y) T)).frozen? ⟨w5.heap.size, 31, none⟩ = false := by simp [World.frozen?, hqx6]
          clear cY k6 HK5 hqx Hcy
          obtain ⟨q1, q2, q3⟩ := HPM.out
          by_cases he : ex = 0
          · obtain ⟨k, hk1, hk2, hk3⟩ := HLen.out he
            subst he
            rw [hk1] at c31
            have hwk : IntKind.i64.wrap ((k : Int) + (1 + (m : Int))) = (k : Int) + (1 + (m : Int)) := IntWalk.i64_in _ ⟨by omega, by omega⟩
            by_cases hbig : 15 < (k : Int) + (1 + (m : Int))
            · have hf : fy = 62 := q2 rfl (by rw [hk1, hi]; push_cast; omega)
              subst hf
              clear q1 q2 q3 hk1
              go_wp2
              go_ret
              exact ⟨rfl, HK6.out.below⟩
            · have hy := q3 rfl (by rw [hk1, hi]; push_cast; omega)
              injection hy with hy1 hy2
              subst hy2
              have hyv : y = { x with len := (k : Int) + (1 + (m : Int)) } := by
                rw [hy1, hk1, hi]
                push_cast
                rfl
              have hqx7 : ((w6.alloc (.cells (insV y) T)).setCell ⟨w5.heap.size, 31, none⟩ (.int .i64 ((k : Int) + (1 + (m : Int))))).heap[w5.heap.size]? = some (.cells (insV y) T (0, 0)) := by
                rw [heap_set hqx6, hyv]
                rfl
              have hqy7 : ((w6.alloc (.cells (insV y) T)).setCell ⟨w5.heap.size, 31, none⟩ (.int .i64 ((k : Int) + (1 + (m : Int))))).heap[w6.heap.size]? = some (.cells (insV y) T (0, 0)) := heap_kept hqy (Kp.setCell (S := fun b => b = w5.heap.size) _ (p := ⟨w5.heap.size, 31, none⟩) rfl _) hne
              have l1 := H.out.get hqx7
              have l2 := H.out.get hqy7
              have hev : ∀ w, (binOp .eql T (.agg (insV y)) (.agg (insV y))).run Tryz.prog w = .ok (.bool true) w := fun w => by rw [H.out.eql w y y]; simp
              have HK7 : Hid _ := HK6.out.setNew hw5 31 (.int .i64 ((k : Int) + (1 + (m : Int))))
              have hng : decide ((k : Int) + (1 + (m : Int)) > 15) = false := by simp; omega
              clear q1 q2 q3 hk1 hy1 hyv hqx7 hqy7 hqx6 hqy
              go_wp2
              go_ret
              exact ⟨rfl, HK7.out.below⟩
          · have he' : (ex != 0) = true := by simpa using he
            have hf := q1 he
            have hf' : (fy != 0) = true := by simpa using hf
            clear q1 q2 q3
            go_wp2
            go_ret
            exact ⟨rfl, HK6.out.below⟩

end Go.Proofs.YtopeccjghamjmaaGreat
