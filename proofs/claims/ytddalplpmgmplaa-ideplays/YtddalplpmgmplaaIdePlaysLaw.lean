/- The walk of IdePlays. -/
import Derived.Test.YtddalplpmgmplaaIxAll
import Derived.Test.YtddalplpmgmplaaIdAwake
import Derived.Test.YtddalplpmgmplaaOrdG
namespace Go.Proofs.Ytddalplpmgmplaa
open Go.ChangeShapes Go.WideShapes Go.ChangeAt Go.RowKit
set_option linter.unusedVariables false

/-- A cell of a block that lies aside. -/
theorem row_put {w : World} {g i : Nat} {cur : Array Value} (h : w.heap[g]? = some (rowO cur)) (hi : i < cur.size) : (∃ y, w.cell? ⟨g, i, none⟩ = some y) ∧ w.frozen? ⟨g, i, none⟩ = false ∧ ∃ cur', (w.setCell ⟨g, i, none⟩ (.int .u8 99)).heap[g]? = some (rowO cur') ∧ cur'.size = cur.size :=
  ⟨⟨cur[i], by rw [cell_at h]; exact Array.getElem?_eq_getElem hi⟩, frozen_at h, _, heap_set h, by simp⟩

set_option maxRecDepth 20000 in
set_option maxHeartbeats 4000000 in
theorem plays_bad (W : World) (ad : Option Addr) (Ld cd : Nat) (bt : Nat → Int) (hbt : BytIn W ad Ld bt) (a1 : Option Addr) (L cap1 : Nat) (bad : Ld % 512 ≠ 0 ∨ 32768 < Ld) : Calls Try.prog 3 #[.slice ad Ld cd, .slice a1 L cap1] W fun e w' => e = .returned (.bool true) ∧ Below W.heap.size W w' := by
  have HA : Hid (∀ w, _) := awake_ok
  have le := hbt.le
  have HAP : Hid (∀ (w : World) (g0 : Nat), w.heap[g0]? = some (.cells #[] 5 (0, 0)) → Kp noB W w → _) := fun w g0 h k => app_new (w := w) g0 cd h (hbt.at'.kept k (fun _ _ => id)) (by omega)
  have HN : Hid (∀ w g c, _) := fun w g c => new_no w (some ⟨g, 0, none⟩) Ld c bad (by omega)
  have HM : Hid (∀ w, _) := fun w => xnew_no w ad Ld cd bad (by omega)
  have HE : Hid (∀ w', Kp noB W w' → Below W.heap.size W w') := fun w' h => h.every
  clear hbt bad
  go_enter Try.func3, Try.ntmps3
  go_wp2_with fail
  refine Calls.mono (HA.out _) ?_; rintro e w1 ⟨rfl, k1⟩
  obtain ⟨g, capA, w2, hap, hcA, ⟨cur, c1, c2, c3⟩, k3, hg⟩ := HAP.out (w1.alloc (.cells #[] 5)) w1.heap.size (heap_new _ _) (k1.trans (Kp.alloc _ _ _))
  have Hap : Hid _ := hap
  have K2 : Hid (Kp noB W w2) := (k1.trans (Kp.alloc _ _ _)).trans k3
  have C2 : Hid (w2.heap[g]? = some (rowO cur)) := c1
  have G2 : W.heap.size ≤ g := by
    have := k1.size
    have := (k1.trans (Kp.alloc noB w1 (.cells #[] 5))).size
    omega
  clear hap hcA c1 c3 k3 hg k1
  go_wp2_with (first
    | (at_builtin; refine wpList_app rfl _ _ rfl rfl rfl rfl Hap.out ?_))
  refine Calls.mono (HN.out _ _ _) ?_; rintro e w3 ⟨rfl, hw⟩; replace hw := hw.symm; subst hw
  go_wp2_with fail
  refine Calls.mono (HM.out _) ?_; rintro e w3 ⟨rfl, hw⟩; replace hw := hw.symm; subst hw
  clear Hap
  go_wp2_with fail
  go_loopw [11] (fun s11 wr => ∃ (i : Nat) (cu : Array Value), s11 = .int .i64 i ∧ i ≤ Ld ∧ Ld ≤ cu.size ∧ wr.heap[g]? = some (rowO cu) ∧ Kp noB W wr) (fun s11 _ => ((Ld : Int) - intOf s11).toNat)
  case atStart => exact ⟨0, cur, rfl, by omega, c2, C2.out, K2.out⟩
  case round =>
    clear K2 C2
    obtain ⟨i, cu, rfl, hi, hcu, hh, kk⟩ := hrel
    by_cases hlt : i < Ld
    · obtain ⟨⟨y, cy⟩, fz, cu', hh', hs'⟩ := row_put hh (i := i) (by omega)
      have H : Hid (Ld ≤ cu'.size ∧ (wr.setCell ⟨g, i, none⟩ (.int .u8 99)).heap[g]? = some (rowO cu') ∧ Kp noB W (wr.setCell ⟨g, i, none⟩ (.int .u8 99))) := ⟨by omega, hh', kk.over (kpB g _ _ _) (fun j hj (e : j = g) => by omega)⟩
      clear hh hh' hs' kk
      go_wp2
      go_roundw
      case rel => exact ⟨i + 1, cu', by go_num, by omega, H.out.1, H.out.2.1, H.out.2.2⟩
      case measure => simp [intOf]; omega
    · have H : Hid _ := HE.out _ kk
      have hi' : i = Ld := by omega
      subst hi'
      clear hh kk
      go_wp2
      go_ret
      exact ⟨rfl, H.out⟩

theorem work_out {d : Id} (k : d.Ok) {i j : Nat} (h : d.work ≤ 2400 * i + 4 * j) (rg sz v : Int) : (d.o rg sz v).work ≤ 2400 * i + 4 * (j + 1) := by
  have := o_work k rg sz v
  omega
theorem work_in {d : Id} {i j : Nat} (h : d.work ≤ 2400 * i + 4 * j) (rg sz : Int) : (d.i rg sz).work ≤ 2400 * i + 4 * (j + 1) := by
  have := i_work d rg sz
  omega
theorem work_told {d : Id} {i j : Nat} (h : d.work ≤ 2400 * i + 4 * j) : d.told.work ≤ 2400 * i + 4 * (j + 1) := by
  have := told_work d
  omega

/-- How far the last line is: which of its four calls have come up. -/
def Ph38 (W : World) (B R gD cap k : Nat) (d : Id) (str : ByteArray) (t : Nat × Value × Value) (a b c e : Bool) (w : World) : Prop :=
  match a, b, c, e with
  | false, false, false, false => Tw W w B R gD cap [] (.slice none 0 0) [] d d
  | true, false, false, false => ∃ cB, Tw W w B R gD cap [(t.1, rowO cB)] (.slice none 0 0) [] d d ∧ (convert 22 9 (.slice (some ⟨t.1, 0, none⟩) k k)).run Try.prog w = .ok (.string str) w
  | true, true, false, false => ∃ p c, t.2.1 = .slice p d.log.length c ∧ Tw W w B R gD cap [] (.slice p d.log.length c) d.log d.told d
  | true, true, true, false => ∃ p c p' c', t.2.1 = .slice p d.log.length c ∧ t.2.2 = .slice p' d.log.length c' ∧ Tw W w B R gD cap [] (.slice p d.log.length c) d.log d.told d.told ∧ IntAt w p' d.log
  | true, true, true, true => Tw W w B R gD cap [] (.slice none 0 0) [] d.told d.told
  | _, _, _, _ => False

theorem ph38_b {W : World} {B R gD cap k : Nat} {d : Id} {str : ByteArray} {C : World → Prop} {t : Nat × Value × Value} {a b c e : Bool} {w : World} (h : Ph38 W B R gD cap k d str t a b c e w)
    (h1 : ∀ w sd lv l d1, Tw W w B R gD cap sd lv l d1 d → C w) (h2 : ∀ w sd lv l d1, Tw W w B R gD cap sd lv l d1 d.told → C w) : C w := by
  cases a <;> cases b <;> cases c <;> cases e <;> try exact h.elim
  · exact h1 _ _ _ _ _ h
  · obtain ⟨cB, q, r⟩ := h
    exact h1 _ _ _ _ _ q
  · obtain ⟨p, c, r, q⟩ := h
    exact h1 _ _ _ _ _ q
  · obtain ⟨p, c, p', c', r1, r2, q, i⟩ := h
    exact h2 _ _ _ _ _ q
  · exact h2 _ _ _ _ _ h

set_option maxRecDepth 20000 in
set_option maxHeartbeats 8000000 in
theorem plays_good (W : World) (ad : Option Addr) (Ld cd : Nat) (bt : Nat → Int) (hbt : BytIn W ad Ld bt) (a1 : Option Addr) (L cap1 : Nat) (lq : L ≤ 3518437208783) (ws : ∀ i, i < L → OpIn W a1 i) (m1 : Ld % 512 = 0) (m2 : Ld ≤ 32768) : Calls Try.prog 3 #[.slice ad Ld cd, .slice a1 L cap1] W fun e w' => e = .returned (.bool true) ∧ Below W.heap.size W w' := by
  have HA : Hid (∀ w, _) := awake_ok
  have HAP : Hid (∀ (w : World) (g0 : Nat), w.heap[g0]? = some (.cells #[] 5 (0, 0)) → Kp noB W w → _) := fun w g0 h k => app_new (w := w) g0 cd h (hbt.at'.kept k (fun _ _ => id)) (by omega)
  have HN : Hid (∀ w g c, BytAt w (some ⟨g, 0, none⟩) Ld bt → _) := fun w g c h => wNew w (some ⟨g, 0, none⟩) Ld c bt h m1 m2
  have HM : Hid (∀ w, Kp noB W w → _) := fun w k => xnew_ok w ad Ld cd bt (hbt.at'.kept k (fun _ _ => id)) m1 m2
  have HE : Hid (∀ w', Kp noB W w' → Below W.heap.size W w') := fun w' h => h.every
  have HS : Hid (∀ i, i < L → OpIn W a1 i) := ws
  obtain ⟨d0, hd0⟩ : ∃ d0, d0 = id0 (Ld / 512) (dB Ld bt) := ⟨_, rfl⟩
  have ok0 : Hid (d0.Ok ∧ d0.work = 0) := by
    rw [hd0]
    exact ⟨id0_ok (by omega) (fun i _ => dB_byt (fun j hj => hbt.bd j hj) i), id0_work _ _⟩
  unfold INew at HN
  unfold XNew at HM
  rw [← hd0] at HN HM
  clear hbt ws hd0
  go_enter Try.func3, Try.ntmps3
  go_wp2_with fail
  refine Calls.mono (HA.out _) ?_; rintro e w1 ⟨rfl, k1⟩
  obtain ⟨g, capA, w2, hap, hcA, ⟨cur, c1, c2, c3⟩, k3, hg⟩ := HAP.out (w1.alloc (.cells #[] 5)) w1.heap.size (heap_new _ _) (k1.trans (Kp.alloc _ _ _))
  have Hap : Hid _ := hap
  have k2 : Kp noB W w2 := (k1.trans (Kp.alloc _ _ _)).trans k3
  have G2 : W.heap.size ≤ g := by
    have := k1.size
    have := (k1.trans (Kp.alloc noB w1 (.cells #[] 5))).size
    omega
  have B2 : BytAt w2 (some ⟨g, 0, none⟩) Ld bt := fun j hj => ⟨g, 0, rfl, heap_lt c1, by rw [cell_at c1, Nat.zero_add]; exact c3 j hj⟩
  have HN' : Hid _ := HN.out w2 g capA B2
  clear hap hcA c3 k3 hg k1 HA HAP HN B2
  go_wp2_with (first
    | (at_builtin; refine wpList_app rfl _ _ rfl rfl rfl rfl Hap.out ?_))
  refine Calls.mono HN'.out ?_; rintro e w3 ⟨rfl, S3, h3, n3, k4⟩
  have HM' : Hid _ := HM.out w3 (k2.trans k4)
  clear Hap HM HN'
  go_wp2_with fail
  refine Calls.mono HM'.out ?_; rintro e w5 ⟨R, rfl, gD, cap, dn, x1, x2, x3, x4, x5⟩
  have P5 : Hid (Tw W w5 w2.heap.size R gD cap [(g, rowO cur)] (.slice none 0 0) [] d0 d0) := by
    refine Tw.start (k2.trans k4) h3 (fun k q => Nat.le_trans k2.size (n3 k q)) ok0.out.1 (heap_kept (o := rowO cur) c1 k4 id) (fun q => ?_) ⟨dn, x1, x2, x3, x4, x5⟩
    have := n3 g q
    have := heap_lt c1
    omega
  clear h3 n3 k4 x1 x2 x3 x4 x5 c1 k2 HM'
  generalize w2.heap.size = B at *
  go_wp2_with fail
  go_loopw [11] (fun s11 wr => ∃ (i : Nat) (cu : Array Value), s11 = .int .i64 i ∧ i ≤ Ld ∧ Ld ≤ cu.size ∧ Tw W wr B R gD cap [(g, rowO cu)] (.slice none 0 0) [] d0 d0) (fun s11 _ => ((Ld : Int) - intOf s11).toNat)
  case atStart => exact ⟨0, cur, rfl, by omega, c2, P5.out⟩
  case round =>
    clear P5
    obtain ⟨i, cu, rfl, hi, hcu, tw⟩ := hrel
    by_cases hlt : i < Ld
    · obtain ⟨⟨y, cy⟩, fz, cu', hh', hs'⟩ := row_put (tw.heap (.head _)) (i := i) (by omega)
      have H : Hid (Ld ≤ cu'.size ∧ Tw W (wr.setCell ⟨g, i, none⟩ (.int .u8 99)) B R gD cap [(g, rowO cu')] (.slice none 0 0) [] d0 d0) := ⟨by omega, tw.turn G2 (kpB g _ _ _) hh'⟩
      clear hh' hs' tw
      go_wp2
      go_roundw
      case rel => exact ⟨i + 1, cu', by go_num, by omega, H.out.1, H.out.2⟩
      case measure => simp [intOf]; omega
    · have P6 : Hid (Tw W wr B R gD cap [] (.slice none 0 0) [] d0 d0) := tw.less (fun x hx => by cases hx)
      have hi' : i = Ld := by omega
      subst hi'
      clear tw hlt hcu G2
      generalize wr = w6 at *
      go_wp2_with fail
      go_loopw [12] (fun s12 wr => ∃ (i : Nat) (d : Id), s12 = .int .i64 i ∧ i ≤ L ∧ Tw W wr B R gD cap [] (.slice none 0 0) [] d d ∧ d.work ≤ 2400 * i) (fun s12 _ => ((L : Int) - intOf s12).toNat)
      case atStart => exact ⟨0, d0, rfl, by omega, P6.out, by rw [ok0.out.2]; omega⟩
      case round =>
        clear P6 ok0
        obtain ⟨i, d, rfl, hi, tw, wk⟩ := hrel
        by_cases hlt : i < L
        · obtain ⟨blk, off, kd, rg, sz, v, tm, rfl, hblk, ⟨c0, c1, c2, c3, c4⟩, ⟨bd0, bd1⟩, ⟨br0, br1⟩, ⟨bs0, bs1⟩, ⟨v0, v1⟩, ⟨bt0, bt1⟩⟩ := (HS.out i hlt).kp tw.kp
          have P7 : Hid (Tw W (wr.alloc (opO kd rg sz v tm)) B R gD cap [(wr.heap.size, opO kd rg sz v tm)] (.slice none 0 0) [] d d) := tw.alloc _
          have WK0 : Hid (d.work ≤ 2400 * i + 4 * 0) := by show _ ≤ _; omega
          have iL : i < 3518437208783 := by omega
          clear tw wk hblk
          go_wp2
          unfold opO at P7
          generalize wr.alloc _ = w7 at P7 ⊢
          generalize wr.heap.size = X at P7 ⊢
          clear c0 c1 c2 c3 c4
          clear wr
          have CX : Hid (∀ w d1 d2, Tw W w B R gD cap [(X, opO kd rg sz v tm)] (.slice none 0 0) [] d1 d2 → w.cell? ⟨X, 1, none⟩ = some (.int .i64 rg) ∧ w.cell? ⟨X, 2, none⟩ = some (.int .i64 sz) ∧ w.cell? ⟨X, 3, none⟩ = some (.int .u32 v)) := fun w d1 d2 h => by
            obtain ⟨q0, q1, q2, q3, q4⟩ := opO_cells (h.heap (.head _))
            exact ⟨q1, q2, q3⟩
          go_loopw [14] (fun s14 wr => ∃ (j : Nat) (d : Id), j ≤ 600 ∧ s14 = .int .i64 j ∧ Tw W wr B R gD cap [(X, opO kd rg sz v tm)] (.slice none 0 0) [] d d ∧ d.work ≤ 2400 * i + 4 * j ∧ True) (fun s14 _ => 600 - (intOf s14).toNat)
          case atStart => exact ⟨0, d, by omega, rfl, P7.out, WK0.out, trivial⟩
          case round =>
            clear P7 WK0
            clear d
            obtain ⟨j, d, hj, rfl, tw, wk, _⟩ := hrel
            obtain ⟨o0, o1, o2, o3, o4⟩ := opO_cells (tw.heap (.head _))
            have WKx : Hid (d.work + 4 < 9007199254740992) := by show _ < _; omega
            obtain ⟨VV, hVV⟩ : ∃ VV, VV = (v + (j : Int)) % 4294967296 := ⟨_, rfl⟩
            have vv : 0 ≤ VV ∧ VV < 4294967296 := by omega
            by_cases hgo : j = 0 ∨ ((j : Int) < tm ∧ j < 600)
            · have j6 : (j : Int) < 600 := by omega
              have f1 : (v + (j : Int)) % 4294967296 = VV := hVV.symm
              have f2 : IntKind.u32.wrap (v + (j : Int)) = VV := by rw [hVV, IntKind.wrap_u32]
              have f3 : IntKind.u32.wrap (j : Int) = j := by rw [IntKind.wrap_u32]; omega
              have f4 : (j : Int) % 4294967296 = j := by omega
              clear hVV
              by_cases z : j = 0
              · have q0 : ((j : Int) == 0) = true := by rw [beq_iff_eq]; omega
                clear hgo z
                by_cases e1 : kd = 1
                · as_aux_lemma =>
                  subst e1
                  have T1 : Hid (Tw W wr.drew B R gD cap [(X, opO 1 rg sz v tm)] (.slice none 0 0) [] d d) := tw.drew
                  have HC1 : Hid (∀ w, Tw W w B R gD cap [(X, opO 1 rg sz v tm)] (.slice none 0 0) [] d d → _) := fun w h => h.outL rg sz VV vv.1 vv.2 WKx.out
                  have HX1 : Hid (∀ w, Tw W w B R gD cap [(X, opO 1 rg sz v tm)] (.slice none 0 0) [] (d.o rg sz VV) d → _) := fun w h => h.outR rg sz VV vv.1 vv.2 WKx.out
                  have WZ : Hid ((d.o rg sz VV).work ≤ 2400 * i + 4 * (j + 1)) := work_out tw.ok wk rg sz VV
                  generalize d.o rg sz VV = d1 at *
                  generalize ck rg sz = er at *
                  clear tw wk
                  go_wp2
                  refine OrdG.region_vals (τ := Unit) (fun _ => [(.pointer (some ⟨B, 0, none⟩)), (.pointer (some ⟨X, 1, none⟩)), (.int .i64 rg), (.pointer (some ⟨X, 2, none⟩)), (.int .i64 sz), (.pointer (some ⟨X, 3, none⟩)), (.int .u32 v), (.int .i64 j), (.int .u32 j), (.int .u32 VV), (.int .i64 er), (.pointer (some ⟨R, 0, none⟩)), (.pointer (some ⟨X, 1, none⟩)), (.int .i64 rg), (.pointer (some ⟨X, 2, none⟩)), (.int .i64 sz), (.pointer (some ⟨X, 3, none⟩)), (.int .u32 v), (.int .i64 j), (.int .u32 j), (.int .u32 VV), (.int .i64 er), (.bool true), (.bool true)]) (fun _ listed W' => Tw W W' B R gD cap [(X, opO 1 rg sz v tm)] (.slice none 0 0) [] (bif listed.getD 10 false then d1 else d) (bif listed.getD 21 false then d1 else d)) () (by kernel_rfl) (by kernel_rfl) (by kernel_rfl) (by kernel_rfl) (fun _ => rfl) (fun t => by simp only [OrdG.puts, Act.put, List.setIfInBounds_toArray, List.set_cons_zero, List.set_cons_succ]; rfl) (fun _ => by kernel_rfl) T1.out ?_ ?_
                  · refine ⟨?_, ?_, ?_, ?_, ?_, ?_, ?_, ?_, ?_, ?_, ?_, ?_, ?_, ?_, ?_, ?_, ?_, ?_, ?_, ?_, ?_, ?_, ?_, ?_, trivial⟩
                    all_goals (intro t listed W' hz hSh hl hI hb K hK hK0; change Tw W W' B R gD cap [(X, opO 1 rg sz v tm)] (.slice none 0 0) [] (bif listed.getD 10 false then d1 else d) (bif listed.getD 21 false then d1 else d) at hI; obtain ⟨s1, s2, s3⟩ := CX.out _ _ _ hI)
                    · go_simp
                      exact hK0 _ (by show Tw W _ B R gD cap _ _ _ (bif Array.getD _ 10 false then d1 else d) (bif Array.getD _ 21 false then d1 else d); rw [getD_set_ne false (by decide), getD_set_ne false (by decide)]; exact hI)
                    · go_simp
                      exact hK0 _ (by show Tw W _ B R gD cap _ _ _ (bif Array.getD _ 10 false then d1 else d) (bif Array.getD _ 21 false then d1 else d); rw [getD_set_ne false (by decide), getD_set_ne false (by decide)]; exact hI)
                    · go_simp
                      exact hK0 _ (by show Tw W _ B R gD cap _ _ _ (bif Array.getD _ 10 false then d1 else d) (bif Array.getD _ 21 false then d1 else d); rw [getD_set_ne false (by decide), getD_set_ne false (by decide)]; exact hI)
                    · go_simp
                      exact hK0 _ (by show Tw W _ B R gD cap _ _ _ (bif Array.getD _ 10 false then d1 else d) (bif Array.getD _ 21 false then d1 else d); rw [getD_set_ne false (by decide), getD_set_ne false (by decide)]; exact hI)
                    · go_simp
                      exact hK0 _ (by show Tw W _ B R gD cap _ _ _ (bif Array.getD _ 10 false then d1 else d) (bif Array.getD _ 21 false then d1 else d); rw [getD_set_ne false (by decide), getD_set_ne false (by decide)]; exact hI)
                    · go_simp
                      exact hK0 _ (by show Tw W _ B R gD cap _ _ _ (bif Array.getD _ 10 false then d1 else d) (bif Array.getD _ 21 false then d1 else d); rw [getD_set_ne false (by decide), getD_set_ne false (by decide)]; exact hI)
                    · go_simp
                      exact hK0 _ (by show Tw W _ B R gD cap _ _ _ (bif Array.getD _ 10 false then d1 else d) (bif Array.getD _ 21 false then d1 else d); rw [getD_set_ne false (by decide), getD_set_ne false (by decide)]; exact hI)
                    · go_simp
                      exact hK0 _ (by show Tw W _ B R gD cap _ _ _ (bif Array.getD _ 10 false then d1 else d) (bif Array.getD _ 21 false then d1 else d); rw [getD_set_ne false (by decide), getD_set_ne false (by decide)]; exact hI)
                    · go_simp
                      exact hK0 _ (by show Tw W _ B R gD cap _ _ _ (bif Array.getD _ 10 false then d1 else d) (bif Array.getD _ 21 false then d1 else d); rw [getD_set_ne false (by decide), getD_set_ne false (by decide)]; exact hI)
                    · go_simp
                      exact hK0 _ (by show Tw W _ B R gD cap _ _ _ (bif Array.getD _ 10 false then d1 else d) (bif Array.getD _ 21 false then d1 else d); rw [getD_set_ne false (by decide), getD_set_ne false (by decide)]; exact hI)
                    · have n21 := OrdG.shut_no (j := 21) hSh hl (by kernel_rfl)
                      rw [hl, n21] at hI
                      go_simp
                      refine Calls.mono (HC1.out _ hI) ?_; rintro e z5 ⟨rfl, p5⟩
                      refine hK0 z5 ?_
                      show Tw W _ B R gD cap _ _ _ (bif Array.getD _ 10 false then d1 else d) (bif Array.getD _ 21 false then d1 else d)
                      rw [OrdG.getD_self hz (by decide), getD_set_ne false (by decide), n21]
                      exact p5
                    · go_simp
                      exact hK0 _ (by show Tw W _ B R gD cap _ _ _ (bif Array.getD _ 10 false then d1 else d) (bif Array.getD _ 21 false then d1 else d); rw [getD_set_ne false (by decide), getD_set_ne false (by decide)]; exact hI)
                    · go_simp
                      exact hK0 _ (by show Tw W _ B R gD cap _ _ _ (bif Array.getD _ 10 false then d1 else d) (bif Array.getD _ 21 false then d1 else d); rw [getD_set_ne false (by decide), getD_set_ne false (by decide)]; exact hI)
                    · go_simp
                      exact hK0 _ (by show Tw W _ B R gD cap _ _ _ (bif Array.getD _ 10 false then d1 else d) (bif Array.getD _ 21 false then d1 else d); rw [getD_set_ne false (by decide), getD_set_ne false (by decide)]; exact hI)
                    · go_simp
                      exact hK0 _ (by show Tw W _ B R gD cap _ _ _ (bif Array.getD _ 10 false then d1 else d) (bif Array.getD _ 21 false then d1 else d); rw [getD_set_ne false (by decide), getD_set_ne false (by decide)]; exact hI)
                    · go_simp
                      exact hK0 _ (by show Tw W _ B R gD cap _ _ _ (bif Array.getD _ 10 false then d1 else d) (bif Array.getD _ 21 false then d1 else d); rw [getD_set_ne false (by decide), getD_set_ne false (by decide)]; exact hI)
                    · go_simp
                      exact hK0 _ (by show Tw W _ B R gD cap _ _ _ (bif Array.getD _ 10 false then d1 else d) (bif Array.getD _ 21 false then d1 else d); rw [getD_set_ne false (by decide), getD_set_ne false (by decide)]; exact hI)
                    · go_simp
                      exact hK0 _ (by show Tw W _ B R gD cap _ _ _ (bif Array.getD _ 10 false then d1 else d) (bif Array.getD _ 21 false then d1 else d); rw [getD_set_ne false (by decide), getD_set_ne false (by decide)]; exact hI)
                    · go_simp
                      exact hK0 _ (by show Tw W _ B R gD cap _ _ _ (bif Array.getD _ 10 false then d1 else d) (bif Array.getD _ 21 false then d1 else d); rw [getD_set_ne false (by decide), getD_set_ne false (by decide)]; exact hI)
                    · go_simp
                      exact hK0 _ (by show Tw W _ B R gD cap _ _ _ (bif Array.getD _ 10 false then d1 else d) (bif Array.getD _ 21 false then d1 else d); rw [getD_set_ne false (by decide), getD_set_ne false (by decide)]; exact hI)
                    · go_simp
                      exact hK0 _ (by show Tw W _ B R gD cap _ _ _ (bif Array.getD _ 10 false then d1 else d) (bif Array.getD _ 21 false then d1 else d); rw [getD_set_ne false (by decide), getD_set_ne false (by decide)]; exact hI)
                    · have y10 := OrdG.on_of (i := 10) hb (by kernel_rfl)
                      rw [hl, y10] at hI
                      go_simp
                      refine Calls.mono (HX1.out _ hI) ?_; rintro e z5 ⟨rfl, p5⟩
                      refine hK0 z5 ?_
                      show Tw W _ B R gD cap _ _ _ (bif Array.getD _ 10 false then d1 else d) (bif Array.getD _ 21 false then d1 else d)
                      rw [OrdG.getD_self hz (by decide), getD_set_ne false (by decide), y10]
                      exact p5
                    · go_simp
                      exact hK0 _ (by show Tw W _ B R gD cap _ _ _ (bif Array.getD _ 10 false then d1 else d) (bif Array.getD _ 21 false then d1 else d); rw [getD_set_ne false (by decide), getD_set_ne false (by decide)]; exact hI)
                    · go_simp
                      exact hK0 _ (by show Tw W _ B R gD cap _ _ _ (bif Array.getD _ 10 false then d1 else d) (bif Array.getD _ 21 false then d1 else d); rw [getD_set_ne false (by decide), getD_set_ne false (by decide)]; exact hI)
                  intro t listed z6 hall hI
                  have bz := hI
                  rw [hall 10 (by exact (by decide : 10 < 24)), hall 21 (by exact (by decide : 21 < 24))] at bz
                  replace bz : Tw W z6 B R gD cap [(X, opO 1 rg sz v tm)] (.slice none 0 0) [] d1 d1 := bz
                  clear hI hall
                  clear T1 HC1 HX1 o0 o1 o2 o3 o4
                  go_wp2_with fail
                  refine Calls.mono bz.lineL ?_; rintro e z8 ⟨rfl, hw⟩; replace hw := hw.symm; subst hw
                  go_wp2_with fail
                  refine Calls.mono bz.lineR ?_; rintro e z8 ⟨rfl, hw⟩; replace hw := hw.symm; subst hw
                  have BZ : Hid _ := bz
                  clear bz
                  go_wp2
                  go_roundw
                  case rel => first | exact ⟨j + 1, _, by omega, by go_num, BZ.out, WZ.out, trivial⟩ | ((repeat apply Exists.intro); exact ⟨⟨j + 1, _, by omega, by go_num, BZ.out, WZ.out, trivial⟩, rfl⟩)
                  case measure => simp [intOf]; omega
                · by_cases e2 : kd = 2
                  · as_aux_lemma =>
                    subst e2
                    have WZ : Hid ((d.i rg sz).work ≤ 2400 * i + 4 * (j + 1)) := work_in wk rg sz
                    have HC2 : Hid _ := tw.inL rg sz
                    have HX2 : Hid (∀ w, Tw W w B R gD cap [(X, opO 2 rg sz v tm)] (.slice none 0 0) [] (d.i rg sz) d → _) := fun w h => h.inR rg sz
                    generalize d.i rg sz = d1 at *
                    generalize d.iV rg sz = y1 at *
                    generalize ck rg sz = er at *
                    clear tw wk
                    go_wp2_with fail
                    refine Calls.mono HC2.out ?_; rintro e z5 ⟨rfl, p5⟩
                    obtain ⟨q1, q2, q3⟩ := CX.out _ _ _ p5
                    go_wp2_with fail
                    refine Calls.mono (HX2.out _ p5) ?_; rintro e z6 ⟨rfl, bz⟩
                    clear p5 q1 q2 q3 HC2 HX2 o0 o1 o2 o3 o4
                    go_wp2_with fail
                    refine Calls.mono bz.lineL ?_; rintro e z8 ⟨rfl, hw⟩; replace hw := hw.symm; subst hw
                    go_wp2_with fail
                    refine Calls.mono bz.lineR ?_; rintro e z8 ⟨rfl, hw⟩; replace hw := hw.symm; subst hw
                    have BZ : Hid _ := bz
                    clear bz
                    go_wp2
                    go_roundw
                    case rel => first | exact ⟨j + 1, _, by omega, by go_num, BZ.out, WZ.out, trivial⟩ | ((repeat apply Exists.intro); exact ⟨⟨j + 1, _, by omega, by go_num, BZ.out, WZ.out, trivial⟩, rfl⟩)
                    case measure => simp [intOf]; omega
                  · by_cases e3 : kd = 3
                    · as_aux_lemma =>
                      subst e3
                      have WZ : Hid (d.told.work ≤ 2400 * i + 4 * (j + 1)) := work_told wk
                      have LL : Hid (d.log.length < 4611686018427387904) := by
                        have := work_log d
                        have := WKx.out
                        show _ < _
                        omega
                      have HC3 : Hid _ := tw.toldL
                      have HX3 : Hid (∀ w lv, Tw W w B R gD cap [(X, opO 3 rg sz v tm)] lv d.log d.told d → _) := fun w lv h => h.toldR
                      have HSm : Hid (∀ w p q c e, IntAt w p d.log → IntAt w q d.log → _) := fun w p q c e hp hq => same_ok w p q c e d.log hp hq LL.out
                      clear tw wk
                      go_wp2_with fail
                      refine Calls.mono HC3.out ?_; rintro e z5 ⟨p5, c5, rfl, t5⟩
                      go_wp2_with fail
                      refine Calls.mono (HX3.out _ _ t5) ?_; rintro e z6 ⟨p6, c6, rfl, t6, i6⟩
                      have i5 := t6.ints
                      go_wp2_with fail
                      refine Calls.mono (HSm.out _ _ _ _ _ i5 i6) ?_; rintro e z7 ⟨rfl, k7⟩
                      have bz := (t6.keep k7).forget
                      clear t5 t6 i5 i6 k7 HC3 HX3 HSm o0 o1 o2 o3 o4
                      go_wp2_with fail
                      refine Calls.mono bz.lineL ?_; rintro e z8 ⟨rfl, hw⟩; replace hw := hw.symm; subst hw
                      go_wp2_with fail
                      refine Calls.mono bz.lineR ?_; rintro e z8 ⟨rfl, hw⟩; replace hw := hw.symm; subst hw
                      have BZ : Hid _ := bz
                      clear bz
                      go_wp2
                      go_roundw
                      case rel => first | exact ⟨j + 1, _, by omega, by go_num, BZ.out, WZ.out, trivial⟩ | ((repeat apply Exists.intro); exact ⟨⟨j + 1, _, by omega, by go_num, BZ.out, WZ.out, trivial⟩, rfl⟩)
                      case measure => simp [intOf]; omega
                    · as_aux_lemma =>
                      have WZ : Hid (d.work ≤ 2400 * i + 4 * (j + 1)) := by show _ ≤ _; omega
                      have bz := tw
                      have n1 : (kd == 1) = false := by rw [beq_eq_false_iff_ne]; exact e1
                      have n2 : (kd == 2) = false := by rw [beq_eq_false_iff_ne]; exact e2
                      have n3 : (kd == 3) = false := by rw [beq_eq_false_iff_ne]; exact e3
                      clear tw wk
                      go_wp2_with fail
                      refine Calls.mono bz.lineL ?_; rintro e z8 ⟨rfl, hw⟩; replace hw := hw.symm; subst hw
                      go_wp2_with fail
                      refine Calls.mono bz.lineR ?_; rintro e z8 ⟨rfl, hw⟩; replace hw := hw.symm; subst hw
                      have BZ : Hid _ := bz
                      clear bz
                      go_wp2
                      go_roundw
                      case rel => first | exact ⟨j + 1, _, by omega, by go_num, BZ.out, WZ.out, trivial⟩ | ((repeat apply Exists.intro); exact ⟨⟨j + 1, _, by omega, by go_num, BZ.out, WZ.out, trivial⟩, rfl⟩)
                      case measure => simp [intOf]; omega
              · have q0 : ((j : Int) == 0) = false := by rw [beq_eq_false_iff_ne]; omega
                have q1 : (j : Int) < tm := by omega
                clear hgo
                by_cases e1 : kd = 1
                · as_aux_lemma =>
                  subst e1
                  have T1 : Hid (Tw W wr.drew B R gD cap [(X, opO 1 rg sz v tm)] (.slice none 0 0) [] d d) := tw.drew
                  have HC1 : Hid (∀ w, Tw W w B R gD cap [(X, opO 1 rg sz v tm)] (.slice none 0 0) [] d d → _) := fun w h => h.outL rg sz VV vv.1 vv.2 WKx.out
                  have HX1 : Hid (∀ w, Tw W w B R gD cap [(X, opO 1 rg sz v tm)] (.slice none 0 0) [] (d.o rg sz VV) d → _) := fun w h => h.outR rg sz VV vv.1 vv.2 WKx.out
                  have WZ : Hid ((d.o rg sz VV).work ≤ 2400 * i + 4 * (j + 1)) := work_out tw.ok wk rg sz VV
                  generalize d.o rg sz VV = d1 at *
                  generalize ck rg sz = er at *
                  clear tw wk
                  go_wp2
                  refine OrdG.region_vals (τ := Unit) (fun _ => [(.pointer (some ⟨B, 0, none⟩)), (.pointer (some ⟨X, 1, none⟩)), (.int .i64 rg), (.pointer (some ⟨X, 2, none⟩)), (.int .i64 sz), (.pointer (some ⟨X, 3, none⟩)), (.int .u32 v), (.int .i64 j), (.int .u32 j), (.int .u32 VV), (.int .i64 er), (.pointer (some ⟨R, 0, none⟩)), (.pointer (some ⟨X, 1, none⟩)), (.int .i64 rg), (.pointer (some ⟨X, 2, none⟩)), (.int .i64 sz), (.pointer (some ⟨X, 3, none⟩)), (.int .u32 v), (.int .i64 j), (.int .u32 j), (.int .u32 VV), (.int .i64 er), (.bool true), (.bool true)]) (fun _ listed W' => Tw W W' B R gD cap [(X, opO 1 rg sz v tm)] (.slice none 0 0) [] (bif listed.getD 10 false then d1 else d) (bif listed.getD 21 false then d1 else d)) () (by kernel_rfl) (by kernel_rfl) (by kernel_rfl) (by kernel_rfl) (fun _ => rfl) (fun t => by simp only [OrdG.puts, Act.put, List.setIfInBounds_toArray, List.set_cons_zero, List.set_cons_succ]; rfl) (fun _ => by kernel_rfl) T1.out ?_ ?_
                  · refine ⟨?_, ?_, ?_, ?_, ?_, ?_, ?_, ?_, ?_, ?_, ?_, ?_, ?_, ?_, ?_, ?_, ?_, ?_, ?_, ?_, ?_, ?_, ?_, ?_, trivial⟩
                    all_goals (intro t listed W' hz hSh hl hI hb K hK hK0; change Tw W W' B R gD cap [(X, opO 1 rg sz v tm)] (.slice none 0 0) [] (bif listed.getD 10 false then d1 else d) (bif listed.getD 21 false then d1 else d) at hI; obtain ⟨s1, s2, s3⟩ := CX.out _ _ _ hI)
                    · go_simp
                      exact hK0 _ (by show Tw W _ B R gD cap _ _ _ (bif Array.getD _ 10 false then d1 else d) (bif Array.getD _ 21 false then d1 else d); rw [getD_set_ne false (by decide), getD_set_ne false (by decide)]; exact hI)
                    · go_simp
                      exact hK0 _ (by show Tw W _ B R gD cap _ _ _ (bif Array.getD _ 10 false then d1 else d) (bif Array.getD _ 21 false then d1 else d); rw [getD_set_ne false (by decide), getD_set_ne false (by decide)]; exact hI)
                    · go_simp
                      exact hK0 _ (by show Tw W _ B R gD cap _ _ _ (bif Array.getD _ 10 false then d1 else d) (bif Array.getD _ 21 false then d1 else d); rw [getD_set_ne false (by decide), getD_set_ne false (by decide)]; exact hI)
                    · go_simp
                      exact hK0 _ (by show Tw W _ B R gD cap _ _ _ (bif Array.getD _ 10 false then d1 else d) (bif Array.getD _ 21 false then d1 else d); rw [getD_set_ne false (by decide), getD_set_ne false (by decide)]; exact hI)
                    · go_simp
                      exact hK0 _ (by show Tw W _ B R gD cap _ _ _ (bif Array.getD _ 10 false then d1 else d) (bif Array.getD _ 21 false then d1 else d); rw [getD_set_ne false (by decide), getD_set_ne false (by decide)]; exact hI)
                    · go_simp
                      exact hK0 _ (by show Tw W _ B R gD cap _ _ _ (bif Array.getD _ 10 false then d1 else d) (bif Array.getD _ 21 false then d1 else d); rw [getD_set_ne false (by decide), getD_set_ne false (by decide)]; exact hI)
                    · go_simp
                      exact hK0 _ (by show Tw W _ B R gD cap _ _ _ (bif Array.getD _ 10 false then d1 else d) (bif Array.getD _ 21 false then d1 else d); rw [getD_set_ne false (by decide), getD_set_ne false (by decide)]; exact hI)
                    · go_simp
                      exact hK0 _ (by show Tw W _ B R gD cap _ _ _ (bif Array.getD _ 10 false then d1 else d) (bif Array.getD _ 21 false then d1 else d); rw [getD_set_ne false (by decide), getD_set_ne false (by decide)]; exact hI)
                    · go_simp
                      exact hK0 _ (by show Tw W _ B R gD cap _ _ _ (bif Array.getD _ 10 false then d1 else d) (bif Array.getD _ 21 false then d1 else d); rw [getD_set_ne false (by decide), getD_set_ne false (by decide)]; exact hI)
                    · go_simp
                      exact hK0 _ (by show Tw W _ B R gD cap _ _ _ (bif Array.getD _ 10 false then d1 else d) (bif Array.getD _ 21 false then d1 else d); rw [getD_set_ne false (by decide), getD_set_ne false (by decide)]; exact hI)
                    · have n21 := OrdG.shut_no (j := 21) hSh hl (by kernel_rfl)
                      rw [hl, n21] at hI
                      go_simp
                      refine Calls.mono (HC1.out _ hI) ?_; rintro e z5 ⟨rfl, p5⟩
                      refine hK0 z5 ?_
                      show Tw W _ B R gD cap _ _ _ (bif Array.getD _ 10 false then d1 else d) (bif Array.getD _ 21 false then d1 else d)
                      rw [OrdG.getD_self hz (by decide), getD_set_ne false (by decide), n21]
                      exact p5
                    · go_simp
                      exact hK0 _ (by show Tw W _ B R gD cap _ _ _ (bif Array.getD _ 10 false then d1 else d) (bif Array.getD _ 21 false then d1 else d); rw [getD_set_ne false (by decide), getD_set_ne false (by decide)]; exact hI)
                    · go_simp
                      exact hK0 _ (by show Tw W _ B R gD cap _ _ _ (bif Array.getD _ 10 false then d1 else d) (bif Array.getD _ 21 false then d1 else d); rw [getD_set_ne false (by decide), getD_set_ne false (by decide)]; exact hI)
                    · go_simp
                      exact hK0 _ (by show Tw W _ B R gD cap _ _ _ (bif Array.getD _ 10 false then d1 else d) (bif Array.getD _ 21 false then d1 else d); rw [getD_set_ne false (by decide), getD_set_ne false (by decide)]; exact hI)
                    · go_simp
                      exact hK0 _ (by show Tw W _ B R gD cap _ _ _ (bif Array.getD _ 10 false then d1 else d) (bif Array.getD _ 21 false then d1 else d); rw [getD_set_ne false (by decide), getD_set_ne false (by decide)]; exact hI)
                    · go_simp
                      exact hK0 _ (by show Tw W _ B R gD cap _ _ _ (bif Array.getD _ 10 false then d1 else d) (bif Array.getD _ 21 false then d1 else d); rw [getD_set_ne false (by decide), getD_set_ne false (by decide)]; exact hI)
                    · go_simp
                      exact hK0 _ (by show Tw W _ B R gD cap _ _ _ (bif Array.getD _ 10 false then d1 else d) (bif Array.getD _ 21 false then d1 else d); rw [getD_set_ne false (by decide), getD_set_ne false (by decide)]; exact hI)
                    · go_simp
                      exact hK0 _ (by show Tw W _ B R gD cap _ _ _ (bif Array.getD _ 10 false then d1 else d) (bif Array.getD _ 21 false then d1 else d); rw [getD_set_ne false (by decide), getD_set_ne false (by decide)]; exact hI)
                    · go_simp
                      exact hK0 _ (by show Tw W _ B R gD cap _ _ _ (bif Array.getD _ 10 false then d1 else d) (bif Array.getD _ 21 false then d1 else d); rw [getD_set_ne false (by decide), getD_set_ne false (by decide)]; exact hI)
                    · go_simp
                      exact hK0 _ (by show Tw W _ B R gD cap _ _ _ (bif Array.getD _ 10 false then d1 else d) (bif Array.getD _ 21 false then d1 else d); rw [getD_set_ne false (by decide), getD_set_ne false (by decide)]; exact hI)
                    · go_simp
                      exact hK0 _ (by show Tw W _ B R gD cap _ _ _ (bif Array.getD _ 10 false then d1 else d) (bif Array.getD _ 21 false then d1 else d); rw [getD_set_ne false (by decide), getD_set_ne false (by decide)]; exact hI)
                    · have y10 := OrdG.on_of (i := 10) hb (by kernel_rfl)
                      rw [hl, y10] at hI
                      go_simp
                      refine Calls.mono (HX1.out _ hI) ?_; rintro e z5 ⟨rfl, p5⟩
                      refine hK0 z5 ?_
                      show Tw W _ B R gD cap _ _ _ (bif Array.getD _ 10 false then d1 else d) (bif Array.getD _ 21 false then d1 else d)
                      rw [OrdG.getD_self hz (by decide), getD_set_ne false (by decide), y10]
                      exact p5
                    · go_simp
                      exact hK0 _ (by show Tw W _ B R gD cap _ _ _ (bif Array.getD _ 10 false then d1 else d) (bif Array.getD _ 21 false then d1 else d); rw [getD_set_ne false (by decide), getD_set_ne false (by decide)]; exact hI)
                    · go_simp
                      exact hK0 _ (by show Tw W _ B R gD cap _ _ _ (bif Array.getD _ 10 false then d1 else d) (bif Array.getD _ 21 false then d1 else d); rw [getD_set_ne false (by decide), getD_set_ne false (by decide)]; exact hI)
                  intro t listed z6 hall hI
                  have bz := hI
                  rw [hall 10 (by exact (by decide : 10 < 24)), hall 21 (by exact (by decide : 21 < 24))] at bz
                  replace bz : Tw W z6 B R gD cap [(X, opO 1 rg sz v tm)] (.slice none 0 0) [] d1 d1 := bz
                  clear hI hall
                  clear T1 HC1 HX1 o0 o1 o2 o3 o4
                  go_wp2_with fail
                  refine Calls.mono bz.lineL ?_; rintro e z8 ⟨rfl, hw⟩; replace hw := hw.symm; subst hw
                  go_wp2_with fail
                  refine Calls.mono bz.lineR ?_; rintro e z8 ⟨rfl, hw⟩; replace hw := hw.symm; subst hw
                  have BZ : Hid _ := bz
                  clear bz
                  go_wp2
                  go_roundw
                  case rel => first | exact ⟨j + 1, _, by omega, by go_num, BZ.out, WZ.out, trivial⟩ | ((repeat apply Exists.intro); exact ⟨⟨j + 1, _, by omega, by go_num, BZ.out, WZ.out, trivial⟩, rfl⟩)
                  case measure => simp [intOf]; omega
                · by_cases e2 : kd = 2
                  · as_aux_lemma =>
                    subst e2
                    have WZ : Hid ((d.i rg sz).work ≤ 2400 * i + 4 * (j + 1)) := work_in wk rg sz
                    have HC2 : Hid _ := tw.inL rg sz
                    have HX2 : Hid (∀ w, Tw W w B R gD cap [(X, opO 2 rg sz v tm)] (.slice none 0 0) [] (d.i rg sz) d → _) := fun w h => h.inR rg sz
                    generalize d.i rg sz = d1 at *
                    generalize d.iV rg sz = y1 at *
                    generalize ck rg sz = er at *
                    clear tw wk
                    go_wp2_with fail
                    refine Calls.mono HC2.out ?_; rintro e z5 ⟨rfl, p5⟩
                    obtain ⟨q1, q2, q3⟩ := CX.out _ _ _ p5
                    go_wp2_with fail
                    refine Calls.mono (HX2.out _ p5) ?_; rintro e z6 ⟨rfl, bz⟩
                    clear p5 q1 q2 q3 HC2 HX2 o0 o1 o2 o3 o4
                    go_wp2_with fail
                    refine Calls.mono bz.lineL ?_; rintro e z8 ⟨rfl, hw⟩; replace hw := hw.symm; subst hw
                    go_wp2_with fail
                    refine Calls.mono bz.lineR ?_; rintro e z8 ⟨rfl, hw⟩; replace hw := hw.symm; subst hw
                    have BZ : Hid _ := bz
                    clear bz
                    go_wp2
                    go_roundw
                    case rel => first | exact ⟨j + 1, _, by omega, by go_num, BZ.out, WZ.out, trivial⟩ | ((repeat apply Exists.intro); exact ⟨⟨j + 1, _, by omega, by go_num, BZ.out, WZ.out, trivial⟩, rfl⟩)
                    case measure => simp [intOf]; omega
                  · by_cases e3 : kd = 3
                    · as_aux_lemma =>
                      subst e3
                      have WZ : Hid (d.told.work ≤ 2400 * i + 4 * (j + 1)) := work_told wk
                      have LL : Hid (d.log.length < 4611686018427387904) := by
                        have := work_log d
                        have := WKx.out
                        show _ < _
                        omega
                      have HC3 : Hid _ := tw.toldL
                      have HX3 : Hid (∀ w lv, Tw W w B R gD cap [(X, opO 3 rg sz v tm)] lv d.log d.told d → _) := fun w lv h => h.toldR
                      have HSm : Hid (∀ w p q c e, IntAt w p d.log → IntAt w q d.log → _) := fun w p q c e hp hq => same_ok w p q c e d.log hp hq LL.out
                      clear tw wk
                      go_wp2_with fail
                      refine Calls.mono HC3.out ?_; rintro e z5 ⟨p5, c5, rfl, t5⟩
                      go_wp2_with fail
                      refine Calls.mono (HX3.out _ _ t5) ?_; rintro e z6 ⟨p6, c6, rfl, t6, i6⟩
                      have i5 := t6.ints
                      go_wp2_with fail
                      refine Calls.mono (HSm.out _ _ _ _ _ i5 i6) ?_; rintro e z7 ⟨rfl, k7⟩
                      have bz := (t6.keep k7).forget
                      clear t5 t6 i5 i6 k7 HC3 HX3 HSm o0 o1 o2 o3 o4
                      go_wp2_with fail
                      refine Calls.mono bz.lineL ?_; rintro e z8 ⟨rfl, hw⟩; replace hw := hw.symm; subst hw
                      go_wp2_with fail
                      refine Calls.mono bz.lineR ?_; rintro e z8 ⟨rfl, hw⟩; replace hw := hw.symm; subst hw
                      have BZ : Hid _ := bz
                      clear bz
                      go_wp2
                      go_roundw
                      case rel => first | exact ⟨j + 1, _, by omega, by go_num, BZ.out, WZ.out, trivial⟩ | ((repeat apply Exists.intro); exact ⟨⟨j + 1, _, by omega, by go_num, BZ.out, WZ.out, trivial⟩, rfl⟩)
                      case measure => simp [intOf]; omega
                    · as_aux_lemma =>
                      have WZ : Hid (d.work ≤ 2400 * i + 4 * (j + 1)) := by show _ ≤ _; omega
                      have bz := tw
                      have n1 : (kd == 1) = false := by rw [beq_eq_false_iff_ne]; exact e1
                      have n2 : (kd == 2) = false := by rw [beq_eq_false_iff_ne]; exact e2
                      have n3 : (kd == 3) = false := by rw [beq_eq_false_iff_ne]; exact e3
                      clear tw wk
                      go_wp2_with fail
                      refine Calls.mono bz.lineL ?_; rintro e z8 ⟨rfl, hw⟩; replace hw := hw.symm; subst hw
                      go_wp2_with fail
                      refine Calls.mono bz.lineR ?_; rintro e z8 ⟨rfl, hw⟩; replace hw := hw.symm; subst hw
                      have BZ : Hid _ := bz
                      clear bz
                      go_wp2
                      go_roundw
                      case rel => first | exact ⟨j + 1, _, by omega, by go_num, BZ.out, WZ.out, trivial⟩ | ((repeat apply Exists.intro); exact ⟨⟨j + 1, _, by omega, by go_num, BZ.out, WZ.out, trivial⟩, rfl⟩)
                      case measure => simp [intOf]; omega
            · have q0 : ((j : Int) == 0) = false := by rw [beq_eq_false_iff_ne]; omega
              have H : Hid (Tw W wr B R gD cap [] (.slice none 0 0) [] d d ∧ d.work ≤ 2400 * (i + 1)) := ⟨tw.less (fun x hx => by cases hx), by omega⟩
              clear tw wk hVV vv
              by_cases q1 : (j : Int) < tm
              · have q2 : ¬ (j : Int) < 600 := by omega
                clear hgo
                go_wp2
                go_roundw
                case rel => exact ⟨i + 1, d, by go_num, by omega, H.out.1, H.out.2⟩
                case measure => simp [intOf]; omega
              · clear hgo
                go_wp2
                go_roundw
                case rel => exact ⟨i + 1, d, by go_num, by omega, H.out.1, H.out.2⟩
                case measure => simp [intOf]; omega
        · have e : i = L := by omega
          subst e
          have LL : Hid (d.log.length < 4611686018427387904) := by
            have := work_log d
            show _ < _
            omega
          obtain ⟨N, hN⟩ : ∃ N, N = 512 * d.n := ⟨_, rfl⟩
          obtain ⟨str, hstr⟩ : ∃ str, str = strOfNums (strR (512 * d.n) d.D) := ⟨_, rfl⟩
          have N9 : N ≤ 32768 := by
            have := tw.ok.few
            omega
          have HB1 : Hid (∀ w sd lv l d1, Tw W w B R gD cap sd lv l d1 d → w.cell? ⟨R, 0, none⟩ = some (.slice (some ⟨gD, 0, none⟩) N cap) ∧ (convert 22 9 (.slice (some ⟨gD, 0, none⟩) N cap)).run Try.prog w = .ok (.string str) w) := fun w sd lv l d1 h => by rw [hN, hstr]; exact h.bytes
          have HB2 : Hid (∀ w sd lv l d1, Tw W w B R gD cap sd lv l d1 d.told → w.cell? ⟨R, 0, none⟩ = some (.slice (some ⟨gD, 0, none⟩) N cap) ∧ (convert 22 9 (.slice (some ⟨gD, 0, none⟩) N cap)).run Try.prog w = .ok (.string str) w) := fun w sd lv l d1 h => by rw [hN, hstr]; exact h.bytes
          have HDk : Hid (∀ w sd, Tw W w B R gD cap sd (.slice none 0 0) [] d d → Calls Try.prog 16 #[.pointer (some ⟨B, 0, none⟩)] w fun e w' => e = .returned (.slice (some ⟨w.heap.size, 0, none⟩) N N) ∧ ∃ cur : Array Value, cur.size = N ∧ Tw W w' B R gD cap ((w.heap.size, rowO cur) :: sd) (.slice none 0 0) [] d d ∧ ∀ w2, Tw W w2 B R gD cap ((w.heap.size, rowO cur) :: sd) (.slice none 0 0) [] d d → (convert 22 9 (.slice (some ⟨w.heap.size, 0, none⟩) N N)).run Try.prog w2 = .ok (.string str) w2) := fun w sd h => by
            rw [hN, hstr]
            exact h.disk.mono fun e w' ⟨a, cur, b1, b2⟩ => ⟨a, cur, b1.1, b2, fun w2 h2 => (b1.row (h2.heap (.head _))).str⟩
          have HC3 : Hid (∀ w sd, Tw W w B R gD cap sd (.slice none 0 0) [] d d → _) := fun w sd h => h.toldL
          have HX3 : Hid (∀ w sd lv, Tw W w B R gD cap sd lv d.log d.told d → _) := fun w sd lv h => h.toldR
          have HSm : Hid (∀ w p q c e, IntAt w p d.log → IntAt w q d.log → _) := fun w p q c e hp hq => same_ok w p q c e d.log hp hq LL.out
          have GW : W.heap.size ≤ wr.heap.size := tw.kp.size
          have P8 : Hid _ := tw
          clear tw wk hN hstr hlt
          go_wp2_with fail
          refine Calls.mono (HDk.out _ _ P8.out) ?_; rintro e w8 ⟨rfl, cur, cs, t8, s8⟩
          have P9 : Hid (Tw W w8.drew B R gD cap [(wr.heap.size, rowO cur)] (.slice none 0 0) [] d d) := t8.drew
          obtain ⟨s9, s10⟩ := HB1.out _ _ _ _ _ P9.out
          have s11 := s8 _ P9.out
          clear t8 s8 P8
          generalize wr.heap.size = g8 at *
          clear wr
          go_wp2
          go_region
          all_goals
            clear s9 s10 s11
            go_wp2
            generalize w8.drew = w9 at *
            go_loopw [22] (fun s22 wr => ∃ (k : Nat) (cu : Array Value), s22 = .int .i64 k ∧ k ≤ N ∧ cu.size = N ∧ Tw W wr B R gD cap [(g8, rowO cu)] (.slice none 0 0) [] d d) (fun s22 _ => ((N : Int) - intOf s22).toNat)
            case atStart => exact ⟨0, cur, rfl, by omega, cs, P9.out⟩
            case round =>
              clear P9
              obtain ⟨k, cu, rfl, hk, hcu, tw⟩ := hrel
              by_cases hlt : k < N
              · obtain ⟨⟨y, cy⟩, fz, cu', hh', hs'⟩ := row_put (tw.heap (.head _)) (i := k) (by omega)
                have H : Hid (cu'.size = N ∧ Tw W (wr.setCell ⟨g8, k, none⟩ (.int .u8 99)) B R gD cap [(g8, rowO cu')] (.slice none 0 0) [] d d) := ⟨by omega, tw.turn GW (kpB g8 _ _ _) hh'⟩
                clear hh' hs' tw
                go_wp2
                go_roundw
                case rel => exact ⟨k + 1, cu', by go_num, by omega, H.out.1, H.out.2⟩
                case measure => simp [intOf]; omega
              · have e : k = N := by omega
                subst e
                have HB : Hid (∀ t a b c e W', Ph38 W B R gD cap k d str t a b c e W' → W'.cell? ⟨R, 0, none⟩ = some (.slice (some ⟨gD, 0, none⟩) k cap) ∧ (convert 22 9 (.slice (some ⟨gD, 0, none⟩) k cap)).run Try.prog W' = .ok (.string str) W') := fun t a b c e W' h => ph38_b h HB1.out HB2.out
                have PA : Hid (Tw W wr.drew B R gD cap [] (.slice none 0 0) [] d d) := (tw.less (fun x hx => by cases hx)).drew
                clear tw
                go_wp2
                refine OrdG.region_vals (τ := Nat × Value × Value) (fun t => [(.bool true), (.bool true), (.pointer (some ⟨B, 0, none⟩)), (.slice (some ⟨t.1, 0, none⟩) k k), (.string str), (.pointer (some ⟨R, 0, none⟩)), (.pointer (some ⟨R, 0, none⟩)), (.pointer (some ⟨R, 0, none⟩)), (.slice (some ⟨gD, 0, none⟩) k cap), (.string str), (.bool true), (.bool true), (.bool true), (.pointer (some ⟨B, 0, none⟩)), (t.2.1), (.pointer (some ⟨R, 0, none⟩)), (t.2.2), (.bool true), (.bool true), (.bool true)]) (fun t listed W' => Ph38 W B R gD cap k d str t (listed.getD 3 false) (listed.getD 14 false) (listed.getD 16 false) (listed.getD 17 false) W') (0, undef, undef) (by kernel_rfl) (by kernel_rfl) (by kernel_rfl) (by kernel_rfl) (fun _ => rfl) (fun t => by simp only [OrdG.puts, Act.put, List.setIfInBounds_toArray, List.set_cons_zero, List.set_cons_succ]; rfl) (fun _ => by kernel_rfl) PA.out ?_ ?_
                · refine ⟨?_, ?_, ?_, ?_, ?_, ?_, ?_, ?_, ?_, ?_, ?_, ?_, ?_, ?_, ?_, ?_, ?_, ?_, ?_, ?_, trivial⟩
                  all_goals (intro t listed W' hz hSh hl hI hb K hK hK0; change Ph38 W B R gD cap k d str t (listed.getD 3 false) (listed.getD 14 false) (listed.getD 16 false) (listed.getD 17 false) W' at hI; obtain ⟨s1, s2⟩ := HB.out _ _ _ _ _ _ hI)
                  · go_simp
                    exact hK0 _ (by show Ph38 W B R gD cap k d str t _ _ _ _ _; rw [getD_set_ne false (by decide), getD_set_ne false (by decide), getD_set_ne false (by decide), getD_set_ne false (by decide)]; exact hI)
                  · go_simp
                    exact hK0 _ (by show Ph38 W B R gD cap k d str t _ _ _ _ _; rw [getD_set_ne false (by decide), getD_set_ne false (by decide), getD_set_ne false (by decide), getD_set_ne false (by decide)]; exact hI)
                  · go_simp
                    exact hK0 _ (by show Ph38 W B R gD cap k d str t _ _ _ _ _; rw [getD_set_ne false (by decide), getD_set_ne false (by decide), getD_set_ne false (by decide), getD_set_ne false (by decide)]; exact hI)
                  · skip
                    have n4 := OrdG.shut_no (j := 4) hSh hl (by kernel_rfl)
                    have n10 := OrdG.shut_no (j := 10) hSh n4 (by kernel_rfl)
                    have n11 := OrdG.shut_no (j := 11) hSh n10 (by kernel_rfl)
                    have n12 := OrdG.shut_no (j := 12) hSh n11 (by kernel_rfl)
                    have n14 := OrdG.shut_no (j := 14) hSh n12 (by kernel_rfl)
                    have n16 := OrdG.shut_no (j := 16) hSh n14 (by kernel_rfl)
                    have n17 := OrdG.shut_no (j := 17) hSh n16 (by kernel_rfl)
                    rw [hl, n14, n16, n17] at hI
                    have hI0 : Tw W W' B R gD cap [] (.slice none 0 0) [] d d := hI
                    go_simp
                    refine Calls.mono (HDk.out _ _ hI0) ?_; rintro e z5 ⟨rfl, cB, csB, tB, sB⟩
                    refine hK _ _ ⟨(W'.heap.size, t.2), rfl, OrdG.vals_one rfl hl, ?_⟩
                    show Ph38 W B R gD cap k d str _ _ _ _ _ _
                    rw [OrdG.getD_self hz (by decide), getD_set_ne false (by decide), getD_set_ne false (by decide), getD_set_ne false (by decide), n14, n16, n17]
                    exact ⟨cB, tB, sB _ tB⟩
                  · skip
                    have n10 := OrdG.shut_no (j := 10) hSh hl (by kernel_rfl)
                    have n11 := OrdG.shut_no (j := 11) hSh n10 (by kernel_rfl)
                    have n12 := OrdG.shut_no (j := 12) hSh n11 (by kernel_rfl)
                    have n14 := OrdG.shut_no (j := 14) hSh n12 (by kernel_rfl)
                    have n16 := OrdG.shut_no (j := 16) hSh n14 (by kernel_rfl)
                    have n17 := OrdG.shut_no (j := 17) hSh n16 (by kernel_rfl)
                    have y3 := OrdG.on_of (i := 3) hb (by kernel_rfl)
                    have hI' := hI
                    rw [y3, n14, n16, n17] at hI'
                    obtain ⟨cB, tB, sB⟩ : ∃ cB, Tw W W' B R gD cap [(t.1, rowO cB)] (.slice none 0 0) [] d d ∧ (convert 22 9 (.slice (some ⟨t.1, 0, none⟩) k k)).run Try.prog W' = .ok (.string str) W' := hI'
                    go_simp
                    exact hK0 _ (by show Ph38 W B R gD cap k d str t _ _ _ _ _; rw [getD_set_ne false (by decide), getD_set_ne false (by decide), getD_set_ne false (by decide), getD_set_ne false (by decide)]; exact hI)
                  · go_simp
                    exact hK0 _ (by show Ph38 W B R gD cap k d str t _ _ _ _ _; rw [getD_set_ne false (by decide), getD_set_ne false (by decide), getD_set_ne false (by decide), getD_set_ne false (by decide)]; exact hI)
                  · go_simp
                    exact hK0 _ (by show Ph38 W B R gD cap k d str t _ _ _ _ _; rw [getD_set_ne false (by decide), getD_set_ne false (by decide), getD_set_ne false (by decide), getD_set_ne false (by decide)]; exact hI)
                  · go_simp
                    exact hK0 _ (by show Ph38 W B R gD cap k d str t _ _ _ _ _; rw [getD_set_ne false (by decide), getD_set_ne false (by decide), getD_set_ne false (by decide), getD_set_ne false (by decide)]; exact hI)
                  · go_simp
                    exact hK0 _ (by show Ph38 W B R gD cap k d str t _ _ _ _ _; rw [getD_set_ne false (by decide), getD_set_ne false (by decide), getD_set_ne false (by decide), getD_set_ne false (by decide)]; exact hI)
                  · go_simp
                    exact hK0 _ (by show Ph38 W B R gD cap k d str t _ _ _ _ _; rw [getD_set_ne false (by decide), getD_set_ne false (by decide), getD_set_ne false (by decide), getD_set_ne false (by decide)]; exact hI)
                  · go_simp
                    exact hK0 _ (by show Ph38 W B R gD cap k d str t _ _ _ _ _; rw [getD_set_ne false (by decide), getD_set_ne false (by decide), getD_set_ne false (by decide), getD_set_ne false (by decide)]; exact hI)
                  · go_simp
                    exact hK0 _ (by show Ph38 W B R gD cap k d str t _ _ _ _ _; rw [getD_set_ne false (by decide), getD_set_ne false (by decide), getD_set_ne false (by decide), getD_set_ne false (by decide)]; exact hI)
                  · go_simp
                    exact hK0 _ (by show Ph38 W B R gD cap k d str t _ _ _ _ _; rw [getD_set_ne false (by decide), getD_set_ne false (by decide), getD_set_ne false (by decide), getD_set_ne false (by decide)]; exact hI)
                  · go_simp
                    exact hK0 _ (by show Ph38 W B R gD cap k d str t _ _ _ _ _; rw [getD_set_ne false (by decide), getD_set_ne false (by decide), getD_set_ne false (by decide), getD_set_ne false (by decide)]; exact hI)
                  · skip
                    have n16 := OrdG.shut_no (j := 16) hSh hl (by kernel_rfl)
                    have n17 := OrdG.shut_no (j := 17) hSh n16 (by kernel_rfl)
                    have y12 := OrdG.on_of (i := 12) hb (by kernel_rfl)
                    have y11 := OrdG.shut_yes (i := 11) hSh y12 (by kernel_rfl)
                    have y10 := OrdG.shut_yes (i := 10) hSh y11 (by kernel_rfl)
                    have y4 := OrdG.shut_yes (i := 4) hSh y10 (by kernel_rfl)
                    have y3 := OrdG.shut_yes (i := 3) hSh y4 (by kernel_rfl)
                    rw [hl, y3, n16, n17] at hI
                    obtain ⟨cB, tB, sB⟩ : ∃ cB, Tw W W' B R gD cap [(t.1, rowO cB)] (.slice none 0 0) [] d d ∧ (convert 22 9 (.slice (some ⟨t.1, 0, none⟩) k k)).run Try.prog W' = .ok (.string str) W' := hI
                    go_simp
                    refine Calls.mono (HC3.out _ _ tB) ?_; rintro e z5 ⟨p5, c5, rfl, t5⟩
                    refine hK _ _ ⟨(t.1, .slice p5 d.log.length c5, t.2.2), rfl, OrdG.vals_one rfl hl, ?_⟩
                    show Ph38 W B R gD cap k d str _ _ _ _ _ _
                    rw [OrdG.getD_self hz (by decide), getD_set_ne false (by decide), getD_set_ne false (by decide), getD_set_ne false (by decide), y3, n16, n17]
                    exact ⟨p5, c5, rfl, t5.less (sd' := []) (fun x hx => by cases hx)⟩
                  · go_simp
                    exact hK0 _ (by show Ph38 W B R gD cap k d str t _ _ _ _ _; rw [getD_set_ne false (by decide), getD_set_ne false (by decide), getD_set_ne false (by decide), getD_set_ne false (by decide)]; exact hI)
                  · skip
                    have n17 := OrdG.shut_no (j := 17) hSh hl (by kernel_rfl)
                    have y14 := OrdG.on_of (i := 14) hb (by kernel_rfl)
                    have y12 := OrdG.shut_yes (i := 12) hSh y14 (by kernel_rfl)
                    have y11 := OrdG.shut_yes (i := 11) hSh y12 (by kernel_rfl)
                    have y10 := OrdG.shut_yes (i := 10) hSh y11 (by kernel_rfl)
                    have y4 := OrdG.shut_yes (i := 4) hSh y10 (by kernel_rfl)
                    have y3 := OrdG.shut_yes (i := 3) hSh y4 (by kernel_rfl)
                    rw [hl, y3, y14, n17] at hI
                    obtain ⟨p5, c5, e5, t5⟩ : ∃ p c, t.2.1 = .slice p d.log.length c ∧ Tw W W' B R gD cap [] (.slice p d.log.length c) d.log d.told d := hI
                    obtain ⟨t1, t2, t3⟩ := t
                    simp only at e5
                    subst e5
                    go_simp
                    refine Calls.mono (HX3.out _ _ _ t5) ?_; rintro e z5 ⟨p6, c6, rfl, t6, i6⟩
                    refine hK _ _ ⟨(t1, .slice p5 d.log.length c5, .slice p6 d.log.length c6), rfl, OrdG.vals_one rfl hl, ?_⟩
                    show Ph38 W B R gD cap k d str _ _ _ _ _ _
                    rw [OrdG.getD_self hz (by decide), getD_set_ne false (by decide), getD_set_ne false (by decide), getD_set_ne false (by decide), y3, y14, n17]
                    exact ⟨p5, c5, p6, c6, rfl, rfl, t6, i6⟩
                  · have y16 := OrdG.on_of (i := 16) hb (by kernel_rfl)
                    have y14 := OrdG.on_of (i := 14) hb (by kernel_rfl)
                    have y12 := OrdG.shut_yes (i := 12) hSh y14 (by kernel_rfl)
                    have y11 := OrdG.shut_yes (i := 11) hSh y12 (by kernel_rfl)
                    have y10 := OrdG.shut_yes (i := 10) hSh y11 (by kernel_rfl)
                    have y4 := OrdG.shut_yes (i := 4) hSh y10 (by kernel_rfl)
                    have y3 := OrdG.shut_yes (i := 3) hSh y4 (by kernel_rfl)
                    rw [hl, y3, y14, y16] at hI
                    obtain ⟨p5, c5, p6, c6, e5, e6, t6, i6⟩ : ∃ p c p' c', t.2.1 = .slice p d.log.length c ∧ t.2.2 = .slice p' d.log.length c' ∧ Tw W W' B R gD cap [] (.slice p d.log.length c) d.log d.told d.told ∧ IntAt W' p' d.log := hI
                    obtain ⟨t1, t2, t3⟩ := t
                    simp only at e5 e6
                    subst e5 e6
                    go_simp
                    refine Calls.mono (HSm.out _ _ _ _ _ t6.ints i6) ?_; rintro e z5 ⟨rfl, k7⟩
                    refine hK0 z5 ?_
                    show Ph38 W B R gD cap k d str _ _ _ _ _ _
                    rw [OrdG.getD_self hz (by decide), getD_set_ne false (by decide), getD_set_ne false (by decide), getD_set_ne false (by decide), y3, y14, y16]
                    exact (t6.keep k7).forget
                  · go_simp
                    exact hK0 _ (by show Ph38 W B R gD cap k d str t _ _ _ _ _; rw [getD_set_ne false (by decide), getD_set_ne false (by decide), getD_set_ne false (by decide), getD_set_ne false (by decide)]; exact hI)
                  · go_simp
                    exact hK0 _ (by show Ph38 W B R gD cap k d str t _ _ _ _ _; rw [getD_set_ne false (by decide), getD_set_ne false (by decide), getD_set_ne false (by decide), getD_set_ne false (by decide)]; exact hI)
                intro t listed z6 hall hI
                change Ph38 W B R gD cap k d str t (listed.getD 3 false) (listed.getD 14 false) (listed.getD 16 false) (listed.getD 17 false) z6 at hI
                rw [hall 3 (by exact (by decide : 3 < 20)), hall 14 (by exact (by decide : 14 < 20)), hall 16 (by exact (by decide : 16 < 20)), hall 17 (by exact (by decide : 17 < 20))] at hI
                have hI' : Tw W z6 B R gD cap [] (.slice none 0 0) [] d.told d.told := hI
                have KZ : Hid (Kp noB W z6) := hI'.kp
                clear hI'
                clear hI hall
                go_wp2
                go_ret
                exact ⟨rfl, HE.out _ KZ.out⟩

theorem IdePlays_walk (W : World) (ad : Option Addr) (Ld cd : Nat) (bt : Nat → Int) (hbt : BytIn W ad Ld bt) (a1 : Option Addr) (L cap1 : Nat) (lq : L ≤ 3518437208783) (ws : ∀ i, i < L → OpIn W a1 i) : Calls Try.prog 3 #[.slice ad Ld cd, .slice a1 L cap1] W fun e w' => e = .returned (.bool true) ∧ Below W.heap.size W w' := by
  by_cases bad : Ld % 512 ≠ 0 ∨ 32768 < Ld
  · exact plays_bad W ad Ld cd bt hbt a1 L cap1 bad
  · exact plays_good W ad Ld cd bt hbt a1 L cap1 lq ws (by omega) (by omega)
end Go.Proofs.Ytddalplpmgmplaa
