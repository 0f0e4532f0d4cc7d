/- DecodeEnds: the walk. -/
import Derived.Test.YtopeccjghamjmaaGreatDecApp
import Derived.Test.YtopeccjghamjmaaGreatDecPure
import Derived.LoopTactic
namespace Go.Proofs.YtopeccjghamjmaaGreat
open Go.ChangeShapes Go.WideShapes Go.ChangeAt Go.RowKit
set_option linter.unusedVariables false
set_option maxRecDepth 20000

theorem guardN (w : World) (a b : Operand) (A B : Array Value) : (eqGuard .neq 28 a b (.agg A) (.agg B)).run Tryz.prog w = .ok () w := run_eqGuard_agg w _ _ _ _ _ _ (by kernel_rfl)

theorem neqI (w : World) (x : Ins) : (binOp .neq 28 (.agg (insV x)) (.agg (insV x))).run Tryz.prog w = .ok (.bool false) w := by
  have h := eqlI w x x
  rw [run_eql_struct] at h
  rw [run_neq_struct]
  generalize (Op.equalIn 10000 28 (.agg (insV x)) (.agg (insV x))).run Tryz.prog w = r at h ⊢
  cases r with
  | ok b w' =>
    simp only [Result.andThen_ok, decide_true] at h
    injection h with h1 h2
    injection h1 with h1
    subst h1 h2
    rfl
  | halt z w' => simp [Result.andThen] at h

theorem BytIn.kp' {w w' : World} {a : Option Addr} {L : Nat} {bt : Nat → Int} (h : BytIn w a L bt) (k : Kp noB w w') : BytIn w' a L bt :=
  ⟨fun j hj => by
    obtain ⟨b, o, e, hb, hc⟩ := h.at' j hj
    exact ⟨b, o, e, Nat.lt_of_lt_of_le hb k.size, cell_kept hc k id⟩, h.bd, h.le⟩

theorem BytIn.less {w : World} {a : Option Addr} {L : Nat} {bt : Nat → Int} (h : BytIn w a L bt) (n : Nat) (hn : n ≤ L) : BytIn w a n bt :=
  ⟨fun j hj => h.at' j (by omega), fun j hj => h.bd j (by omega), by have := h.le; omega⟩

theorem dec_bt {w : World} {a : Option Addr} {L : Nat} {bt : Nat → Int} (cap : Nat) (h : BytAt w a L bt) (hb : ∀ j, j < L → 0 ≤ bt j ∧ bt j < 256) (hL : L ≤ 4611686018427387904) : Calls Tryz.prog 10 #[.slice a L cap] w fun e w' => e = .returned (.tuple #[.agg (insV (decM ruleOf L bt).1), .int .i64 (decM ruleOf L bt).2]) ∧ Kp noB w w' :=
  decode_ok ruleOf tabOk w a cap L bt hL h hb

theorem dec_in' {w : World} {a : Option Addr} {L : Nat} {bt : Nat → Int} (cap : Nat) (h : BytIn w a L bt) : Calls Tryz.prog 10 #[.slice a L cap] w fun e w' => e = .returned (.tuple #[.agg (insV (decM ruleOf L bt).1), .int .i64 (decM ruleOf L bt).2]) ∧ Kp noB w w' :=
  dec_bt cap h.at' h.bd (by have := h.le; omega)

theorem VlF.neq {T : TypeId} {n : Nat} {Z : Array Value} {fs : Array Field} {ps : Array (Nat × Nat)} (h : VlF T n Z fs ps) : (∀ x y, Op.binOp .neq 28 x y 28 = Op.binOp .neq T x y T) ∧ (∀ w a b A B, (eqGuard .neq T a b (.agg A) (.agg B)).run Tryz.prog w = .ok () w) ∧ ∀ w x, (binOp .neq T (.agg (insV x)) (.agg (insV x))).run Tryz.prog w = .ok (.bool false) w := by
  rw [h.v.t]
  exact ⟨fun _ _ => rfl, guardN, neqI⟩

set_option maxHeartbeats 4000000 in
theorem DecodeEnds_walk (w : World) (a0 : Option Addr) (L0 cap0 : Nat) (bt0 : Nat → Int) (hB : BytIn w a0 L0 bt0) (hcap : L0 ≤ cap0) (a1 : Option Addr) (L1 cap1 : Nat) (bt1 : Nat → Int) (hM : BytIn w a1 L1 bt1) :
    Calls Tryz.prog 5 #[.slice a0 L0 cap0, .slice a1 L1 cap1] w fun e w' => e = .returned (.bool true) ∧ Below w.heap.size w w' := by
  obtain ⟨T, nI, Z, fsI, psI, h⟩ := vlF
  have H : Hid _ := h
  obtain ⟨vl, vs, vb, va, ve⟩ := h.ops
  obtain ⟨vn, vg, vq⟩ := h.neq
  have v1 := h.agg
  have v2 := h.size
  have v3 := h.zero
  have v4 := h.under
  have v5 := h.map
  have v6 := h.guard
  have v7 := h.zs
  have v8 := h.zn
  obtain ⟨x, hx⟩ : ∃ x, x = (decM ruleOf L0 bt0).1 := ⟨_, rfl⟩
  obtain ⟨er, her⟩ : ∃ er, er = (decM ruleOf L0 bt0).2 := ⟨_, rfl⟩
  have s1 := h.v.cells x
  have n1 := h.new x
  have cA := awake_ok tabOk w
  have HB : Hid _ := hB
  have HM : Hid _ := hM
  have Hx : Hid _ := hx
  have He : Hid _ := her
  have HD : Hid (∀ w1, Kp noB w w1 → Calls Tryz.prog 10 #[.slice a0 L0 cap0] w1 fun e w' => e = .returned (.tuple #[.agg (insV x), .int .i64 er]) ∧ Kp noB w1 w') := fun w1 k => by rw [hx, her]; exact dec_in' cap0 (hB.kp' k)
  clear h hB hM hx her
  go_enter Tryz.func5, Tryz.ntmps5
  simp only [vl, vs, vb, va, ve, vn]
  clear vl vs vb va ve vn
  go_wp2_with fail
  refine cA.mono ?_; rintro e w1 ⟨rfl, k1⟩
  have cD := HD.out w1 k1
  clear cA
  go_wp2_with fail
  refine cD.mono ?_; rintro e w2 ⟨rfl, k2⟩
  have K2 : Hid _ := (k1.trans k2).trans (Kp.alloc noB w2 (.cells (insV x) T))
  have hq := (MapKept.heap_alloc w2 (.cells (insV x) T)).1
  have hl2 := H.out.get hq
  clear cD k1 k2
  by_cases he : er = 0
  · obtain ⟨n, hn1, hn2, hn3, hn4, hn5⟩ := ends_len (rl := ruleOf) (L := L0) (bt := bt0) (by rw [← He.out]; exact he)
    rw [← Hx.out] at hn1
    have Hn2 : Hid _ := hn2
    clear hn2
    subst he
    have hxl : x.len = (n : Int) := hn1
    have c31 : (w2.alloc (.cells (insV x) T)).cell? ⟨w2.heap.size, 31, none⟩ = some (.int .i64 (n : Int)) := by rw [← hxl]; exact cell_of_row _ _ _ _ _ _ hq
    have HC31 : Hid ((insV x)[31]? = some (.int .i64 (n : Int))) := (by rw [← hxl]; rfl : (insV x)[31]? = some (.int .i64 (n : Int)))
    obtain ⟨b, o, rfl, hbl, _⟩ := HB.out.at' 0 (by omega)
    have c31' := cell_kept c31 (Kp.alloc noB _ (.cells #[] 5)) id
    have g1 : decide ((n : Int) < 1) = false := by simp; omega
    have g2 : decide ((n : Int) > 15) = false := by simp; omega
    have g3 : decide ((n : Int) > (L0 : Int)) = false := by simp; omega
    -- the two appends
    have kb : Kp noB (w2.alloc (.cells (insV x) T)) ((w2.alloc (.cells (insV x) T)).alloc (.cells #[] 5)) := Kp.alloc _ _ _
    have hown : OwnB ((w2.alloc (.cells (insV x) T)).alloc (.cells #[] 5)) (w2.alloc (.cells (insV x) T)).heap.size (.slice (some ⟨w2.heap.size + 1, 0, none⟩) 0 0) [] := by
      have := OwnB.new (w2.alloc (.cells (insV x) T)) (w2.alloc (.cells (insV x) T)).heap.size (Nat.le_refl _) [] (by simp)
      simpa using this
    obtain ⟨v', w3, hr1, ho1, k3⟩ := app_ok kb hown cap0 (m := n) ((HB.out.kp' (K2.out.trans kb)).less n hn5).at' (by simp; omega)
    obtain ⟨v'', w4, hr2, ho2, k4⟩ := app_ok k3 ho1 cap1 (HM.out.kp' (K2.out.trans k3)).at' (by have := HM.out.le; simp [rngB]; omega)
    obtain ⟨gq, capq, rfl, hbq⟩ := ho2.byt (by simp [rngB]; omega)
    have hlen : ([] ++ rngB n bt0 ++ rngB L1 bt1).length = n + L1 := by simp [rngB]
    have hget : ∀ j, j < n → ([] ++ rngB n bt0 ++ rngB L1 bt1).getD j 0 = bt0 j := fun j hj => by
      rw [List.nil_append, List.getD_eq_getElem?_getD, List.getElem?_append_left (by simp [rngB]; omega)]
      simp [rngB, hj]
    have hbnd : ∀ j, j < n + L1 → 0 ≤ ([] ++ rngB n bt0 ++ rngB L1 bt1).getD j 0 ∧ ([] ++ rngB n bt0 ++ rngB L1 bt1).getD j 0 < 256 := fun j hj => by
      by_cases hjn : j < n
      · rw [hget j hjn]; exact HB.out.bd j (by omega)
      · have e : ([] ++ rngB n bt0 ++ rngB L1 bt1).getD j 0 = bt1 (j - n) := by
          rw [List.nil_append, List.getD_eq_getElem?_getD, List.getElem?_append_right (by simp [rngB]; omega)]
          simp [rngB, show j - n < L1 by omega]
        rw [e]; exact HM.out.bd _ (by omega)
    rw [hlen] at hr2 hbq
    generalize ([] ++ rngB n bt0 ++ rngB L1 bt1) = l at hget hbnd hbq
    have hdec : decM ruleOf (n + L1) (fun j => l.getD j 0) = (x, 0) := by
      rw [ends_more (rl := ruleOf) (L := L0) (bt := bt0) He.out.symm (n + L1) (fun j => l.getD j 0) (by have := Hn2.out; omega) (fun k hk => hget k (by have := Hn2.out; omega))]
      rw [Hx.out, He.out]
    have cE := dec_bt (w := w4) capq hbq hbnd (by have := HM.out.le; omega)
    rw [hdec] at cE
    have Hless : Hid (∀ i, i < n → (decM ruleOf i bt0).2 = 61) := fun i hi => ends_less (rl := ruleOf) (L := L0) (bt := bt0) He.out.symm i bt0 (by have := Hn2.out; omega) (fun _ _ => rfl)
    have Hq4 : Hid _ := heap_kept hq k4 id
    have HK4 : Hid _ := K2.out.trans k4
    have Hr1 : Hid _ := hr1
    have Hr2 : Hid _ := hr2
    clear hq k3 k4 kb hown ho1 ho2 hbq hget hbnd hdec hlen hn1 hxl hbl Hx K2 hr1 hr2
    go_wp2_with (first
      | (at_builtin; refine wpList_app rfl _ _ rfl rfl rfl rfl Hr1.out ?_)
      | (at_builtin; refine wpList_app rfl _ _ rfl rfl rfl rfl Hr2.out ?_))
    refine cE.mono ?_; rintro e w5 ⟨rfl, k5⟩
    have Hq5 : Hid _ := heap_kept Hq4.out (k5.trans (Kp.alloc noB w5 (.cells (insV x) T))) id
    have hla := H.out.get (MapKept.heap_alloc w5 (.cells (insV x) T)).1
    have hlb := H.out.get Hq5.out
    have HK5 : Hid _ := (HK4.out.trans k5).trans (Kp.alloc noB w5 (.cells (insV x) T))
    have Hc : Hid (∀ wr, Kp noB (w5.alloc (.cells (insV x) T)) wr → wr.cell? ⟨w2.heap.size, 31, none⟩ = some (.int .i64 (n : Int))) := fun wr k => by
      rw [cell_of_row _ _ _ _ _ _ (heap_kept Hq5.out k id)]
      exact HC31.out
    clear cE k5 Hq4 HK4
    go_wp2_with fail
    go_loopw [10] (fun s10 wr => ∃ i : Nat, s10 = .int .i64 i ∧ i ≤ n ∧ Hid (Kp noB (w5.alloc (.cells (insV x) T)) wr)) (fun s10 _ => ((n : Int) - intOf s10).toNat)
    case atStart => exact ⟨0, rfl, by omega, Kp.refl _ _⟩
    case round =>
      obtain ⟨i, rfl, hin, hk⟩ := hrel
      have e31 := Hc.out wr hk.out
      by_cases hlt : (i : Int) < (n : Int)
      · obtain ⟨y, hy⟩ : ∃ y, y = (decM ruleOf i bt0).1 := ⟨_, rfl⟩
        have cI := dec_in' cap0 ((HB.out.kp' (HK5.out.trans hk.out)).less i (by omega))
        rw [show decM ruleOf i bt0 = (y, 61) by rw [hy, ← Hless.out i (by omega)]] at cI
        have n2 := H.out.new y
        have s2 := H.out.v.cells y
        have i0 : (0 : Int) ≤ (i : Int) := by omega
        have i1 : (i : Int) ≤ (cap0 : Int) := by omega
        have hwi : IntKind.i64.wrap ((i : Int) + 1) = (i : Int) + 1 := IntWalk.i64_in _ ⟨by omega, by omega⟩
        clear hy
        go_wp2_with fail
        refine cI.mono ?_; rintro e w6 ⟨rfl, k6⟩
        have Hk6 : Hid _ := (hk.out.trans k6).trans (Kp.alloc noB w6 (.cells (insV y) T))
        clear cI k6 hk
        go_wp2
        go_roundw
        case rel => exact ⟨i + 1, rfl, by omega, Hk6⟩
        case measure => simp [intOf]; omega
      · have HB5 : Hid _ := HK5.out.trans hk.out
        clear hk
        go_wp2
        go_ret
        exact ⟨rfl, HB5.out.below⟩
  · have he' : (er != 0) = true := by simpa using he
    have hz : x = Ins.zero := by rw [Hx.out]; exact decM_no (by rw [← He.out]; exact he)
    have hev : ∀ w, (binOp .eql T (.agg (insV x)) (.agg Z)).run Tryz.prog w = .ok (.bool true) w := fun w => by
      rw [H.out.z, H.out.eql w x Ins.zero, hz]
      simp
    clear hz
    go_wp2
    go_ret
    exact ⟨rfl, K2.out.below⟩

end Go.Proofs.YtopeccjghamjmaaGreat
