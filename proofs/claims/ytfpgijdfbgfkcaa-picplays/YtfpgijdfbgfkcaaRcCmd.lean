/- The contract of the document's command, where no set-up begins. -/
import Derived.Test.YtfpgijdfbgfkcaaRcData2
namespace Go.Proofs.Ytfpgijdfbgfkcaa
open Go.ChangeShapes Go.WideShapes Go.ChangeAt Go.RowKit
set_option linter.unusedVariables false

/-- The first line that is served is so no more. -/
def lowS (f : Nat → Bool) (i : Nat) : Nat → Bool := fun j => if j = i then false else f j

set_option maxRecDepth 20000 in
set_option maxHeartbeats 1000000 in
theorem rcmd_n (w : World) (r : RC) (v : Int) (hv : By v) (b4 : tb v 4 = false) (b3 : tb v 3 = true) (b1 : tb v 1 = false) : Calls Try.prog 26 #[.agg (chV r), .int .u8 v] w fun e w' => e = .returned (.agg (chV r)) ∧ Kp noB w w' := by
  obtain ⟨T, nI, Z, fs, ps, V⟩ := vlC
  obtain ⟨vl, vs, va, vb⟩ := V.ops
  have v1 := V.agg
  have v2 := V.size
  have v3 := V.zero
  have v4 := V.under
  have v5 := V.map
  have v6 := V.zs
  have cs : ∀ r : RC, (chV r).size = nI := fun r => by rw [V.s]; rfl
  have HV : Hid (VlC T nI Z fs ps) := V
  have HBt : Hid (∀ (w : World) (n : Nat), n < 8 → _) := fun w n hn => bit_any w v hv n hn
  have v32 : Int.tdiv v 32 = v / 32 := Int.tdiv_eq_ediv_of_nonneg hv.1
  have v8 : Int.tmod v 8 = v % 8 := Int.tmod_eq_emod_of_nonneg hv.1
  obtain ⟨u0, u1⟩ := hv
  obtain ⟨q, hq⟩ : ∃ q, q = w.heap.size := ⟨_, rfl⟩
  have lq : Hid (w.heap.size ≤ q) := Nat.le_of_eq hq.symm
  have hC : Hid (CAt (((w.alloc (.cells (chV r) T)).alloc (.cells Z T)).alloc (.cells (row8 (fun _ => false)) 50)) q r) := by rw [hq]; exact ((V.at r w).kept (Kp.alloc noB _ _) id).kept (Kp.alloc noB _ _) id
  have hZ : Hid (ZAt (((w.alloc (.cells (chV r) T)).alloc (.cells Z T)).alloc (.cells (row8 (fun _ => false)) 50)) (q + 1)) := by rw [hq]; exact (V.zat _ w).kept (Kp.alloc noB _ _) id
  have hK : Hid (Kp noB w (((w.alloc (.cells (chV r) T)).alloc (.cells Z T)).alloc (.cells (row8 (fun _ => false)) 50))) := ((Kp.alloc _ _ _).trans (Kp.alloc _ _ _)).trans (Kp.alloc _ _ _)
  clear V
  unfold row8 at *
  go_enter Try.func26, Try.ntmps26
  simp only [vl, vs, va, vb]
  clear vl vs va vb
  go_wp2_with fail
  rw [← hq]
  generalize ((w.alloc (.cells (chV r) T)).alloc (.cells Z T)).alloc (.cells #[.bool false, .bool false, .bool false, .bool false, .bool false, .bool false, .bool false, .bool false] 50) = w0 at hC hZ hK ⊢
  clear hq
  refine Calls.mono (HBt.out _ 4 (by decide)) ?_; rintro e x1 ⟨he, hw⟩; replace hw := hw.symm; subst hw
  rw [b4] at he; subst he
  go_wp2_with fail
  refine Calls.mono (HBt.out _ 3 (by decide)) ?_; rintro e x1 ⟨he, hw⟩; replace hw := hw.symm; subst hw
  rw [b3] at he; subst he
  go_wp2_with fail
  refine Calls.mono (HBt.out _ 1 (by decide)) ?_; rintro e x1 ⟨he, hw⟩; replace hw := hw.symm; subst hw
  rw [b1] at he; subst he
  have L := HV.out.get hC.out
  have S := hZ.out.put r
  have E : Hid (CAt (w0.setRow (q + 1) (chV r)) (q + 1) r) := hZ.out.got _
  have K : Hid (Kp noB w (w0.setRow (q + 1) (chV r))) := hK.out.newRow (by have := lq.out; omega) _
  go_wp2
  exact bodyPost_ret (v := .agg (chV r)) (ch_res Try.results26 _ _ (q + 1) _ rfl E.out) rfl ⟨rfl, K.out⟩

set_option maxRecDepth 20000 in
set_option maxHeartbeats 1000000 in
theorem rcmd_t (w : World) (r : RC) (v : Int) (hv : By v) (b4 : tb v 4 = false) (b3 : tb v 3 = true) (b1 : tb v 1 = true) : Calls Try.prog 26 #[.agg (chV r), .int .u8 v] w fun e w' => e = .returned (.agg (chV { r with told := tb v 0 })) ∧ Kp noB w w' := by
  obtain ⟨T, nI, Z, fs, ps, V⟩ := vlC
  obtain ⟨vl, vs, va, vb⟩ := V.ops
  have v1 := V.agg
  have v2 := V.size
  have v3 := V.zero
  have v4 := V.under
  have v5 := V.map
  have v6 := V.zs
  have cs : ∀ r : RC, (chV r).size = nI := fun r => by rw [V.s]; rfl
  have HV : Hid (VlC T nI Z fs ps) := V
  have HBt : Hid (∀ (w : World) (n : Nat), n < 8 → _) := fun w n hn => bit_any w v hv n hn
  have v32 : Int.tdiv v 32 = v / 32 := Int.tdiv_eq_ediv_of_nonneg hv.1
  have v8 : Int.tmod v 8 = v % 8 := Int.tmod_eq_emod_of_nonneg hv.1
  obtain ⟨u0, u1⟩ := hv
  obtain ⟨q, hq⟩ : ∃ q, q = w.heap.size := ⟨_, rfl⟩
  have lq : Hid (w.heap.size ≤ q) := Nat.le_of_eq hq.symm
  have hC : Hid (CAt (((w.alloc (.cells (chV r) T)).alloc (.cells Z T)).alloc (.cells (row8 (fun _ => false)) 50)) q r) := by rw [hq]; exact ((V.at r w).kept (Kp.alloc noB _ _) id).kept (Kp.alloc noB _ _) id
  have hZ : Hid (ZAt (((w.alloc (.cells (chV r) T)).alloc (.cells Z T)).alloc (.cells (row8 (fun _ => false)) 50)) (q + 1)) := by rw [hq]; exact (V.zat _ w).kept (Kp.alloc noB _ _) id
  have hK : Hid (Kp noB w (((w.alloc (.cells (chV r) T)).alloc (.cells Z T)).alloc (.cells (row8 (fun _ => false)) 50))) := ((Kp.alloc _ _ _).trans (Kp.alloc _ _ _)).trans (Kp.alloc _ _ _)
  clear V
  unfold row8 at *
  go_enter Try.func26, Try.ntmps26
  simp only [vl, vs, va, vb]
  clear vl vs va vb
  go_wp2_with fail
  rw [← hq]
  generalize ((w.alloc (.cells (chV r) T)).alloc (.cells Z T)).alloc (.cells #[.bool false, .bool false, .bool false, .bool false, .bool false, .bool false, .bool false, .bool false] 50) = w0 at hC hZ hK ⊢
  clear hq
  refine Calls.mono (HBt.out _ 4 (by decide)) ?_; rintro e x1 ⟨he, hw⟩; replace hw := hw.symm; subst hw
  rw [b4] at he; subst he
  go_wp2_with fail
  refine Calls.mono (HBt.out _ 3 (by decide)) ?_; rintro e x1 ⟨he, hw⟩; replace hw := hw.symm; subst hw
  rw [b3] at he; subst he
  go_wp2_with fail
  refine Calls.mono (HBt.out _ 1 (by decide)) ?_; rintro e x1 ⟨he, hw⟩; replace hw := hw.symm; subst hw
  rw [b1] at he; subst he
  have c33 : w0.cell? ⟨q, 33, none⟩ = some (.bool r.told) := hC.out.cell rfl
  have z33 := hC.out.fz 33
  have hC1 : CAt (w0.setCell ⟨q, 33, none⟩ (.bool (tb v 0))) q { r with told := tb v 0 } := hC.out.set (set_told r _)
  have hZ1 : ZAt (w0.setCell ⟨q, 33, none⟩ (.bool (tb v 0))) (q + 1) := hZ.out.kept (kpB q _ _ _) (by show ¬ q + 1 = q; omega)
  have L := HV.out.get hC1
  have S := hZ1.put { r with told := tb v 0 }
  have E : Hid (CAt ((w0.setCell ⟨q, 33, none⟩ (.bool (tb v 0))).setRow (q + 1) (chV { r with told := tb v 0 })) (q + 1) { r with told := tb v 0 }) := hZ1.got _
  have K : Hid (Kp noB w ((w0.setCell ⟨q, 33, none⟩ (.bool (tb v 0))).setRow (q + 1) (chV { r with told := tb v 0 }))) := (hK.out.new lq.out _).newRow (by have := lq.out; omega) _
  clear hC1 hZ1
  go_wp2_with fail
  refine Calls.mono (HBt.out _ 0 (by decide)) ?_; rintro e x1 ⟨rfl, hw⟩; replace hw := hw.symm; subst hw
  go_wp2
  exact bodyPost_ret (v := .agg (chV { r with told := tb v 0 })) (ch_res Try.results26 _ _ (q + 1) _ rfl E.out) rfl ⟨rfl, K.out⟩

set_option maxRecDepth 20000 in
set_option maxHeartbeats 1000000 in
theorem rcmd_o (w : World) (r : RC) (v : Int) (hv : By v) (b4 : tb v 4 = false) (b3 : tb v 3 = false) (n1 : ¬ v / 32 = 1) (n3 : ¬ v / 32 = 3) : Calls Try.prog 26 #[.agg (chV r), .int .u8 v] w fun e w' => e = .returned (.agg (chV r)) ∧ Kp noB w w' := by
  obtain ⟨T, nI, Z, fs, ps, V⟩ := vlC
  obtain ⟨vl, vs, va, vb⟩ := V.ops
  have v1 := V.agg
  have v2 := V.size
  have v3 := V.zero
  have v4 := V.under
  have v5 := V.map
  have v6 := V.zs
  have cs : ∀ r : RC, (chV r).size = nI := fun r => by rw [V.s]; rfl
  have HV : Hid (VlC T nI Z fs ps) := V
  have HBt : Hid (∀ (w : World) (n : Nat), n < 8 → _) := fun w n hn => bit_any w v hv n hn
  have v32 : Int.tdiv v 32 = v / 32 := Int.tdiv_eq_ediv_of_nonneg hv.1
  have v8 : Int.tmod v 8 = v % 8 := Int.tmod_eq_emod_of_nonneg hv.1
  obtain ⟨u0, u1⟩ := hv
  obtain ⟨q, hq⟩ : ∃ q, q = w.heap.size := ⟨_, rfl⟩
  have lq : Hid (w.heap.size ≤ q) := Nat.le_of_eq hq.symm
  have hC : Hid (CAt (((w.alloc (.cells (chV r) T)).alloc (.cells Z T)).alloc (.cells (row8 (fun _ => false)) 50)) q r) := by rw [hq]; exact ((V.at r w).kept (Kp.alloc noB _ _) id).kept (Kp.alloc noB _ _) id
  have hZ : Hid (ZAt (((w.alloc (.cells (chV r) T)).alloc (.cells Z T)).alloc (.cells (row8 (fun _ => false)) 50)) (q + 1)) := by rw [hq]; exact (V.zat _ w).kept (Kp.alloc noB _ _) id
  have hK : Hid (Kp noB w (((w.alloc (.cells (chV r) T)).alloc (.cells Z T)).alloc (.cells (row8 (fun _ => false)) 50))) := ((Kp.alloc _ _ _).trans (Kp.alloc _ _ _)).trans (Kp.alloc _ _ _)
  clear V
  unfold row8 at *
  go_enter Try.func26, Try.ntmps26
  simp only [vl, vs, va, vb]
  clear vl vs va vb
  go_wp2_with fail
  rw [← hq]
  generalize ((w.alloc (.cells (chV r) T)).alloc (.cells Z T)).alloc (.cells #[.bool false, .bool false, .bool false, .bool false, .bool false, .bool false, .bool false, .bool false] 50) = w0 at hC hZ hK ⊢
  clear hq
  refine Calls.mono (HBt.out _ 4 (by decide)) ?_; rintro e x1 ⟨he, hw⟩; replace hw := hw.symm; subst hw
  rw [b4] at he; subst he
  go_wp2_with fail
  refine Calls.mono (HBt.out _ 3 (by decide)) ?_; rintro e x1 ⟨he, hw⟩; replace hw := hw.symm; subst hw
  rw [b3] at he; subst he
  have L := HV.out.get hC.out
  have S := hZ.out.put r
  have E : Hid (CAt (w0.setRow (q + 1) (chV r)) (q + 1) r) := hZ.out.got _
  have K : Hid (Kp noB w (w0.setRow (q + 1) (chV r))) := hK.out.newRow (by have := lq.out; omega) _
  have m1 : (v / 32 == 1) = false := by simpa using n1
  have m3 : (v / 32 == 3) = false := by simpa using n3
  go_wp2
  exact bodyPost_ret (v := .agg (chV r)) (ch_res Try.results26 _ _ (q + 1) _ rfl E.out) rfl ⟨rfl, K.out⟩

set_option maxRecDepth 20000 in
set_option maxHeartbeats 1000000 in
theorem rcmd_d (w : World) (r : RC) (v : Int) (hv : By v) (b4 : tb v 4 = false) (b3 : tb v 3 = false) (n3 : v / 32 = 3) (N : Nat) (hN : v % 8 = N) : Calls Try.prog 26 #[.agg (chV r), .int .u8 v] w fun e w' => e = .returned (.agg (chV { r with srv := upd r.srv N false })) ∧ Kp noB w w' := by
  obtain ⟨T, nI, Z, fs, ps, V⟩ := vlC
  obtain ⟨vl, vs, va, vb⟩ := V.ops
  have v1 := V.agg
  have v2 := V.size
  have v3 := V.zero
  have v4 := V.under
  have v5 := V.map
  have v6 := V.zs
  have cs : ∀ r : RC, (chV r).size = nI := fun r => by rw [V.s]; rfl
  have HV : Hid (VlC T nI Z fs ps) := V
  have HBt : Hid (∀ (w : World) (n : Nat), n < 8 → _) := fun w n hn => bit_any w v hv n hn
  have v32 : Int.tdiv v 32 = v / 32 := Int.tdiv_eq_ediv_of_nonneg hv.1
  have v8 : Int.tmod v 8 = v % 8 := Int.tmod_eq_emod_of_nonneg hv.1
  obtain ⟨u0, u1⟩ := hv
  obtain ⟨q, hq⟩ : ∃ q, q = w.heap.size := ⟨_, rfl⟩
  have lq : Hid (w.heap.size ≤ q) := Nat.le_of_eq hq.symm
  have hC : Hid (CAt (((w.alloc (.cells (chV r) T)).alloc (.cells Z T)).alloc (.cells (row8 (fun _ => false)) 50)) q r) := by rw [hq]; exact ((V.at r w).kept (Kp.alloc noB _ _) id).kept (Kp.alloc noB _ _) id
  have hZ : Hid (ZAt (((w.alloc (.cells (chV r) T)).alloc (.cells Z T)).alloc (.cells (row8 (fun _ => false)) 50)) (q + 1)) := by rw [hq]; exact (V.zat _ w).kept (Kp.alloc noB _ _) id
  have hK : Hid (Kp noB w (((w.alloc (.cells (chV r) T)).alloc (.cells Z T)).alloc (.cells (row8 (fun _ => false)) 50))) := ((Kp.alloc _ _ _).trans (Kp.alloc _ _ _)).trans (Kp.alloc _ _ _)
  clear V
  unfold row8 at *
  go_enter Try.func26, Try.ntmps26
  simp only [vl, vs, va, vb]
  clear vl vs va vb
  go_wp2_with fail
  rw [← hq]
  generalize ((w.alloc (.cells (chV r) T)).alloc (.cells Z T)).alloc (.cells #[.bool false, .bool false, .bool false, .bool false, .bool false, .bool false, .bool false, .bool false] 50) = w0 at hC hZ hK ⊢
  clear hq
  refine Calls.mono (HBt.out _ 4 (by decide)) ?_; rintro e x1 ⟨he, hw⟩; replace hw := hw.symm; subst hw
  rw [b4] at he; subst he
  go_wp2_with fail
  refine Calls.mono (HBt.out _ 3 (by decide)) ?_; rintro e x1 ⟨he, hw⟩; replace hw := hw.symm; subst hw
  rw [b3] at he; subst he
  have N8 : N < 8 := by omega
  have cN := hC.out.cell (ch_srv r N8)
  have zN := hC.out.fz (8 + N)
  have hC1 : CAt (w0.setCell ⟨q, 8 + N, none⟩ (.bool false)) q { r with srv := upd r.srv N false } := hC.out.set (set_srv r N8 false)
  have hZ1 : ZAt (w0.setCell ⟨q, 8 + N, none⟩ (.bool false)) (q + 1) := hZ.out.kept (kpB q _ _ _) (by show ¬ q + 1 = q; omega)
  have L := HV.out.get hC1
  have S := hZ1.put { r with srv := upd r.srv N false }
  have E : Hid (CAt ((w0.setCell ⟨q, 8 + N, none⟩ (.bool false)).setRow (q + 1) (chV { r with srv := upd r.srv N false })) (q + 1) { r with srv := upd r.srv N false }) := hZ1.got _
  have K : Hid (Kp noB w ((w0.setCell ⟨q, 8 + N, none⟩ (.bool false)).setRow (q + 1) (chV { r with srv := upd r.srv N false }))) := (hK.out.new lq.out _).newRow (by have := lq.out; omega) _
  clear hC1 hZ1
  rw [hN] at v8
  rw [n3] at v32
  go_wp2
  exact bodyPost_ret (v := .agg (chV { r with srv := upd r.srv N false })) (ch_res Try.results26 _ _ (q + 1) _ rfl E.out) rfl ⟨rfl, K.out⟩

set_option maxRecDepth 20000 in
set_option maxHeartbeats 1000000 in
theorem rcmd_l (w : World) (r : RC) (v : Int) (hv : By v) (b4 : tb v 4 = false) (b3 : tb v 3 = false) (n1 : v / 32 = 1) : Calls Try.prog 26 #[.agg (chV r), .int .u8 v] w fun e w' => (∃ r', e = .returned (.agg (chV r')) ∧ ((∃ i, i < 8 ∧ r.srv i = true ∧ (∀ j, j < i → r.srv j = false) ∧ r' = { r with srv := upd r.srv i false }) ∨ ((∀ j, j < 8 → r.srv j = false) ∧ r' = r))) ∧ Kp noB w w' := by
  obtain ⟨T, nI, Z, fs, ps, V⟩ := vlC
  obtain ⟨vl, vs, va, vb⟩ := V.ops
  have v1 := V.agg
  have v2 := V.size
  have v3 := V.zero
  have v4 := V.under
  have v5 := V.map
  have v6 := V.zs
  have cs : ∀ r : RC, (chV r).size = nI := fun r => by rw [V.s]; rfl
  have HV : Hid (VlC T nI Z fs ps) := V
  have HBt : Hid (∀ (w : World) (n : Nat), n < 8 → _) := fun w n hn => bit_any w v hv n hn
  have v32 : Int.tdiv v 32 = v / 32 := Int.tdiv_eq_ediv_of_nonneg hv.1
  have v8 : Int.tmod v 8 = v % 8 := Int.tmod_eq_emod_of_nonneg hv.1
  obtain ⟨u0, u1⟩ := hv
  obtain ⟨q, hq⟩ : ∃ q, q = w.heap.size := ⟨_, rfl⟩
  have lq : Hid (w.heap.size ≤ q) := Nat.le_of_eq hq.symm
  have hC : Hid (CAt (((w.alloc (.cells (chV r) T)).alloc (.cells Z T)).alloc (.cells (row8 (fun _ => false)) 50)) q r) := by rw [hq]; exact ((V.at r w).kept (Kp.alloc noB _ _) id).kept (Kp.alloc noB _ _) id
  have hZ : Hid (ZAt (((w.alloc (.cells (chV r) T)).alloc (.cells Z T)).alloc (.cells (row8 (fun _ => false)) 50)) (q + 1)) := by rw [hq]; exact (V.zat _ w).kept (Kp.alloc noB _ _) id
  have hK : Hid (Kp noB w (((w.alloc (.cells (chV r) T)).alloc (.cells Z T)).alloc (.cells (row8 (fun _ => false)) 50))) := ((Kp.alloc _ _ _).trans (Kp.alloc _ _ _)).trans (Kp.alloc _ _ _)
  clear V
  unfold row8 at *
  go_enter Try.func26, Try.ntmps26
  simp only [vl, vs, va, vb]
  clear vl vs va vb
  go_wp2_with fail
  rw [← hq]
  generalize ((w.alloc (.cells (chV r) T)).alloc (.cells Z T)).alloc (.cells #[.bool false, .bool false, .bool false, .bool false, .bool false, .bool false, .bool false, .bool false] 50) = w0 at hC hZ hK ⊢
  clear hq
  refine Calls.mono (HBt.out _ 4 (by decide)) ?_; rintro e x1 ⟨he, hw⟩; replace hw := hw.symm; subst hw
  rw [b4] at he; subst he
  go_wp2_with fail
  refine Calls.mono (HBt.out _ 3 (by decide)) ?_; rintro e x1 ⟨he, hw⟩; replace hw := hw.symm; subst hw
  rw [b3] at he; subst he
  rw [n1] at v32
  clear v8 HBt
  go_wp2
  go_loop [6] (fun i => ∃ k : Nat, k ≤ 8 ∧ i = .int .i64 k ∧ Hid (∀ j, j < k → r.srv j = false)) (fun i => 8 - (intOf i).toNat)
  case atStart => exact ⟨0, by omega, rfl, fun j hj => absurd hj (by omega)⟩
  case round =>
    obtain ⟨i, hi, rfl, hI⟩ := hrel
    by_cases hlt : i < 8
    · have c1 := hC.out.cell (ch_srv r hlt)
      cases es : r.srv i
      · rw [es] at c1
        have hI' : Hid (∀ j, j < i + 1 → r.srv j = false) := fun j hj => by
          by_cases g : j < i
          · exact hI.out j g
          · obtain rfl : j = i := by omega
            exact es
        go_wp2
        go_round
        case rel => exact ⟨i + 1, by omega, by go_num, hI'⟩
        case measure => simp [intOf]; omega
      · rw [es] at c1
        have zN := hC.out.fz (8 + i)
        have hC1 : CAt (w0.setCell ⟨q, 8 + i, none⟩ (.bool false)) q { r with srv := upd r.srv i false } := hC.out.set (set_srv r hlt false)
        have hZ1 : ZAt (w0.setCell ⟨q, 8 + i, none⟩ (.bool false)) (q + 1) := hZ.out.kept (kpB q _ _ _) (by show ¬ q + 1 = q; omega)
        have L := HV.out.get hC1
        have S := hZ1.put { r with srv := upd r.srv i false }
        have E : Hid (CAt ((w0.setCell ⟨q, 8 + i, none⟩ (.bool false)).setRow (q + 1) (chV { r with srv := upd r.srv i false })) (q + 1) { r with srv := upd r.srv i false }) := hZ1.got _
        have K : Hid (Kp noB w ((w0.setCell ⟨q, 8 + i, none⟩ (.bool false)).setRow (q + 1) (chV { r with srv := upd r.srv i false }))) := (hK.out.new lq.out _).newRow (by have := lq.out; omega) _
        have D : Hid (∃ i, i < 8 ∧ r.srv i = true ∧ (∀ j, j < i → r.srv j = false) ∧ { r with srv := upd r.srv i false } = { r with srv := upd r.srv i false }) := ⟨i, hlt, es, hI.out, rfl⟩
        have ES : Hid _ := es
        clear hC1 hZ1 es
        go_wp2
        exact bodyPost_ret (v := .agg (chV { r with srv := upd r.srv i false })) (ch_res Try.results26 _ _ (q + 1) _ rfl E.out) rfl ⟨⟨_, rfl, .inl ⟨i, hlt, ES.out, hI.out, rfl⟩⟩, K.out⟩
    · obtain rfl : i = 8 := by omega
      have L := HV.out.get hC.out
      have S := hZ.out.put r
      have E : Hid (CAt (w0.setRow (q + 1) (chV r)) (q + 1) r) := hZ.out.got _
      have K : Hid (Kp noB w (w0.setRow (q + 1) (chV r))) := hK.out.newRow (by have := lq.out; omega) _
      go_wp2
      exact bodyPost_ret (v := .agg (chV r)) (ch_res Try.results26 _ _ (q + 1) _ rfl E.out) rfl ⟨⟨_, rfl, .inr ⟨hI.out, rfl⟩⟩, K.out⟩

end Go.Proofs.Ytfpgijdfbgfkcaa
