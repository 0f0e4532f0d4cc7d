/- The contracts of the document's Out and In. -/
import Derived.Test.YtfpgijdfbgfkcaaRcSim
namespace Go.Proofs.Ytfpgijdfbgfkcaa
open Go.ChangeShapes Go.WideShapes Go.ChangeAt Go.RowKit
set_option linter.unusedVariables false

theorem Wn.kept2 {S : Nat → Prop} {w w' : World} {base : Nat} {p : Option Addr} {n c : Nat} {l : List Int} (h : Wn w base p n c l) (k : Kp S w w') (hS : ∀ g, base ≤ g → g < w.heap.size → ¬ S g) : Wn w' base p n c l :=
  ⟨h.1, h.2.1, fun j hj => by
    obtain ⟨g, e, hb, hl, hc⟩ := h.2.2 j hj
    exact ⟨g, e, hb, Nat.lt_of_lt_of_le hl k.size, cell_kept hc k (hS g hb hl)⟩⟩

set_option maxRecDepth 20000 in
set_option maxHeartbeats 1000000 in
theorem rout_0 (w : World) (R : Nat) (a b : RC) (h : RAt w R a b) (v : Int) (P : RC → World → Prop)
    (HC : ∀ w1, Kp noB w w1 → w1.heap.size = w.heap.size + 1 → Calls Try.prog 26 #[.agg (chV a), .int .u8 v] w1 fun e w2 => ∃ r', e = .returned (.agg (chV r')) ∧ P r' w2 ∧ Kp noB w1 w2) : Calls Try.prog 12 #[.pointer (some ⟨R, 0, none⟩), .int .i64 0, .int .u8 v] w fun e w' => e = .returned (.int .i64 0) ∧ (∃ r' w2, P r' w2 ∧ RAt w' R r' b ∧ Kp (fun k => k = R ∨ k = w.heap.size) w2 w') ∧ Kp (isB R) w w' := by
  obtain ⟨T, nI, Z, fs, ps, V⟩ := vlC
  obtain ⟨vl, vs, va, vb⟩ := V.ops
  have v1 := V.agg
  have v2 := V.size
  have v3 := V.zero
  have v4 := V.under
  have v5 := V.map
  have v6 := V.zs
  have vG := V.getNew
  have vN := V.new
  have L := V.getA h
  have lR := h.lt
  have HR : Hid (RAt w R a b) := h
  have cs : ∀ r : RC, (chV r).size = nI := fun r => by rw [V.s]; rfl
  have HV : Hid (VlC T nI Z fs ps) := V
  have HCC : Hid _ := HC
  clear h V HC
  go_enter Try.func12, Try.ntmps12
  simp only [vl, vs, va]
  clear vl vs va vb
  go_wp2_with fail
  have h1 : Hid (RAt (w.alloc (.cells (chV a) T)) R a b) := HR.out.kept (Kp.alloc noB _ _) id
  have h2 : Hid (CAt (w.alloc (.cells (chV a) T)) w.heap.size a) := HV.out.at _ w
  have k1 : Hid (Kp noB w (w.alloc (.cells (chV a) T))) := Kp.alloc _ _ _
  have sz0 : (w.alloc (.cells (chV a) T)).heap.size = w.heap.size + 1 := by simp
  have sz : Hid ((w.alloc (.cells (chV a) T)).heap.size = w.heap.size + 1) := sz0
  clear sz0
  clear vG vN L
  generalize w.alloc (.cells (chV a) T) = w1 at h1 h2 k1 sz ⊢
  refine Calls.mono (HCC.out w1 k1.out sz.out) ?_; rintro e w2 ⟨r', rfl, hP, k2⟩
  have h3 := h1.out.kept k2 id
  have h4 := h2.out.kept k2 id
  have S0 := put_ch h4 rfl r'
  have h5 : Hid (RAt (w2.setRow w.heap.size (chV r')) R a b) := h3.kept (Kp.setRow (S := isB w.heap.size) w2 rfl _) (by show ¬ R = w.heap.size; omega)
  have h6 : Hid (CAt (w2.setRow w.heap.size (chV r')) w.heap.size r') := h4.put r'
  have k5 : Hid (Kp (isB R) w (w2.setRow w.heap.size (chV r'))) := ((k1.out.trans k2).any (S := isB R)).newRow (Nat.le_refl _) _
  have k6 : Hid (Kp (fun k => k = R ∨ k = w.heap.size) w2 (w2.setRow w.heap.size (chV r'))) := Kp.setRow w2 (Or.inr rfl) _
  have HP : Hid _ := hP
  clear h3 h4 k2 hP h1 h2 k1 HCC HR
  go_wp2
  generalize w2.setRow w.heap.size (chV r') = w3 at h5 h6 k5 k6 ⊢
  clear S0
  have L1 := HV.out.get h6.out
  have L2 := HV.out.get (h6.out.kept (Kp.refl noB w3).drew id)
  have S1 := put_A h5.out r'
  have S2 := put_A (h5.out.kept (Kp.refl noB w3).drew id) r'
  have E2 : Hid (RAt (w3.drew.setRow R (chV r' ++ chV b)) R r' b) := (h5.out.kept (Kp.refl noB w3).drew id).putA _
  go_region
  all_goals
    go_wp2
    go_ret
    exact ⟨rfl, ⟨r', w2, HP.out, E2.out, k6.out.drew.trans (Kp.setRow _ (Or.inl rfl) _)⟩, k5.out.drew.trans (Kp.setRow (S := isB R) _ rfl _)⟩

set_option maxRecDepth 20000 in
set_option maxHeartbeats 1000000 in
theorem rout_1 (w : World) (R : Nat) (a b : RC) (h : RAt w R a b) (v : Int) (P : RC → World → Prop)
    (HC : ∀ w1, Kp noB w w1 → w1.heap.size = w.heap.size + 1 → Calls Try.prog 27 #[.agg (chV a), .int .u8 v] w1 fun e w2 => ∃ r', e = .returned (.agg (chV r')) ∧ P r' w2 ∧ Kp noB w1 w2) : Calls Try.prog 12 #[.pointer (some ⟨R, 0, none⟩), .int .i64 1, .int .u8 v] w fun e w' => e = .returned (.int .i64 0) ∧ (∃ r' w2, P r' w2 ∧ RAt w' R r' b ∧ Kp (fun k => k = R ∨ k = w.heap.size) w2 w') ∧ Kp (isB R) w w' := by
  obtain ⟨T, nI, Z, fs, ps, V⟩ := vlC
  obtain ⟨vl, vs, va, vb⟩ := V.ops
  have v1 := V.agg
  have v2 := V.size
  have v3 := V.zero
  have v4 := V.under
  have v5 := V.map
  have v6 := V.zs
  have vG := V.getNew
  have vN := V.new
  have L := V.getA h
  have lR := h.lt
  have HR : Hid (RAt w R a b) := h
  have cs : ∀ r : RC, (chV r).size = nI := fun r => by rw [V.s]; rfl
  have HV : Hid (VlC T nI Z fs ps) := V
  have HCC : Hid _ := HC
  clear h V HC
  go_enter Try.func12, Try.ntmps12
  simp only [vl, vs, va]
  clear vl vs va vb
  go_wp2_with fail
  have h1 : Hid (RAt (w.alloc (.cells (chV a) T)) R a b) := HR.out.kept (Kp.alloc noB _ _) id
  have h2 : Hid (CAt (w.alloc (.cells (chV a) T)) w.heap.size a) := HV.out.at _ w
  have k1 : Hid (Kp noB w (w.alloc (.cells (chV a) T))) := Kp.alloc _ _ _
  have sz0 : (w.alloc (.cells (chV a) T)).heap.size = w.heap.size + 1 := by simp
  have sz : Hid ((w.alloc (.cells (chV a) T)).heap.size = w.heap.size + 1) := sz0
  clear sz0
  clear vG vN L
  generalize w.alloc (.cells (chV a) T) = w1 at h1 h2 k1 sz ⊢
  refine Calls.mono (HCC.out w1 k1.out sz.out) ?_; rintro e w2 ⟨r', rfl, hP, k2⟩
  have h3 := h1.out.kept k2 id
  have h4 := h2.out.kept k2 id
  have S0 := put_ch h4 rfl r'
  have h5 : Hid (RAt (w2.setRow w.heap.size (chV r')) R a b) := h3.kept (Kp.setRow (S := isB w.heap.size) w2 rfl _) (by show ¬ R = w.heap.size; omega)
  have h6 : Hid (CAt (w2.setRow w.heap.size (chV r')) w.heap.size r') := h4.put r'
  have k5 : Hid (Kp (isB R) w (w2.setRow w.heap.size (chV r'))) := ((k1.out.trans k2).any (S := isB R)).newRow (Nat.le_refl _) _
  have k6 : Hid (Kp (fun k => k = R ∨ k = w.heap.size) w2 (w2.setRow w.heap.size (chV r'))) := Kp.setRow w2 (Or.inr rfl) _
  have HP : Hid _ := hP
  clear h3 h4 k2 hP h1 h2 k1 HCC HR
  go_wp2
  generalize w2.setRow w.heap.size (chV r') = w3 at h5 h6 k5 k6 ⊢
  clear S0
  have L1 := HV.out.get h6.out
  have L2 := HV.out.get (h6.out.kept (Kp.refl noB w3).drew id)
  have S1 := put_A h5.out r'
  have S2 := put_A (h5.out.kept (Kp.refl noB w3).drew id) r'
  have E2 : Hid (RAt (w3.drew.setRow R (chV r' ++ chV b)) R r' b) := (h5.out.kept (Kp.refl noB w3).drew id).putA _
  go_region
  all_goals
    go_wp2
    go_ret
    exact ⟨rfl, ⟨r', w2, HP.out, E2.out, k6.out.drew.trans (Kp.setRow _ (Or.inl rfl) _)⟩, k5.out.drew.trans (Kp.setRow (S := isB R) _ rfl _)⟩

set_option maxRecDepth 20000 in
set_option maxHeartbeats 1000000 in
theorem rout_2 (w : World) (R : Nat) (a b : RC) (h : RAt w R a b) (v : Int) (P : RC → World → Prop)
    (HC : ∀ w1, Kp noB w w1 → w1.heap.size = w.heap.size + 1 → Calls Try.prog 26 #[.agg (chV b), .int .u8 v] w1 fun e w2 => ∃ r', e = .returned (.agg (chV r')) ∧ P r' w2 ∧ Kp noB w1 w2) : Calls Try.prog 12 #[.pointer (some ⟨R, 0, none⟩), .int .i64 2, .int .u8 v] w fun e w' => e = .returned (.int .i64 0) ∧ (∃ r' w2, P r' w2 ∧ RAt w' R a r' ∧ Kp (fun k => k = R ∨ k = w.heap.size) w2 w') ∧ Kp (isB R) w w' := by
  obtain ⟨T, nI, Z, fs, ps, V⟩ := vlC
  obtain ⟨vl, vs, va, vb⟩ := V.ops
  have v1 := V.agg
  have v2 := V.size
  have v3 := V.zero
  have v4 := V.under
  have v5 := V.map
  have v6 := V.zs
  have vG := V.getNew
  have vN := V.new
  have L := V.getB h
  have lR := h.lt
  have HR : Hid (RAt w R a b) := h
  have cs : ∀ r : RC, (chV r).size = nI := fun r => by rw [V.s]; rfl
  have HV : Hid (VlC T nI Z fs ps) := V
  have HCC : Hid _ := HC
  clear h V HC
  go_enter Try.func12, Try.ntmps12
  simp only [vl, vs, va]
  clear vl vs va vb
  go_wp2_with fail
  have h1 : Hid (RAt (w.alloc (.cells (chV b) T)) R a b) := HR.out.kept (Kp.alloc noB _ _) id
  have h2 : Hid (CAt (w.alloc (.cells (chV b) T)) w.heap.size b) := HV.out.at _ w
  have k1 : Hid (Kp noB w (w.alloc (.cells (chV b) T))) := Kp.alloc _ _ _
  have sz0 : (w.alloc (.cells (chV b) T)).heap.size = w.heap.size + 1 := by simp
  have sz : Hid ((w.alloc (.cells (chV b) T)).heap.size = w.heap.size + 1) := sz0
  clear sz0
  clear vG vN L
  generalize w.alloc (.cells (chV b) T) = w1 at h1 h2 k1 sz ⊢
  refine Calls.mono (HCC.out w1 k1.out sz.out) ?_; rintro e w2 ⟨r', rfl, hP, k2⟩
  have h3 := h1.out.kept k2 id
  have h4 := h2.out.kept k2 id
  have S0 := put_ch h4 rfl r'
  have h5 : Hid (RAt (w2.setRow w.heap.size (chV r')) R a b) := h3.kept (Kp.setRow (S := isB w.heap.size) w2 rfl _) (by show ¬ R = w.heap.size; omega)
  have h6 : Hid (CAt (w2.setRow w.heap.size (chV r')) w.heap.size r') := h4.put r'
  have k5 : Hid (Kp (isB R) w (w2.setRow w.heap.size (chV r'))) := ((k1.out.trans k2).any (S := isB R)).newRow (Nat.le_refl _) _
  have k6 : Hid (Kp (fun k => k = R ∨ k = w.heap.size) w2 (w2.setRow w.heap.size (chV r'))) := Kp.setRow w2 (Or.inr rfl) _
  have HP : Hid _ := hP
  clear h3 h4 k2 hP h1 h2 k1 HCC HR
  go_wp2
  generalize w2.setRow w.heap.size (chV r') = w3 at h5 h6 k5 k6 ⊢
  clear S0
  have L1 := HV.out.get h6.out
  have L2 := HV.out.get (h6.out.kept (Kp.refl noB w3).drew id)
  have S1 := put_B h5.out r'
  have S2 := put_B (h5.out.kept (Kp.refl noB w3).drew id) r'
  have E2 : Hid (RAt (w3.drew.setRow R (chV a ++ chV r')) R a r') := (h5.out.kept (Kp.refl noB w3).drew id).putB _
  go_region
  all_goals
    go_wp2
    go_ret
    exact ⟨rfl, ⟨r', w2, HP.out, E2.out, k6.out.drew.trans (Kp.setRow _ (Or.inl rfl) _)⟩, k5.out.drew.trans (Kp.setRow (S := isB R) _ rfl _)⟩

set_option maxRecDepth 20000 in
set_option maxHeartbeats 1000000 in
theorem rout_3 (w : World) (R : Nat) (a b : RC) (h : RAt w R a b) (v : Int) (P : RC → World → Prop)
    (HC : ∀ w1, Kp noB w w1 → w1.heap.size = w.heap.size + 1 → Calls Try.prog 27 #[.agg (chV b), .int .u8 v] w1 fun e w2 => ∃ r', e = .returned (.agg (chV r')) ∧ P r' w2 ∧ Kp noB w1 w2) : Calls Try.prog 12 #[.pointer (some ⟨R, 0, none⟩), .int .i64 3, .int .u8 v] w fun e w' => e = .returned (.int .i64 0) ∧ (∃ r' w2, P r' w2 ∧ RAt w' R a r' ∧ Kp (fun k => k = R ∨ k = w.heap.size) w2 w') ∧ Kp (isB R) w w' := by
  obtain ⟨T, nI, Z, fs, ps, V⟩ := vlC
  obtain ⟨vl, vs, va, vb⟩ := V.ops
  have v1 := V.agg
  have v2 := V.size
  have v3 := V.zero
  have v4 := V.under
  have v5 := V.map
  have v6 := V.zs
  have vG := V.getNew
  have vN := V.new
  have L := V.getB h
  have lR := h.lt
  have HR : Hid (RAt w R a b) := h
  have cs : ∀ r : RC, (chV r).size = nI := fun r => by rw [V.s]; rfl
  have HV : Hid (VlC T nI Z fs ps) := V
  have HCC : Hid _ := HC
  clear h V HC
  go_enter Try.func12, Try.ntmps12
  simp only [vl, vs, va]
  clear vl vs va vb
  go_wp2_with fail
  have h1 : Hid (RAt (w.alloc (.cells (chV b) T)) R a b) := HR.out.kept (Kp.alloc noB _ _) id
  have h2 : Hid (CAt (w.alloc (.cells (chV b) T)) w.heap.size b) := HV.out.at _ w
  have k1 : Hid (Kp noB w (w.alloc (.cells (chV b) T))) := Kp.alloc _ _ _
  have sz0 : (w.alloc (.cells (chV b) T)).heap.size = w.heap.size + 1 := by simp
  have sz : Hid ((w.alloc (.cells (chV b) T)).heap.size = w.heap.size + 1) := sz0
  clear sz0
  clear vG vN L
  generalize w.alloc (.cells (chV b) T) = w1 at h1 h2 k1 sz ⊢
  refine Calls.mono (HCC.out w1 k1.out sz.out) ?_; rintro e w2 ⟨r', rfl, hP, k2⟩
  have h3 := h1.out.kept k2 id
  have h4 := h2.out.kept k2 id
  have S0 := put_ch h4 rfl r'
  have h5 : Hid (RAt (w2.setRow w.heap.size (chV r')) R a b) := h3.kept (Kp.setRow (S := isB w.heap.size) w2 rfl _) (by show ¬ R = w.heap.size; omega)
  have h6 : Hid (CAt (w2.setRow w.heap.size (chV r')) w.heap.size r') := h4.put r'
  have k5 : Hid (Kp (isB R) w (w2.setRow w.heap.size (chV r'))) := ((k1.out.trans k2).any (S := isB R)).newRow (Nat.le_refl _) _
  have k6 : Hid (Kp (fun k => k = R ∨ k = w.heap.size) w2 (w2.setRow w.heap.size (chV r'))) := Kp.setRow w2 (Or.inr rfl) _
  have HP : Hid _ := hP
  clear h3 h4 k2 hP h1 h2 k1 HCC HR
  go_wp2
  generalize w2.setRow w.heap.size (chV r') = w3 at h5 h6 k5 k6 ⊢
  clear S0
  have L1 := HV.out.get h6.out
  have L2 := HV.out.get (h6.out.kept (Kp.refl noB w3).drew id)
  have S1 := put_B h5.out r'
  have S2 := put_B (h5.out.kept (Kp.refl noB w3).drew id) r'
  have E2 : Hid (RAt (w3.drew.setRow R (chV a ++ chV r')) R a r') := (h5.out.kept (Kp.refl noB w3).drew id).putB _
  go_region
  all_goals
    go_wp2
    go_ret
    exact ⟨rfl, ⟨r', w2, HP.out, E2.out, k6.out.drew.trans (Kp.setRow _ (Or.inl rfl) _)⟩, k5.out.drew.trans (Kp.setRow (S := isB R) _ rfl _)⟩

theorem rout_no (w : World) (R : Nat) (x v : Int) (h : x < 0 ∨ 4 ≤ x) : Calls Try.prog 12 #[.pointer (some ⟨R, 0, none⟩), .int .i64 x, .int .u8 v] w fun e w' => e = .returned (.int .i64 1) ∧ w' = w := by
  rcases h with h | h
  · have h' : decide (x < 0) = true := decide_eq_true h
    go_enter Try.func12, Try.ntmps12
    go_wp2
    go_ret
    exact ⟨rfl, rfl⟩
  · have h' : decide (x < 0) = false := decide_eq_false (by omega)
    have h2 : decide (x > 3) = true := decide_eq_true (by omega)
    go_enter Try.func12, Try.ntmps12
    go_wp2
    go_ret
    exact ⟨rfl, rfl⟩

theorem rin_no (w : World) (R : Nat) (x : Int) (h : x < 0 ∨ 4 ≤ x) : Calls Try.prog 14 #[.pointer (some ⟨R, 0, none⟩), .int .i64 x] w fun e w' => e = .returned (.tuple #[.int .u8 0, .int .i64 1]) ∧ w' = w := by
  rcases h with h | h
  · have h' : decide (x < 0) = true := decide_eq_true h
    go_enter Try.func14, Try.ntmps14
    go_wp2
    go_ret2
    exact ⟨rfl, rfl⟩
  · have h' : decide (x < 0) = false := decide_eq_false (by omega)
    have h2 : decide (x > 3) = true := decide_eq_true (by omega)
    go_enter Try.func14, Try.ntmps14
    go_wp2
    go_ret2
    exact ⟨rfl, rfl⟩
end Go.Proofs.Ytfpgijdfbgfkcaa
