/- The contract of the document's In. -/
import Derived.Test.YtfpgijdfbgfkcaaRcOut
namespace Go.Proofs.Ytfpgijdfbgfkcaa
open Go.ChangeShapes Go.WideShapes Go.ChangeAt Go.RowKit
set_option linter.unusedVariables false

set_option maxRecDepth 20000 in
set_option maxHeartbeats 400000 in
theorem rin_ma (w : World) (R : Nat) (a b : RC) (h : RAt w R a b) (x : Int) (hx : By x) (hf : ∀ k, k < 8 → a.msk k = tb x k) : Calls Try.prog 14 #[.pointer (some ⟨R, 0, none⟩), .int .i64 1] w fun e w' => e = .returned (.tuple #[.int .u8 x, .int .i64 0]) ∧ Kp noB w w' := by
  obtain ⟨T, nI, Z, fs, ps, V⟩ := vlC
  obtain ⟨vl, vs, va, vb⟩ := V.ops
  have v1 := V.agg
  have v2 := V.size
  have v3 := V.zero
  have v4 := V.under
  have v5 := V.map
  have v6 := V.zs
  have vG := V.getNew
  have vN := V.new
  have L := V.getA h
  have lR := h.lt
  have cs : ∀ r : RC, (chV r).size = nI := fun r => by rw [V.s]; rfl
  have KA : Hid (Kp noB w (w.alloc (.cells (chV a) T))) := Kp.alloc _ _ _
  have RA : Hid (RAt (w.alloc (.cells (chV a) T)) R a b) := h.kept (Kp.alloc noB _ _) id
  have c16 : ∀ r : RC, (chV r)[16]? = some (.bool (r.msk 0)) := fun r => rfl
  have c17 : ∀ r : RC, (chV r)[17]? = some (.bool (r.msk 1)) := fun r => rfl
  have c18 : ∀ r : RC, (chV r)[18]? = some (.bool (r.msk 2)) := fun r => rfl
  have c19 : ∀ r : RC, (chV r)[19]? = some (.bool (r.msk 3)) := fun r => rfl
  have c20 : ∀ r : RC, (chV r)[20]? = some (.bool (r.msk 4)) := fun r => rfl
  have c21 : ∀ r : RC, (chV r)[21]? = some (.bool (r.msk 5)) := fun r => rfl
  have c22 : ∀ r : RC, (chV r)[22]? = some (.bool (r.msk 6)) := fun r => rfl
  have c23 : ∀ r : RC, (chV r)[23]? = some (.bool (r.msk 7)) := fun r => rfl
  have HBy : Hid (∀ w, _) := fun w => byteOf_ok w a.msk x hx hf
  unfold row8 at HBy
  clear h V hf hx
  go_enter Try.func14, Try.ntmps14
  simp only [vl, vs, va]
  clear vl vs va vb
  go_wp2_with fail
  refine Calls.mono (HBy.out _) ?_; rintro e w2 ⟨rfl, k2⟩
  go_wp2
  go_ret2
  exact ⟨rfl, KA.out.trans k2⟩

set_option maxRecDepth 20000 in
set_option maxHeartbeats 400000 in
theorem rin_sa (w : World) (R : Nat) (a b : RC) (h : RAt w R a b) (x : Int) (hx : By x) (ht : a.told = true) (hf : ∀ k, k < 8 → a.srv k = tb x k) : Calls Try.prog 14 #[.pointer (some ⟨R, 0, none⟩), .int .i64 0] w fun e w' => e = .returned (.tuple #[.int .u8 x, .int .i64 0]) ∧ Kp noB w w' := by
  obtain ⟨T, nI, Z, fs, ps, V⟩ := vlC
  obtain ⟨vl, vs, va, vb⟩ := V.ops
  have v1 := V.agg
  have v2 := V.size
  have v3 := V.zero
  have v4 := V.under
  have v5 := V.map
  have v6 := V.zs
  have vG := V.getNew
  have vN := V.new
  have L := V.getA h
  have lR := h.lt
  have cs : ∀ r : RC, (chV r).size = nI := fun r => by rw [V.s]; rfl
  have KA : Hid (Kp noB w (w.alloc (.cells (chV a) T))) := Kp.alloc _ _ _
  have RA : Hid (RAt (w.alloc (.cells (chV a) T)) R a b) := h.kept (Kp.alloc noB _ _) id
  have c8 : ∀ r : RC, (chV r)[8]? = some (.bool (r.srv 0)) := fun r => rfl
  have c9 : ∀ r : RC, (chV r)[9]? = some (.bool (r.srv 1)) := fun r => rfl
  have c10 : ∀ r : RC, (chV r)[10]? = some (.bool (r.srv 2)) := fun r => rfl
  have c11 : ∀ r : RC, (chV r)[11]? = some (.bool (r.srv 3)) := fun r => rfl
  have c12 : ∀ r : RC, (chV r)[12]? = some (.bool (r.srv 4)) := fun r => rfl
  have c13 : ∀ r : RC, (chV r)[13]? = some (.bool (r.srv 5)) := fun r => rfl
  have c14 : ∀ r : RC, (chV r)[14]? = some (.bool (r.srv 6)) := fun r => rfl
  have c15 : ∀ r : RC, (chV r)[15]? = some (.bool (r.srv 7)) := fun r => rfl
  have c33 : ∀ r : RC, (chV r)[33]? = some (.bool r.told) := fun r => rfl
  have HBy : Hid (∀ w, _) := fun w => byteOf_ok w a.srv x hx hf
  unfold row8 at HBy
  clear h V hf hx
  go_enter Try.func14, Try.ntmps14
  simp only [vl, vs, va]
  clear vl vs va vb
  go_wp2_with fail
  refine Calls.mono (HBy.out _) ?_; rintro e w2 ⟨rfl, k2⟩
  go_wp2
  go_ret2
  exact ⟨rfl, KA.out.trans k2⟩

set_option maxRecDepth 20000 in
set_option maxHeartbeats 400000 in
theorem rin_qa (w : World) (R : Nat) (a b : RC) (h : RAt w R a b) (x : Int) (hx : By x) (ht : a.told = false) (l : Nat → Bool) (hf : ∀ k, k < 8 → l k = tb x k) (HA : ∀ w, RAt w R a b → Calls Try.prog 31 #[.pointer (some ⟨R, 0, none⟩), .int .i64 0] w fun e w' => e = .returned (.agg (row8 l)) ∧ Kp noB w w') : Calls Try.prog 14 #[.pointer (some ⟨R, 0, none⟩), .int .i64 0] w fun e w' => e = .returned (.tuple #[.int .u8 x, .int .i64 0]) ∧ Kp noB w w' := by
  obtain ⟨T, nI, Z, fs, ps, V⟩ := vlC
  obtain ⟨vl, vs, va, vb⟩ := V.ops
  have v1 := V.agg
  have v2 := V.size
  have v3 := V.zero
  have v4 := V.under
  have v5 := V.map
  have v6 := V.zs
  have vG := V.getNew
  have vN := V.new
  have L := V.getA h
  have lR := h.lt
  have cs : ∀ r : RC, (chV r).size = nI := fun r => by rw [V.s]; rfl
  have KA : Hid (Kp noB w (w.alloc (.cells (chV a) T))) := Kp.alloc _ _ _
  have RA : Hid (RAt (w.alloc (.cells (chV a) T)) R a b) := h.kept (Kp.alloc noB _ _) id
  have c33 : ∀ r : RC, (chV r)[33]? = some (.bool r.told) := fun r => rfl
  have HBy : Hid (∀ w, _) := fun w => byteOf_ok w l x hx hf
  have HAs : Hid _ := HA
  clear HA
  unfold row8 at HBy HAs
  clear h V hf hx
  go_enter Try.func14, Try.ntmps14
  simp only [vl, vs, va]
  clear vl vs va vb
  go_wp2_with fail
  refine Calls.mono (HAs.out _ RA.out) ?_; rintro e w1 ⟨rfl, k1⟩
  go_wp2_with fail
  refine Calls.mono (HBy.out _) ?_; rintro e w2 ⟨rfl, k2⟩
  go_wp2
  go_ret2
  exact ⟨rfl, KA.out.trans (k1.trans k2)⟩

set_option maxRecDepth 20000 in
set_option maxHeartbeats 400000 in
theorem rin_mb (w : World) (R : Nat) (a b : RC) (h : RAt w R a b) (x : Int) (hx : By x) (hf : ∀ k, k < 8 → b.msk k = tb x k) : Calls Try.prog 14 #[.pointer (some ⟨R, 0, none⟩), .int .i64 3] w fun e w' => e = .returned (.tuple #[.int .u8 x, .int .i64 0]) ∧ Kp noB w w' := by
  obtain ⟨T, nI, Z, fs, ps, V⟩ := vlC
  obtain ⟨vl, vs, va, vb⟩ := V.ops
  have v1 := V.agg
  have v2 := V.size
  have v3 := V.zero
  have v4 := V.under
  have v5 := V.map
  have v6 := V.zs
  have vG := V.getNew
  have vN := V.new
  have L := V.getB h
  have lR := h.lt
  have cs : ∀ r : RC, (chV r).size = nI := fun r => by rw [V.s]; rfl
  have KA : Hid (Kp noB w (w.alloc (.cells (chV b) T))) := Kp.alloc _ _ _
  have RA : Hid (RAt (w.alloc (.cells (chV b) T)) R a b) := h.kept (Kp.alloc noB _ _) id
  have c16 : ∀ r : RC, (chV r)[16]? = some (.bool (r.msk 0)) := fun r => rfl
  have c17 : ∀ r : RC, (chV r)[17]? = some (.bool (r.msk 1)) := fun r => rfl
  have c18 : ∀ r : RC, (chV r)[18]? = some (.bool (r.msk 2)) := fun r => rfl
  have c19 : ∀ r : RC, (chV r)[19]? = some (.bool (r.msk 3)) := fun r => rfl
  have c20 : ∀ r : RC, (chV r)[20]? = some (.bool (r.msk 4)) := fun r => rfl
  have c21 : ∀ r : RC, (chV r)[21]? = some (.bool (r.msk 5)) := fun r => rfl
  have c22 : ∀ r : RC, (chV r)[22]? = some (.bool (r.msk 6)) := fun r => rfl
  have c23 : ∀ r : RC, (chV r)[23]? = some (.bool (r.msk 7)) := fun r => rfl
  have HBy : Hid (∀ w, _) := fun w => byteOf_ok w b.msk x hx hf
  unfold row8 at HBy
  clear h V hf hx
  go_enter Try.func14, Try.ntmps14
  simp only [vl, vs, va]
  clear vl vs va vb
  go_wp2_with fail
  refine Calls.mono (HBy.out _) ?_; rintro e w2 ⟨rfl, k2⟩
  go_wp2
  go_ret2
  exact ⟨rfl, KA.out.trans k2⟩

set_option maxRecDepth 20000 in
set_option maxHeartbeats 400000 in
theorem rin_sb (w : World) (R : Nat) (a b : RC) (h : RAt w R a b) (x : Int) (hx : By x) (ht : b.told = true) (hf : ∀ k, k < 8 → b.srv k = tb x k) : Calls Try.prog 14 #[.pointer (some ⟨R, 0, none⟩), .int .i64 2] w fun e w' => e = .returned (.tuple #[.int .u8 x, .int .i64 0]) ∧ Kp noB w w' := by
  obtain ⟨T, nI, Z, fs, ps, V⟩ := vlC
  obtain ⟨vl, vs, va, vb⟩ := V.ops
  have v1 := V.agg
  have v2 := V.size
  have v3 := V.zero
  have v4 := V.under
  have v5 := V.map
  have v6 := V.zs
  have vG := V.getNew
  have vN := V.new
  have L := V.getB h
  have lR := h.lt
  have cs : ∀ r : RC, (chV r).size = nI := fun r => by rw [V.s]; rfl
  have KA : Hid (Kp noB w (w.alloc (.cells (chV b) T))) := Kp.alloc _ _ _
  have RA : Hid (RAt (w.alloc (.cells (chV b) T)) R a b) := h.kept (Kp.alloc noB _ _) id
  have c8 : ∀ r : RC, (chV r)[8]? = some (.bool (r.srv 0)) := fun r => rfl
  have c9 : ∀ r : RC, (chV r)[9]? = some (.bool (r.srv 1)) := fun r => rfl
  have c10 : ∀ r : RC, (chV r)[10]? = some (.bool (r.srv 2)) := fun r => rfl
  have c11 : ∀ r : RC, (chV r)[11]? = some (.bool (r.srv 3)) := fun r => rfl
  have c12 : ∀ r : RC, (chV r)[12]? = some (.bool (r.srv 4)) := fun r => rfl
  have c13 : ∀ r : RC, (chV r)[13]? = some (.bool (r.srv 5)) := fun r => rfl
  have c14 : ∀ r : RC, (chV r)[14]? = some (.bool (r.srv 6)) := fun r => rfl
  have c15 : ∀ r : RC, (chV r)[15]? = some (.bool (r.srv 7)) := fun r => rfl
  have c33 : ∀ r : RC, (chV r)[33]? = some (.bool r.told) := fun r => rfl
  have HBy : Hid (∀ w, _) := fun w => byteOf_ok w b.srv x hx hf
  unfold row8 at HBy
  clear h V hf hx
  go_enter Try.func14, Try.ntmps14
  simp only [vl, vs, va]
  clear vl vs va vb
  go_wp2_with fail
  refine Calls.mono (HBy.out _) ?_; rintro e w2 ⟨rfl, k2⟩
  go_wp2
  go_ret2
  exact ⟨rfl, KA.out.trans k2⟩

set_option maxRecDepth 20000 in
set_option maxHeartbeats 400000 in
theorem rin_qb (w : World) (R : Nat) (a b : RC) (h : RAt w R a b) (x : Int) (hx : By x) (ht : b.told = false) (l : Nat → Bool) (hf : ∀ k, k < 8 → l k = tb x k) (HA : ∀ w, RAt w R a b → Calls Try.prog 31 #[.pointer (some ⟨R, 0, none⟩), .int .i64 1] w fun e w' => e = .returned (.agg (row8 l)) ∧ Kp noB w w') : Calls Try.prog 14 #[.pointer (some ⟨R, 0, none⟩), .int .i64 2] w fun e w' => e = .returned (.tuple #[.int .u8 x, .int .i64 0]) ∧ Kp noB w w' := by
  obtain ⟨T, nI, Z, fs, ps, V⟩ := vlC
  obtain ⟨vl, vs, va, vb⟩ := V.ops
  have v1 := V.agg
  have v2 := V.size
  have v3 := V.zero
  have v4 := V.under
  have v5 := V.map
  have v6 := V.zs
  have vG := V.getNew
  have vN := V.new
  have L := V.getB h
  have lR := h.lt
  have cs : ∀ r : RC, (chV r).size = nI := fun r => by rw [V.s]; rfl
  have KA : Hid (Kp noB w (w.alloc (.cells (chV b) T))) := Kp.alloc _ _ _
  have RA : Hid (RAt (w.alloc (.cells (chV b) T)) R a b) := h.kept (Kp.alloc noB _ _) id
  have c33 : ∀ r : RC, (chV r)[33]? = some (.bool r.told) := fun r => rfl
  have HBy : Hid (∀ w, _) := fun w => byteOf_ok w l x hx hf
  have HAs : Hid _ := HA
  clear HA
  unfold row8 at HBy HAs
  clear h V hf hx
  go_enter Try.func14, Try.ntmps14
  simp only [vl, vs, va]
  clear vl vs va vb
  go_wp2_with fail
  refine Calls.mono (HAs.out _ RA.out) ?_; rintro e w1 ⟨rfl, k1⟩
  go_wp2_with fail
  refine Calls.mono (HBy.out _) ?_; rintro e w2 ⟨rfl, k2⟩
  go_wp2
  go_ret2
  exact ⟨rfl, KA.out.trans (k1.trans k2)⟩
end Go.Proofs.Ytfpgijdfbgfkcaa
