/- The contract of the document's Line. -/
import Derived.Test.YtfpgijdfbgfkcaaRcTake
import Derived.Test.YtfpgijdfbgfkcaaPcMask
namespace Go.Proofs.Ytfpgijdfbgfkcaa
open Go.ChangeShapes Go.WideShapes Go.ChangeAt Go.RowKit
set_option linter.unusedVariables false

def RC.line (r : RC) (k : Nat) (u : Bool) : RC := { r with asks := if u then (if r.up k then r.asks else upd r.asks k true) else upd r.asks k false, up := upd r.up k u }

theorem Rel.line {r : RC} {c : Ch} {s : Bool} (h : Rel r c s) (ok : c.Ok) {k : Nat} (hk : k < 8) (h2 : s = true → k ≠ 2) (u : Bool) : Rel (r.line k u) (c.line (k : Int) u) s := by
  obtain ⟨c1, c2, c3, c4, c5, c6⟩ := line_keep c (k : Int) u
  refine ⟨fun j hj f => ?_, fun j hj => by rw [c1]; exact h.srv j hj, fun j hj => by rw [c2]; exact h.msk j hj, fun j hj f => ?_, h.base.trans c3.symm, h.told.trans c5.symm, h.ends.trans c6.symm⟩
  · rw [line_asks ok hk]
    show (if u then (if r.up k then r.asks else upd r.asks k true) else upd r.asks k false) j = _
    rw [h.up k hk h2]
    cases u
    · unfold upd
      by_cases e : j = k
      · simp [e]
      · simp [e, h.asks j hj f]
    · cases eu : tb c.up k
      · unfold upd
        by_cases e : j = k
        · simp [e]
        · simp [e, h.asks j hj f]
      · by_cases e : j = k
        · subst e; simp [h.asks j hj f]
        · simp [e, h.asks j hj f]
  · rw [line_up ok hk]
    show upd r.up k u j = _
    unfold upd
    by_cases e : j = k
    · simp [e]
    · simp [e, h.up j hj f]

section
variable {T : TypeId} {n : Nat} {Z : Array Value} {fs : Array Field} {ps : Array (Nat × Nat)}
theorem VlC.getNew (h : VlC T n Z fs ps) (r : RC) (W : World) : (loadCellsFrom ⟨W.heap.size, 0, none⟩ 0 n #[]).run Try.prog (W.alloc (.cells (chV r) T)) = .ok (chV r) (W.alloc (.cells (chV r) T)) := h.get (h.at r W)
end

set_option maxRecDepth 20000 in
set_option maxHeartbeats 1000000 in
theorem rline_a0 (w : World) (R : Nat) (a b : RC) (h : RAt w R a b) (k : Nat) (hk : k < 8) (h2 : k ≠ 2) (x : Int) (hx : x = k) : Calls Try.prog 16 #[.pointer (some ⟨R, 0, none⟩), .int .i64 x, .bool false] w fun e w' => e = .returned (.int .i64 0) ∧ RAt w' R ({ asks := upd a.asks k false, srv := a.srv, msk := a.msk, up := upd a.up k false, base := a.base, told := a.told, ends := a.ends, wp := a.wp, wl := a.wl, wc := a.wc : RC }) b ∧ Kp (isB R) w w' := by
  obtain ⟨T, nI, Z, fs, ps, V⟩ := vlC
  obtain ⟨vl, vs, va, vb⟩ := V.ops
  have v1 := V.agg
  have v2 := V.size
  have v3 := V.zero
  have v4 := V.under
  have v5 := V.map
  have v6 := V.zs
  have vG := V.getNew
  have vN := V.new
  have L := V.getA h
  have lR := h.lt
  have HR : Hid (RAt w R a b) := h
  have x0 : 0 ≤ x := by omega
  have x1 : x < 16 := by omega
  have g0 : decide (x < 0) = false := by simp; omega
  have g1 : decide (x > 15) = false := by simp; omega
  have x2 : (x == 2) = false := by simp; omega
  have d1 : x.tdiv 8 = 0 := by rw [Int.tdiv_eq_ediv_of_nonneg x0]; omega
  have d2 : x.tmod 8 = (k : Int) := by rw [Int.tmod_eq_emod_of_nonneg x0]; omega
  have cu : ∀ r : RC, (chV r)[24 + k]? = some (.bool (r.up k)) := fun r => ch_up r hk
  have ca : ∀ r : RC, (chV r)[k]? = some (.bool (r.asks k)) := fun r => ch_asks r hk
  have su : ∀ (r : RC) b, (chV r).setIfInBounds (24 + k) (.bool b) = chV { r with up := upd r.up k b } := fun r b => set_up r hk b
  have sa : ∀ (r : RC) b, (chV r).setIfInBounds k (.bool b) = chV { r with asks := upd r.asks k b } := fun r b => set_asks r hk b
  have cs : ∀ r : RC, (chV r).size = nI := fun r => by rw [V.s]; rfl
  have HV : Hid (VlC T nI Z fs ps) := V
  clear h hx V
  go_enter Try.func16, Try.ntmps16
  simp only [vl, vs, va]
  clear vl vs va vb
  go_wp2
  have h1 : Hid (RAt (w.alloc (.cells (chV ({ asks := upd a.asks k false, srv := a.srv, msk := a.msk, up := upd a.up k false, base := a.base, told := a.told, ends := a.ends, wp := a.wp, wl := a.wl, wc := a.wc : RC })) T)) R a b) := HR.out.kept (Kp.alloc noB _ _) id
  have h2 : Hid (CAt (w.alloc (.cells (chV ({ asks := upd a.asks k false, srv := a.srv, msk := a.msk, up := upd a.up k false, base := a.base, told := a.told, ends := a.ends, wp := a.wp, wl := a.wl, wc := a.wc : RC })) T)) w.heap.size ({ asks := upd a.asks k false, srv := a.srv, msk := a.msk, up := upd a.up k false, base := a.base, told := a.told, ends := a.ends, wp := a.wp, wl := a.wl, wc := a.wc : RC })) := HV.out.at _ w
  have k1 : Hid (Kp (isB R) w (w.alloc (.cells (chV ({ asks := upd a.asks k false, srv := a.srv, msk := a.msk, up := upd a.up k false, base := a.base, told := a.told, ends := a.ends, wp := a.wp, wl := a.wl, wc := a.wc : RC })) T))) := Kp.alloc _ _ _
  clear vG vN L lR
  generalize w.alloc (.cells (chV ({ asks := upd a.asks k false, srv := a.srv, msk := a.msk, up := upd a.up k false, base := a.base, told := a.told, ends := a.ends, wp := a.wp, wl := a.wl, wc := a.wc : RC })) T) = w1 at h1 h2 k1 ⊢
  have L1 := HV.out.get h2.out
  have L2 := HV.out.get (h2.out.kept (Kp.refl noB w1).drew id)
  have S1 := put_A h1.out ({ asks := upd a.asks k false, srv := a.srv, msk := a.msk, up := upd a.up k false, base := a.base, told := a.told, ends := a.ends, wp := a.wp, wl := a.wl, wc := a.wc : RC })
  have S2 := put_A (h1.out.kept (Kp.refl noB w1).drew id) ({ asks := upd a.asks k false, srv := a.srv, msk := a.msk, up := upd a.up k false, base := a.base, told := a.told, ends := a.ends, wp := a.wp, wl := a.wl, wc := a.wc : RC })
  have E1 : Hid (RAt (w1.setRow R (chV ({ asks := upd a.asks k false, srv := a.srv, msk := a.msk, up := upd a.up k false, base := a.base, told := a.told, ends := a.ends, wp := a.wp, wl := a.wl, wc := a.wc : RC }) ++ chV b)) R ({ asks := upd a.asks k false, srv := a.srv, msk := a.msk, up := upd a.up k false, base := a.base, told := a.told, ends := a.ends, wp := a.wp, wl := a.wl, wc := a.wc : RC }) b) := h1.out.putA _
  have E2 : Hid (RAt (w1.drew.setRow R (chV ({ asks := upd a.asks k false, srv := a.srv, msk := a.msk, up := upd a.up k false, base := a.base, told := a.told, ends := a.ends, wp := a.wp, wl := a.wl, wc := a.wc : RC }) ++ chV b)) R ({ asks := upd a.asks k false, srv := a.srv, msk := a.msk, up := upd a.up k false, base := a.base, told := a.told, ends := a.ends, wp := a.wp, wl := a.wl, wc := a.wc : RC }) b) := (h1.out.kept (Kp.refl noB w1).drew id).putA _
  go_region
  all_goals
    go_wp2
    go_ret
    first
      | exact ⟨rfl, E1.out, k1.out.trans (Kp.setRow (S := isB R) _ rfl _)⟩
      | exact ⟨rfl, E1.out.kept (Kp.refl noB _).drew id, (k1.out.trans (Kp.setRow (S := isB R) _ rfl _)).drew⟩
      | exact ⟨rfl, E2.out, k1.out.drew.trans (Kp.setRow (S := isB R) _ rfl _)⟩

set_option maxRecDepth 20000 in
set_option maxHeartbeats 1000000 in
theorem rline_a1 (w : World) (R : Nat) (a b : RC) (h : RAt w R a b) (k : Nat) (hk : k < 8) (h2 : k ≠ 2) (x : Int) (hx : x = k) (hu : a.up k = false) : Calls Try.prog 16 #[.pointer (some ⟨R, 0, none⟩), .int .i64 x, .bool true] w fun e w' => e = .returned (.int .i64 0) ∧ RAt w' R ({ asks := upd a.asks k true, srv := a.srv, msk := a.msk, up := upd a.up k true, base := a.base, told := a.told, ends := a.ends, wp := a.wp, wl := a.wl, wc := a.wc : RC }) b ∧ Kp (isB R) w w' := by
  obtain ⟨T, nI, Z, fs, ps, V⟩ := vlC
  obtain ⟨vl, vs, va, vb⟩ := V.ops
  have v1 := V.agg
  have v2 := V.size
  have v3 := V.zero
  have v4 := V.under
  have v5 := V.map
  have v6 := V.zs
  have vG := V.getNew
  have vN := V.new
  have L := V.getA h
  have lR := h.lt
  have HR : Hid (RAt w R a b) := h
  have x0 : 0 ≤ x := by omega
  have x1 : x < 16 := by omega
  have g0 : decide (x < 0) = false := by simp; omega
  have g1 : decide (x > 15) = false := by simp; omega
  have x2 : (x == 2) = false := by simp; omega
  have d1 : x.tdiv 8 = 0 := by rw [Int.tdiv_eq_ediv_of_nonneg x0]; omega
  have d2 : x.tmod 8 = (k : Int) := by rw [Int.tmod_eq_emod_of_nonneg x0]; omega
  have cu : ∀ r : RC, (chV r)[24 + k]? = some (.bool (r.up k)) := fun r => ch_up r hk
  have ca : ∀ r : RC, (chV r)[k]? = some (.bool (r.asks k)) := fun r => ch_asks r hk
  have su : ∀ (r : RC) b, (chV r).setIfInBounds (24 + k) (.bool b) = chV { r with up := upd r.up k b } := fun r b => set_up r hk b
  have sa : ∀ (r : RC) b, (chV r).setIfInBounds k (.bool b) = chV { r with asks := upd r.asks k b } := fun r b => set_asks r hk b
  have cs : ∀ r : RC, (chV r).size = nI := fun r => by rw [V.s]; rfl
  have HV : Hid (VlC T nI Z fs ps) := V
  clear h hx V
  go_enter Try.func16, Try.ntmps16
  simp only [vl, vs, va]
  clear vl vs va vb
  go_wp2
  have h1 : Hid (RAt (w.alloc (.cells (chV ({ asks := upd a.asks k true, srv := a.srv, msk := a.msk, up := upd a.up k true, base := a.base, told := a.told, ends := a.ends, wp := a.wp, wl := a.wl, wc := a.wc : RC })) T)) R a b) := HR.out.kept (Kp.alloc noB _ _) id
  have h2 : Hid (CAt (w.alloc (.cells (chV ({ asks := upd a.asks k true, srv := a.srv, msk := a.msk, up := upd a.up k true, base := a.base, told := a.told, ends := a.ends, wp := a.wp, wl := a.wl, wc := a.wc : RC })) T)) w.heap.size ({ asks := upd a.asks k true, srv := a.srv, msk := a.msk, up := upd a.up k true, base := a.base, told := a.told, ends := a.ends, wp := a.wp, wl := a.wl, wc := a.wc : RC })) := HV.out.at _ w
  have k1 : Hid (Kp (isB R) w (w.alloc (.cells (chV ({ asks := upd a.asks k true, srv := a.srv, msk := a.msk, up := upd a.up k true, base := a.base, told := a.told, ends := a.ends, wp := a.wp, wl := a.wl, wc := a.wc : RC })) T))) := Kp.alloc _ _ _
  clear vG vN L lR
  generalize w.alloc (.cells (chV ({ asks := upd a.asks k true, srv := a.srv, msk := a.msk, up := upd a.up k true, base := a.base, told := a.told, ends := a.ends, wp := a.wp, wl := a.wl, wc := a.wc : RC })) T) = w1 at h1 h2 k1 ⊢
  have L1 := HV.out.get h2.out
  have L2 := HV.out.get (h2.out.kept (Kp.refl noB w1).drew id)
  have S1 := put_A h1.out ({ asks := upd a.asks k true, srv := a.srv, msk := a.msk, up := upd a.up k true, base := a.base, told := a.told, ends := a.ends, wp := a.wp, wl := a.wl, wc := a.wc : RC })
  have S2 := put_A (h1.out.kept (Kp.refl noB w1).drew id) ({ asks := upd a.asks k true, srv := a.srv, msk := a.msk, up := upd a.up k true, base := a.base, told := a.told, ends := a.ends, wp := a.wp, wl := a.wl, wc := a.wc : RC })
  have E1 : Hid (RAt (w1.setRow R (chV ({ asks := upd a.asks k true, srv := a.srv, msk := a.msk, up := upd a.up k true, base := a.base, told := a.told, ends := a.ends, wp := a.wp, wl := a.wl, wc := a.wc : RC }) ++ chV b)) R ({ asks := upd a.asks k true, srv := a.srv, msk := a.msk, up := upd a.up k true, base := a.base, told := a.told, ends := a.ends, wp := a.wp, wl := a.wl, wc := a.wc : RC }) b) := h1.out.putA _
  have E2 : Hid (RAt (w1.drew.setRow R (chV ({ asks := upd a.asks k true, srv := a.srv, msk := a.msk, up := upd a.up k true, base := a.base, told := a.told, ends := a.ends, wp := a.wp, wl := a.wl, wc := a.wc : RC }) ++ chV b)) R ({ asks := upd a.asks k true, srv := a.srv, msk := a.msk, up := upd a.up k true, base := a.base, told := a.told, ends := a.ends, wp := a.wp, wl := a.wl, wc := a.wc : RC }) b) := (h1.out.kept (Kp.refl noB w1).drew id).putA _
  go_region
  all_goals
    go_wp2
    go_ret
    first
      | exact ⟨rfl, E1.out, k1.out.trans (Kp.setRow (S := isB R) _ rfl _)⟩
      | exact ⟨rfl, E1.out.kept (Kp.refl noB _).drew id, (k1.out.trans (Kp.setRow (S := isB R) _ rfl _)).drew⟩
      | exact ⟨rfl, E2.out, k1.out.drew.trans (Kp.setRow (S := isB R) _ rfl _)⟩

set_option maxRecDepth 20000 in
set_option maxHeartbeats 1000000 in
theorem rline_a2 (w : World) (R : Nat) (a b : RC) (h : RAt w R a b) (k : Nat) (hk : k < 8) (h2 : k ≠ 2) (x : Int) (hx : x = k) (hu : a.up k = true) : Calls Try.prog 16 #[.pointer (some ⟨R, 0, none⟩), .int .i64 x, .bool true] w fun e w' => e = .returned (.int .i64 0) ∧ RAt w' R ({ asks := a.asks, srv := a.srv, msk := a.msk, up := upd a.up k true, base := a.base, told := a.told, ends := a.ends, wp := a.wp, wl := a.wl, wc := a.wc : RC }) b ∧ Kp (isB R) w w' := by
  obtain ⟨T, nI, Z, fs, ps, V⟩ := vlC
  obtain ⟨vl, vs, va, vb⟩ := V.ops
  have v1 := V.agg
  have v2 := V.size
  have v3 := V.zero
  have v4 := V.under
  have v5 := V.map
  have v6 := V.zs
  have vG := V.getNew
  have vN := V.new
  have L := V.getA h
  have lR := h.lt
  have HR : Hid (RAt w R a b) := h
  have x0 : 0 ≤ x := by omega
  have x1 : x < 16 := by omega
  have g0 : decide (x < 0) = false := by simp; omega
  have g1 : decide (x > 15) = false := by simp; omega
  have x2 : (x == 2) = false := by simp; omega
  have d1 : x.tdiv 8 = 0 := by rw [Int.tdiv_eq_ediv_of_nonneg x0]; omega
  have d2 : x.tmod 8 = (k : Int) := by rw [Int.tmod_eq_emod_of_nonneg x0]; omega
  have cu : ∀ r : RC, (chV r)[24 + k]? = some (.bool (r.up k)) := fun r => ch_up r hk
  have ca : ∀ r : RC, (chV r)[k]? = some (.bool (r.asks k)) := fun r => ch_asks r hk
  have su : ∀ (r : RC) b, (chV r).setIfInBounds (24 + k) (.bool b) = chV { r with up := upd r.up k b } := fun r b => set_up r hk b
  have sa : ∀ (r : RC) b, (chV r).setIfInBounds k (.bool b) = chV { r with asks := upd r.asks k b } := fun r b => set_asks r hk b
  have cs : ∀ r : RC, (chV r).size = nI := fun r => by rw [V.s]; rfl
  have HV : Hid (VlC T nI Z fs ps) := V
  clear h hx V
  go_enter Try.func16, Try.ntmps16
  simp only [vl, vs, va]
  clear vl vs va vb
  go_wp2
  have h1 : Hid (RAt (w.alloc (.cells (chV ({ asks := a.asks, srv := a.srv, msk := a.msk, up := upd a.up k true, base := a.base, told := a.told, ends := a.ends, wp := a.wp, wl := a.wl, wc := a.wc : RC })) T)) R a b) := HR.out.kept (Kp.alloc noB _ _) id
  have h2 : Hid (CAt (w.alloc (.cells (chV ({ asks := a.asks, srv := a.srv, msk := a.msk, up := upd a.up k true, base := a.base, told := a.told, ends := a.ends, wp := a.wp, wl := a.wl, wc := a.wc : RC })) T)) w.heap.size ({ asks := a.asks, srv := a.srv, msk := a.msk, up := upd a.up k true, base := a.base, told := a.told, ends := a.ends, wp := a.wp, wl := a.wl, wc := a.wc : RC })) := HV.out.at _ w
  have k1 : Hid (Kp (isB R) w (w.alloc (.cells (chV ({ asks := a.asks, srv := a.srv, msk := a.msk, up := upd a.up k true, base := a.base, told := a.told, ends := a.ends, wp := a.wp, wl := a.wl, wc := a.wc : RC })) T))) := Kp.alloc _ _ _
  clear vG vN L lR
  generalize w.alloc (.cells (chV ({ asks := a.asks, srv := a.srv, msk := a.msk, up := upd a.up k true, base := a.base, told := a.told, ends := a.ends, wp := a.wp, wl := a.wl, wc := a.wc : RC })) T) = w1 at h1 h2 k1 ⊢
  have L1 := HV.out.get h2.out
  have L2 := HV.out.get (h2.out.kept (Kp.refl noB w1).drew id)
  have S1 := put_A h1.out ({ asks := a.asks, srv := a.srv, msk := a.msk, up := upd a.up k true, base := a.base, told := a.told, ends := a.ends, wp := a.wp, wl := a.wl, wc := a.wc : RC })
  have S2 := put_A (h1.out.kept (Kp.refl noB w1).drew id) ({ asks := a.asks, srv := a.srv, msk := a.msk, up := upd a.up k true, base := a.base, told := a.told, ends := a.ends, wp := a.wp, wl := a.wl, wc := a.wc : RC })
  have E1 : Hid (RAt (w1.setRow R (chV ({ asks := a.asks, srv := a.srv, msk := a.msk, up := upd a.up k true, base := a.base, told := a.told, ends := a.ends, wp := a.wp, wl := a.wl, wc := a.wc : RC }) ++ chV b)) R ({ asks := a.asks, srv := a.srv, msk := a.msk, up := upd a.up k true, base := a.base, told := a.told, ends := a.ends, wp := a.wp, wl := a.wl, wc := a.wc : RC }) b) := h1.out.putA _
  have E2 : Hid (RAt (w1.drew.setRow R (chV ({ asks := a.asks, srv := a.srv, msk := a.msk, up := upd a.up k true, base := a.base, told := a.told, ends := a.ends, wp := a.wp, wl := a.wl, wc := a.wc : RC }) ++ chV b)) R ({ asks := a.asks, srv := a.srv, msk := a.msk, up := upd a.up k true, base := a.base, told := a.told, ends := a.ends, wp := a.wp, wl := a.wl, wc := a.wc : RC }) b) := (h1.out.kept (Kp.refl noB w1).drew id).putA _
  go_region
  all_goals
    go_wp2
    go_ret
    first
      | exact ⟨rfl, E1.out, k1.out.trans (Kp.setRow (S := isB R) _ rfl _)⟩
      | exact ⟨rfl, E1.out.kept (Kp.refl noB _).drew id, (k1.out.trans (Kp.setRow (S := isB R) _ rfl _)).drew⟩
      | exact ⟨rfl, E2.out, k1.out.drew.trans (Kp.setRow (S := isB R) _ rfl _)⟩

set_option maxRecDepth 20000 in
set_option maxHeartbeats 1000000 in
theorem rline_b0 (w : World) (R : Nat) (a b : RC) (h : RAt w R a b) (k : Nat) (hk : k < 8) (x : Int) (hx : x = k + 8) : Calls Try.prog 16 #[.pointer (some ⟨R, 0, none⟩), .int .i64 x, .bool false] w fun e w' => e = .returned (.int .i64 0) ∧ RAt w' R a ({ asks := upd b.asks k false, srv := b.srv, msk := b.msk, up := upd b.up k false, base := b.base, told := b.told, ends := b.ends, wp := b.wp, wl := b.wl, wc := b.wc : RC }) ∧ Kp (isB R) w w' := by
  obtain ⟨T, nI, Z, fs, ps, V⟩ := vlC
  obtain ⟨vl, vs, va, vb⟩ := V.ops
  have v1 := V.agg
  have v2 := V.size
  have v3 := V.zero
  have v4 := V.under
  have v5 := V.map
  have v6 := V.zs
  have vG := V.getNew
  have vN := V.new
  have L := V.getB h
  have lR := h.lt
  have HR : Hid (RAt w R a b) := h
  have x0 : 0 ≤ x := by omega
  have x1 : x < 16 := by omega
  have g0 : decide (x < 0) = false := by simp; omega
  have g1 : decide (x > 15) = false := by simp; omega
  have x2 : (x == 2) = false := by simp; omega
  have d1 : x.tdiv 8 = 1 := by rw [Int.tdiv_eq_ediv_of_nonneg x0]; omega
  have d2 : x.tmod 8 = (k : Int) := by rw [Int.tmod_eq_emod_of_nonneg x0]; omega
  have cu : ∀ r : RC, (chV r)[24 + k]? = some (.bool (r.up k)) := fun r => ch_up r hk
  have ca : ∀ r : RC, (chV r)[k]? = some (.bool (r.asks k)) := fun r => ch_asks r hk
  have su : ∀ (r : RC) b, (chV r).setIfInBounds (24 + k) (.bool b) = chV { r with up := upd r.up k b } := fun r b => set_up r hk b
  have sa : ∀ (r : RC) b, (chV r).setIfInBounds k (.bool b) = chV { r with asks := upd r.asks k b } := fun r b => set_asks r hk b
  have cs : ∀ r : RC, (chV r).size = nI := fun r => by rw [V.s]; rfl
  have HV : Hid (VlC T nI Z fs ps) := V
  clear h hx V
  go_enter Try.func16, Try.ntmps16
  simp only [vl, vs, va]
  clear vl vs va vb
  go_wp2
  have h1 : Hid (RAt (w.alloc (.cells (chV ({ asks := upd b.asks k false, srv := b.srv, msk := b.msk, up := upd b.up k false, base := b.base, told := b.told, ends := b.ends, wp := b.wp, wl := b.wl, wc := b.wc : RC })) T)) R a b) := HR.out.kept (Kp.alloc noB _ _) id
  have h2 : Hid (CAt (w.alloc (.cells (chV ({ asks := upd b.asks k false, srv := b.srv, msk := b.msk, up := upd b.up k false, base := b.base, told := b.told, ends := b.ends, wp := b.wp, wl := b.wl, wc := b.wc : RC })) T)) w.heap.size ({ asks := upd b.asks k false, srv := b.srv, msk := b.msk, up := upd b.up k false, base := b.base, told := b.told, ends := b.ends, wp := b.wp, wl := b.wl, wc := b.wc : RC })) := HV.out.at _ w
  have k1 : Hid (Kp (isB R) w (w.alloc (.cells (chV ({ asks := upd b.asks k false, srv := b.srv, msk := b.msk, up := upd b.up k false, base := b.base, told := b.told, ends := b.ends, wp := b.wp, wl := b.wl, wc := b.wc : RC })) T))) := Kp.alloc _ _ _
  clear vG vN L lR
  generalize w.alloc (.cells (chV ({ asks := upd b.asks k false, srv := b.srv, msk := b.msk, up := upd b.up k false, base := b.base, told := b.told, ends := b.ends, wp := b.wp, wl := b.wl, wc := b.wc : RC })) T) = w1 at h1 h2 k1 ⊢
  have L1 := HV.out.get h2.out
  have L2 := HV.out.get (h2.out.kept (Kp.refl noB w1).drew id)
  have S1 := put_B h1.out ({ asks := upd b.asks k false, srv := b.srv, msk := b.msk, up := upd b.up k false, base := b.base, told := b.told, ends := b.ends, wp := b.wp, wl := b.wl, wc := b.wc : RC })
  have S2 := put_B (h1.out.kept (Kp.refl noB w1).drew id) ({ asks := upd b.asks k false, srv := b.srv, msk := b.msk, up := upd b.up k false, base := b.base, told := b.told, ends := b.ends, wp := b.wp, wl := b.wl, wc := b.wc : RC })
  have E1 : Hid (RAt (w1.setRow R (chV a ++ chV ({ asks := upd b.asks k false, srv := b.srv, msk := b.msk, up := upd b.up k false, base := b.base, told := b.told, ends := b.ends, wp := b.wp, wl := b.wl, wc := b.wc : RC }))) R a ({ asks := upd b.asks k false, srv := b.srv, msk := b.msk, up := upd b.up k false, base := b.base, told := b.told, ends := b.ends, wp := b.wp, wl := b.wl, wc := b.wc : RC })) := h1.out.putB _
  have E2 : Hid (RAt (w1.drew.setRow R (chV a ++ chV ({ asks := upd b.asks k false, srv := b.srv, msk := b.msk, up := upd b.up k false, base := b.base, told := b.told, ends := b.ends, wp := b.wp, wl := b.wl, wc := b.wc : RC }))) R a ({ asks := upd b.asks k false, srv := b.srv, msk := b.msk, up := upd b.up k false, base := b.base, told := b.told, ends := b.ends, wp := b.wp, wl := b.wl, wc := b.wc : RC })) := (h1.out.kept (Kp.refl noB w1).drew id).putB _
  go_region
  all_goals
    go_wp2
    go_ret
    first
      | exact ⟨rfl, E1.out, k1.out.trans (Kp.setRow (S := isB R) _ rfl _)⟩
      | exact ⟨rfl, E1.out.kept (Kp.refl noB _).drew id, (k1.out.trans (Kp.setRow (S := isB R) _ rfl _)).drew⟩
      | exact ⟨rfl, E2.out, k1.out.drew.trans (Kp.setRow (S := isB R) _ rfl _)⟩

set_option maxRecDepth 20000 in
set_option maxHeartbeats 1000000 in
theorem rline_b1 (w : World) (R : Nat) (a b : RC) (h : RAt w R a b) (k : Nat) (hk : k < 8) (x : Int) (hx : x = k + 8) (hu : b.up k = false) : Calls Try.prog 16 #[.pointer (some ⟨R, 0, none⟩), .int .i64 x, .bool true] w fun e w' => e = .returned (.int .i64 0) ∧ RAt w' R a ({ asks := upd b.asks k true, srv := b.srv, msk := b.msk, up := upd b.up k true, base := b.base, told := b.told, ends := b.ends, wp := b.wp, wl := b.wl, wc := b.wc : RC }) ∧ Kp (isB R) w w' := by
  obtain ⟨T, nI, Z, fs, ps, V⟩ := vlC
  obtain ⟨vl, vs, va, vb⟩ := V.ops
  have v1 := V.agg
  have v2 := V.size
  have v3 := V.zero
  have v4 := V.under
  have v5 := V.map
  have v6 := V.zs
  have vG := V.getNew
  have vN := V.new
  have L := V.getB h
  have lR := h.lt
  have HR : Hid (RAt w R a b) := h
  have x0 : 0 ≤ x := by omega
  have x1 : x < 16 := by omega
  have g0 : decide (x < 0) = false := by simp; omega
  have g1 : decide (x > 15) = false := by simp; omega
  have x2 : (x == 2) = false := by simp; omega
  have d1 : x.tdiv 8 = 1 := by rw [Int.tdiv_eq_ediv_of_nonneg x0]; omega
  have d2 : x.tmod 8 = (k : Int) := by rw [Int.tmod_eq_emod_of_nonneg x0]; omega
  have cu : ∀ r : RC, (chV r)[24 + k]? = some (.bool (r.up k)) := fun r => ch_up r hk
  have ca : ∀ r : RC, (chV r)[k]? = some (.bool (r.asks k)) := fun r => ch_asks r hk
  have su : ∀ (r : RC) b, (chV r).setIfInBounds (24 + k) (.bool b) = chV { r with up := upd r.up k b } := fun r b => set_up r hk b
  have sa : ∀ (r : RC) b, (chV r).setIfInBounds k (.bool b) = chV { r with asks := upd r.asks k b } := fun r b => set_asks r hk b
  have cs : ∀ r : RC, (chV r).size = nI := fun r => by rw [V.s]; rfl
  have HV : Hid (VlC T nI Z fs ps) := V
  clear h hx V
  go_enter Try.func16, Try.ntmps16
  simp only [vl, vs, va]
  clear vl vs va vb
  go_wp2
  have h1 : Hid (RAt (w.alloc (.cells (chV ({ asks := upd b.asks k true, srv := b.srv, msk := b.msk, up := upd b.up k true, base := b.base, told := b.told, ends := b.ends, wp := b.wp, wl := b.wl, wc := b.wc : RC })) T)) R a b) := HR.out.kept (Kp.alloc noB _ _) id
  have h2 : Hid (CAt (w.alloc (.cells (chV ({ asks := upd b.asks k true, srv := b.srv, msk := b.msk, up := upd b.up k true, base := b.base, told := b.told, ends := b.ends, wp := b.wp, wl := b.wl, wc := b.wc : RC })) T)) w.heap.size ({ asks := upd b.asks k true, srv := b.srv, msk := b.msk, up := upd b.up k true, base := b.base, told := b.told, ends := b.ends, wp := b.wp, wl := b.wl, wc := b.wc : RC })) := HV.out.at _ w
  have k1 : Hid (Kp (isB R) w (w.alloc (.cells (chV ({ asks := upd b.asks k true, srv := b.srv, msk := b.msk, up := upd b.up k true, base := b.base, told := b.told, ends := b.ends, wp := b.wp, wl := b.wl, wc := b.wc : RC })) T))) := Kp.alloc _ _ _
  clear vG vN L lR
  generalize w.alloc (.cells (chV ({ asks := upd b.asks k true, srv := b.srv, msk := b.msk, up := upd b.up k true, base := b.base, told := b.told, ends := b.ends, wp := b.wp, wl := b.wl, wc := b.wc : RC })) T) = w1 at h1 h2 k1 ⊢
  have L1 := HV.out.get h2.out
  have L2 := HV.out.get (h2.out.kept (Kp.refl noB w1).drew id)
  have S1 := put_B h1.out ({ asks := upd b.asks k true, srv := b.srv, msk := b.msk, up := upd b.up k true, base := b.base, told := b.told, ends := b.ends, wp := b.wp, wl := b.wl, wc := b.wc : RC })
  have S2 := put_B (h1.out.kept (Kp.refl noB w1).drew id) ({ asks := upd b.asks k true, srv := b.srv, msk := b.msk, up := upd b.up k true, base := b.base, told := b.told, ends := b.ends, wp := b.wp, wl := b.wl, wc := b.wc : RC })
  have E1 : Hid (RAt (w1.setRow R (chV a ++ chV ({ asks := upd b.asks k true, srv := b.srv, msk := b.msk, up := upd b.up k true, base := b.base, told := b.told, ends := b.ends, wp := b.wp, wl := b.wl, wc := b.wc : RC }))) R a ({ asks := upd b.asks k true, srv := b.srv, msk := b.msk, up := upd b.up k true, base := b.base, told := b.told, ends := b.ends, wp := b.wp, wl := b.wl, wc := b.wc : RC })) := h1.out.putB _
  have E2 : Hid (RAt (w1.drew.setRow R (chV a ++ chV ({ asks := upd b.asks k true, srv := b.srv, msk := b.msk, up := upd b.up k true, base := b.base, told := b.told, ends := b.ends, wp := b.wp, wl := b.wl, wc := b.wc : RC }))) R a ({ asks := upd b.asks k true, srv := b.srv, msk := b.msk, up := upd b.up k true, base := b.base, told := b.told, ends := b.ends, wp := b.wp, wl := b.wl, wc := b.wc : RC })) := (h1.out.kept (Kp.refl noB w1).drew id).putB _
  go_region
  all_goals
    go_wp2
    go_ret
    first
      | exact ⟨rfl, E1.out, k1.out.trans (Kp.setRow (S := isB R) _ rfl _)⟩
      | exact ⟨rfl, E1.out.kept (Kp.refl noB _).drew id, (k1.out.trans (Kp.setRow (S := isB R) _ rfl _)).drew⟩
      | exact ⟨rfl, E2.out, k1.out.drew.trans (Kp.setRow (S := isB R) _ rfl _)⟩

set_option maxRecDepth 20000 in
set_option maxHeartbeats 1000000 in
theorem rline_b2 (w : World) (R : Nat) (a b : RC) (h : RAt w R a b) (k : Nat) (hk : k < 8) (x : Int) (hx : x = k + 8) (hu : b.up k = true) : Calls Try.prog 16 #[.pointer (some ⟨R, 0, none⟩), .int .i64 x, .bool true] w fun e w' => e = .returned (.int .i64 0) ∧ RAt w' R a ({ asks := b.asks, srv := b.srv, msk := b.msk, up := upd b.up k true, base := b.base, told := b.told, ends := b.ends, wp := b.wp, wl := b.wl, wc := b.wc : RC }) ∧ Kp (isB R) w w' := by
  obtain ⟨T, nI, Z, fs, ps, V⟩ := vlC
  obtain ⟨vl, vs, va, vb⟩ := V.ops
  have v1 := V.agg
  have v2 := V.size
  have v3 := V.zero
  have v4 := V.under
  have v5 := V.map
  have v6 := V.zs
  have vG := V.getNew
  have vN := V.new
  have L := V.getB h
  have lR := h.lt
  have HR : Hid (RAt w R a b) := h
  have x0 : 0 ≤ x := by omega
  have x1 : x < 16 := by omega
  have g0 : decide (x < 0) = false := by simp; omega
  have g1 : decide (x > 15) = false := by simp; omega
  have x2 : (x == 2) = false := by simp; omega
  have d1 : x.tdiv 8 = 1 := by rw [Int.tdiv_eq_ediv_of_nonneg x0]; omega
  have d2 : x.tmod 8 = (k : Int) := by rw [Int.tmod_eq_emod_of_nonneg x0]; omega
  have cu : ∀ r : RC, (chV r)[24 + k]? = some (.bool (r.up k)) := fun r => ch_up r hk
  have ca : ∀ r : RC, (chV r)[k]? = some (.bool (r.asks k)) := fun r => ch_asks r hk
  have su : ∀ (r : RC) b, (chV r).setIfInBounds (24 + k) (.bool b) = chV { r with up := upd r.up k b } := fun r b => set_up r hk b
  have sa : ∀ (r : RC) b, (chV r).setIfInBounds k (.bool b) = chV { r with asks := upd r.asks k b } := fun r b => set_asks r hk b
  have cs : ∀ r : RC, (chV r).size = nI := fun r => by rw [V.s]; rfl
  have HV : Hid (VlC T nI Z fs ps) := V
  clear h hx V
  go_enter Try.func16, Try.ntmps16
  simp only [vl, vs, va]
  clear vl vs va vb
  go_wp2
  have h1 : Hid (RAt (w.alloc (.cells (chV ({ asks := b.asks, srv := b.srv, msk := b.msk, up := upd b.up k true, base := b.base, told := b.told, ends := b.ends, wp := b.wp, wl := b.wl, wc := b.wc : RC })) T)) R a b) := HR.out.kept (Kp.alloc noB _ _) id
  have h2 : Hid (CAt (w.alloc (.cells (chV ({ asks := b.asks, srv := b.srv, msk := b.msk, up := upd b.up k true, base := b.base, told := b.told, ends := b.ends, wp := b.wp, wl := b.wl, wc := b.wc : RC })) T)) w.heap.size ({ asks := b.asks, srv := b.srv, msk := b.msk, up := upd b.up k true, base := b.base, told := b.told, ends := b.ends, wp := b.wp, wl := b.wl, wc := b.wc : RC })) := HV.out.at _ w
  have k1 : Hid (Kp (isB R) w (w.alloc (.cells (chV ({ asks := b.asks, srv := b.srv, msk := b.msk, up := upd b.up k true, base := b.base, told := b.told, ends := b.ends, wp := b.wp, wl := b.wl, wc := b.wc : RC })) T))) := Kp.alloc _ _ _
  clear vG vN L lR
  generalize w.alloc (.cells (chV ({ asks := b.asks, srv := b.srv, msk := b.msk, up := upd b.up k true, base := b.base, told := b.told, ends := b.ends, wp := b.wp, wl := b.wl, wc := b.wc : RC })) T) = w1 at h1 h2 k1 ⊢
  have L1 := HV.out.get h2.out
  have L2 := HV.out.get (h2.out.kept (Kp.refl noB w1).drew id)
  have S1 := put_B h1.out ({ asks := b.asks, srv := b.srv, msk := b.msk, up := upd b.up k true, base := b.base, told := b.told, ends := b.ends, wp := b.wp, wl := b.wl, wc := b.wc : RC })
  have S2 := put_B (h1.out.kept (Kp.refl noB w1).drew id) ({ asks := b.asks, srv := b.srv, msk := b.msk, up := upd b.up k true, base := b.base, told := b.told, ends := b.ends, wp := b.wp, wl := b.wl, wc := b.wc : RC })
  have E1 : Hid (RAt (w1.setRow R (chV a ++ chV ({ asks := b.asks, srv := b.srv, msk := b.msk, up := upd b.up k true, base := b.base, told := b.told, ends := b.ends, wp := b.wp, wl := b.wl, wc := b.wc : RC }))) R a ({ asks := b.asks, srv := b.srv, msk := b.msk, up := upd b.up k true, base := b.base, told := b.told, ends := b.ends, wp := b.wp, wl := b.wl, wc := b.wc : RC })) := h1.out.putB _
  have E2 : Hid (RAt (w1.drew.setRow R (chV a ++ chV ({ asks := b.asks, srv := b.srv, msk := b.msk, up := upd b.up k true, base := b.base, told := b.told, ends := b.ends, wp := b.wp, wl := b.wl, wc := b.wc : RC }))) R a ({ asks := b.asks, srv := b.srv, msk := b.msk, up := upd b.up k true, base := b.base, told := b.told, ends := b.ends, wp := b.wp, wl := b.wl, wc := b.wc : RC })) := (h1.out.kept (Kp.refl noB w1).drew id).putB _
  go_region
  all_goals
    go_wp2
    go_ret
    first
      | exact ⟨rfl, E1.out, k1.out.trans (Kp.setRow (S := isB R) _ rfl _)⟩
      | exact ⟨rfl, E1.out.kept (Kp.refl noB _).drew id, (k1.out.trans (Kp.setRow (S := isB R) _ rfl _)).drew⟩
      | exact ⟨rfl, E2.out, k1.out.drew.trans (Kp.setRow (S := isB R) _ rfl _)⟩

theorem line_lit0 (r : RC) (k : Nat) : r.line k false = { r with asks := upd r.asks k false, up := upd r.up k false } := rfl
theorem line_lit1 (r : RC) (k : Nat) (h : r.up k = false) : r.line k true = { r with asks := upd r.asks k true, up := upd r.up k true } := by unfold RC.line; rw [h]; rfl
theorem line_lit2 (r : RC) (k : Nat) (h : r.up k = true) : r.line k true = { r with asks := r.asks, up := upd r.up k true } := by unfold RC.line; rw [h]; rfl

theorem rlineA (w : World) (R : Nat) (a b : RC) (h : RAt w R a b) (k : Nat) (hk : k < 8) (h2 : k ≠ 2) (u : Bool) : Calls Try.prog 16 #[.pointer (some ⟨R, 0, none⟩), .int .i64 k, .bool u] w fun e w' => e = .returned (.int .i64 0) ∧ RAt w' R (a.line k u) b ∧ Kp (isB R) w w' := by
  cases u
  · exact rline_a0 w R a b h k hk h2 k rfl
  · cases e : a.up k
    · rw [line_lit1 a k e]; exact rline_a1 w R a b h k hk h2 k rfl e
    · rw [line_lit2 a k e]; exact rline_a2 w R a b h k hk h2 k rfl e

theorem rlineB (w : World) (R : Nat) (a b : RC) (h : RAt w R a b) (k : Nat) (hk : k < 8) (u : Bool) (x : Int) (hx : x = k + 8) : Calls Try.prog 16 #[.pointer (some ⟨R, 0, none⟩), .int .i64 x, .bool u] w fun e w' => e = .returned (.int .i64 0) ∧ RAt w' R a (b.line k u) ∧ Kp (isB R) w w' := by
  cases u
  · exact rline_b0 w R a b h k hk x hx
  · cases e : b.up k
    · rw [line_lit1 b k e]; exact rline_b1 w R a b h k hk x hx e
    · rw [line_lit2 b k e]; exact rline_b2 w R a b h k hk x hx e

theorem rline_2 (w : World) (R : Nat) (u : Bool) : Calls Try.prog 16 #[.pointer (some ⟨R, 0, none⟩), .int .i64 2, .bool u] w fun e w' => e = .returned (.int .i64 0) ∧ w' = w := by
  go_enter Try.func16, Try.ntmps16
  go_wp2
  go_ret
  exact ⟨rfl, rfl⟩

theorem rline_no (w : World) (R : Nat) (x : Int) (u : Bool) (h : x < 0 ∨ 16 ≤ x) : Calls Try.prog 16 #[.pointer (some ⟨R, 0, none⟩), .int .i64 x, .bool u] w fun e w' => e = .returned (.int .i64 1) ∧ w' = w := by
  rcases h with h | h
  · have h' : decide (x < 0) = true := decide_eq_true h
    go_enter Try.func16, Try.ntmps16
    go_wp2
    go_ret
    exact ⟨rfl, rfl⟩
  · have h' : decide (x < 0) = false := decide_eq_false (by omega)
    have h2 : decide (x > 15) = true := decide_eq_true (by omega)
    go_enter Try.func16, Try.ntmps16
    go_wp2
    go_ret
    exact ⟨rfl, rfl⟩

end Go.Proofs.Ytfpgijdfbgfkcaa
