/- The bus and its devices: RcLine, RcData, RcApp. -/
import Derived.Test.YtonfjhbfkichkaaGreatBz09
import Derived.Maps.AppendAt
import Derived.OwnWalk
namespace Go.Proofs.YtonfjhbfkichkaaGreat.Pc
open Go.ChangeShapes Go.WideShapes Go.ChangeAt Go.RowKit
set_option linter.unusedVariables false
def RC.line (r : RC) (k : Nat) (u : Bool) : RC := { r with asks := if u then (if r.up k then r.asks else upd r.asks k true) else upd r.asks k false, up := upd r.up k u }
theorem Rel.line {r : RC} {c : Ch} {s : Bool} (h : Rel r c s) (ok : c.Ok) {k : Nat} (hk : k < 8) (h2 : s = true → k ≠ 2) (u : Bool) : Rel (r.line k u) (c.line (k : Int) u) s := by
 obtain ⟨c1, c2, c3, c4, c5, c6⟩ := line_keep c (k : Int) u
 refine ⟨fun j hj f => ?_, fun j hj => by rw [c1]; exact h.srv j hj, fun j hj => by rw [c2]; exact h.msk j hj, fun j hj f => ?_, h.base.trans c3.symm, h.told.trans c5.symm, h.ends.trans c6.symm⟩
 ·rw [line_asks ok hk]
  show (if u then (if r.up k then r.asks else upd r.asks k true) else upd r.asks k false) j = _
  rw [h.up k hk h2]
  cases u
  ·unfold upd
   by_cases e : j = k
   ·simp [e]
   ·simp [e, h.asks j hj f]
  ·cases eu : tb c.up k
   ·unfold upd
    by_cases e : j = k
    ·simp [e]
    ·simp [e, h.asks j hj f]
   ·by_cases e : j = k
    ·subst e; simp [h.asks j hj f]
    ·simp [e, h.asks j hj f]
 ·rw [line_up ok hk]
  show upd r.up k u j = _
  unfold upd
  by_cases e : j = k
  ·simp [e]
  ·simp [e, h.up j hj f]
section
variable {T : TypeId} {n : Nat} {Z : Array Value} {fs : Array Field} {ps : Array (Nat × Nat)}
theorem VlC.getNew (h : VlC T n Z fs ps) (r : RC) (W : World) : (loadCellsFrom ⟨W.heap.size, 0, none⟩ 0 n #[]).run Tryz.prog (W.alloc (.cells (chV r) T)) = .ok (chV r) (W.alloc (.cells (chV r) T)) := h.get (h.at r W)
end
set_option maxRecDepth 20000 in
set_option maxHeartbeats 1000000 in
theorem rline_a0 (w : World) (R : Nat) (a b : RC) (h : RAt w R a b) (k : Nat) (hk : k < 8) (h2 : k ≠ 2) (x : Int) (hx : x = k) : Calls Tryz.prog 75 #[.pointer (some ⟨R, 0, none⟩), .int .i64 x, .bool false] w fun e w' => e = .returned (.int .i64 0) ∧ RAt w' R ({ asks := upd a.asks k false, srv := a.srv, msk := a.msk, up := upd a.up k false, base := a.base, told := a.told, ends := a.ends, wp := a.wp, wl := a.wl, wc := a.wc : RC }) b ∧ Kp (isB R) w w' := by
 obtain ⟨T, nI, Z, fs, ps, V⟩ := vlC
 obtain ⟨vl, vs, va, vb⟩ := V.ops
 have v1 := V.agg
 have v2 := V.size
 have v3 := V.zero
 have v4 := V.under
 have v5 := V.map
 have v6 := V.zs
 have vG := V.getNew
 have vN := V.new
 have L := V.getA h
 have lR := h.lt
 have HR : Hid (RAt w R a b) := h
 have x0 : 0 ≤ x := by omega
 have x1 : x < 16 := by omega
 have g0 : decide (x < 0) = false := by simp; omega
 have g1 : decide (x > 15) = false := by simp; omega
 have x2 : (x == 2) = false := by simp; omega
 have d1 : x.tdiv 8 = 0 := by rw [Int.tdiv_eq_ediv_of_nonneg x0]; omega
 have d2 : x.tmod 8 = (k : Int) := by rw [Int.tmod_eq_emod_of_nonneg x0]; omega
 have cu : ∀ r : RC, (chV r)[24 + k]? = some (.bool (r.up k)) := fun r => ch_up r hk
 have ca : ∀ r : RC, (chV r)[k]? = some (.bool (r.asks k)) := fun r => ch_asks r hk
 have su : ∀ (r : RC) b, (chV r).setIfInBounds (24 + k) (.bool b) = chV { r with up := upd r.up k b } := fun r b => set_up r hk b
 have sa : ∀ (r : RC) b, (chV r).setIfInBounds k (.bool b) = chV { r with asks := upd r.asks k b } := fun r b => set_asks r hk b
 have cs : ∀ r : RC, (chV r).size = nI := fun r => by rw [V.s]; rfl
 have HV : Hid (VlC T nI Z fs ps) := V
 clear h hx V
 go_enter Tryz.func75, Tryz.ntmps75
 simp only [vl, vs, va]
 clear vl vs va vb
 go_wp2
 have h1 : Hid (RAt (w.alloc (.cells (chV ({ asks := upd a.asks k false, srv := a.srv, msk := a.msk, up := upd a.up k false, base := a.base, told := a.told, ends := a.ends, wp := a.wp, wl := a.wl, wc := a.wc : RC })) T)) R a b) := HR.out.kept (Kp.alloc noB _ _) id
 have h2 : Hid (CAt (w.alloc (.cells (chV ({ asks := upd a.asks k false, srv := a.srv, msk := a.msk, up := upd a.up k false, base := a.base, told := a.told, ends := a.ends, wp := a.wp, wl := a.wl, wc := a.wc : RC })) T)) w.heap.size ({ asks := upd a.asks k false, srv := a.srv, msk := a.msk, up := upd a.up k false, base := a.base, told := a.told, ends := a.ends, wp := a.wp, wl := a.wl, wc := a.wc : RC })) := HV.out.at _ w
 have k1 : Hid (Kp (isB R) w (w.alloc (.cells (chV ({ asks := upd a.asks k false, srv := a.srv, msk := a.msk, up := upd a.up k false, base := a.base, told := a.told, ends := a.ends, wp := a.wp, wl := a.wl, wc := a.wc : RC })) T))) := Kp.alloc _ _ _
 clear vG vN L lR
 generalize w.alloc (.cells (chV ({ asks := upd a.asks k false, srv := a.srv, msk := a.msk, up := upd a.up k false, base := a.base, told := a.told, ends := a.ends, wp := a.wp, wl := a.wl, wc := a.wc : RC })) T) = w1 at h1 h2 k1 ⊢
 have L1 := HV.out.get h2.out
 have L2 := HV.out.get (h2.out.kept (Kp.refl noB w1).drew id)
 have S1 := put_A h1.out ({ asks := upd a.asks k false, srv := a.srv, msk := a.msk, up := upd a.up k false, base := a.base, told := a.told, ends := a.ends, wp := a.wp, wl := a.wl, wc := a.wc : RC })
 have S2 := put_A (h1.out.kept (Kp.refl noB w1).drew id) ({ asks := upd a.asks k false, srv := a.srv, msk := a.msk, up := upd a.up k false, base := a.base, told := a.told, ends := a.ends, wp := a.wp, wl := a.wl, wc := a.wc : RC })
 have E1 : Hid (RAt (w1.setRow R (chV ({ asks := upd a.asks k false, srv := a.srv, msk := a.msk, up := upd a.up k false, base := a.base, told := a.told, ends := a.ends, wp := a.wp, wl := a.wl, wc := a.wc : RC }) ++ chV b)) R ({ asks := upd a.asks k false, srv := a.srv, msk := a.msk, up := upd a.up k false, base := a.base, told := a.told, ends := a.ends, wp := a.wp, wl := a.wl, wc := a.wc : RC }) b) := h1.out.putA _
 have E2 : Hid (RAt (w1.drew.setRow R (chV ({ asks := upd a.asks k false, srv := a.srv, msk := a.msk, up := upd a.up k false, base := a.base, told := a.told, ends := a.ends, wp := a.wp, wl := a.wl, wc := a.wc : RC }) ++ chV b)) R ({ asks := upd a.asks k false, srv := a.srv, msk := a.msk, up := upd a.up k false, base := a.base, told := a.told, ends := a.ends, wp := a.wp, wl := a.wl, wc := a.wc : RC }) b) := (h1.out.kept (Kp.refl noB w1).drew id).putA _
 go_region
 all_goals
  go_wp2
  go_ret
  first
   | exact ⟨rfl, E1.out, k1.out.trans (Kp.setRow (S := isB R) _ rfl _)⟩
   | exact ⟨rfl, E1.out.kept (Kp.refl noB _).drew id, (k1.out.trans (Kp.setRow (S := isB R) _ rfl _)).drew⟩
   | exact ⟨rfl, E2.out, k1.out.drew.trans (Kp.setRow (S := isB R) _ rfl _)⟩
set_option maxRecDepth 20000 in
set_option maxHeartbeats 1000000 in
theorem rline_a1 (w : World) (R : Nat) (a b : RC) (h : RAt w R a b) (k : Nat) (hk : k < 8) (h2 : k ≠ 2) (x : Int) (hx : x = k) (hu : a.up k = false) : Calls Tryz.prog 75 #[.pointer (some ⟨R, 0, none⟩), .int .i64 x, .bool true] w fun e w' => e = .returned (.int .i64 0) ∧ RAt w' R ({ asks := upd a.asks k true, srv := a.srv, msk := a.msk, up := upd a.up k true, base := a.base, told := a.told, ends := a.ends, wp := a.wp, wl := a.wl, wc := a.wc : RC }) b ∧ Kp (isB R) w w' := by
 obtain ⟨T, nI, Z, fs, ps, V⟩ := vlC
 obtain ⟨vl, vs, va, vb⟩ := V.ops
 have v1 := V.agg
 have v2 := V.size
 have v3 := V.zero
 have v4 := V.under
 have v5 := V.map
 have v6 := V.zs
 have vG := V.getNew
 have vN := V.new
 have L := V.getA h
 have lR := h.lt
 have HR : Hid (RAt w R a b) := h
 have x0 : 0 ≤ x := by omega
 have x1 : x < 16 := by omega
 have g0 : decide (x < 0) = false := by simp; omega
 have g1 : decide (x > 15) = false := by simp; omega
 have x2 : (x == 2) = false := by simp; omega
 have d1 : x.tdiv 8 = 0 := by rw [Int.tdiv_eq_ediv_of_nonneg x0]; omega
 have d2 : x.tmod 8 = (k : Int) := by rw [Int.tmod_eq_emod_of_nonneg x0]; omega
 have cu : ∀ r : RC, (chV r)[24 + k]? = some (.bool (r.up k)) := fun r => ch_up r hk
 have ca : ∀ r : RC, (chV r)[k]? = some (.bool (r.asks k)) := fun r => ch_asks r hk
 have su : ∀ (r : RC) b, (chV r).setIfInBounds (24 + k) (.bool b) = chV { r with up := upd r.up k b } := fun r b => set_up r hk b
 have sa : ∀ (r : RC) b, (chV r).setIfInBounds k (.bool b) = chV { r with asks := upd r.asks k b } := fun r b => set_asks r hk b
 have cs : ∀ r : RC, (chV r).size = nI := fun r => by rw [V.s]; rfl
 have HV : Hid (VlC T nI Z fs ps) := V
 clear h hx V
 go_enter Tryz.func75, Tryz.ntmps75
 simp only [vl, vs, va]
 clear vl vs va vb
 go_wp2
 have h1 : Hid (RAt (w.alloc (.cells (chV ({ asks := upd a.asks k true, srv := a.srv, msk := a.msk, up := upd a.up k true, base := a.base, told := a.told, ends := a.ends, wp := a.wp, wl := a.wl, wc := a.wc : RC })) T)) R a b) := HR.out.kept (Kp.alloc noB _ _) id
 have h2 : Hid (CAt (w.alloc (.cells (chV ({ asks := upd a.asks k true, srv := a.srv, msk := a.msk, up := upd a.up k true, base := a.base, told := a.told, ends := a.ends, wp := a.wp, wl := a.wl, wc := a.wc : RC })) T)) w.heap.size ({ asks := upd a.asks k true, srv := a.srv, msk := a.msk, up := upd a.up k true, base := a.base, told := a.told, ends := a.ends, wp := a.wp, wl := a.wl, wc := a.wc : RC })) := HV.out.at _ w
 have k1 : Hid (Kp (isB R) w (w.alloc (.cells (chV ({ asks := upd a.asks k true, srv := a.srv, msk := a.msk, up := upd a.up k true, base := a.base, told := a.told, ends := a.ends, wp := a.wp, wl := a.wl, wc := a.wc : RC })) T))) := Kp.alloc _ _ _
 clear vG vN L lR
 generalize w.alloc (.cells (chV ({ asks := upd a.asks k true, srv := a.srv, msk := a.msk, up := upd a.up k true, base := a.base, told := a.told, ends := a.ends, wp := a.wp, wl := a.wl, wc := a.wc : RC })) T) = w1 at h1 h2 k1 ⊢
 have L1 := HV.out.get h2.out
 have L2 := HV.out.get (h2.out.kept (Kp.refl noB w1).drew id)
 have S1 := put_A h1.out ({ asks := upd a.asks k true, srv := a.srv, msk := a.msk, up := upd a.up k true, base := a.base, told := a.told, ends := a.ends, wp := a.wp, wl := a.wl, wc := a.wc : RC })
 have S2 := put_A (h1.out.kept (Kp.refl noB w1).drew id) ({ asks := upd a.asks k true, srv := a.srv, msk := a.msk, up := upd a.up k true, base := a.base, told := a.told, ends := a.ends, wp := a.wp, wl := a.wl, wc := a.wc : RC })
 have E1 : Hid (RAt (w1.setRow R (chV ({ asks := upd a.asks k true, srv := a.srv, msk := a.msk, up := upd a.up k true, base := a.base, told := a.told, ends := a.ends, wp := a.wp, wl := a.wl, wc := a.wc : RC }) ++ chV b)) R ({ asks := upd a.asks k true, srv := a.srv, msk := a.msk, up := upd a.up k true, base := a.base, told := a.told, ends := a.ends, wp := a.wp, wl := a.wl, wc := a.wc : RC }) b) := h1.out.putA _
 have E2 : Hid (RAt (w1.drew.setRow R (chV ({ asks := upd a.asks k true, srv := a.srv, msk := a.msk, up := upd a.up k true, base := a.base, told := a.told, ends := a.ends, wp := a.wp, wl := a.wl, wc := a.wc : RC }) ++ chV b)) R ({ asks := upd a.asks k true, srv := a.srv, msk := a.msk, up := upd a.up k true, base := a.base, told := a.told, ends := a.ends, wp := a.wp, wl := a.wl, wc := a.wc : RC }) b) := (h1.out.kept (Kp.refl noB w1).drew id).putA _
 go_region
 all_goals
  go_wp2
  go_ret
  first
   | exact ⟨rfl, E1.out, k1.out.trans (Kp.setRow (S := isB R) _ rfl _)⟩
   | exact ⟨rfl, E1.out.kept (Kp.refl noB _).drew id, (k1.out.trans (Kp.setRow (S := isB R) _ rfl _)).drew⟩
   | exact ⟨rfl, E2.out, k1.out.drew.trans (Kp.setRow (S := isB R) _ rfl _)⟩
set_option maxRecDepth 20000 in
set_option maxHeartbeats 1000000 in
theorem rline_a2 (w : World) (R : Nat) (a b : RC) (h : RAt w R a b) (k : Nat) (hk : k < 8) (h2 : k ≠ 2) (x : Int) (hx : x = k) (hu : a.up k = true) : Calls Tryz.prog 75 #[.pointer (some ⟨R, 0, none⟩), .int .i64 x, .bool true] w fun e w' => e = .returned (.int .i64 0) ∧ RAt w' R ({ asks := a.asks, srv := a.srv, msk := a.msk, up := upd a.up k true, base := a.base, told := a.told, ends := a.ends, wp := a.wp, wl := a.wl, wc := a.wc : RC }) b ∧ Kp (isB R) w w' := by
 obtain ⟨T, nI, Z, fs, ps, V⟩ := vlC
 obtain ⟨vl, vs, va, vb⟩ := V.ops
 have v1 := V.agg
 have v2 := V.size
 have v3 := V.zero
 have v4 := V.under
 have v5 := V.map
 have v6 := V.zs
 have vG := V.getNew
 have vN := V.new
 have L := V.getA h
 have lR := h.lt
 have HR : Hid (RAt w R a b) := h
 have x0 : 0 ≤ x := by omega
 have x1 : x < 16 := by omega
 have g0 : decide (x < 0) = false := by simp; omega
 have g1 : decide (x > 15) = false := by simp; omega
 have x2 : (x == 2) = false := by simp; omega
 have d1 : x.tdiv 8 = 0 := by rw [Int.tdiv_eq_ediv_of_nonneg x0]; omega
 have d2 : x.tmod 8 = (k : Int) := by rw [Int.tmod_eq_emod_of_nonneg x0]; omega
 have cu : ∀ r : RC, (chV r)[24 + k]? = some (.bool (r.up k)) := fun r => ch_up r hk
 have ca : ∀ r : RC, (chV r)[k]? = some (.bool (r.asks k)) := fun r => ch_asks r hk
 have su : ∀ (r : RC) b, (chV r).setIfInBounds (24 + k) (.bool b) = chV { r with up := upd r.up k b } := fun r b => set_up r hk b
 have sa : ∀ (r : RC) b, (chV r).setIfInBounds k (.bool b) = chV { r with asks := upd r.asks k b } := fun r b => set_asks r hk b
 have cs : ∀ r : RC, (chV r).size = nI := fun r => by rw [V.s]; rfl
 have HV : Hid (VlC T nI Z fs ps) := V
 clear h hx V
 go_enter Tryz.func75, Tryz.ntmps75
 simp only [vl, vs, va]
 clear vl vs va vb
 go_wp2
 have h1 : Hid (RAt (w.alloc (.cells (chV ({ asks := a.asks, srv := a.srv, msk := a.msk, up := upd a.up k true, base := a.base, told := a.told, ends := a.ends, wp := a.wp, wl := a.wl, wc := a.wc : RC })) T)) R a b) := HR.out.kept (Kp.alloc noB _ _) id
 have h2 : Hid (CAt (w.alloc (.cells (chV ({ asks := a.asks, srv := a.srv, msk := a.msk, up := upd a.up k true, base := a.base, told := a.told, ends := a.ends, wp := a.wp, wl := a.wl, wc := a.wc : RC })) T)) w.heap.size ({ asks := a.asks, srv := a.srv, msk := a.msk, up := upd a.up k true, base := a.base, told := a.told, ends := a.ends, wp := a.wp, wl := a.wl, wc := a.wc : RC })) := HV.out.at _ w
 have k1 : Hid (Kp (isB R) w (w.alloc (.cells (chV ({ asks := a.asks, srv := a.srv, msk := a.msk, up := upd a.up k true, base := a.base, told := a.told, ends := a.ends, wp := a.wp, wl := a.wl, wc := a.wc : RC })) T))) := Kp.alloc _ _ _
 clear vG vN L lR
 generalize w.alloc (.cells (chV ({ asks := a.asks, srv := a.srv, msk := a.msk, up := upd a.up k true, base := a.base, told := a.told, ends := a.ends, wp := a.wp, wl := a.wl, wc := a.wc : RC })) T) = w1 at h1 h2 k1 ⊢
 have L1 := HV.out.get h2.out
 have L2 := HV.out.get (h2.out.kept (Kp.refl noB w1).drew id)
 have S1 := put_A h1.out ({ asks := a.asks, srv := a.srv, msk := a.msk, up := upd a.up k true, base := a.base, told := a.told, ends := a.ends, wp := a.wp, wl := a.wl, wc := a.wc : RC })
 have S2 := put_A (h1.out.kept (Kp.refl noB w1).drew id) ({ asks := a.asks, srv := a.srv, msk := a.msk, up := upd a.up k true, base := a.base, told := a.told, ends := a.ends, wp := a.wp, wl := a.wl, wc := a.wc : RC })
 have E1 : Hid (RAt (w1.setRow R (chV ({ asks := a.asks, srv := a.srv, msk := a.msk, up := upd a.up k true, base := a.base, told := a.told, ends := a.ends, wp := a.wp, wl := a.wl, wc := a.wc : RC }) ++ chV b)) R ({ asks := a.asks, srv := a.srv, msk := a.msk, up := upd a.up k true, base := a.base, told := a.told, ends := a.ends, wp := a.wp, wl := a.wl, wc := a.wc : RC }) b) := h1.out.putA _
 have E2 : Hid (RAt (w1.drew.setRow R (chV ({ asks := a.asks, srv := a.srv, msk := a.msk, up := upd a.up k true, base := a.base, told := a.told, ends := a.ends, wp := a.wp, wl := a.wl, wc := a.wc : RC }) ++ chV b)) R ({ asks := a.asks, srv := a.srv, msk := a.msk, up := upd a.up k true, base := a.base, told := a.told, ends := a.ends, wp := a.wp, wl := a.wl, wc := a.wc : RC }) b) := (h1.out.kept (Kp.refl noB w1).drew id).putA _
 go_region
 all_goals
  go_wp2
  go_ret
  first
   | exact ⟨rfl, E1.out, k1.out.trans (Kp.setRow (S := isB R) _ rfl _)⟩
   | exact ⟨rfl, E1.out.kept (Kp.refl noB _).drew id, (k1.out.trans (Kp.setRow (S := isB R) _ rfl _)).drew⟩
   | exact ⟨rfl, E2.out, k1.out.drew.trans (Kp.setRow (S := isB R) _ rfl _)⟩
set_option maxRecDepth 20000 in
set_option maxHeartbeats 1000000 in
theorem rline_b0 (w : World) (R : Nat) (a b : RC) (h : RAt w R a b) (k : Nat) (hk : k < 8) (x : Int) (hx : x = k + 8) : Calls Tryz.prog 75 #[.pointer (some ⟨R, 0, none⟩), .int .i64 x, .bool false] w fun e w' => e = .returned (.int .i64 0) ∧ RAt w' R a ({ asks := upd b.asks k false, srv := b.srv, msk := b.msk, up := upd b.up k false, base := b.base, told := b.told, ends := b.ends, wp := b.wp, wl := b.wl, wc := b.wc : RC }) ∧ Kp (isB R) w w' := by
 obtain ⟨T, nI, Z, fs, ps, V⟩ := vlC
 obtain ⟨vl, vs, va, vb⟩ := V.ops
 have v1 := V.agg
 have v2 := V.size
 have v3 := V.zero
 have v4 := V.under
 have v5 := V.map
 have v6 := V.zs
 have vG := V.getNew
 have vN := V.new
 have L := V.getB h
 have lR := h.lt
 have HR : Hid (RAt w R a b) := h
 have x0 : 0 ≤ x := by omega
 have x1 : x < 16 := by omega
 have g0 : decide (x < 0) = false := by simp; omega
 have g1 : decide (x > 15) = false := by simp; omega
 have x2 : (x == 2) = false := by simp; omega
 have d1 : x.tdiv 8 = 1 := by rw [Int.tdiv_eq_ediv_of_nonneg x0]; omega
 have d2 : x.tmod 8 = (k : Int) := by rw [Int.tmod_eq_emod_of_nonneg x0]; omega
 have cu : ∀ r : RC, (chV r)[24 + k]? = some (.bool (r.up k)) := fun r => ch_up r hk
 have ca : ∀ r : RC, (chV r)[k]? = some (.bool (r.asks k)) := fun r => ch_asks r hk
 have su : ∀ (r : RC) b, (chV r).setIfInBounds (24 + k) (.bool b) = chV { r with up := upd r.up k b } := fun r b => set_up r hk b
 have sa : ∀ (r : RC) b, (chV r).setIfInBounds k (.bool b) = chV { r with asks := upd r.asks k b } := fun r b => set_asks r hk b
 have cs : ∀ r : RC, (chV r).size = nI := fun r => by rw [V.s]; rfl
 have HV : Hid (VlC T nI Z fs ps) := V
 clear h hx V
 go_enter Tryz.func75, Tryz.ntmps75
 simp only [vl, vs, va]
 clear vl vs va vb
 go_wp2
 have h1 : Hid (RAt (w.alloc (.cells (chV ({ asks := upd b.asks k false, srv := b.srv, msk := b.msk, up := upd b.up k false, base := b.base, told := b.told, ends := b.ends, wp := b.wp, wl := b.wl, wc := b.wc : RC })) T)) R a b) := HR.out.kept (Kp.alloc noB _ _) id
 have h2 : Hid (CAt (w.alloc (.cells (chV ({ asks := upd b.asks k false, srv := b.srv, msk := b.msk, up := upd b.up k false, base := b.base, told := b.told, ends := b.ends, wp := b.wp, wl := b.wl, wc := b.wc : RC })) T)) w.heap.size ({ asks := upd b.asks k false, srv := b.srv, msk := b.msk, up := upd b.up k false, base := b.base, told := b.told, ends := b.ends, wp := b.wp, wl := b.wl, wc := b.wc : RC })) := HV.out.at _ w
 have k1 : Hid (Kp (isB R) w (w.alloc (.cells (chV ({ asks := upd b.asks k false, srv := b.srv, msk := b.msk, up := upd b.up k false, base := b.base, told := b.told, ends := b.ends, wp := b.wp, wl := b.wl, wc := b.wc : RC })) T))) := Kp.alloc _ _ _
 clear vG vN L lR
 generalize w.alloc (.cells (chV ({ asks := upd b.asks k false, srv := b.srv, msk := b.msk, up := upd b.up k false, base := b.base, told := b.told, ends := b.ends, wp := b.wp, wl := b.wl, wc := b.wc : RC })) T) = w1 at h1 h2 k1 ⊢
 have L1 := HV.out.get h2.out
 have L2 := HV.out.get (h2.out.kept (Kp.refl noB w1).drew id)
 have S1 := put_B h1.out ({ asks := upd b.asks k false, srv := b.srv, msk := b.msk, up := upd b.up k false, base := b.base, told := b.told, ends := b.ends, wp := b.wp, wl := b.wl, wc := b.wc : RC })
 have S2 := put_B (h1.out.kept (Kp.refl noB w1).drew id) ({ asks := upd b.asks k false, srv := b.srv, msk := b.msk, up := upd b.up k false, base := b.base, told := b.told, ends := b.ends, wp := b.wp, wl := b.wl, wc := b.wc : RC })
 have E1 : Hid (RAt (w1.setRow R (chV a ++ chV ({ asks := upd b.asks k false, srv := b.srv, msk := b.msk, up := upd b.up k false, base := b.base, told := b.told, ends := b.ends, wp := b.wp, wl := b.wl, wc := b.wc : RC }))) R a ({ asks := upd b.asks k false, srv := b.srv, msk := b.msk, up := upd b.up k false, base := b.base, told := b.told, ends := b.ends, wp := b.wp, wl := b.wl, wc := b.wc : RC })) := h1.out.putB _
 have E2 : Hid (RAt (w1.drew.setRow R (chV a ++ chV ({ asks := upd b.asks k false, srv := b.srv, msk := b.msk, up := upd b.up k false, base := b.base, told := b.told, ends := b.ends, wp := b.wp, wl := b.wl, wc := b.wc : RC }))) R a ({ asks := upd b.asks k false, srv := b.srv, msk := b.msk, up := upd b.up k false, base := b.base, told := b.told, ends := b.ends, wp := b.wp, wl := b.wl, wc := b.wc : RC })) := (h1.out.kept (Kp.refl noB w1).drew id).putB _
 go_region
 all_goals
  go_wp2
  go_ret
  first
   | exact ⟨rfl, E1.out, k1.out.trans (Kp.setRow (S := isB R) _ rfl _)⟩
   | exact ⟨rfl, E1.out.kept (Kp.refl noB _).drew id, (k1.out.trans (Kp.setRow (S := isB R) _ rfl _)).drew⟩
   | exact ⟨rfl, E2.out, k1.out.drew.trans (Kp.setRow (S := isB R) _ rfl _)⟩
set_option maxRecDepth 20000 in
set_option maxHeartbeats 1000000 in
theorem rline_b1 (w : World) (R : Nat) (a b : RC) (h : RAt w R a b) (k : Nat) (hk : k < 8) (x : Int) (hx : x = k + 8) (hu : b.up k = false) : Calls Tryz.prog 75 #[.pointer (some ⟨R, 0, none⟩), .int .i64 x, .bool true] w fun e w' => e = .returned (.int .i64 0) ∧ RAt w' R a ({ asks := upd b.asks k true, srv := b.srv, msk := b.msk, up := upd b.up k true, base := b.base, told := b.told, ends := b.ends, wp := b.wp, wl := b.wl, wc := b.wc : RC }) ∧ Kp (isB R) w w' := by
 obtain ⟨T, nI, Z, fs, ps, V⟩ := vlC
 obtain ⟨vl, vs, va, vb⟩ := V.ops
 have v1 := V.agg
 have v2 := V.size
 have v3 := V.zero
 have v4 := V.under
 have v5 := V.map
 have v6 := V.zs
 have vG := V.getNew
 have vN := V.new
 have L := V.getB h
 have lR := h.lt
 have HR : Hid (RAt w R a b) := h
 have x0 : 0 ≤ x := by omega
 have x1 : x < 16 := by omega
 have g0 : decide (x < 0) = false := by simp; omega
 have g1 : decide (x > 15) = false := by simp; omega
 have x2 : (x == 2) = false := by simp; omega
 have d1 : x.tdiv 8 = 1 := by rw [Int.tdiv_eq_ediv_of_nonneg x0]; omega
 have d2 : x.tmod 8 = (k : Int) := by rw [Int.tmod_eq_emod_of_nonneg x0]; omega
 have cu : ∀ r : RC, (chV r)[24 + k]? = some (.bool (r.up k)) := fun r => ch_up r hk
 have ca : ∀ r : RC, (chV r)[k]? = some (.bool (r.asks k)) := fun r => ch_asks r hk
 have su : ∀ (r : RC) b, (chV r).setIfInBounds (24 + k) (.bool b) = chV { r with up := upd r.up k b } := fun r b => set_up r hk b
 have sa : ∀ (r : RC) b, (chV r).setIfInBounds k (.bool b) = chV { r with asks := upd r.asks k b } := fun r b => set_asks r hk b
 have cs : ∀ r : RC, (chV r).size = nI := fun r => by rw [V.s]; rfl
 have HV : Hid (VlC T nI Z fs ps) := V
 clear h hx V
 go_enter Tryz.func75, Tryz.ntmps75
 simp only [vl, vs, va]
 clear vl vs va vb
 go_wp2
 have h1 : Hid (RAt (w.alloc (.cells (chV ({ asks := upd b.asks k true, srv := b.srv, msk := b.msk, up := upd b.up k true, base := b.base, told := b.told, ends := b.ends, wp := b.wp, wl := b.wl, wc := b.wc : RC })) T)) R a b) := HR.out.kept (Kp.alloc noB _ _) id
 have h2 : Hid (CAt (w.alloc (.cells (chV ({ asks := upd b.asks k true, srv := b.srv, msk := b.msk, up := upd b.up k true, base := b.base, told := b.told, ends := b.ends, wp := b.wp, wl := b.wl, wc := b.wc : RC })) T)) w.heap.size ({ asks := upd b.asks k true, srv := b.srv, msk := b.msk, up := upd b.up k true, base := b.base, told := b.told, ends := b.ends, wp := b.wp, wl := b.wl, wc := b.wc : RC })) := HV.out.at _ w
 have k1 : Hid (Kp (isB R) w (w.alloc (.cells (chV ({ asks := upd b.asks k true, srv := b.srv, msk := b.msk, up := upd b.up k true, base := b.base, told := b.told, ends := b.ends, wp := b.wp, wl := b.wl, wc := b.wc : RC })) T))) := Kp.alloc _ _ _
 clear vG vN L lR
 generalize w.alloc (.cells (chV ({ asks := upd b.asks k true, srv := b.srv, msk := b.msk, up := upd b.up k true, base := b.base, told := b.told, ends := b.ends, wp := b.wp, wl := b.wl, wc := b.wc : RC })) T) = w1 at h1 h2 k1 ⊢
 have L1 := HV.out.get h2.out
 have L2 := HV.out.get (h2.out.kept (Kp.refl noB w1).drew id)
 have S1 := put_B h1.out ({ asks := upd b.asks k true, srv := b.srv, msk := b.msk, up := upd b.up k true, base := b.base, told := b.told, ends := b.ends, wp := b.wp, wl := b.wl, wc := b.wc : RC })
 have S2 := put_B (h1.out.kept (Kp.refl noB w1).drew id) ({ asks := upd b.asks k true, srv := b.srv, msk := b.msk, up := upd b.up k true, base := b.base, told := b.told, ends := b.ends, wp := b.wp, wl := b.wl, wc := b.wc : RC })
 have E1 : Hid (RAt (w1.setRow R (chV a ++ chV ({ asks := upd b.asks k true, srv := b.srv, msk := b.msk, up := upd b.up k true, base := b.base, told := b.told, ends := b.ends, wp := b.wp, wl := b.wl, wc := b.wc : RC }))) R a ({ asks := upd b.asks k true, srv := b.srv, msk := b.msk, up := upd b.up k true, base := b.base, told := b.told, ends := b.ends, wp := b.wp, wl := b.wl, wc := b.wc : RC })) := h1.out.putB _
 have E2 : Hid (RAt (w1.drew.setRow R (chV a ++ chV ({ asks := upd b.asks k true, srv := b.srv, msk := b.msk, up := upd b.up k true, base := b.base, told := b.told, ends := b.ends, wp := b.wp, wl := b.wl, wc := b.wc : RC }))) R a ({ asks := upd b.asks k true, srv := b.srv, msk := b.msk, up := upd b.up k true, base := b.base, told := b.told, ends := b.ends, wp := b.wp, wl := b.wl, wc := b.wc : RC })) := (h1.out.kept (Kp.refl noB w1).drew id).putB _
 go_region
 all_goals
  go_wp2
  go_ret
  first
   | exact ⟨rfl, E1.out, k1.out.trans (Kp.setRow (S := isB R) _ rfl _)⟩
   | exact ⟨rfl, E1.out.kept (Kp.refl noB _).drew id, (k1.out.trans (Kp.setRow (S := isB R) _ rfl _)).drew⟩
   | exact ⟨rfl, E2.out, k1.out.drew.trans (Kp.setRow (S := isB R) _ rfl _)⟩
set_option maxRecDepth 20000 in
set_option maxHeartbeats 1000000 in
theorem rline_b2 (w : World) (R : Nat) (a b : RC) (h : RAt w R a b) (k : Nat) (hk : k < 8) (x : Int) (hx : x = k + 8) (hu : b.up k = true) : Calls Tryz.prog 75 #[.pointer (some ⟨R, 0, none⟩), .int .i64 x, .bool true] w fun e w' => e = .returned (.int .i64 0) ∧ RAt w' R a ({ asks := b.asks, srv := b.srv, msk := b.msk, up := upd b.up k true, base := b.base, told := b.told, ends := b.ends, wp := b.wp, wl := b.wl, wc := b.wc : RC }) ∧ Kp (isB R) w w' := by
 obtain ⟨T, nI, Z, fs, ps, V⟩ := vlC
 obtain ⟨vl, vs, va, vb⟩ := V.ops
 have v1 := V.agg
 have v2 := V.size
 have v3 := V.zero
 have v4 := V.under
 have v5 := V.map
 have v6 := V.zs
 have vG := V.getNew
 have vN := V.new
 have L := V.getB h
 have lR := h.lt
 have HR : Hid (RAt w R a b) := h
 have x0 : 0 ≤ x := by omega
 have x1 : x < 16 := by omega
 have g0 : decide (x < 0) = false := by simp; omega
 have g1 : decide (x > 15) = false := by simp; omega
 have x2 : (x == 2) = false := by simp; omega
 have d1 : x.tdiv 8 = 1 := by rw [Int.tdiv_eq_ediv_of_nonneg x0]; omega
 have d2 : x.tmod 8 = (k : Int) := by rw [Int.tmod_eq_emod_of_nonneg x0]; omega
 have cu : ∀ r : RC, (chV r)[24 + k]? = some (.bool (r.up k)) := fun r => ch_up r hk
 have ca : ∀ r : RC, (chV r)[k]? = some (.bool (r.asks k)) := fun r => ch_asks r hk
 have su : ∀ (r : RC) b, (chV r).setIfInBounds (24 + k) (.bool b) = chV { r with up := upd r.up k b } := fun r b => set_up r hk b
 have sa : ∀ (r : RC) b, (chV r).setIfInBounds k (.bool b) = chV { r with asks := upd r.asks k b } := fun r b => set_asks r hk b
 have cs : ∀ r : RC, (chV r).size = nI := fun r => by rw [V.s]; rfl
 have HV : Hid (VlC T nI Z fs ps) := V
 clear h hx V
 go_enter Tryz.func75, Tryz.ntmps75
 simp only [vl, vs, va]
 clear vl vs va vb
 go_wp2
 have h1 : Hid (RAt (w.alloc (.cells (chV ({ asks := b.asks, srv := b.srv, msk := b.msk, up := upd b.up k true, base := b.base, told := b.told, ends := b.ends, wp := b.wp, wl := b.wl, wc := b.wc : RC })) T)) R a b) := HR.out.kept (Kp.alloc noB _ _) id
 have h2 : Hid (CAt (w.alloc (.cells (chV ({ asks := b.asks, srv := b.srv, msk := b.msk, up := upd b.up k true, base := b.base, told := b.told, ends := b.ends, wp := b.wp, wl := b.wl, wc := b.wc : RC })) T)) w.heap.size ({ asks := b.asks, srv := b.srv, msk := b.msk, up := upd b.up k true, base := b.base, told := b.told, ends := b.ends, wp := b.wp, wl := b.wl, wc := b.wc : RC })) := HV.out.at _ w
 have k1 : Hid (Kp (isB R) w (w.alloc (.cells (chV ({ asks := b.asks, srv := b.srv, msk := b.msk, up := upd b.up k true, base := b.base, told := b.told, ends := b.ends, wp := b.wp, wl := b.wl, wc := b.wc : RC })) T))) := Kp.alloc _ _ _
 clear vG vN L lR
 generalize w.alloc (.cells (chV ({ asks := b.asks, srv := b.srv, msk := b.msk, up := upd b.up k true, base := b.base, told := b.told, ends := b.ends, wp := b.wp, wl := b.wl, wc := b.wc : RC })) T) = w1 at h1 h2 k1 ⊢
 have L1 := HV.out.get h2.out
 have L2 := HV.out.get (h2.out.kept (Kp.refl noB w1).drew id)
 have S1 := put_B h1.out ({ asks := b.asks, srv := b.srv, msk := b.msk, up := upd b.up k true, base := b.base, told := b.told, ends := b.ends, wp := b.wp, wl := b.wl, wc := b.wc : RC })
 have S2 := put_B (h1.out.kept (Kp.refl noB w1).drew id) ({ asks := b.asks, srv := b.srv, msk := b.msk, up := upd b.up k true, base := b.base, told := b.told, ends := b.ends, wp := b.wp, wl := b.wl, wc := b.wc : RC })
 have E1 : Hid (RAt (w1.setRow R (chV a ++ chV ({ asks := b.asks, srv := b.srv, msk := b.msk, up := upd b.up k true, base := b.base, told := b.told, ends := b.ends, wp := b.wp, wl := b.wl, wc := b.wc : RC }))) R a ({ asks := b.asks, srv := b.srv, msk := b.msk, up := upd b.up k true, base := b.base, told := b.told, ends := b.ends, wp := b.wp, wl := b.wl, wc := b.wc : RC })) := h1.out.putB _
 have E2 : Hid (RAt (w1.drew.setRow R (chV a ++ chV ({ asks := b.asks, srv := b.srv, msk := b.msk, up := upd b.up k true, base := b.base, told := b.told, ends := b.ends, wp := b.wp, wl := b.wl, wc := b.wc : RC }))) R a ({ asks := b.asks, srv := b.srv, msk := b.msk, up := upd b.up k true, base := b.base, told := b.told, ends := b.ends, wp := b.wp, wl := b.wl, wc := b.wc : RC })) := (h1.out.kept (Kp.refl noB w1).drew id).putB _
 go_region
 all_goals
  go_wp2
  go_ret
  first
   | exact ⟨rfl, E1.out, k1.out.trans (Kp.setRow (S := isB R) _ rfl _)⟩
   | exact ⟨rfl, E1.out.kept (Kp.refl noB _).drew id, (k1.out.trans (Kp.setRow (S := isB R) _ rfl _)).drew⟩
   | exact ⟨rfl, E2.out, k1.out.drew.trans (Kp.setRow (S := isB R) _ rfl _)⟩
theorem line_lit1 (r : RC) (k : Nat) (h : r.up k = false) : r.line k true = { r with asks := upd r.asks k true, up := upd r.up k true } := by unfold RC.line; rw [h]; rfl
theorem line_lit2 (r : RC) (k : Nat) (h : r.up k = true) : r.line k true = { r with asks := r.asks, up := upd r.up k true } := by unfold RC.line; rw [h]; rfl
theorem rlineA (w : World) (R : Nat) (a b : RC) (h : RAt w R a b) (k : Nat) (hk : k < 8) (h2 : k ≠ 2) (u : Bool) : Calls Tryz.prog 75 #[.pointer (some ⟨R, 0, none⟩), .int .i64 k, .bool u] w fun e w' => e = .returned (.int .i64 0) ∧ RAt w' R (a.line k u) b ∧ Kp (isB R) w w' := by
 cases u
 ·exact rline_a0 w R a b h k hk h2 k rfl
 ·cases e : a.up k
  ·rw [line_lit1 a k e]; exact rline_a1 w R a b h k hk h2 k rfl e
  ·rw [line_lit2 a k e]; exact rline_a2 w R a b h k hk h2 k rfl e
theorem rlineB (w : World) (R : Nat) (a b : RC) (h : RAt w R a b) (k : Nat) (hk : k < 8) (u : Bool) (x : Int) (hx : x = k + 8) : Calls Tryz.prog 75 #[.pointer (some ⟨R, 0, none⟩), .int .i64 x, .bool u] w fun e w' => e = .returned (.int .i64 0) ∧ RAt w' R a (b.line k u) ∧ Kp (isB R) w w' := by
 cases u
 ·exact rline_b0 w R a b h k hk x hx
 ·cases e : b.up k
  ·rw [line_lit1 b k e]; exact rline_b1 w R a b h k hk x hx e
  ·rw [line_lit2 b k e]; exact rline_b2 w R a b h k hk x hx e
theorem rline_2 (w : World) (R : Nat) (u : Bool) : Calls Tryz.prog 75 #[.pointer (some ⟨R, 0, none⟩), .int .i64 2, .bool u] w fun e w' => e = .returned (.int .i64 0) ∧ w' = w := by
 go_enter Tryz.func75, Tryz.ntmps75
 go_wp2
 go_ret
 exact ⟨rfl, rfl⟩
theorem ch_u : Tryz.prog.underlying 139 = some (.struct (match Tryz.prog.underlying 139 with | some (.struct f) => f | _ => default)) := by kernel_rfl
theorem ch_s : (Tryz.prog.info? 139).map (·.size) = some 36 := by kernel_rfl
theorem ch_res {fn : Func} {p : Tmp} (h : fn.results = #[.cell p 139]) (tmps : Array Value) (w : World) (q : Nat) (r : RC) (hp : tmps.getD p undef = .pointer (some ⟨q, 0, none⟩)) (hg : CAt w q r) : (results fn tmps).run Tryz.prog w = .ok (.agg (chV r)) w :=
 results_cell_row h tmps w q _ _ _ _ hp hg ch_u rfl ch_s
def ZAt (w : World) (q : Nat) : Prop := w.heap[q]? = some (.cells (chV RC.zero) 139 (0, 0))
theorem ZAt.kept {S : Nat → Prop} {w w' : World} {q : Nat} (h : ZAt w q) (k : Kp S w w') (hS : ¬ S q) : ZAt w' q := heap_kept h k hS
theorem ZAt.put {w : World} {q : Nat} (h : ZAt w q) (r : RC) : (storeCells ⟨q, 0, none⟩ (chV r).toList).run Tryz.prog w = .ok () (w.setRow q (chV r)) := put_ch h rfl r
theorem ZAt.got {w : World} {q : Nat} (h : ZAt w q) (r : RC) : CAt (w.setRow q (chV r)) q r := setRow_heap w q _ _ _ _ h
theorem VlC.zat {T : TypeId} {n : Nat} {Z : Array Value} {fs : Array Field} {ps : Array (Nat × Nat)} (h : VlC T n Z fs ps) (o : Obj) (W : World) : ZAt ((W.alloc o).alloc (.cells Z T)) (W.heap.size + 1) := by
 rw [h.t, h.z]; exact heap_alloc2_new W _ _
theorem Kp.newRow {S : Nat → Prop} {w W : World} (h : Kp S w W) {b : Nat} (hb : w.heap.size ≤ b) (cs : Array Value) : Kp S w (W.setRow b cs) := h.own (Kp.setRow (S := isB b) W rfl cs) hb
def mskK (r : RC) (v : Int) (k : Nat) : RC := { r with msk := fun j => if j < k then tb v j else r.msk j }
theorem mskK_0 (r : RC) (v : Int) : mskK r v 0 = r := by
 unfold mskK
 have : (fun j => if j < 0 then tb v j else r.msk j) = r.msk := funext fun j => by rw [if_neg (by omega)]
 rw [this]
theorem mskK_s (r : RC) (v : Int) (k : Nat) (hk : k < 8) : (chV (mskK r v k)).setIfInBounds (16 + k) (.bool (tb v k)) = chV (mskK r v (k + 1)) := by
 rw [set_msk _ hk]
 congr 1
 unfold mskK upd
 congr 1
 funext j
 by_cases e : j = k
 ·subst e; simp
 ·simp only [e, if_false]
  by_cases q : j < k
  ·rw [if_pos q, if_pos (by omega)]
  ·rw [if_neg q, if_neg (by omega)]
set_option maxRecDepth 20000 in
set_option maxHeartbeats 1000000 in
theorem rdata0 (w : World) (r : RC) (v : Int) (hv : By v) (h0 : r.wl = 0) : Calls Tryz.prog 159 #[.agg (chV r), .int .u8 v] w fun e w' => e = .returned (.agg (chV (mskK r v 8))) ∧ Kp noB w w' := by
 obtain ⟨T, nI, Z, fs, ps, V⟩ := vlC
 obtain ⟨vl, vs, va, vb⟩ := V.ops
 have v1 := V.agg
 have v2 := V.size
 have v3 := V.zero
 have v4 := V.under
 have v5 := V.map
 have v6 := V.zs
 have cs : ∀ r : RC, (chV r).size = nI := fun r => by rw [V.s]; rfl
 have c35 : (chV r)[35]? = some (.slice r.wp r.wl r.wc) := rfl
 rw [h0] at c35
 have HV : Hid (VlC T nI Z fs ps) := V
 have HBt : Hid (∀ (w : World) (n : Nat), n < 8 → _) := fun w n hn => bit_any w v hv n hn
 clear V h0 hv
 go_enter Tryz.func159, Tryz.ntmps159
 simp only [vl, vs, va, vb]
 clear vl vs va vb
 go_wp2
 obtain ⟨q, hq⟩ : ∃ q, q = w.heap.size := ⟨_, rfl⟩
 have hC : Hid (CAt ((w.alloc (.cells (chV r) T)).alloc (.cells Z T)) q (mskK r v 0)) := by rw [hq, mskK_0]; exact (HV.out.at r w).kept (Kp.alloc noB _ _) id
 have hZ : Hid (ZAt ((w.alloc (.cells (chV r) T)).alloc (.cells Z T)) (q + 1)) := by rw [hq]; exact HV.out.zat _ w
 have hK : Hid (Kp noB w ((w.alloc (.cells (chV r) T)).alloc (.cells Z T))) := (Kp.alloc _ _ _).trans (Kp.alloc _ _ _)
 have lq : Hid (w.heap.size ≤ q) := Nat.le_of_eq hq.symm
 rw [← hq]
 generalize (w.alloc (.cells (chV r) T)).alloc (.cells Z T) = w0 at hC hZ hK ⊢
 clear hq c35
 go_loopw [5] (fun s5 wr => ∃ k : Nat, s5 = .int .i64 k ∧ k ≤ 8 ∧ CAt wr q (mskK r v k) ∧ ZAt wr (q + 1) ∧ Kp noB w wr) (fun s5 _ => (8 - intOf s5).toNat)
 case atStart => exact ⟨0, rfl, by omega, hC.out, hZ.out, hK.out⟩
 case round =>
  clear hC hZ hK
  obtain ⟨k, rfl, hk, hC, hZ, kr⟩ := hrel
  by_cases hlt : k < 8
  ·have HC : Hid (CAt wr q (mskK r v k)) := hC
   have HZ : Hid (ZAt wr (q + 1)) := hZ
   have c1 := hC.cell (ch_msk (mskK r v k) hlt)
   have z1 := hC.fz (16 + k)
   clear hC hZ
   go_wp2_with fail
   refine Calls.mono (HBt.out _ k hlt) ?_; rintro e v1 ⟨rfl, hw⟩; replace hw := hw.symm; subst hw
   go_wp2
   go_roundw
   case rel => exact ⟨k + 1, by go_num, by omega, HC.out.set (mskK_s r v k hlt), HZ.out.kept (kpB q _ _ _) (by show ¬ q + 1 = q; omega), kr.new lq.out _⟩
   case measure => simp [intOf]; omega
  ·obtain rfl : k = 8 := by omega
   have L1 := HV.out.get hC
   have S1 := hZ.put (mskK r v 8)
   have E1 : Hid (CAt (wr.setRow (q + 1) (chV (mskK r v 8))) (q + 1) (mskK r v 8)) := hZ.got _
   have K1 : Hid (Kp noB w (wr.setRow (q + 1) (chV (mskK r v 8)))) := kr.newRow (by have := lq.out; omega) _
   clear hC hZ
   go_wp2
   exact bodyPost_ret (v := .agg (chV (mskK r v 8))) (ch_res Tryz.results159 _ _ (q + 1) _ rfl E1.out) rfl ⟨rfl, K1.out⟩
set_option maxRecDepth 20000
def OwnN (w : World) (base : Nat) (v : Value) (l : List Int) : Prop := w.ownsRow base 3 1 v l.length (l.map (Value.int .i64))
theorem OwnN.new (w : World) (base : Nat) (hb : base ≤ w.heap.size) (l : List Int) (hl : l.length ≤ 100) : OwnN (w.alloc (.cells (l.map (Value.int .i64)).toArray 3)) base (.slice (some ⟨w.heap.size, 0, none⟩) l.length l.length) l :=
 ⟨by simp, .inr ⟨w.heap.size, l.length, _, rfl, hb, (MapKept.heap_alloc w _).1, Nat.le_refl _, by unfold maxLen; omega, by simp, by rw [Nat.mul_one]; exact List.take_of_length_le (by simp)⟩⟩
theorem Kp.grown {w0 w w' : World} {row : Option Nat} (h : Kp noB w0 w) (g : w.grownBy w' row) (hr : ∀ k, row = some k → w0.heap.size ≤ k) : Kp noB w0 w' :=
 ⟨g.os.trans h.os, g.tape.trans h.tape, g.output.trans h.output, Nat.le_trans h.size g.size, fun k hk _ => (g.block k (Nat.lt_of_lt_of_le hk h.size) (fun e => by have := hr k e.symm; omega)).trans (h.block k hk id)⟩
def NumAt (w : World) (a : Option Addr) (m : Nat) (g : Nat → Int) : Prop := ∀ j, j < m → ∃ b o, a = some ⟨b, o, none⟩ ∧ b < w.heap.size ∧ w.cell? ⟨b, o + j, none⟩ = some (.int .i64 (g j))
def rngN (m : Nat) (g : Nat → Int) : List Int := (List.range m).map g
theorem appN_ok {w0 w : World} (h0 : Kp noB w0 w) {v : Value} {l : List Int} (hv : OwnN w w0.heap.size v l) {a : Option Addr} {m : Nat} (c : Nat) {g : Nat → Int} (hB : NumAt w a m g) (hs : l.length + m ≤ 1000) :
  ∃ v' w', (Builtin.append_ #[101, 101] 101 #[v, .slice a m c]).run Tryz.prog w = .ok v' w' ∧ OwnN w' w0.heap.size v' (l ++ rngN m g) ∧ Kp noB w0 w' := by
 have hlen : (rngN m g).length = m := by simp [rngN]
 cases a with
 | none =>
  have hm : m = 0 := by
   rcases Nat.eq_zero_or_pos m with h | h
   ·exact h
   ·obtain ⟨b, o, e, _⟩ := hB 0 h; cases e
  subst hm
  refine ⟨v, w, ?_, by simpa [rngN] using hv, h0⟩
  have u : ∀ w, (underlying 101).run Tryz.prog w = .ok (.slice 3) w := fun w => by kernel_rfl
  have s : ∀ w, (sizeOf 3).run Tryz.prog w = .ok 1 w := fun w => by kernel_rfl
  rcases hv.2 with ⟨rfl, h2⟩ | ⟨g, cap, cur, rfl, hb, hg, hc, r⟩
  ·simp [Builtin.append_, u, s, Builtin.lenOf, Builtin.firstCells]
  ·simp [Builtin.append_, u, s, Builtin.lenOf, Builtin.firstCells, hc, storeCells]
 | some ad =>
  obtain ⟨v', w', hr, h2, h3, h4, h5⟩ := run_append_own_at (P := Tryz.prog) w w0.heap.size 101 101 3 _ (.int .i64 0) 1 8 Tryz.underlying101 (show Tryz.prog.info? 3 = some _ from Tryz.type3) (by kernel_rfl) (by kernel_rfl) (by kernel_rfl) (by kernel_rfl) (by decide)
   v l.length (l.map (Value.int .i64)) hv ad m c ((rngN m g).map (Value.int .i64)) (by simp [hlen]) (by
    intro j u hu
    rw [List.getElem?_map] at hu
    obtain ⟨x, hx, rfl⟩ := Option.map_eq_some_iff.1 hu
    have hj : j < m := by have := (List.getElem?_eq_some_iff.1 hx).1; omega
    obtain ⟨b, o, e, _, hc⟩ := hB j hj
    injection e with e
    subst e
    rw [Addr.add_mid, hc]
    have : x = g j := by
     unfold rngN at hx
     rw [List.getElem?_map, List.getElem?_range hj] at hx
     simpa using hx.symm
    rw [this]) (by simp [Value.oneCell']) (by unfold maxLen; omega) (by omega) (h0.size)
  refine ⟨v', w', hr, ?_, h0.grown h3 (fun k hk => ?_)⟩
  ·unfold OwnN
   rw [List.length_append, hlen, List.map_append]
   exact h2
  ·rcases hv.2 with ⟨rfl, _⟩ | ⟨g, cap, cur, rfl, hb, r⟩
   ·cases hk
   ·simp [Value.ownBlock] at hk; omega
theorem wpList_appN {ops : Array Oper} {rest : List Oper} {o : Oper} {a : Act} {w w' : World} {Q : Exit → Act → World → Prop} {v v' x : Value} (hgd : o.guard = none) (s y : Operand)
  (ho : o.op = .call { callee := .builtin .append, args := #[s, y], argTypes := #[101, 101] }) (hty : o.type = 101) (hs : a.eval s = v) (hx : a.eval y = x)
  (hr : (Builtin.append_ #[101, 101] 101 #[v, x]).run Tryz.prog w = .ok v' w') (h : wpList Tryz.prog ops Q rest (a.put o.dst v') w') : wpList Tryz.prog ops Q (o :: rest) a w := by
 refine wpList_plain hgd fun K hK => ?_
 unfold Oper.wp execOp
 simp only [ho, hty, resolve, invoke, builtin, Sem.run_bind, Sem.run_pure, Result.andThen_ok, List.map_toArray, List.map_cons, List.map_nil, hs, hx, hr]
 exact hK _ _ h
def Wn (w : World) (base : Nat) (p : Option Addr) (n c : Nat) (l : List Int) : Prop := n = l.length ∧ n ≤ c ∧ ∀ j, j < l.length → ∃ g, p = some ⟨g, 0, none⟩ ∧ base ≤ g ∧ g < w.heap.size ∧ w.cell? ⟨g, j, none⟩ = some (.int .i64 (l.getD j 0))
theorem OwnN.wn {w : World} {base : Nat} {v : Value} {l : List Int} (h : OwnN w base v l) : ∃ p c, v = .slice p l.length c ∧ Wn w base p l.length c l := by
 rcases h.2 with ⟨e, h2⟩ | ⟨g, cap, cur, rfl, hb, hg, hc, hm, hsz, ht⟩
 ·refine ⟨none, 0, ?_, rfl, by omega, fun j hj => by omega⟩
  rw [e]
  have : l.length = 0 := by omega
  rw [this]
 ·refine ⟨_, _, rfl, rfl, hc, fun j hj => ⟨g, rfl, hb, heap_lt hg, ?_⟩⟩
  rw [cell_of_row _ _ _ _ _ _ hg]
  have hj' : j < l.length := hj
  have e := congrArg (fun L : List Value => L[j]?) ht
  simp only [Nat.mul_one] at e
  rw [List.getElem?_take_of_lt hj, List.getElem?_map, List.getElem?_eq_getElem hj'] at e
  rw [← Array.getElem?_toList, e, List.getD_eq_getElem?_getD, List.getElem?_eq_getElem hj']
  rfl
theorem Wn.kept {S : Nat → Prop} {w w' : World} {base : Nat} {p : Option Addr} {n c : Nat} {l : List Int} (h : Wn w base p n c l) (k : Kp S w w') (hS : ∀ g, base ≤ g → ¬ S g) : Wn w' base p n c l :=
 ⟨h.1, h.2.1, fun j hj => by
  obtain ⟨g, e, hb, hl, hc⟩ := h.2.2 j hj
  exact ⟨g, e, hb, Nat.lt_of_lt_of_le hl k.size, cell_kept hc k (hS g hb)⟩⟩
theorem Wn.mono {w : World} {base base' : Nat} {p : Option Addr} {n c : Nat} {l : List Int} (h : Wn w base p n c l) (hb : base' ≤ base) : Wn w base' p n c l :=
 ⟨h.1, h.2.1, fun j hj => by
  obtain ⟨g, e, hb', hl, hc⟩ := h.2.2 j hj
  exact ⟨g, e, Nat.le_trans hb hb', hl, hc⟩⟩
end Go.Proofs.YtonfjhbfkichkaaGreat.Pc
