/- The document's calls: Load, Check, Store, Sys, SetSys. -/
import Derived.Test.YtmmnnafjikilpaaGreatVpReach
import Derived.Test.YtmmnnafjikilpaaGreatVb
namespace Go.Proofs.YtmmnnafjikilpaaGreat
open Go.ChangeShapes Go.WideShapes Go.ChangeAt Go.RowKit Go.Maps
set_option linter.unusedVariables false
set_option maxRecDepth 20000

theorem findQ_rdb {M : Mem} (h : RdB M) (pg : Bool) (c l : Int) (n : Nat) (wr us wp : Bool) : RdB (findQ M pg c l n wr us wp).m := by
  unfold findQ
  split
  · exact h
  split
  · exact h
  split
  · exact h.find _ _ _ _ _
  split
  · exact h.find _ _ _ _ _
  · exact (h.find _ _ _ _ _).find _ _ _ _ _
theorem segQ_rdb {M : Mem} (h : RdB M) (c : Cp) (k off z : Int) (wr : Bool) : RdB (segQ M c k off z wr).m := by
  unfold segQ
  split
  · exact h
  split
  · exact h
  · exact findQ_rdb h _ _ _ _ _ _ _

theorem value_q (w : World) (R : Rf) (q : Qy) (h : RefAt w R q.m) (hb : RdB q.m) (hn : q.f = none → q.s.n = 1 ∨ q.s.n = 2 ∨ q.s.n = 4) (base : Nat) (v : Value) (hv : PlcV w base v q) :
    Calls Tryz.prog 44 #[.pointer (some ⟨R.r, 0, none⟩), v] w fun e w' => e = .returned (.int .u32 q.val) ∧ Kp noB w w' := by
  unfold PlcV at hv
  unfold Qy.val
  split at hv
  · rename_i f hf
    rw [hf, hv]
    exact (value_nil w _).mono fun e w' ⟨a, b⟩ => ⟨a, by rw [b]; exact Kp.refl _ _⟩
  · rename_i hf
    rw [hf]
    exact value_ok w R q.m h hb q.s (hn hf) base v hv
theorem put_q (w : World) (R : Rf) (q : Qy) (h : RefAt w R q.m) (hn : q.f = none → q.s.n = 1 ∨ q.s.n = 2 ∨ q.s.n = 4) (base : Nat) (v : Value) (hv : PlcV w base v q) (hR : ∀ k, R.has k → k < base) (x : Int) (x0 : 0 ≤ x) (x1 : x < 4294967296) :
    Calls Tryz.prog 45 #[.pointer (some ⟨R.r, 0, none⟩), v, .int .u32 x] w fun e w' => e = .returned (.tuple #[]) ∧ RefAt w' R (q.put x) ∧ Kp R.has w w' := by
  unfold PlcV at hv
  unfold Qy.put
  split at hv
  · rename_i f hf
    rw [hf, hv]
    exact (put_nil w _ x).mono fun e w' ⟨a, b⟩ => ⟨a, by rw [b]; exact h, by rw [b]; exact Kp.refl _ _⟩
  · rename_i hf
    rw [hf]
    exact put_ok w R q.m h q.s (hn hf) base v hv hR x x0 x1

/-- The last line: a value is told, and the fault that lies in a block. -/
structure LdI (W0 : World) (X Y : Nat) (f : Ft) (st : Bool) (W : World) : Prop where
  y : RowT W Y f
  x : ∃ g, RowT W (X + 1) g
  s : st = true → RowT W (X + 1) f
  k : Kp (fun j => j = X + 1) W0 W
theorem LdI.kp {W0 W W' : World} {X Y : Nat} {f : Ft} {st : Bool} (h : LdI W0 X Y f st W) (k : Kp noB W W') : LdI W0 X Y f st W' :=
  ⟨h.y.kp k (fun f => f), by obtain ⟨g, r⟩ := h.x; exact ⟨g, r.kp k (fun f => f)⟩, fun e => (h.s e).kp k (fun f => f), h.k.trans (k.mono (fun _ _ f => f.elim))⟩
theorem LdI.st {W0 W : World} {X Y : Nat} {f : Ft} {st : Bool} (h : LdI W0 X Y f st W) (hXY : Y ≠ X + 1) : LdI W0 X Y f true (setFt W (X + 1) f) := by
  obtain ⟨g, r⟩ := h.x
  exact ⟨h.y.kp (kp_setFt W (X + 1) f) hXY, ⟨f, r.set f⟩, fun _ => r.set f, h.k.trans (kp_setFt W (X + 1) f)⟩

set_option maxHeartbeats 4000000 in
theorem dLoad_any (w : World) (R : Rf) (M : Mem) (h : RefAt w R M) (cs : Array Value) (wf : WfC cs) (c : Cp) (hc : CpC cs c) (ok : c.Ok) (hb : RdB M) (k off z : Int) (o0 : 0 ≤ off) (o1 : off < 4294967296) :
    Calls Tryz.prog 20 #[.pointer (some ⟨R.r, 0, none⟩), .agg cs, .int .i64 k, .int .u32 off, .int .i64 z] w fun e w' => e = .returned (.tuple #[.int .u32 (segQ M c k off z false).val, (segQ M c k off z false).ft.val]) ∧ RefAt w' R (segQ M c k off z false).m ∧ Kp R.has w w' := by
  obtain ⟨T, nn, Z, hV⟩ := vlP
  obtain ⟨vl, vs, va, vb⟩ := hV.ops
  have g1 := hV.agg; have g2 := hV.size; have g3 := hV.zero
  obtain ⟨X, hX⟩ : ∃ X, w.heap.size = X := ⟨_, rfl⟩
  obtain ⟨pA, rT, k0, hs0⟩ := vst hV w wf hX
  obtain ⟨W0, hW0⟩ : ∃ W, W = (w.alloc (.cells cs T)).alloc (.cells #[.int .i64 0, .int .i64 0, .int .u32 0] 54) := ⟨_, rfl⟩
  rw [← hW0] at pA rT k0 hs0
  have hst := hV.new wf w
  have hsz : cs.size = nn := by rw [wf.s, hV.s]
  have HXR : Hid (∀ k, R.has k → k < X) := fun k hk => by rw [← hX]; exact h.lt hk
  have HXw : Hid (w.heap.size = X) := hX
  have hg0 := hV.get pA
  have HX2 : Hid (W0.heap.size = X + 2) := hs0
  have HR0 : Hid (RefAt W0 R M) := h.kp k0 (fun _ _ f => f)
  have HRe : Hid (Calls Tryz.prog 43 #[.pointer (some ⟨R.r, 0, none⟩), .agg cs, .int .i64 k, .int .u32 off, .int .i64 z, .bool false] W0 (ReP W0 R (segQ M c k off z false))) := dreach_any W0 R M HR0.out cs wf c hc ok hb k off z false o0 o1
  have hqb := segQ_rdb hb c k off z false
  have hqn : (segQ M c k off z false).f = none → (segQ M c k off z false).s.n = 1 ∨ (segQ M c k off z false).s.n = 2 ∨ (segQ M c k off z false).s.n = 4 := fun e => (segQ_s hb c k off z false e).1.n1
  generalize segQ M c k off z false = q at *
  obtain ⟨vv, hvv⟩ : ∃ vv, vv = q.val := ⟨_, rfl⟩
  rw [← hvv]
  unfold ReP at HRe
  obtain ⟨f, hf⟩ : ∃ f, f = q.ft := ⟨_, rfl⟩
  rw [← hf] at HRe ⊢
  clear hf
  obtain ⟨fv, fc, f2⟩ := f
  unfold Ft.val at HRe ⊢
  simp only at HRe ⊢
  have HQ : Hid (RdB q.m ∧ (q.f = none → q.s.n = 1 ∨ q.s.n = 2 ∨ q.s.n = 4) ∧ vv = q.val) := ⟨hqb, hqn, hvv⟩
  clear hqb hqn hvv hb
  clear hV wf h hc ok pA
  go_enter Tryz.func20, Tryz.ntmps20
  simp only [vl, vs, va, vb] at *
  go_upto_region 1 with fail
  rw [← hW0]
  clear hW0 hst hsz hX
  go_wp2_with fail
  refine Calls.mono HRe.out ?_
  rintro e w4 ⟨v, rfl, hv, hr4, k4⟩
  have kY := Kp.alloc noB w4 (.cells #[.int .i64 fv, .int .i64 fc, .int .u32 f2] 54)
  have rY : RowT (w4.alloc (.cells #[.int .i64 fv, .int .i64 fc, .int .u32 f2] 54)) w4.heap.size ⟨fv, fc, f2⟩ := (MapKept.heap_alloc w4 _).1
  have r1 := (rT.kp k4 (fun f => by have := HXR.out _ f; omega)).kp kY (fun f => f)
  have HV5 : Hid (PlcV (w4.alloc (.cells #[.int .i64 fv, .int .i64 fc, .int .u32 f2] 54)) W0.heap.size v q) := PlcV.kp hv kY (fun _ _ f => f) (Nat.le_refl _)
  have HR5 : Hid _ := hr4.kp kY (fun _ _ f => f)
  have HK5 : Hid _ := (kp_no (S := R.has) k0).trans (k4.trans (kp_no kY))
  have HY : Hid (X + 1 < w4.heap.size) := (show X + 1 < w4.heap.size by have := k4.size; rw [hs0] at this; omega)
  obtain ⟨Y, hY⟩ : ∃ Y, Y = w4.heap.size := ⟨_, rfl⟩
  obtain ⟨W5, hW5⟩ : ∃ W, W = w4.alloc (.cells #[.int .i64 fv, .int .i64 fc, .int .u32 f2] 54) := ⟨_, rfl⟩
  rw [← hW5] at rY r1 HV5 HR5 HK5
  rw [← hY] at rY HY
  go_upto_region 2 with fail
  rw [← hW5, ← hY]
  clear hW5 hY kY hr4 hv k4 rT hs0
  obtain ⟨hqb, hqn, hvv⟩ := HQ.out
  have HXS : Hid (W0.heap.size = X + 2) := HX2.out
  have HVl : Hid (∀ W, PlcV W W0.heap.size v q → RefAt W R q.m → Calls Tryz.prog 44 #[.pointer (some ⟨R.r, 0, none⟩), v] W fun e w' => e = .returned (.int .u32 vv) ∧ Kp noB W w') := fun W a b => by rw [hvv]; exact value_q W R q b hqb hqn _ v a
  have HXa : Hid (X + 1 < W0.heap.size) := (show X + 1 < W0.heap.size by have := HXS.out; omega)
  clear hqb hqn hvv HQ HRe
  have HI0 : Hid (LdI W5 X Y ⟨fv, fc, f2⟩ false { W5 with drawn := W5.drawn + 1 }) := LdI.kp ⟨rY, ⟨_, r1⟩, fun e => by (cases e), Kp.refl _ _⟩ (Kp.refl noB W5).drew
  clear rY r1
  refine OrdG.region_vals (τ := Unit) (fun t => [(.pointer (some ⟨R.r, 0, none⟩)), v, (.int .u32 vv), (.agg #[.int .i64 fv, .int .i64 fc, .int .u32 f2]), (.int .u32 vv), undef]) (fun t listed w' => LdI W5 X Y ⟨fv, fc, f2⟩ (listed.getD 5 false) w') () (by kernel_rfl) (by kernel_rfl) (by kernel_rfl) (by kernel_rfl) (fun _ => rfl) (fun t => by simp only [OrdG.puts, Act.put, List.setIfInBounds_toArray, List.set_cons_zero, List.set_cons_succ]; rfl) (fun _ => by kernel_rfl) HI0.out ?_ ?_
  · refine ⟨?_, ?_, ?_, ?_, ?_, ?_, trivial⟩
    all_goals (intro t listed W' hz hSh hl hI hb KK hK hK0; change LdI W5 X Y ⟨fv, fc, f2⟩ (listed.getD 5 false) W' at hI; replace hz : listed.size = 6 := hz)
    · go_simp
      exact hK0 _ (by show LdI W5 X Y ⟨fv, fc, f2⟩ (Array.getD _ 5 false) _; rw [getD_set_ne false (by decide)]; exact hI)
    · go_simp
      exact hK0 _ (by show LdI W5 X Y ⟨fv, fc, f2⟩ (Array.getD _ 5 false) _; rw [getD_set_ne false (by decide)]; exact hI)
    · have H1 : Hid _ := HVl.out W' (PlcV.kp HV5.out hI.k (fun j hj e => by have := HXa.out; omega) (Nat.le_refl _)) (HR5.out.kp hI.k (fun j hj e => by have := HXR.out j hj; omega))
      go_simp
      refine Calls.mono H1.out ?_; rintro e z5 ⟨rfl, h1⟩
      exact hK0 _ (by show LdI W5 X Y ⟨fv, fc, f2⟩ (Array.getD _ 5 false) _; rw [getD_set_ne false (by decide)]; exact hI.kp h1)
    · obtain ⟨z0, z1, z2⟩ : _ ∧ _ ∧ _ := ⟨hI.y.c0, hI.y.c1, hI.y.c2⟩
      go_simp
      exact hK0 _ (by show LdI W5 X Y ⟨fv, fc, f2⟩ (Array.getD _ 5 false) _; rw [getD_set_ne false (by decide)]; exact hI)
    · go_simp
      exact hK0 _ (by show LdI W5 X Y ⟨fv, fc, f2⟩ (Array.getD _ 5 false) _; rw [getD_set_ne false (by decide)]; exact hI)
    · obtain ⟨g, rg⟩ := hI.x
      obtain ⟨z0, z1, z2⟩ : _ ∧ _ ∧ _ := ⟨rg.c0, rg.c1, rg.c2⟩
      obtain ⟨y0, y1, y2⟩ : _ ∧ _ ∧ _ := ⟨rg.fz 0, rg.fz 1, rg.fz 2⟩
      go_simp
      refine hK0 _ ?_
      show LdI W5 X Y ⟨fv, fc, f2⟩ (Array.getD _ 5 false) _
      rw [OrdG.getD_self hz (by decide)]
      exact hI.st (by have := HY.out; omega)
  · intro t listed W' hall hI
    change LdI W5 X Y ⟨fv, fc, f2⟩ (listed.getD 5 false) W' at hI
    have r5 := hI.s (hall 5 (by show 5 < 6; decide))
    have HI : Hid (Kp (fun j => j = X + 1) W5 W') := hI.k
    clear hI hall
    obtain ⟨d0, d1, d2⟩ : _ ∧ _ ∧ _ := ⟨r5.c0, r5.c1, r5.c2⟩
    go_wp2
    exact bodyPost_ret (v := .tuple #[.int .u32 vv, .agg #[.int .i64 fv, .int .i64 fc, .int .u32 f2]]) (by simp [results, Tryz.results20, go_sem, d0, d1, d2]) rfl ⟨rfl, HR5.out.kp HI.out (fun j hj e => by have := HXR.out j hj; omega), HK5.out.over HI.out (fun j hj e => by have := HXw.out; omega)⟩

set_option maxHeartbeats 4000000 in
theorem dCheck_any (w : World) (R : Rf) (M : Mem) (h : RefAt w R M) (cs : Array Value) (wf : WfC cs) (c : Cp) (hc : CpC cs c) (ok : c.Ok) (hb : RdB M) (k off z : Int) (o0 : 0 ≤ off) (o1 : off < 4294967296) :
    Calls Tryz.prog 23 #[.pointer (some ⟨R.r, 0, none⟩), .agg cs, .int .i64 k, .int .u32 off, .int .i64 z] w fun e w' => e = .returned ((segQ M c k off z true).ft.val) ∧ RefAt w' R (segQ M c k off z true).m ∧ Kp R.has w w' := by
  obtain ⟨T, nn, Z, hV⟩ := vlP
  obtain ⟨vl, vs, va, vb⟩ := hV.ops
  have g1 := hV.agg; have g2 := hV.size; have g3 := hV.zero
  obtain ⟨X, hX⟩ : ∃ X, w.heap.size = X := ⟨_, rfl⟩
  obtain ⟨pA, rT, k0, hs0⟩ := vst hV w wf hX
  obtain ⟨W0, hW0⟩ : ∃ W, W = (w.alloc (.cells cs T)).alloc (.cells #[.int .i64 0, .int .i64 0, .int .u32 0] 54) := ⟨_, rfl⟩
  rw [← hW0] at pA rT k0 hs0
  have hst := hV.new wf w
  have hsz : cs.size = nn := by rw [wf.s, hV.s]
  have HXR : Hid (∀ k, R.has k → k < X) := fun k hk => by rw [← hX]; exact h.lt hk
  have HXw : Hid (w.heap.size = X) := hX
  have hg0 := hV.get pA
  have HX2 : Hid (W0.heap.size = X + 2) := hs0
  have HR0 : Hid (RefAt W0 R M) := h.kp k0 (fun _ _ f => f)
  have HRe : Hid (Calls Tryz.prog 43 #[.pointer (some ⟨R.r, 0, none⟩), .agg cs, .int .i64 k, .int .u32 off, .int .i64 z, .bool true] W0 (ReP W0 R (segQ M c k off z true))) := dreach_any W0 R M HR0.out cs wf c hc ok hb k off z true o0 o1
  generalize segQ M c k off z true = q at *
  unfold ReP at HRe
  obtain ⟨f, hf⟩ : ∃ f, f = q.ft := ⟨_, rfl⟩
  rw [← hf] at HRe ⊢
  clear hf
  obtain ⟨fv, fc, f2⟩ := f
  unfold Ft.val at HRe ⊢
  simp only at HRe ⊢
  clear hb
  clear hV wf h hc ok pA
  go_enter Tryz.func23, Tryz.ntmps23
  simp only [vl, vs, va, vb] at *
  go_upto_region 1 with fail
  rw [← hW0]
  clear hW0 hst hsz hX
  go_wp2_with fail
  refine Calls.mono HRe.out ?_
  rintro e w4 ⟨v, rfl, hv, hr4, k4⟩
  have kY := Kp.alloc noB w4 (.cells #[.int .i64 fv, .int .i64 fc, .int .u32 f2] 54)
  have rY : RowT (w4.alloc (.cells #[.int .i64 fv, .int .i64 fc, .int .u32 f2] 54)) w4.heap.size ⟨fv, fc, f2⟩ := (MapKept.heap_alloc w4 _).1
  have r1 := (rT.kp k4 (fun f => by have := HXR.out _ f; omega)).kp kY (fun f => f)
  have HV5 : Hid (PlcV (w4.alloc (.cells #[.int .i64 fv, .int .i64 fc, .int .u32 f2] 54)) W0.heap.size v q) := PlcV.kp hv kY (fun _ _ f => f) (Nat.le_refl _)
  have HR5 : Hid _ := hr4.kp kY (fun _ _ f => f)
  have HK5 : Hid _ := (kp_no (S := R.has) k0).trans (k4.trans (kp_no kY))
  have HY : Hid (X + 1 < w4.heap.size) := (show X + 1 < w4.heap.size by have := k4.size; rw [hs0] at this; omega)
  obtain ⟨Y, hY⟩ : ∃ Y, Y = w4.heap.size := ⟨_, rfl⟩
  obtain ⟨W5, hW5⟩ : ∃ W, W = w4.alloc (.cells #[.int .i64 fv, .int .i64 fc, .int .u32 f2] 54) := ⟨_, rfl⟩
  rw [← hW5] at rY r1 HV5 HR5 HK5
  rw [← hY] at rY HY
  go_upto_region 2 with fail
  rw [← hW5, ← hY]
  clear hW5 hY kY hr4 hv k4 rT hs0
  obtain ⟨y0, y1, y2⟩ : _ ∧ _ ∧ _ := ⟨rY.c0, rY.c1, rY.c2⟩
  obtain ⟨z0, z1, z2⟩ : _ ∧ _ ∧ _ := ⟨r1.c0, r1.c1, r1.c2⟩
  obtain ⟨e0, e1, e2⟩ : _ ∧ _ ∧ _ := ⟨r1.fz 0, r1.fz 1, r1.fz 2⟩
  have r5 := r1.set ⟨fv, fc, f2⟩
  have k5 := kp_setFt W5 (X + 1) ⟨fv, fc, f2⟩
  obtain ⟨d0, d1, d2⟩ : _ ∧ _ ∧ _ := ⟨r5.c0, r5.c1, r5.c2⟩
  have HR7 : Hid _ := HR5.out.kp k5 (fun j hj e => by have := HXR.out j hj; omega)
  have HK7 : Hid _ := HK5.out.over k5 (fun j hj e => by have := HXw.out; omega)
  clear r5 k5 rY r1
  unfold setFt at *
  go_wp2
  exact bodyPost_ret (v := .agg #[.int .i64 fv, .int .i64 fc, .int .u32 f2]) (by simp [results, Tryz.results23, go_sem, d0, d1, d2]) rfl ⟨rfl, HR7.out, HK7.out⟩

set_option maxHeartbeats 4000000 in
theorem dStore_any (w : World) (R : Rf) (M : Mem) (h : RefAt w R M) (cs : Array Value) (wf : WfC cs) (c : Cp) (hc : CpC cs c) (ok : c.Ok) (hb : RdB M) (k off z x : Int) (o0 : 0 ≤ off) (o1 : off < 4294967296) (x0 : 0 ≤ x) (x1 : x < 4294967296) :
    Calls Tryz.prog 21 #[.pointer (some ⟨R.r, 0, none⟩), .agg cs, .int .i64 k, .int .u32 off, .int .i64 z, .int .u32 x] w fun e w' => e = .returned ((segQ M c k off z true).ft.val) ∧ RefAt w' R ((segQ M c k off z true).put x) ∧ Kp R.has w w' := by
  obtain ⟨T, nn, Z, hV⟩ := vlP
  obtain ⟨vl, vs, va, vb⟩ := hV.ops
  have g1 := hV.agg; have g2 := hV.size; have g3 := hV.zero
  obtain ⟨X, hX⟩ : ∃ X, w.heap.size = X := ⟨_, rfl⟩
  obtain ⟨pA, rT, k0, hs0⟩ := vst hV w wf hX
  obtain ⟨W0, hW0⟩ : ∃ W, W = (w.alloc (.cells cs T)).alloc (.cells #[.int .i64 0, .int .i64 0, .int .u32 0] 54) := ⟨_, rfl⟩
  rw [← hW0] at pA rT k0 hs0
  have hst := hV.new wf w
  have hsz : cs.size = nn := by rw [wf.s, hV.s]
  have HXR : Hid (∀ k, R.has k → k < X) := fun k hk => by rw [← hX]; exact h.lt hk
  have HXw : Hid (w.heap.size = X) := hX
  have hg0 := hV.get pA
  have HX2 : Hid (W0.heap.size = X + 2) := hs0
  have HR0 : Hid (RefAt W0 R M) := h.kp k0 (fun _ _ f => f)
  have HRe : Hid (Calls Tryz.prog 43 #[.pointer (some ⟨R.r, 0, none⟩), .agg cs, .int .i64 k, .int .u32 off, .int .i64 z, .bool true] W0 (ReP W0 R (segQ M c k off z true))) := dreach_any W0 R M HR0.out cs wf c hc ok hb k off z true o0 o1
  have hqn : (segQ M c k off z true).f = none → (segQ M c k off z true).s.n = 1 ∨ (segQ M c k off z true).s.n = 2 ∨ (segQ M c k off z true).s.n = 4 := fun e => (segQ_s hb c k off z true e).1.n1
  generalize segQ M c k off z true = q at *
  unfold ReP at HRe
  obtain ⟨f, hf⟩ : ∃ f, f = q.ft := ⟨_, rfl⟩
  rw [← hf] at HRe ⊢
  clear hf
  obtain ⟨fv, fc, f2⟩ := f
  unfold Ft.val at HRe ⊢
  simp only at HRe ⊢
  have HQ : Hid (q.f = none → q.s.n = 1 ∨ q.s.n = 2 ∨ q.s.n = 4) := hqn
  clear hqn hb
  clear hV wf h hc ok pA
  go_enter Tryz.func21, Tryz.ntmps21
  simp only [vl, vs, va, vb] at *
  go_upto_region 1 with fail
  rw [← hW0]
  clear hW0 hst hsz hX
  go_wp2_with fail
  refine Calls.mono HRe.out ?_
  rintro e w4 ⟨v, rfl, hv, hr4, k4⟩
  have kY := Kp.alloc noB w4 (.cells #[.int .i64 fv, .int .i64 fc, .int .u32 f2] 54)
  have rY : RowT (w4.alloc (.cells #[.int .i64 fv, .int .i64 fc, .int .u32 f2] 54)) w4.heap.size ⟨fv, fc, f2⟩ := (MapKept.heap_alloc w4 _).1
  have r1 := (rT.kp k4 (fun f => by have := HXR.out _ f; omega)).kp kY (fun f => f)
  have HV5 : Hid (PlcV (w4.alloc (.cells #[.int .i64 fv, .int .i64 fc, .int .u32 f2] 54)) W0.heap.size v q) := PlcV.kp hv kY (fun _ _ f => f) (Nat.le_refl _)
  have HR5 : Hid _ := hr4.kp kY (fun _ _ f => f)
  have HK5 : Hid _ := (kp_no (S := R.has) k0).trans (k4.trans (kp_no kY))
  have HY : Hid (X + 1 < w4.heap.size) := (show X + 1 < w4.heap.size by have := k4.size; rw [hs0] at this; omega)
  obtain ⟨Y, hY⟩ : ∃ Y, Y = w4.heap.size := ⟨_, rfl⟩
  obtain ⟨W5, hW5⟩ : ∃ W, W = w4.alloc (.cells #[.int .i64 fv, .int .i64 fc, .int .u32 f2] 54) := ⟨_, rfl⟩
  rw [← hW5] at rY r1 HV5 HR5 HK5
  rw [← hY] at rY HY
  go_upto_region 2 with fail
  rw [← hW5, ← hY]
  clear hW5 hY kY hr4 hv k4 rT hs0
  have HPt : Hid (Calls Tryz.prog 45 #[.pointer (some ⟨R.r, 0, none⟩), v, .int .u32 x] W5 fun e w' => e = .returned (.tuple #[]) ∧ RefAt w' R (q.put x) ∧ Kp R.has W5 w') := put_q W5 R q HR5.out HQ.out _ v HV5.out (fun j hj => by have := HXR.out j hj; have := HX2.out; omega) x x0 x1
  go_wp2_with fail
  refine Calls.mono HPt.out ?_; rintro e w6 ⟨rfl, hr6, k6⟩
  replace rY := rY.kp k6 (fun f => by have := HXR.out _ f; have := HY.out; omega)
  replace r1 := r1.kp k6 (fun f => by have := HXR.out _ f; omega)
  replace HK5 : Hid _ := HK5.out.trans k6
  replace HR5 : Hid _ := hr6
  clear HPt k6 hr6 HV5
  obtain ⟨y0, y1, y2⟩ : _ ∧ _ ∧ _ := ⟨rY.c0, rY.c1, rY.c2⟩
  obtain ⟨z0, z1, z2⟩ : _ ∧ _ ∧ _ := ⟨r1.c0, r1.c1, r1.c2⟩
  obtain ⟨e0, e1, e2⟩ : _ ∧ _ ∧ _ := ⟨r1.fz 0, r1.fz 1, r1.fz 2⟩
  have r5 := r1.set ⟨fv, fc, f2⟩
  have k5 := kp_setFt w6 (X + 1) ⟨fv, fc, f2⟩
  obtain ⟨d0, d1, d2⟩ : _ ∧ _ ∧ _ := ⟨r5.c0, r5.c1, r5.c2⟩
  have HR7 : Hid _ := HR5.out.kp k5 (fun j hj e => by have := HXR.out j hj; omega)
  have HK7 : Hid _ := HK5.out.over k5 (fun j hj e => by have := HXw.out; omega)
  clear r5 k5 rY r1
  unfold setFt at *
  go_wp2
  exact bodyPost_ret (v := .agg #[.int .i64 fv, .int .i64 fc, .int .u32 f2]) (by simp [results, Tryz.results21, go_sem, d0, d1, d2]) rfl ⟨rfl, HR7.out, HK7.out⟩

set_option maxHeartbeats 4000000 in
theorem dSys_any (w : World) (R : Rf) (M : Mem) (h : RefAt w R M) (cs : Array Value) (wf : WfC cs) (c : Cp) (hc : CpC cs c) (ok : c.Ok) (hb : RdB M) (l z : Int) (l0 : 0 ≤ l) (l1 : l < 4294967296) :
    Calls Tryz.prog 25 #[.pointer (some ⟨R.r, 0, none⟩), .agg cs, .int .u32 l, .int .i64 z] w fun e w' => e = .returned (.tuple #[.int .u32 (sysQ M c l z false).val, (sysQ M c l z false).ft.val]) ∧ RefAt w' R (sysQ M c l z false).m ∧ Kp R.has w w' := by
  obtain ⟨T, nn, Z, hV⟩ := vlP
  obtain ⟨vl, vs, va, vb⟩ := hV.ops
  have g1 := hV.agg; have g2 := hV.size; have g3 := hV.zero
  obtain ⟨X, hX⟩ : ∃ X, w.heap.size = X := ⟨_, rfl⟩
  obtain ⟨pA, rT, k0, hs0⟩ := vst hV w wf hX
  obtain ⟨W0, hW0⟩ : ∃ W, W = (w.alloc (.cells cs T)).alloc (.cells #[.int .i64 0, .int .i64 0, .int .u32 0] 54) := ⟨_, rfl⟩
  rw [← hW0] at pA rT k0 hs0
  have hst := hV.new wf w
  have hsz : cs.size = nn := by rw [wf.s, hV.s]
  have HXR : Hid (∀ k, R.has k → k < X) := fun k hk => by rw [← hX]; exact h.lt hk
  have HXw : Hid (w.heap.size = X) := hX
  have hg0 := hV.get pA
  have HX2 : Hid (W0.heap.size = X + 2) := hs0
  have HR0 : Hid (RefAt W0 R M) := h.kp k0 (fun _ _ f => f)
  have cS := vSized W0 z
  cases hz : okS z
  · have e : (sysQ M c l z false) = ⟨some (ftV 13), M, ⟨0, 0, 0, 0⟩⟩ := by unfold sysQ; rw [if_pos hz]
    rw [e]
    show Calls _ _ _ _ fun e w' => e = .returned (.tuple #[.int .u32 0, .agg #[.int .i64 13, .int .i64 0, .int .u32 0]]) ∧ RefAt w' R M ∧ Kp R.has w w'
    rw [hz] at cS
    clear hz e hb
    clear hV wf h hc ok pA
    go_enter Tryz.func25, Tryz.ntmps25
    simp only [vl, vs, va, vb] at *
    go_upto_region 1 with fail
    rw [← hW0]
    clear hW0 hst hsz hX
    go_wp2_with (first | (go_at_call 49; refine cS.mono ?_; rintro e w' ⟨rfl, hw⟩; replace hw := hw.symm; subst hw) | (go_at_call 50; refine (vFaults _ _ _).mono ?_; rintro e w2 ⟨rfl, k2⟩; have r2 := rT.kp k2 (fun f => f); obtain ⟨c0, c1, c2⟩ : _ ∧ _ ∧ _ := ⟨r2.c0, r2.c1, r2.c2⟩; obtain ⟨f0, f1, f2⟩ : _ ∧ _ ∧ _ := ⟨r2.fz 0, r2.fz 1, r2.fz 2⟩; have r5 := r2.set ⟨13, 0, 0⟩; have k5 := kp_setFt w2 (X + 1) ⟨13, 0, 0⟩; obtain ⟨d0, d1, d2⟩ : _ ∧ _ ∧ _ := ⟨r5.c0, r5.c1, r5.c2⟩; unfold setFt at *))
    exact bodyPost_ret (v := .tuple #[.int .u32 0, .agg #[.int .i64 13, .int .i64 0, .int .u32 0]]) (by simp [results, Tryz.results25, go_sem, d0, d1, d2]) rfl ⟨rfl, (HR0.out.kp k2 (fun _ _ f => f)).kp k5 (fun j hj e => by have := HXR.out j hj; omega), (kp_no (k0.trans k2)).over k5 (fun j hj e => by have := HXw.out; omega)⟩
  · obtain ⟨n, rfl⟩ : ∃ n : Nat, z = n := ⟨z.toNat, by have : z = 1 ∨ z = 2 ∨ z = 4 := of_decide_eq_true hz; omega⟩
    have hn : n = 1 ∨ n = 2 ∨ n = 4 := by simpa using okS_n hz
    have e : (sysQ M c l n false) = (pqC c l n false true).q M := by
      unfold sysQ
      rw [if_neg (by rw [hz]; simp)]
      unfold pqC Pq.q
      simp
    have hqn : (sysQ M c l n false).f = none → (sysQ M c l n false).s.n = 1 ∨ (sysQ M c l n false).s.n = 2 ∨ (sysQ M c l n false).s.n = 4 := fun e => (sysQ_s hb c l n false l0 l1 e).1.n1
    have hqb : RdB (sysQ M c l n false).m := by rw [e]; exact findQ_rdb hb _ _ _ _ _ _ _
    have HRe : Hid (Calls Tryz.prog 51 #[.pointer (some ⟨R.r, 0, none⟩), .agg cs, .int .u32 l, .int .i64 n, .bool false, .bool true] W0 (ReP W0 R (sysQ M c l n false))) := by rw [e]; exact places_any W0 R M HR0.out hb cs wf c hc ok l n false true l0 l1 hn
    rw [hz] at cS
    clear hz e hn
    generalize sysQ M c l n false = q at *
    unfold ReP at HRe
    obtain ⟨vv, hvv⟩ : ∃ vv, vv = q.val := ⟨_, rfl⟩
    rw [← hvv]
    obtain ⟨f, hf⟩ : ∃ f, f = q.ft := ⟨_, rfl⟩
    rw [← hf] at HRe ⊢
    clear hf
    obtain ⟨fv, fc, f2⟩ := f
    unfold Ft.val at HRe ⊢
    simp only at HRe ⊢
    have HQ : Hid (RdB q.m ∧ (q.f = none → q.s.n = 1 ∨ q.s.n = 2 ∨ q.s.n = 4) ∧ vv = q.val) := ⟨hqb, hqn, hvv⟩
    clear hqb hqn hvv hb
    clear hV wf h hc ok pA
    go_enter Tryz.func25, Tryz.ntmps25
    simp only [vl, vs, va, vb] at *
    go_upto_region 1 with fail
    rw [← hW0]
    clear hW0 hst hsz hX
    go_upto_region 4 with (first | (go_at_call 49; refine cS.mono ?_; rintro e w' ⟨rfl, hw⟩; replace hw := hw.symm; subst hw))
    go_wp2_with fail
    refine Calls.mono HRe.out ?_
    rintro e w4 ⟨v, rfl, hv, hr4, k4⟩
    have kY := Kp.alloc noB w4 (.cells #[.int .i64 fv, .int .i64 fc, .int .u32 f2] 54)
    have rY : RowT (w4.alloc (.cells #[.int .i64 fv, .int .i64 fc, .int .u32 f2] 54)) w4.heap.size ⟨fv, fc, f2⟩ := (MapKept.heap_alloc w4 _).1
    have r1 := (rT.kp k4 (fun f => by have := HXR.out _ f; omega)).kp kY (fun f => f)
    have HV5 : Hid (PlcV (w4.alloc (.cells #[.int .i64 fv, .int .i64 fc, .int .u32 f2] 54)) W0.heap.size v q) := PlcV.kp hv kY (fun _ _ f => f) (Nat.le_refl _)
    have HR5 : Hid _ := hr4.kp kY (fun _ _ f => f)
    have HK5 : Hid _ := (kp_no (S := R.has) k0).trans (k4.trans (kp_no kY))
    have HY : Hid (X + 1 < w4.heap.size) := (show X + 1 < w4.heap.size by have := k4.size; rw [hs0] at this; omega)
    obtain ⟨Y, hY⟩ : ∃ Y, Y = w4.heap.size := ⟨_, rfl⟩
    obtain ⟨W5, hW5⟩ : ∃ W, W = w4.alloc (.cells #[.int .i64 fv, .int .i64 fc, .int .u32 f2] 54) := ⟨_, rfl⟩
    rw [← hW5] at rY r1 HV5 HR5 HK5
    rw [← hY] at rY HY
    go_upto_region 5 with fail
    rw [← hW5, ← hY]
    clear hW5 hY kY hr4 hv k4 rT hs0
    obtain ⟨hqb, hqn, hvv⟩ := HQ.out
    have HXS : Hid (W0.heap.size = X + 2) := HX2.out
    have HVl : Hid (∀ W, PlcV W W0.heap.size v q → RefAt W R q.m → Calls Tryz.prog 44 #[.pointer (some ⟨R.r, 0, none⟩), v] W fun e w' => e = .returned (.int .u32 vv) ∧ Kp noB W w') := fun W a b => by rw [hvv]; exact value_q W R q b hqb hqn _ v a
    have HXa : Hid (X + 1 < W0.heap.size) := (show X + 1 < W0.heap.size by have := HXS.out; omega)
    clear hqb hqn hvv HQ HRe
    have HI0 : Hid (LdI W5 X Y ⟨fv, fc, f2⟩ false { W5 with drawn := W5.drawn + 1 }) := LdI.kp ⟨rY, ⟨_, r1⟩, fun e => by (cases e), Kp.refl _ _⟩ (Kp.refl noB W5).drew
    clear rY r1
    refine OrdG.region_vals (τ := Unit) (fun t => [(.pointer (some ⟨R.r, 0, none⟩)), v, (.int .u32 vv), (.agg #[.int .i64 fv, .int .i64 fc, .int .u32 f2]), (.int .u32 vv), undef]) (fun t listed w' => LdI W5 X Y ⟨fv, fc, f2⟩ (listed.getD 5 false) w') () (by kernel_rfl) (by kernel_rfl) (by kernel_rfl) (by kernel_rfl) (fun _ => rfl) (fun t => by simp only [OrdG.puts, Act.put, List.setIfInBounds_toArray, List.set_cons_zero, List.set_cons_succ]; rfl) (fun _ => by kernel_rfl) HI0.out ?_ ?_
    · refine ⟨?_, ?_, ?_, ?_, ?_, ?_, trivial⟩
      all_goals (intro t listed W' hz hSh hl hI hb KK hK hK0; change LdI W5 X Y ⟨fv, fc, f2⟩ (listed.getD 5 false) W' at hI; replace hz : listed.size = 6 := hz)
      · go_simp
        exact hK0 _ (by show LdI W5 X Y ⟨fv, fc, f2⟩ (Array.getD _ 5 false) _; rw [getD_set_ne false (by decide)]; exact hI)
      · go_simp
        exact hK0 _ (by show LdI W5 X Y ⟨fv, fc, f2⟩ (Array.getD _ 5 false) _; rw [getD_set_ne false (by decide)]; exact hI)
      · have H1 : Hid _ := HVl.out W' (PlcV.kp HV5.out hI.k (fun j hj e => by have := HXa.out; omega) (Nat.le_refl _)) (HR5.out.kp hI.k (fun j hj e => by have := HXR.out j hj; omega))
        go_simp
        refine Calls.mono H1.out ?_; rintro e z5 ⟨rfl, h1⟩
        exact hK0 _ (by show LdI W5 X Y ⟨fv, fc, f2⟩ (Array.getD _ 5 false) _; rw [getD_set_ne false (by decide)]; exact hI.kp h1)
      · obtain ⟨z0, z1, z2⟩ : _ ∧ _ ∧ _ := ⟨hI.y.c0, hI.y.c1, hI.y.c2⟩
        go_simp
        exact hK0 _ (by show LdI W5 X Y ⟨fv, fc, f2⟩ (Array.getD _ 5 false) _; rw [getD_set_ne false (by decide)]; exact hI)
      · go_simp
        exact hK0 _ (by show LdI W5 X Y ⟨fv, fc, f2⟩ (Array.getD _ 5 false) _; rw [getD_set_ne false (by decide)]; exact hI)
      · obtain ⟨g, rg⟩ := hI.x
        obtain ⟨z0, z1, z2⟩ : _ ∧ _ ∧ _ := ⟨rg.c0, rg.c1, rg.c2⟩
        obtain ⟨y0, y1, y2⟩ : _ ∧ _ ∧ _ := ⟨rg.fz 0, rg.fz 1, rg.fz 2⟩
        go_simp
        refine hK0 _ ?_
        show LdI W5 X Y ⟨fv, fc, f2⟩ (Array.getD _ 5 false) _
        rw [OrdG.getD_self hz (by decide)]
        exact hI.st (by have := HY.out; omega)
    · intro t listed W' hall hI
      change LdI W5 X Y ⟨fv, fc, f2⟩ (listed.getD 5 false) W' at hI
      have r5 := hI.s (hall 5 (by show 5 < 6; decide))
      have HI : Hid (Kp (fun j => j = X + 1) W5 W') := hI.k
      clear hI hall
      obtain ⟨d0, d1, d2⟩ : _ ∧ _ ∧ _ := ⟨r5.c0, r5.c1, r5.c2⟩
      go_wp2
      exact bodyPost_ret (v := .tuple #[.int .u32 vv, .agg #[.int .i64 fv, .int .i64 fc, .int .u32 f2]]) (by simp [results, Tryz.results25, go_sem, d0, d1, d2]) rfl ⟨rfl, HR5.out.kp HI.out (fun j hj e => by have := HXR.out j hj; omega), HK5.out.over HI.out (fun j hj e => by have := HXw.out; omega)⟩

set_option maxHeartbeats 4000000 in
theorem dSetSys_any (w : World) (R : Rf) (M : Mem) (h : RefAt w R M) (cs : Array Value) (wf : WfC cs) (c : Cp) (hc : CpC cs c) (ok : c.Ok) (hb : RdB M) (l z x : Int) (l0 : 0 ≤ l) (l1 : l < 4294967296) (x0 : 0 ≤ x) (x1 : x < 4294967296) :
    Calls Tryz.prog 27 #[.pointer (some ⟨R.r, 0, none⟩), .agg cs, .int .u32 l, .int .i64 z, .int .u32 x] w fun e w' => e = .returned ((sysQ M c l z true).ft.val) ∧ RefAt w' R ((sysQ M c l z true).put x) ∧ Kp R.has w w' := by
  obtain ⟨T, nn, Z, hV⟩ := vlP
  obtain ⟨vl, vs, va, vb⟩ := hV.ops
  have g1 := hV.agg; have g2 := hV.size; have g3 := hV.zero
  obtain ⟨X, hX⟩ : ∃ X, w.heap.size = X := ⟨_, rfl⟩
  obtain ⟨pA, rT, k0, hs0⟩ := vst hV w wf hX
  obtain ⟨W0, hW0⟩ : ∃ W, W = (w.alloc (.cells cs T)).alloc (.cells #[.int .i64 0, .int .i64 0, .int .u32 0] 54) := ⟨_, rfl⟩
  rw [← hW0] at pA rT k0 hs0
  have hst := hV.new wf w
  have hsz : cs.size = nn := by rw [wf.s, hV.s]
  have HXR : Hid (∀ k, R.has k → k < X) := fun k hk => by rw [← hX]; exact h.lt hk
  have HXw : Hid (w.heap.size = X) := hX
  have hg0 := hV.get pA
  have HX2 : Hid (W0.heap.size = X + 2) := hs0
  have HR0 : Hid (RefAt W0 R M) := h.kp k0 (fun _ _ f => f)
  have cS := vSized W0 z
  cases hz : okS z
  · have e : (sysQ M c l z true) = ⟨some (ftV 13), M, ⟨0, 0, 0, 0⟩⟩ := by unfold sysQ; rw [if_pos hz]
    rw [e]
    show Calls _ _ _ _ fun e w' => e = .returned (.agg #[.int .i64 13, .int .i64 0, .int .u32 0]) ∧ RefAt w' R M ∧ Kp R.has w w'
    rw [hz] at cS
    clear hz e hb
    clear hV wf h hc ok pA
    go_enter Tryz.func27, Tryz.ntmps27
    simp only [vl, vs, va, vb] at *
    go_upto_region 1 with fail
    rw [← hW0]
    clear hW0 hst hsz hX
    go_wp2_with (first | (go_at_call 49; refine cS.mono ?_; rintro e w' ⟨rfl, hw⟩; replace hw := hw.symm; subst hw) | (go_at_call 50; refine (vFaults _ _ _).mono ?_; rintro e w2 ⟨rfl, k2⟩; have r2 := rT.kp k2 (fun f => f); obtain ⟨c0, c1, c2⟩ : _ ∧ _ ∧ _ := ⟨r2.c0, r2.c1, r2.c2⟩; obtain ⟨f0, f1, f2⟩ : _ ∧ _ ∧ _ := ⟨r2.fz 0, r2.fz 1, r2.fz 2⟩; have r5 := r2.set ⟨13, 0, 0⟩; have k5 := kp_setFt w2 (X + 1) ⟨13, 0, 0⟩; obtain ⟨d0, d1, d2⟩ : _ ∧ _ ∧ _ := ⟨r5.c0, r5.c1, r5.c2⟩; unfold setFt at *))
    exact bodyPost_ret (v := .agg #[.int .i64 13, .int .i64 0, .int .u32 0]) (by simp [results, Tryz.results27, go_sem, d0, d1, d2]) rfl ⟨rfl, (HR0.out.kp k2 (fun _ _ f => f)).kp k5 (fun j hj e => by have := HXR.out j hj; omega), (kp_no (k0.trans k2)).over k5 (fun j hj e => by have := HXw.out; omega)⟩
  · obtain ⟨n, rfl⟩ : ∃ n : Nat, z = n := ⟨z.toNat, by have : z = 1 ∨ z = 2 ∨ z = 4 := of_decide_eq_true hz; omega⟩
    have hn : n = 1 ∨ n = 2 ∨ n = 4 := by simpa using okS_n hz
    have e : (sysQ M c l n true) = (pqC c l n true true).q M := by
      unfold sysQ
      rw [if_neg (by rw [hz]; simp)]
      unfold pqC Pq.q
      simp
    have hqn : (sysQ M c l n true).f = none → (sysQ M c l n true).s.n = 1 ∨ (sysQ M c l n true).s.n = 2 ∨ (sysQ M c l n true).s.n = 4 := fun e => (sysQ_s hb c l n true l0 l1 e).1.n1
    have hqb : RdB (sysQ M c l n true).m := by rw [e]; exact findQ_rdb hb _ _ _ _ _ _ _
    have HRe : Hid (Calls Tryz.prog 51 #[.pointer (some ⟨R.r, 0, none⟩), .agg cs, .int .u32 l, .int .i64 n, .bool true, .bool true] W0 (ReP W0 R (sysQ M c l n true))) := by rw [e]; exact places_any W0 R M HR0.out hb cs wf c hc ok l n true true l0 l1 hn
    rw [hz] at cS
    clear hz e hn
    generalize sysQ M c l n true = q at *
    unfold ReP at HRe
    obtain ⟨f, hf⟩ : ∃ f, f = q.ft := ⟨_, rfl⟩
    rw [← hf] at HRe ⊢
    clear hf
    obtain ⟨fv, fc, f2⟩ := f
    unfold Ft.val at HRe ⊢
    simp only at HRe ⊢
    have HQ : Hid (q.f = none → q.s.n = 1 ∨ q.s.n = 2 ∨ q.s.n = 4) := hqn
    clear hqb hqn hb
    clear hV wf h hc ok pA
    go_enter Tryz.func27, Tryz.ntmps27
    simp only [vl, vs, va, vb] at *
    go_upto_region 1 with fail
    rw [← hW0]
    clear hW0 hst hsz hX
    go_upto_region 4 with (first | (go_at_call 49; refine cS.mono ?_; rintro e w' ⟨rfl, hw⟩; replace hw := hw.symm; subst hw))
    go_wp2_with fail
    refine Calls.mono HRe.out ?_
    rintro e w4 ⟨v, rfl, hv, hr4, k4⟩
    have kY := Kp.alloc noB w4 (.cells #[.int .i64 fv, .int .i64 fc, .int .u32 f2] 54)
    have rY : RowT (w4.alloc (.cells #[.int .i64 fv, .int .i64 fc, .int .u32 f2] 54)) w4.heap.size ⟨fv, fc, f2⟩ := (MapKept.heap_alloc w4 _).1
    have r1 := (rT.kp k4 (fun f => by have := HXR.out _ f; omega)).kp kY (fun f => f)
    have HV5 : Hid (PlcV (w4.alloc (.cells #[.int .i64 fv, .int .i64 fc, .int .u32 f2] 54)) W0.heap.size v q) := PlcV.kp hv kY (fun _ _ f => f) (Nat.le_refl _)
    have HR5 : Hid _ := hr4.kp kY (fun _ _ f => f)
    have HK5 : Hid _ := (kp_no (S := R.has) k0).trans (k4.trans (kp_no kY))
    have HY : Hid (X + 1 < w4.heap.size) := (show X + 1 < w4.heap.size by have := k4.size; rw [hs0] at this; omega)
    obtain ⟨Y, hY⟩ : ∃ Y, Y = w4.heap.size := ⟨_, rfl⟩
    obtain ⟨W5, hW5⟩ : ∃ W, W = w4.alloc (.cells #[.int .i64 fv, .int .i64 fc, .int .u32 f2] 54) := ⟨_, rfl⟩
    rw [← hW5] at rY r1 HV5 HR5 HK5
    rw [← hY] at rY HY
    go_upto_region 5 with fail
    rw [← hW5, ← hY]
    clear hW5 hY kY hr4 hv k4 rT hs0
    have HPt : Hid (Calls Tryz.prog 45 #[.pointer (some ⟨R.r, 0, none⟩), v, .int .u32 x] W5 fun e w' => e = .returned (.tuple #[]) ∧ RefAt w' R (q.put x) ∧ Kp R.has W5 w') := put_q W5 R q HR5.out HQ.out _ v HV5.out (fun j hj => by have := HXR.out j hj; have := HX2.out; omega) x x0 x1
    go_wp2_with fail
    refine Calls.mono HPt.out ?_; rintro e w6 ⟨rfl, hr6, k6⟩
    replace rY := rY.kp k6 (fun f => by have := HXR.out _ f; have := HY.out; omega)
    replace r1 := r1.kp k6 (fun f => by have := HXR.out _ f; omega)
    replace HK5 : Hid _ := HK5.out.trans k6
    replace HR5 : Hid _ := hr6
    clear HPt k6 hr6 HV5
    obtain ⟨y0, y1, y2⟩ : _ ∧ _ ∧ _ := ⟨rY.c0, rY.c1, rY.c2⟩
    obtain ⟨z0, z1, z2⟩ : _ ∧ _ ∧ _ := ⟨r1.c0, r1.c1, r1.c2⟩
    obtain ⟨e0, e1, e2⟩ : _ ∧ _ ∧ _ := ⟨r1.fz 0, r1.fz 1, r1.fz 2⟩
    have r5 := r1.set ⟨fv, fc, f2⟩
    have k5 := kp_setFt w6 (X + 1) ⟨fv, fc, f2⟩
    obtain ⟨d0, d1, d2⟩ : _ ∧ _ ∧ _ := ⟨r5.c0, r5.c1, r5.c2⟩
    have HR7 : Hid _ := HR5.out.kp k5 (fun j hj e => by have := HXR.out j hj; omega)
    have HK7 : Hid _ := HK5.out.over k5 (fun j hj e => by have := HXw.out; omega)
    clear r5 k5 rY r1
    unfold setFt at *
    go_wp2
    exact bodyPost_ret (v := .agg #[.int .i64 fv, .int .i64 fc, .int .u32 f2]) (by simp [results, Tryz.results27, go_sem, d0, d1, d2]) rfl ⟨rfl, HR7.out, HK7.out⟩

set_option maxHeartbeats 4000000 in
theorem dCode_any (w : World) (R : Rf) (M : Mem) (h : RefAt w R M) (cs : Array Value) (wf : WfC cs) (c : Cp) (hc : CpC cs c) (ok : c.Ok) (hb : RdB M) (off : Int) (o0 : 0 ≤ off) (o1 : off < 4294967296) :
    Calls Tryz.prog 29 #[.pointer (some ⟨R.r, 0, none⟩), .agg cs, .int .u32 off] w fun e w' => e = .returned (.tuple #[.int .u8 (codQ M c off).val, .int .u32 (codQ M c off).place, (codQ M c off).ft.val]) ∧ RefAt w' R (codQ M c off).m ∧ Kp R.has w w' := by
  obtain ⟨T, nn, Z, hV⟩ := vlP
  obtain ⟨vl, vs, va, vb⟩ := hV.ops
  have g1 := hV.agg; have g2 := hV.size; have g3 := hV.zero
  obtain ⟨X, hX⟩ : ∃ X, w.heap.size = X := ⟨_, rfl⟩
  obtain ⟨pA, rT, k0, hs0⟩ := vst hV w wf hX
  obtain ⟨W0, hW0⟩ : ∃ W, W = (w.alloc (.cells cs T)).alloc (.cells #[.int .i64 0, .int .i64 0, .int .u32 0] 54) := ⟨_, rfl⟩
  rw [← hW0] at pA rT k0 hs0
  have hst := hV.new wf w
  have hsz : cs.size = nn := by rw [wf.s, hV.s]
  have HXR : Hid (∀ k, R.has k → k < X) := fun k hk => by rw [← hX]; exact h.lt hk
  have HXw : Hid (w.heap.size = X) := hX
  have hg0 := hV.get pA
  have HX2 : Hid (W0.heap.size = X + 2) := hs0
  have HR0 : Hid (RefAt W0 R M) := h.kp k0 (fun _ _ f => f)
  have sg := (pA.cp hc ok).sg 1 (by decide)
  have so := ok.sg 1 (by decide)
  have b0 := so.b0; have b1 := so.b1; have l0 := so.l0; have l1 := so.l1
  have a0 := sg.a0; have a1 := sg.a1; have a2 := sg.a2; have a3 := sg.a3; have a4 := sg.a4; have a5 := sg.a5; have a6 := sg.a6; have a7 := sg.a7; have a8 := sg.a8
  have kC := Kp.alloc noB W0 (.cells #[.int .u16 (c.seg 1).sel, .bool (c.seg 1).nl, .int .u32 (c.seg 1).b, .int .u32 (c.seg 1).l, .int .i64 (c.seg 1).t, .bool (c.seg 1).s, .int .i64 (c.seg 1).d, .bool (c.seg 1).p, .bool (c.seg 1).g] 30)
  have rC : (W0.alloc (.cells #[.int .u16 (c.seg 1).sel, .bool (c.seg 1).nl, .int .u32 (c.seg 1).b, .int .u32 (c.seg 1).l, .int .i64 (c.seg 1).t, .bool (c.seg 1).s, .int .i64 (c.seg 1).d, .bool (c.seg 1).p, .bool (c.seg 1).g] 30)).heap[X + 2]? = some (.cells #[.int .u16 (c.seg 1).sel, .bool (c.seg 1).nl, .int .u32 (c.seg 1).b, .int .u32 (c.seg 1).l, .int .i64 (c.seg 1).t, .bool (c.seg 1).s, .int .i64 (c.seg 1).d, .bool (c.seg 1).p, .bool (c.seg 1).g] 30 (0, 0)) := by
    have := (MapKept.heap_alloc W0 (.cells #[.int .u16 (c.seg 1).sel, .bool (c.seg 1).nl, .int .u32 (c.seg 1).b, .int .u32 (c.seg 1).l, .int .i64 (c.seg 1).t, .bool (c.seg 1).s, .int .i64 (c.seg 1).d, .bool (c.seg 1).p, .bool (c.seg 1).g] 30)).1
    rw [hs0] at this
    exact this
  obtain ⟨s2, s3⟩ : (W0.alloc (.cells #[.int .u16 (c.seg 1).sel, .bool (c.seg 1).nl, .int .u32 (c.seg 1).b, .int .u32 (c.seg 1).l, .int .i64 (c.seg 1).t, .bool (c.seg 1).s, .int .i64 (c.seg 1).d, .bool (c.seg 1).p, .bool (c.seg 1).g] 30)).cell? ⟨X + 2, 2, none⟩ = some (.int .u32 (c.seg 1).b) ∧ (W0.alloc (.cells #[.int .u16 (c.seg 1).sel, .bool (c.seg 1).nl, .int .u32 (c.seg 1).b, .int .u32 (c.seg 1).l, .int .i64 (c.seg 1).t, .bool (c.seg 1).s, .int .i64 (c.seg 1).d, .bool (c.seg 1).p, .bool (c.seg 1).g] 30)).cell? ⟨X + 2, 3, none⟩ = some (.int .u32 (c.seg 1).l) := by
    refine ⟨?_, ?_⟩ <;> (rw [cell_at rC]; rfl)
  obtain ⟨W1, hW1⟩ : ∃ W, W = W0.alloc (.cells #[.int .u16 (c.seg 1).sel, .bool (c.seg 1).nl, .int .u32 (c.seg 1).b, .int .u32 (c.seg 1).l, .int .i64 (c.seg 1).t, .bool (c.seg 1).s, .int .i64 (c.seg 1).d, .bool (c.seg 1).p, .bool (c.seg 1).g] 30) := ⟨_, rfl⟩
  rw [← hW1] at s2 s3 kC
  have rT1 := rT.kp kC (fun f => f)
  have HR1 : Hid (RefAt W1 R M) := HR0.out.kp kC (fun _ _ f => f)
  have hg1 := hV.get (pA.kp kC (fun f => f))
  have HX3 : Hid (W1.heap.size = X + 3) := (show W1.heap.size = X + 3 by rw [hW1]; simp [hs0])
  have k1 := k0.trans kC
  by_cases hlo : (c.seg 1).l < off
  · have e : codQ M c off = ⟨some (ftV 13), M, ⟨0, 0, 0, 0⟩⟩ := by unfold codQ; rw [if_pos hlo]
    rw [e]
    show Calls _ _ _ _ fun e w' => e = .returned (.tuple #[.int .u8 0, .int .u32 0, .agg #[.int .i64 13, .int .i64 0, .int .u32 0]]) ∧ RefAt w' R M ∧ Kp R.has w w'
    clear e hb rC sg so
    clear hV wf h hc ok pA
    go_enter Tryz.func29, Tryz.ntmps29
    simp only [vl, vs, va, vb] at *
    go_upto_region 1 with fail
    rw [← hW0]
    clear hW0 hst hsz
    go_upto_region 2 with fail
    rw [← hW1]
    clear hW1 a0 a1 a2 a3 a4 a5 a6 a7 a8 kC hX
    go_wp2_with (first | (go_at_call 49; refine cS.mono ?_; rintro e w' ⟨rfl, hw⟩; replace hw := hw.symm; subst hw) | (go_at_call 50; refine (vFaults _ _ _).mono ?_; rintro e w2 ⟨rfl, k2⟩; have r2 := rT1.kp k2 (fun f => f); obtain ⟨c0, c1, c2⟩ : _ ∧ _ ∧ _ := ⟨r2.c0, r2.c1, r2.c2⟩; obtain ⟨f0, f1, f2⟩ : _ ∧ _ ∧ _ := ⟨r2.fz 0, r2.fz 1, r2.fz 2⟩; have r5 := r2.set ⟨13, 0, 0⟩; have k5 := kp_setFt w2 (X + 1) ⟨13, 0, 0⟩; obtain ⟨d0, d1, d2⟩ : _ ∧ _ ∧ _ := ⟨r5.c0, r5.c1, r5.c2⟩; unfold setFt at *))
    exact bodyPost_ret (v := .tuple #[.int .u8 0, .int .u32 0, .agg #[.int .i64 13, .int .i64 0, .int .u32 0]]) (by simp [results, Tryz.results29, go_sem, d0, d1, d2]) rfl ⟨rfl, (HR1.out.kp k2 (fun _ _ f => f)).kp k5 (fun j hj e => by have := HXR.out j hj; omega), (kp_no (k1.trans k2)).over k5 (fun j hj e => by have := HXw.out; omega)⟩
  · have hlb := linB_bd (c.seg 1).b off
    have e : codQ M c off = (pqC c (linB (c.seg 1).b off) 1 false false).q M := by
      unfold codQ
      rw [if_neg hlo]
      unfold pqC Pq.q
      simp
    have hqn : (codQ M c off).f = none → (codQ M c off).s.Ok ∧ (codQ M c off).s.n = 1 := fun e => codQ_s hb c off e
    have hqb : RdB (codQ M c off).m := by rw [e]; exact findQ_rdb hb _ _ _ _ _ _ _
    have HRe : Hid (Calls Tryz.prog 51 #[.pointer (some ⟨R.r, 0, none⟩), .agg cs, .int .u32 (linB (c.seg 1).b off), .int .i64 1, .bool false, .bool false] W1 (ReP W1 R (codQ M c off))) := by rw [e]; exact places_any W1 R M HR1.out hb cs wf c hc ok (linB (c.seg 1).b off) 1 false false hlb.1 hlb.2 (.inl rfl)
    clear e
    have hll : ((c.seg 1).b + off) % 4294967296 = linB (c.seg 1).b off := rfl
    generalize linB (c.seg 1).b off = l at *
    have hlo' : ¬ (c.seg 1).l < off := hlo
    generalize codQ M c off = q at *
    unfold ReP at HRe
    obtain ⟨f, hf⟩ : ∃ f, f = q.ft := ⟨_, rfl⟩
    rw [← hf] at HRe ⊢
    clear hf
    obtain ⟨fv, fc, f2⟩ := f
    unfold Ft.val at HRe ⊢
    simp only at HRe ⊢
    have HLT : Hid (W1.heap.size = X + 3) := HX3.out
    cases hf0 : q.f with
    | some f0 =>
      have HQ : Hid (q.val = 0 ∧ q.place = 0) := ⟨by unfold Qy.val; rw [hf0], by unfold Qy.place; rw [hf0]⟩
      rw [HQ.out.1, HQ.out.2]
      have HN : Hid (∀ W v, PlcV W W1.heap.size v q → v = .slice none 0 0) := fun W v h => by unfold PlcV at h; rw [hf0] at h; exact h
      clear hqn hqb hb hf0 rC sg so
      clear hV wf h hc ok pA
      go_enter Tryz.func29, Tryz.ntmps29
      simp only [vl, vs, va, vb] at *
      go_upto_region 1 with fail
      rw [← hW0]
      clear hW0 hst hsz
      go_upto_region 2 with fail
      rw [← hW1]
      clear hW1 a0 a1 a2 a3 a4 a5 a6 a7 a8 kC hX
      go_wp2_with fail
      refine Calls.mono HRe.out ?_
      rintro e w4 ⟨v, rfl, hv, hr4, k4⟩
      have kY := Kp.alloc noB w4 (.cells #[.int .i64 fv, .int .i64 fc, .int .u32 f2] 54)
      have rY : RowT (w4.alloc (.cells #[.int .i64 fv, .int .i64 fc, .int .u32 f2] 54)) w4.heap.size ⟨fv, fc, f2⟩ := (MapKept.heap_alloc w4 _).1
      have r1 := (rT1.kp k4 (fun f => by have := HXR.out _ f; omega)).kp kY (fun f => f)
      have HV5 : Hid (PlcV (w4.alloc (.cells #[.int .i64 fv, .int .i64 fc, .int .u32 f2] 54)) W1.heap.size v q) := PlcV.kp hv kY (fun _ _ f => f) (Nat.le_refl _)
      have HR5 : Hid _ := hr4.kp kY (fun _ _ f => f)
      have HK5 : Hid _ := (kp_no (S := R.has) k1).trans (k4.trans (kp_no kY))
      have HY : Hid (X + 1 < w4.heap.size) := (show X + 1 < w4.heap.size by have := k4.size; rw [HX3.out] at this; omega)
      obtain ⟨Y, hY⟩ : ∃ Y, Y = w4.heap.size := ⟨_, rfl⟩
      obtain ⟨W5, hW5⟩ : ∃ W, W = w4.alloc (.cells #[.int .i64 fv, .int .i64 fc, .int .u32 f2] 54) := ⟨_, rfl⟩
      rw [← hW5] at rY r1 HV5 HR5 HK5
      rw [← hY] at rY HY
      go_upto_region 5 with fail
      rw [← hW5, ← hY]
      clear hW5 hY kY hr4 hv k4
      obtain rfl := HN.out _ _ HV5.out
      obtain ⟨y0, y1, y2⟩ : _ ∧ _ ∧ _ := ⟨rY.c0, rY.c1, rY.c2⟩
      obtain ⟨z0, z1, z2⟩ : _ ∧ _ ∧ _ := ⟨r1.c0, r1.c1, r1.c2⟩
      obtain ⟨e0, e1, e2⟩ : _ ∧ _ ∧ _ := ⟨r1.fz 0, r1.fz 1, r1.fz 2⟩
      have r5 := r1.set ⟨fv, fc, f2⟩
      have k5 := kp_setFt W5 (X + 1) ⟨fv, fc, f2⟩
      have k6 := k5.trans ((Kp.refl noB (setFt W5 (X + 1) ⟨fv, fc, f2⟩)).drew.mono (fun _ _ f => f.elim))
      obtain ⟨d0, d1, d2⟩ : _ ∧ _ ∧ _ := ⟨r5.c0, r5.c1, r5.c2⟩
      have HR7 : Hid _ := HR5.out.kp k6 (fun j hj e => by have := HXR.out j hj; omega)
      have HK7 : Hid _ := HK5.out.over k6 (fun j hj e => by have := HXw.out; omega)
      clear k6
      clear r5 k5 rY r1
      unfold setFt at *
      go_wp2
      go_region
      all_goals go_wp2
      all_goals exact bodyPost_ret (v := .tuple #[.int .u8 0, .int .u32 0, .agg #[.int .i64 fv, .int .i64 fc, .int .u32 f2]]) (by simp [results, Tryz.results29, go_sem, d0, d1, d2]) rfl ⟨rfl, HR7.out, HK7.out⟩
    | none =>
      obtain ⟨hso, hs1⟩ := hqn hf0
      have hh := hso.h0
      have hh1 := hso.h1
      have ha0 := hso.a0; have ha1 := hso.a1
      have hsa : q.s.at 0 = q.s.a := by unfold Sp.at; rw [if_pos (by omega)]; show (q.s.a + 0) % 4294967296 = _; omega
      have hbd := hqb q.s.a ha0 ha1
      have hv1 : q.val = q.m.rd q.s.a := by
        unfold Qy.val Mem.rdS Mem.spB
        rw [hf0, hs1, hsa]
        simp
      have hp1 : q.place = q.s.a := by unfold Qy.place; rw [hf0]
      rw [hv1, hp1]
      have HN : Hid (∀ W v b, PlcV W b v q → PlA W b v 1 q.s.at) := fun W v b h => by unfold PlcV at h; rw [hf0, hs1] at h; exact h
      have HBy : Hid (∀ W, RefAt W R q.m → Calls Tryz.prog 55 #[.pointer (some ⟨R.r, 0, none⟩), .int .u32 q.s.a] W fun e w' => e = .returned (.int .u8 (q.m.rd q.s.a)) ∧ Kp noB W w') := fun W hW => refByte_any W R q.m hW q.s.a ha0 ha1
      have HSa : Hid (q.s.at 0 = q.s.a) := hsa
      generalize q.m.rd q.s.a = bv at *
      generalize q.s.a = pa at *
      clear hqn hqb hb hf0 rC sg so hh hh1 hso hs1 hsa hv1 hp1
      clear hV wf h hc ok pA
      go_enter Tryz.func29, Tryz.ntmps29
      simp only [vl, vs, va, vb] at *
      go_upto_region 1 with fail
      rw [← hW0]
      clear hW0 hst hsz
      go_upto_region 2 with fail
      rw [← hW1]
      clear hW1 a0 a1 a2 a3 a4 a5 a6 a7 a8 kC hX
      go_wp2_with fail
      refine Calls.mono HRe.out ?_
      rintro e w4 ⟨v, rfl, hv, hr4, k4⟩
      have kY := Kp.alloc noB w4 (.cells #[.int .i64 fv, .int .i64 fc, .int .u32 f2] 54)
      have rY : RowT (w4.alloc (.cells #[.int .i64 fv, .int .i64 fc, .int .u32 f2] 54)) w4.heap.size ⟨fv, fc, f2⟩ := (MapKept.heap_alloc w4 _).1
      have r1 := (rT1.kp k4 (fun f => by have := HXR.out _ f; omega)).kp kY (fun f => f)
      have HV5 : Hid (PlcV (w4.alloc (.cells #[.int .i64 fv, .int .i64 fc, .int .u32 f2] 54)) W1.heap.size v q) := PlcV.kp hv kY (fun _ _ f => f) (Nat.le_refl _)
      have HR5 : Hid _ := hr4.kp kY (fun _ _ f => f)
      have HK5 : Hid _ := (kp_no (S := R.has) k1).trans (k4.trans (kp_no kY))
      have HY : Hid (X + 1 < w4.heap.size) := (show X + 1 < w4.heap.size by have := k4.size; rw [HX3.out] at this; omega)
      obtain ⟨Y, hY⟩ : ∃ Y, Y = w4.heap.size := ⟨_, rfl⟩
      obtain ⟨W5, hW5⟩ : ∃ W, W = w4.alloc (.cells #[.int .i64 fv, .int .i64 fc, .int .u32 f2] 54) := ⟨_, rfl⟩
      rw [← hW5] at rY r1 HV5 HR5 HK5
      rw [← hY] at rY HY
      go_upto_region 5 with fail
      rw [← hW5, ← hY]
      clear hW5 hY kY hr4 hv k4
      obtain ⟨gg, cap, rfl, hgb, hgl, hcell⟩ := HN.out _ _ _ HV5.out
      have hc0 := hcell 0 (by decide)
      rw [HSa.out] at hc0
      have HC0 : Hid (∀ W, Kp (fun j => j = X + 1) W5 W → W.cell? ⟨gg, 0, none⟩ = some (.int .u32 pa)) := fun W k => cell_kp hc0 k (fun e => by have := HX3.out; omega)
      clear hcell
      go_wp2_with fail
      have HI0 : Hid (LdI W5 X Y ⟨fv, fc, f2⟩ false { W5 with drawn := W5.drawn + 1 }) := LdI.kp ⟨rY, ⟨_, r1⟩, fun e => by (cases e), Kp.refl _ _⟩ (Kp.refl noB W5).drew
      clear rY r1
      refine OrdG.region_vals (τ := Unit) (fun t => [(.pointer (some ⟨R.r, 0, none⟩)), (.slice (some ⟨gg, 0, none⟩) 1 cap), (.pointer (some ⟨gg, 0, none⟩)), (.int .u32 pa), (.int .u8 bv), (.slice (some ⟨gg, 0, none⟩) 1 cap), (.pointer (some ⟨gg, 0, none⟩)), (.int .u32 pa), (.agg #[.int .i64 fv, .int .i64 fc, .int .u32 f2]), (.int .u8 bv), (.int .u32 pa), undef]) (fun t listed w' => LdI W5 X Y ⟨fv, fc, f2⟩ (listed.getD 11 false) w') () (by kernel_rfl) (by kernel_rfl) (by kernel_rfl) (by kernel_rfl) (fun _ => rfl) (fun t => by simp only [OrdG.puts, Act.put, List.setIfInBounds_toArray, List.set_cons_zero, List.set_cons_succ]; rfl) (fun _ => by kernel_rfl) HI0.out ?_ ?_
      · refine ⟨?_, ?_, ?_, ?_, ?_, ?_, ?_, ?_, ?_, ?_, ?_, ?_, trivial⟩
        all_goals (intro t listed W' hz hSh hl hI hb KK hK hK0; change LdI W5 X Y ⟨fv, fc, f2⟩ (listed.getD 11 false) W' at hI; replace hz : listed.size = 12 := hz)
        · go_simp
          exact hK0 _ (by show LdI W5 X Y ⟨fv, fc, f2⟩ (Array.getD _ 11 false) _; rw [getD_set_ne false (by decide)]; exact hI)
        · go_simp
          exact hK0 _ (by show LdI W5 X Y ⟨fv, fc, f2⟩ (Array.getD _ 11 false) _; rw [getD_set_ne false (by decide)]; exact hI)
        · go_simp
          exact hK0 _ (by show LdI W5 X Y ⟨fv, fc, f2⟩ (Array.getD _ 11 false) _; rw [getD_set_ne false (by decide)]; exact hI)
        · have z0 := HC0.out _ hI.k
          go_simp
          exact hK0 _ (by show LdI W5 X Y ⟨fv, fc, f2⟩ (Array.getD _ 11 false) _; rw [getD_set_ne false (by decide)]; exact hI)
        · have H1 : Hid _ := HBy.out W' (HR5.out.kp hI.k (fun j hj e => by have := HXR.out j hj; omega))
          go_simp
          refine Calls.mono H1.out ?_; rintro e z5 ⟨rfl, h1⟩
          exact hK0 _ (by show LdI W5 X Y ⟨fv, fc, f2⟩ (Array.getD _ 11 false) _; rw [getD_set_ne false (by decide)]; exact hI.kp h1)
        · go_simp
          exact hK0 _ (by show LdI W5 X Y ⟨fv, fc, f2⟩ (Array.getD _ 11 false) _; rw [getD_set_ne false (by decide)]; exact hI)
        · go_simp
          exact hK0 _ (by show LdI W5 X Y ⟨fv, fc, f2⟩ (Array.getD _ 11 false) _; rw [getD_set_ne false (by decide)]; exact hI)
        · have z0 := HC0.out _ hI.k
          go_simp
          exact hK0 _ (by show LdI W5 X Y ⟨fv, fc, f2⟩ (Array.getD _ 11 false) _; rw [getD_set_ne false (by decide)]; exact hI)
        · obtain ⟨z0, z1, z2⟩ : _ ∧ _ ∧ _ := ⟨hI.y.c0, hI.y.c1, hI.y.c2⟩
          go_simp
          exact hK0 _ (by show LdI W5 X Y ⟨fv, fc, f2⟩ (Array.getD _ 11 false) _; rw [getD_set_ne false (by decide)]; exact hI)
        · go_simp
          exact hK0 _ (by show LdI W5 X Y ⟨fv, fc, f2⟩ (Array.getD _ 11 false) _; rw [getD_set_ne false (by decide)]; exact hI)
        · go_simp
          exact hK0 _ (by show LdI W5 X Y ⟨fv, fc, f2⟩ (Array.getD _ 11 false) _; rw [getD_set_ne false (by decide)]; exact hI)
        · obtain ⟨g, rg⟩ := hI.x
          obtain ⟨z0, z1, z2⟩ : _ ∧ _ ∧ _ := ⟨rg.c0, rg.c1, rg.c2⟩
          obtain ⟨y0, y1, y2⟩ : _ ∧ _ ∧ _ := ⟨rg.fz 0, rg.fz 1, rg.fz 2⟩
          go_simp
          refine hK0 _ ?_
          show LdI W5 X Y ⟨fv, fc, f2⟩ (Array.getD _ 11 false) _
          rw [OrdG.getD_self hz (by decide)]
          exact hI.st (by have := HY.out; omega)
      · intro t listed W' hall hI
        change LdI W5 X Y ⟨fv, fc, f2⟩ (listed.getD 11 false) W' at hI
        have r5 := hI.s (hall 11 (by show 11 < 12; decide))
        have HI : Hid (Kp (fun j => j = X + 1) W5 W') := hI.k
        clear hI hall
        obtain ⟨d0, d1, d2⟩ : _ ∧ _ ∧ _ := ⟨r5.c0, r5.c1, r5.c2⟩
        go_wp2
        exact bodyPost_ret (v := .tuple #[.int .u8 bv, .int .u32 pa, .agg #[.int .i64 fv, .int .i64 fc, .int .u32 f2]]) (by simp [results, Tryz.results29, go_sem, d0, d1, d2]) rfl ⟨rfl, HR5.out.kp HI.out (fun j hj e => by have := HXR.out j hj; omega), HK5.out.over HI.out (fun j hj e => by have := HXw.out; omega)⟩
end Go.Proofs.YtmmnnafjikilpaaGreat
