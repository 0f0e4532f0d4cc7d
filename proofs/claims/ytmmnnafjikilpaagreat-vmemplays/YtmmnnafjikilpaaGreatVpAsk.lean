/- A call of both memories. -/
import Derived.Test.YtmmnnafjikilpaaGreatVpTw
import Derived.Test.YtmmnnafjikilpaaGreatVb
namespace Go.Proofs.YtmmnnafjikilpaaGreat
open Go.ChangeShapes Go.WideShapes Go.ChangeAt Go.RowKit Go.Maps
set_option linter.unusedVariables false
set_option maxRecDepth 20000

/-- What lies aside: the processor, the call, the processor that is lent. -/
structure AkB (w0 : World) (K B : Nat) (R : Rf) (X : Nat) (cs : Array Value) (kd sg off z v : Int) (W : World) : Prop where
  c : PAt W X cs
  o : RowO W (X + 1) kd sg off z v
  l : PAt W (X + 1 + 1) cs
  k : Kp (askS K B R) w0 W
  x : ∀ j, askS K B R j → j < X
theorem AkB.kp0 {w0 W W' : World} {K B X : Nat} {R : Rf} {cs : Array Value} {kd sg off z v : Int} (h : AkB w0 K B R X cs kd sg off z v W) (k : Kp noB W W') : AkB w0 K B R X cs kd sg off z v W' :=
  ⟨h.c.kp k (fun f => f), h.o.kp k (fun f => f), h.l.kp k (fun f => f), h.k.trans (kp_no k), h.x⟩
theorem AkB.kpS {w0 W W' : World} {K B X : Nat} {R : Rf} {cs : Array Value} {kd sg off z v : Int} (h : AkB w0 K B R X cs kd sg off z v W) (k : Kp (askS K B R) W W') : AkB w0 K B R X cs kd sg off z v W' :=
  ⟨h.c.kp k (fun f => by have := h.x _ f; omega), h.o.kp k (fun f => by have := h.x _ f; omega), h.l.kp k (fun f => by have := h.x _ f; omega), h.k.trans k, h.x⟩
theorem AkB.nl {w0 W : World} {K B X : Nat} {R : Rf} {cs : Array Value} {kd sg off z v : Int} (h : AkB w0 K B R X cs kd sg off z v W) : ¬ askS K B R (X + 1 + 1) := fun f => by have := h.x _ f; omega

/-- A region that asks both. -/
structure AkD (w0 : World) (V K B : Nat) (R : Rf) (pl tn : Nat) (M M' : Mem) (X : Nat) (cs : Array Value) (kd sg off z v : Int) (d1 d2 : Bool) (W : World) : Prop where
  b : AkB w0 K B R X cs kd sg off z v W
  t : ∃ tn', tn' ≤ tn + (if d1 = true then 2 else 0) ∧ TwV W V K B R pl tn' (if d1 = true then M' else M) (if d2 = true then M' else M)
theorem AkD.kp0 {w0 W W' : World} {V K B pl tn X : Nat} {R : Rf} {M M' : Mem} {cs : Array Value} {kd sg off z v : Int} {d1 d2 : Bool} (h : AkD w0 V K B R pl tn M M' X cs kd sg off z v d1 d2 W) (k : Kp noB W W') : AkD w0 V K B R pl tn M M' X cs kd sg off z v d1 d2 W' :=
  ⟨h.b.kp0 k, by obtain ⟨t, a, b⟩ := h.t; exact ⟨t, a, b.kp0 k⟩⟩

def AskP (w : World) (V K B : Nat) (R : Rf) (pl tn : Nat) (M' : Mem) (e : Ending) (w' : World) : Prop :=
  e = .returned (.bool true) ∧ (∃ tn', tn' ≤ tn + 2 ∧ TwV w' V K B R pl tn' M' M') ∧ Kp (askS K B R) w w'

set_option maxHeartbeats 4000000 in
theorem ask_load (w : World) (V K B : Nat) (R : Rf) (pl tn : Nat) (M : Mem) (h : TwV w V K B R pl tn M M) (cs : Array Value) (wf : WfC cs) (c : Cp) (hc : CpC cs c) (ok : c.Ok) (heq : ∀ w, (Op.equalIn 10000 35 (.agg cs) (.agg cs)).run Tryz.prog w = .ok true w) (sg off z v : Int) (o0 : 0 ≤ off) (o1 : off < 4294967296) (v0 : 0 ≤ v) (v1 : v < 4294967296) (htn : tn < 18446744073709551613) :
    Calls Tryz.prog 8 #[.pointer (some ⟨V, 0, none⟩), .pointer (some ⟨R.r, 0, none⟩), .agg cs, .agg (op5 1 sg off z v)] w (AskP w V K B R pl tn (segQ M c sg off z false).m) := by
  obtain ⟨T, nn, Z, hV⟩ := vlP
  obtain ⟨vl, vs, va, vb⟩ := hV.ops
  have vq : ∀ x y, Op.binOp .eql 35 x y 35 = Op.binOp .eql T x y T := by rw [hV.t]; exact fun _ _ => rfl
  have g1 := hV.agg; have g2 := hV.size; have g3 := hV.zero
  have gE : ∀ w, (Op.equalIn 10000 T (.agg cs) (.agg cs)).run Tryz.prog w = .ok true w := by rw [hV.t]; exact heq
  have gG : Tryz.prog.eqGuardType Tryz.prog.depth T = false := by rw [hV.t]; kernel_rfl
  obtain ⟨X, hX⟩ : ∃ X, w.heap.size = X := ⟨_, rfl⟩
  have hst := hV.new wf w
  have hsz : cs.size = nn := by rw [wf.s, hV.s]
  have kA := Kp.alloc noB w (.cells cs T)
  have kO := Kp.alloc noB (w.alloc (.cells cs T)) (.cells (op5 1 sg off z v) 49)
  have kL := Kp.alloc noB ((w.alloc (.cells cs T)).alloc (.cells (op5 1 sg off z v) 49)) (.cells cs T)
  have s1 : (w.alloc (.cells cs T)).heap.size = X + 1 := by simp [hX]
  have s2 : ((w.alloc (.cells cs T)).alloc (.cells (op5 1 sg off z v) 49)).heap.size = X + 1 + 1 := by simp [hX]
  have pA := hV.at wf w
  rw [hX] at pA
  have rO : RowO ((w.alloc (.cells cs T)).alloc (.cells (op5 1 sg off z v) 49)) (X + 1) 1 sg off z v := by
    have := (MapKept.heap_alloc (w.alloc (.cells cs T)) (.cells (op5 1 sg off z v) 49)).1
    rw [s1] at this
    exact this
  have pL := hV.at wf ((w.alloc (.cells cs T)).alloc (.cells (op5 1 sg off z v) 49))
  rw [s2] at pL
  have hg1 := hV.get (pA.kp kO (fun f => f))
  have hst2 := hV.new wf ((w.alloc (.cells cs T)).alloc (.cells (op5 1 sg off z v) 49))
  rw [s2] at hst2
  obtain ⟨W3, hW3⟩ : ∃ W, W = ((w.alloc (.cells cs T)).alloc (.cells (op5 1 sg off z v) 49)).alloc (.cells cs T) := ⟨_, rfl⟩
  have hk : Kp noB w W3 := by rw [hW3]; exact (kA.trans kO).trans kL
  have h3 : TwV W3 V K B R pl tn M M := h.kp0 hk
  have b3 : AkB w K B R X cs 1 sg off z v W3 := ⟨by rw [hW3]; exact (pA.kp kO (fun f => f)).kp kL (fun f => f), by rw [hW3]; exact rO.kp kL (fun f => f), by rw [hW3]; exact pL, kp_no hk, fun j hj => by rw [← hX]; exact h.lt hj⟩
  have HV : Hid (VlP T nn Z) := hV
  have HS3 : Hid (X + 3 ≤ W3.heap.size) := (show X + 3 ≤ W3.heap.size by rw [hW3, World.size_alloc, s2]; exact Nat.le_refl _)
  clear kA kO kL pA rO pL hk h
  have HL := h3.load b3.l hc ok b3.nl htn sg off z o0 o1
  have HR := fun W t (hh : TwV W V K B R pl t (segQ M c sg off z false).m M) => hh.dLoad h3.v.ram.rdB wf hc ok sg off z o0 o1
  generalize (segQ M c sg off z false) = q at *
  generalize q.m = M' at *
  generalize q.val = a at *
  generalize q.ft = f at *
  obtain ⟨fv, fc, f2⟩ := f
  unfold Ft.val at HL HR
  simp only at HL HR
  replace HL : Hid _ := HL
  replace HR : Hid _ := HR
  clear wf hc ok heq hV s1 s2
  unfold op5 at *
  go_enter Tryz.func8, Tryz.ntmps8
  simp only [vl, vs, va, vb, vq] at *
  go_upto_region 5 with fail
  rw [← hW3]
  clear hW3 hst hst2 hsz hg1 hX
  obtain ⟨c0, c1, c2, c3, c4⟩ := b3.o.all
  go_wp2_with fail
  refine Calls.mono HL.out ?_; rintro e w4 ⟨rfl, tn4, ht4, h4, k4⟩
  clear c0 c1 c2 c3 c4 HL
  have kY := Kp.alloc noB w4 (.cells #[.int .i64 fv, .int .i64 fc, .int .u32 f2] 54)
  have q1 : RowT (w4.alloc (.cells #[.int .i64 fv, .int .i64 fc, .int .u32 f2] 54)) w4.heap.size ⟨fv, fc, f2⟩ := (MapKept.heap_alloc w4 _).1
  have b5 := (b3.kpS k4).kp0 kY
  have h5 := h4.kp0 kY
  have HY : Hid (X + 3 ≤ w4.heap.size) := Nat.le_trans HS3.out k4.size
  obtain ⟨Y, hY⟩ : ∃ Y, Y = w4.heap.size := ⟨_, rfl⟩
  obtain ⟨W5, hW5⟩ : ∃ W, W = w4.alloc (.cells #[.int .i64 fv, .int .i64 fc, .int .u32 f2] 54) := ⟨_, rfl⟩
  rw [← hW5] at q1 b5 h5
  rw [← hY] at q1 HY
  go_upto_region 6 with fail
  rw [← hW5, ← hY]
  clear hW5 hY kY k4 h4 b3 h3
  obtain ⟨c0, c1, c2, c3, c4⟩ := b5.o.all
  have hgc := HV.out.get b5.c
  have HR5 : Hid _ := HR.out W5 tn4 h5
  clear HR
  go_wp2_with fail
  refine Calls.mono HR5.out ?_; rintro e w6 ⟨rfl, h6, k6⟩
  clear c0 c1 c2 c3 c4 HR5 hgc
  have kY := Kp.alloc noB w6 (.cells #[.int .i64 fv, .int .i64 fc, .int .u32 f2] 54)
  have q2 : RowT (w6.alloc (.cells #[.int .i64 fv, .int .i64 fc, .int .u32 f2] 54)) w6.heap.size ⟨fv, fc, f2⟩ := (MapKept.heap_alloc w6 _).1
  replace q1 := (q1.kp k6 (fun f => by have := b5.x _ f; have := HY.out; omega)).kp kY (fun f => f)
  have b7 := (b5.kpS k6).kp0 kY
  have h7 := h6.kp0 kY
  obtain ⟨Y2, hY⟩ : ∃ Y, Y = w6.heap.size := ⟨_, rfl⟩
  obtain ⟨W7, hW7⟩ : ∃ W, W = w6.alloc (.cells #[.int .i64 fv, .int .i64 fc, .int .u32 f2] 54) := ⟨_, rfl⟩
  rw [← hW7] at q1 q2 b7 h7
  rw [← hY] at q2
  go_upto_region 7 with fail
  rw [← hW7, ← hY]
  clear hW7 hY kY k6 h6 b5 h5
  obtain ⟨y0, y1, y2⟩ : _ ∧ _ ∧ _ := ⟨q1.c0, q1.c1, q1.c2⟩
  obtain ⟨z0, z1, z2⟩ : _ ∧ _ ∧ _ := ⟨q2.c0, q2.c1, q2.c2⟩
  go_upto_region 26 with fail
  have hgl := HV.out.get b7.l
  have hgc := HV.out.get b7.c
  go_wp2
  go_ret
  exact ⟨rfl, ⟨tn4, ht4, h7⟩, b7.k⟩

set_option maxHeartbeats 4000000 in
theorem ask_sys (w : World) (V K B : Nat) (R : Rf) (pl tn : Nat) (M : Mem) (h : TwV w V K B R pl tn M M) (cs : Array Value) (wf : WfC cs) (c : Cp) (hc : CpC cs c) (ok : c.Ok) (heq : ∀ w, (Op.equalIn 10000 35 (.agg cs) (.agg cs)).run Tryz.prog w = .ok true w) (sg off z v : Int) (o0 : 0 ≤ off) (o1 : off < 4294967296) (v0 : 0 ≤ v) (v1 : v < 4294967296) (htn : tn < 18446744073709551613) :
    Calls Tryz.prog 8 #[.pointer (some ⟨V, 0, none⟩), .pointer (some ⟨R.r, 0, none⟩), .agg cs, .agg (op5 4 sg off z v)] w (AskP w V K B R pl tn (sysQ M c off z false).m) := by
  obtain ⟨T, nn, Z, hV⟩ := vlP
  obtain ⟨vl, vs, va, vb⟩ := hV.ops
  have vq : ∀ x y, Op.binOp .eql 35 x y 35 = Op.binOp .eql T x y T := by rw [hV.t]; exact fun _ _ => rfl
  have g1 := hV.agg; have g2 := hV.size; have g3 := hV.zero
  have gE : ∀ w, (Op.equalIn 10000 T (.agg cs) (.agg cs)).run Tryz.prog w = .ok true w := by rw [hV.t]; exact heq
  have gG : Tryz.prog.eqGuardType Tryz.prog.depth T = false := by rw [hV.t]; kernel_rfl
  obtain ⟨X, hX⟩ : ∃ X, w.heap.size = X := ⟨_, rfl⟩
  have hst := hV.new wf w
  have hsz : cs.size = nn := by rw [wf.s, hV.s]
  have kA := Kp.alloc noB w (.cells cs T)
  have kO := Kp.alloc noB (w.alloc (.cells cs T)) (.cells (op5 4 sg off z v) 49)
  have kL := Kp.alloc noB ((w.alloc (.cells cs T)).alloc (.cells (op5 4 sg off z v) 49)) (.cells cs T)
  have s1 : (w.alloc (.cells cs T)).heap.size = X + 1 := by simp [hX]
  have s2 : ((w.alloc (.cells cs T)).alloc (.cells (op5 4 sg off z v) 49)).heap.size = X + 1 + 1 := by simp [hX]
  have pA := hV.at wf w
  rw [hX] at pA
  have rO : RowO ((w.alloc (.cells cs T)).alloc (.cells (op5 4 sg off z v) 49)) (X + 1) 4 sg off z v := by
    have := (MapKept.heap_alloc (w.alloc (.cells cs T)) (.cells (op5 4 sg off z v) 49)).1
    rw [s1] at this
    exact this
  have pL := hV.at wf ((w.alloc (.cells cs T)).alloc (.cells (op5 4 sg off z v) 49))
  rw [s2] at pL
  have hg1 := hV.get (pA.kp kO (fun f => f))
  have hst2 := hV.new wf ((w.alloc (.cells cs T)).alloc (.cells (op5 4 sg off z v) 49))
  rw [s2] at hst2
  obtain ⟨W3, hW3⟩ : ∃ W, W = ((w.alloc (.cells cs T)).alloc (.cells (op5 4 sg off z v) 49)).alloc (.cells cs T) := ⟨_, rfl⟩
  have hk : Kp noB w W3 := by rw [hW3]; exact (kA.trans kO).trans kL
  have h3 : TwV W3 V K B R pl tn M M := h.kp0 hk
  have b3 : AkB w K B R X cs 4 sg off z v W3 := ⟨by rw [hW3]; exact (pA.kp kO (fun f => f)).kp kL (fun f => f), by rw [hW3]; exact rO.kp kL (fun f => f), by rw [hW3]; exact pL, kp_no hk, fun j hj => by rw [← hX]; exact h.lt hj⟩
  have HV : Hid (VlP T nn Z) := hV
  have HS3 : Hid (X + 3 ≤ W3.heap.size) := (show X + 3 ≤ W3.heap.size by rw [hW3, World.size_alloc, s2]; exact Nat.le_refl _)
  clear kA kO kL pA rO pL hk h
  have HL := h3.sys b3.l hc ok b3.nl htn off z o0 o1
  have HR := fun W t (hh : TwV W V K B R pl t (sysQ M c off z false).m M) => hh.dSys h3.v.ram.rdB wf hc ok off z o0 o1
  generalize (sysQ M c off z false) = q at *
  generalize q.m = M' at *
  generalize q.val = a at *
  generalize q.ft = f at *
  obtain ⟨fv, fc, f2⟩ := f
  unfold Ft.val at HL HR
  simp only at HL HR
  replace HL : Hid _ := HL
  replace HR : Hid _ := HR
  clear wf hc ok heq hV s1 s2
  unfold op5 at *
  go_enter Tryz.func8, Tryz.ntmps8
  simp only [vl, vs, va, vb, vq] at *
  go_upto_region 13 with fail
  rw [← hW3]
  clear hW3 hst hst2 hsz hg1 hX
  obtain ⟨c0, c1, c2, c3, c4⟩ := b3.o.all
  go_wp2_with fail
  refine Calls.mono HL.out ?_; rintro e w4 ⟨rfl, tn4, ht4, h4, k4⟩
  clear c0 c1 c2 c3 c4 HL
  have kY := Kp.alloc noB w4 (.cells #[.int .i64 fv, .int .i64 fc, .int .u32 f2] 54)
  have q1 : RowT (w4.alloc (.cells #[.int .i64 fv, .int .i64 fc, .int .u32 f2] 54)) w4.heap.size ⟨fv, fc, f2⟩ := (MapKept.heap_alloc w4 _).1
  have b5 := (b3.kpS k4).kp0 kY
  have h5 := h4.kp0 kY
  have HY : Hid (X + 3 ≤ w4.heap.size) := Nat.le_trans HS3.out k4.size
  obtain ⟨Y, hY⟩ : ∃ Y, Y = w4.heap.size := ⟨_, rfl⟩
  obtain ⟨W5, hW5⟩ : ∃ W, W = w4.alloc (.cells #[.int .i64 fv, .int .i64 fc, .int .u32 f2] 54) := ⟨_, rfl⟩
  rw [← hW5] at q1 b5 h5
  rw [← hY] at q1 HY
  go_upto_region 14 with fail
  rw [← hW5, ← hY]
  clear hW5 hY kY k4 h4 b3 h3
  obtain ⟨c0, c1, c2, c3, c4⟩ := b5.o.all
  have hgc := HV.out.get b5.c
  have HR5 : Hid _ := HR.out W5 tn4 h5
  clear HR
  go_wp2_with fail
  refine Calls.mono HR5.out ?_; rintro e w6 ⟨rfl, h6, k6⟩
  clear c0 c1 c2 c3 c4 HR5 hgc
  have kY := Kp.alloc noB w6 (.cells #[.int .i64 fv, .int .i64 fc, .int .u32 f2] 54)
  have q2 : RowT (w6.alloc (.cells #[.int .i64 fv, .int .i64 fc, .int .u32 f2] 54)) w6.heap.size ⟨fv, fc, f2⟩ := (MapKept.heap_alloc w6 _).1
  replace q1 := (q1.kp k6 (fun f => by have := b5.x _ f; have := HY.out; omega)).kp kY (fun f => f)
  have b7 := (b5.kpS k6).kp0 kY
  have h7 := h6.kp0 kY
  obtain ⟨Y2, hY⟩ : ∃ Y, Y = w6.heap.size := ⟨_, rfl⟩
  obtain ⟨W7, hW7⟩ : ∃ W, W = w6.alloc (.cells #[.int .i64 fv, .int .i64 fc, .int .u32 f2] 54) := ⟨_, rfl⟩
  rw [← hW7] at q1 q2 b7 h7
  rw [← hY] at q2
  go_upto_region 15 with fail
  rw [← hW7, ← hY]
  clear hW7 hY kY k6 h6 b5 h5
  obtain ⟨y0, y1, y2⟩ : _ ∧ _ ∧ _ := ⟨q1.c0, q1.c1, q1.c2⟩
  obtain ⟨z0, z1, z2⟩ : _ ∧ _ ∧ _ := ⟨q2.c0, q2.c1, q2.c2⟩
  go_upto_region 26 with fail
  have hgl := HV.out.get b7.l
  have hgc := HV.out.get b7.c
  go_wp2
  go_ret
  exact ⟨rfl, ⟨tn4, ht4, h7⟩, b7.k⟩

set_option maxHeartbeats 4000000 in
theorem ask_code (w : World) (V K B : Nat) (R : Rf) (pl tn : Nat) (M : Mem) (h : TwV w V K B R pl tn M M) (cs : Array Value) (wf : WfC cs) (c : Cp) (hc : CpC cs c) (ok : c.Ok) (heq : ∀ w, (Op.equalIn 10000 35 (.agg cs) (.agg cs)).run Tryz.prog w = .ok true w) (sg off z v : Int) (o0 : 0 ≤ off) (o1 : off < 4294967296) (v0 : 0 ≤ v) (v1 : v < 4294967296) (htn : tn < 18446744073709551613) :
    Calls Tryz.prog 8 #[.pointer (some ⟨V, 0, none⟩), .pointer (some ⟨R.r, 0, none⟩), .agg cs, .agg (op5 6 sg off z v)] w (AskP w V K B R pl tn (codQ M c off).m) := by
  obtain ⟨T, nn, Z, hV⟩ := vlP
  obtain ⟨vl, vs, va, vb⟩ := hV.ops
  have vq : ∀ x y, Op.binOp .eql 35 x y 35 = Op.binOp .eql T x y T := by rw [hV.t]; exact fun _ _ => rfl
  have g1 := hV.agg; have g2 := hV.size; have g3 := hV.zero
  have gE : ∀ w, (Op.equalIn 10000 T (.agg cs) (.agg cs)).run Tryz.prog w = .ok true w := by rw [hV.t]; exact heq
  have gG : Tryz.prog.eqGuardType Tryz.prog.depth T = false := by rw [hV.t]; kernel_rfl
  obtain ⟨X, hX⟩ : ∃ X, w.heap.size = X := ⟨_, rfl⟩
  have hst := hV.new wf w
  have hsz : cs.size = nn := by rw [wf.s, hV.s]
  have kA := Kp.alloc noB w (.cells cs T)
  have kO := Kp.alloc noB (w.alloc (.cells cs T)) (.cells (op5 6 sg off z v) 49)
  have kL := Kp.alloc noB ((w.alloc (.cells cs T)).alloc (.cells (op5 6 sg off z v) 49)) (.cells cs T)
  have s1 : (w.alloc (.cells cs T)).heap.size = X + 1 := by simp [hX]
  have s2 : ((w.alloc (.cells cs T)).alloc (.cells (op5 6 sg off z v) 49)).heap.size = X + 1 + 1 := by simp [hX]
  have pA := hV.at wf w
  rw [hX] at pA
  have rO : RowO ((w.alloc (.cells cs T)).alloc (.cells (op5 6 sg off z v) 49)) (X + 1) 6 sg off z v := by
    have := (MapKept.heap_alloc (w.alloc (.cells cs T)) (.cells (op5 6 sg off z v) 49)).1
    rw [s1] at this
    exact this
  have pL := hV.at wf ((w.alloc (.cells cs T)).alloc (.cells (op5 6 sg off z v) 49))
  rw [s2] at pL
  have hg1 := hV.get (pA.kp kO (fun f => f))
  have hst2 := hV.new wf ((w.alloc (.cells cs T)).alloc (.cells (op5 6 sg off z v) 49))
  rw [s2] at hst2
  obtain ⟨W3, hW3⟩ : ∃ W, W = ((w.alloc (.cells cs T)).alloc (.cells (op5 6 sg off z v) 49)).alloc (.cells cs T) := ⟨_, rfl⟩
  have hk : Kp noB w W3 := by rw [hW3]; exact (kA.trans kO).trans kL
  have h3 : TwV W3 V K B R pl tn M M := h.kp0 hk
  have b3 : AkB w K B R X cs 6 sg off z v W3 := ⟨by rw [hW3]; exact (pA.kp kO (fun f => f)).kp kL (fun f => f), by rw [hW3]; exact rO.kp kL (fun f => f), by rw [hW3]; exact pL, kp_no hk, fun j hj => by rw [← hX]; exact h.lt hj⟩
  have HV : Hid (VlP T nn Z) := hV
  have HS3 : Hid (X + 3 ≤ W3.heap.size) := (show X + 3 ≤ W3.heap.size by rw [hW3, World.size_alloc, s2]; exact Nat.le_refl _)
  clear kA kO kL pA rO pL hk h
  have HL := h3.code b3.l hc ok b3.nl htn off o0 o1
  have HR := fun W t (hh : TwV W V K B R pl t (codQ M c off).m M) => hh.dCode h3.v.ram.rdB wf hc ok off o0 o1
  generalize (codQ M c off) = q at *
  generalize q.m = M' at *
  generalize q.val = a at *
  generalize q.place = a2 at *
  generalize q.ft = f at *
  obtain ⟨fv, fc, f2⟩ := f
  unfold Ft.val at HL HR
  simp only at HL HR
  replace HL : Hid _ := HL
  replace HR : Hid _ := HR
  clear wf hc ok heq hV s1 s2
  unfold op5 at *
  go_enter Tryz.func8, Tryz.ntmps8
  simp only [vl, vs, va, vb, vq] at *
  go_upto_region 19 with fail
  rw [← hW3]
  clear hW3 hst hst2 hsz hg1 hX
  obtain ⟨c0, c1, c2, c3, c4⟩ := b3.o.all
  go_wp2_with fail
  refine Calls.mono HL.out ?_; rintro e w4 ⟨rfl, tn4, ht4, h4, k4⟩
  clear c0 c1 c2 c3 c4 HL
  have kY := Kp.alloc noB w4 (.cells #[.int .i64 fv, .int .i64 fc, .int .u32 f2] 54)
  have q1 : RowT (w4.alloc (.cells #[.int .i64 fv, .int .i64 fc, .int .u32 f2] 54)) w4.heap.size ⟨fv, fc, f2⟩ := (MapKept.heap_alloc w4 _).1
  have b5 := (b3.kpS k4).kp0 kY
  have h5 := h4.kp0 kY
  have HY : Hid (X + 3 ≤ w4.heap.size) := Nat.le_trans HS3.out k4.size
  obtain ⟨Y, hY⟩ : ∃ Y, Y = w4.heap.size := ⟨_, rfl⟩
  obtain ⟨W5, hW5⟩ : ∃ W, W = w4.alloc (.cells #[.int .i64 fv, .int .i64 fc, .int .u32 f2] 54) := ⟨_, rfl⟩
  rw [← hW5] at q1 b5 h5
  rw [← hY] at q1 HY
  go_upto_region 20 with fail
  rw [← hW5, ← hY]
  clear hW5 hY kY k4 h4 b3 h3
  obtain ⟨c0, c1, c2, c3, c4⟩ := b5.o.all
  have hgc := HV.out.get b5.c
  have HR5 : Hid _ := HR.out W5 tn4 h5
  clear HR
  go_wp2_with fail
  refine Calls.mono HR5.out ?_; rintro e w6 ⟨rfl, h6, k6⟩
  clear c0 c1 c2 c3 c4 HR5 hgc
  have kY := Kp.alloc noB w6 (.cells #[.int .i64 fv, .int .i64 fc, .int .u32 f2] 54)
  have q2 : RowT (w6.alloc (.cells #[.int .i64 fv, .int .i64 fc, .int .u32 f2] 54)) w6.heap.size ⟨fv, fc, f2⟩ := (MapKept.heap_alloc w6 _).1
  replace q1 := (q1.kp k6 (fun f => by have := b5.x _ f; have := HY.out; omega)).kp kY (fun f => f)
  have b7 := (b5.kpS k6).kp0 kY
  have h7 := h6.kp0 kY
  obtain ⟨Y2, hY⟩ : ∃ Y, Y = w6.heap.size := ⟨_, rfl⟩
  obtain ⟨W7, hW7⟩ : ∃ W, W = w6.alloc (.cells #[.int .i64 fv, .int .i64 fc, .int .u32 f2] 54) := ⟨_, rfl⟩
  rw [← hW7] at q1 q2 b7 h7
  rw [← hY] at q2
  go_upto_region 21 with fail
  rw [← hW7, ← hY]
  clear hW7 hY kY k6 h6 b5 h5
  obtain ⟨y0, y1, y2⟩ : _ ∧ _ ∧ _ := ⟨q1.c0, q1.c1, q1.c2⟩
  obtain ⟨z0, z1, z2⟩ : _ ∧ _ ∧ _ := ⟨q2.c0, q2.c1, q2.c2⟩
  go_upto_region 26 with fail
  have hgl := HV.out.get b7.l
  have hgc := HV.out.get b7.c
  go_wp2
  go_ret
  exact ⟨rfl, ⟨tn4, ht4, h7⟩, b7.k⟩

set_option maxHeartbeats 4000000 in
theorem ask_store (w : World) (V K B : Nat) (R : Rf) (pl tn : Nat) (M : Mem) (h : TwV w V K B R pl tn M M) (cs : Array Value) (wf : WfC cs) (c : Cp) (hc : CpC cs c) (ok : c.Ok) (heq : ∀ w, (Op.equalIn 10000 35 (.agg cs) (.agg cs)).run Tryz.prog w = .ok true w) (sg off z v : Int) (o0 : 0 ≤ off) (o1 : off < 4294967296) (v0 : 0 ≤ v) (v1 : v < 4294967296) (htn : tn < 18446744073709551613) :
    Calls Tryz.prog 8 #[.pointer (some ⟨V, 0, none⟩), .pointer (some ⟨R.r, 0, none⟩), .agg cs, .agg (op5 2 sg off z v)] w (AskP w V K B R pl tn ((segQ M c sg off z true).put v)) := by
  obtain ⟨T, nn, Z, hV⟩ := vlP
  obtain ⟨vl, vs, va, vb⟩ := hV.ops
  have vq : ∀ x y, Op.binOp .eql 35 x y 35 = Op.binOp .eql T x y T := by rw [hV.t]; exact fun _ _ => rfl
  have g1 := hV.agg; have g2 := hV.size; have g3 := hV.zero
  have gE : ∀ w, (Op.equalIn 10000 T (.agg cs) (.agg cs)).run Tryz.prog w = .ok true w := by rw [hV.t]; exact heq
  have gG : Tryz.prog.eqGuardType Tryz.prog.depth T = false := by rw [hV.t]; kernel_rfl
  obtain ⟨X, hX⟩ : ∃ X, w.heap.size = X := ⟨_, rfl⟩
  have hst := hV.new wf w
  have hsz : cs.size = nn := by rw [wf.s, hV.s]
  have kA := Kp.alloc noB w (.cells cs T)
  have kO := Kp.alloc noB (w.alloc (.cells cs T)) (.cells (op5 2 sg off z v) 49)
  have kL := Kp.alloc noB ((w.alloc (.cells cs T)).alloc (.cells (op5 2 sg off z v) 49)) (.cells cs T)
  have s1 : (w.alloc (.cells cs T)).heap.size = X + 1 := by simp [hX]
  have s2 : ((w.alloc (.cells cs T)).alloc (.cells (op5 2 sg off z v) 49)).heap.size = X + 1 + 1 := by simp [hX]
  have pA := hV.at wf w
  rw [hX] at pA
  have rO : RowO ((w.alloc (.cells cs T)).alloc (.cells (op5 2 sg off z v) 49)) (X + 1) 2 sg off z v := by
    have := (MapKept.heap_alloc (w.alloc (.cells cs T)) (.cells (op5 2 sg off z v) 49)).1
    rw [s1] at this
    exact this
  have pL := hV.at wf ((w.alloc (.cells cs T)).alloc (.cells (op5 2 sg off z v) 49))
  rw [s2] at pL
  have hg1 := hV.get (pA.kp kO (fun f => f))
  have hst2 := hV.new wf ((w.alloc (.cells cs T)).alloc (.cells (op5 2 sg off z v) 49))
  rw [s2] at hst2
  obtain ⟨W3, hW3⟩ : ∃ W, W = ((w.alloc (.cells cs T)).alloc (.cells (op5 2 sg off z v) 49)).alloc (.cells cs T) := ⟨_, rfl⟩
  have hk : Kp noB w W3 := by rw [hW3]; exact (kA.trans kO).trans kL
  have h3 : TwV W3 V K B R pl tn M M := h.kp0 hk
  have b3 : AkB w K B R X cs 2 sg off z v W3 := ⟨by rw [hW3]; exact (pA.kp kO (fun f => f)).kp kL (fun f => f), by rw [hW3]; exact rO.kp kL (fun f => f), by rw [hW3]; exact pL, kp_no hk, fun j hj => by rw [← hX]; exact h.lt hj⟩
  have HV : Hid (VlP T nn Z) := hV
  have HS3 : Hid (X + 3 ≤ W3.heap.size) := (show X + 3 ≤ W3.heap.size by rw [hW3, World.size_alloc, s2]; exact Nat.le_refl _)
  clear kA kO kL pA rO pL hk h
  have HL := fun W t N (hh : TwV W V K B R pl t M N) (hl : PAt W (X + 1 + 1) cs) (ht : t < 18446744073709551613) => hh.store hl hc ok b3.nl ht sg off z v o0 o1 v0 v1
  have HR := fun W t MM (hh : TwV W V K B R pl t MM M) => hh.dStore h3.v.ram.rdB wf hc ok sg off z v o0 o1 v0 v1
  generalize ((segQ M c sg off z true).put v) = M' at *
  generalize (segQ M c sg off z true).ft = f at *
  obtain ⟨fv, fc, f2⟩ := f
  unfold Ft.val at HL HR
  simp only at HL HR
  replace HL : Hid _ := HL
  replace HR : Hid _ := HR
  clear wf hc ok heq hV s1 s2
  unfold op5 at *
  go_enter Tryz.func8, Tryz.ntmps8
  simp only [vl, vs, va, vb, vq] at *
  go_upto_region 9 with fail
  rw [← hW3]
  clear hW3 hst hst2 hsz hg1 hX
  have HI0 : Hid (AkD w V K B R pl tn M M' X cs 2 sg off z v false false { W3 with drawn := W3.drawn + 1 }) := AkD.kp0 ⟨b3, tn, Nat.le_refl _, h3⟩ (Kp.refl noB W3).drew
  have HT : Hid (tn < 18446744073709551613) := htn
  clear b3 h3 htn
  refine OrdG.region_vals (τ := Unit) (fun t => [(.pointer (some ⟨V, 0, none⟩)), (.pointer (some ⟨X + 1, 1, none⟩)), (.int .i64 sg), (.pointer (some ⟨X + 1, 2, none⟩)), (.int .u32 off), (.pointer (some ⟨X + 1, 3, none⟩)), (.int .i64 z), (.pointer (some ⟨X + 1, 4, none⟩)), (.int .u32 v), (.agg #[.int .i64 fv, .int .i64 fc, .int .u32 f2]), (.pointer (some ⟨R.r, 0, none⟩)), (.agg cs), (.pointer (some ⟨X + 1, 1, none⟩)), (.int .i64 sg), (.pointer (some ⟨X + 1, 2, none⟩)), (.int .u32 off), (.pointer (some ⟨X + 1, 3, none⟩)), (.int .i64 z), (.pointer (some ⟨X + 1, 4, none⟩)), (.int .u32 v), (.agg #[.int .i64 fv, .int .i64 fc, .int .u32 f2]), (.bool true), (.bool true)]) (fun t listed w' => AkD w V K B R pl tn M M' X cs 2 sg off z v (listed.getD 9 false) (listed.getD 20 false) w') () (by kernel_rfl) (by kernel_rfl) (by kernel_rfl) (by kernel_rfl) (fun _ => rfl) (fun t => by simp only [OrdG.puts, Act.put, List.setIfInBounds_toArray, List.set_cons_zero, List.set_cons_succ]; rfl) (fun _ => by kernel_rfl) HI0.out ?_ ?_
  · refine ⟨?_, ?_, ?_, ?_, ?_, ?_, ?_, ?_, ?_, ?_, ?_, ?_, ?_, ?_, ?_, ?_, ?_, ?_, ?_, ?_, ?_, ?_, ?_, trivial⟩
    all_goals (intro t listed W' hz hSh hl hI hb KK hK hK0; change AkD w V K B R pl tn M M' X cs 2 sg off z v (listed.getD 9 false) (listed.getD 20 false) W' at hI; replace hz : listed.size = 23 := hz)
    · go_simp
      exact hK0 _ (by show AkD w V K B R pl tn M M' X cs 2 sg off z v (Array.getD _ 9 false) (Array.getD _ 20 false) _; rw [getD_set_ne false (by decide), getD_set_ne false (by decide)]; exact hI)
    · go_simp
      exact hK0 _ (by show AkD w V K B R pl tn M M' X cs 2 sg off z v (Array.getD _ 9 false) (Array.getD _ 20 false) _; rw [getD_set_ne false (by decide), getD_set_ne false (by decide)]; exact hI)
    · obtain ⟨c0, c1, c2, c3, c4⟩ := hI.b.o.all
      go_simp
      exact hK0 _ (by show AkD w V K B R pl tn M M' X cs 2 sg off z v (Array.getD _ 9 false) (Array.getD _ 20 false) _; rw [getD_set_ne false (by decide), getD_set_ne false (by decide)]; exact hI)
    · go_simp
      exact hK0 _ (by show AkD w V K B R pl tn M M' X cs 2 sg off z v (Array.getD _ 9 false) (Array.getD _ 20 false) _; rw [getD_set_ne false (by decide), getD_set_ne false (by decide)]; exact hI)
    · obtain ⟨c0, c1, c2, c3, c4⟩ := hI.b.o.all
      go_simp
      exact hK0 _ (by show AkD w V K B R pl tn M M' X cs 2 sg off z v (Array.getD _ 9 false) (Array.getD _ 20 false) _; rw [getD_set_ne false (by decide), getD_set_ne false (by decide)]; exact hI)
    · go_simp
      exact hK0 _ (by show AkD w V K B R pl tn M M' X cs 2 sg off z v (Array.getD _ 9 false) (Array.getD _ 20 false) _; rw [getD_set_ne false (by decide), getD_set_ne false (by decide)]; exact hI)
    · obtain ⟨c0, c1, c2, c3, c4⟩ := hI.b.o.all
      go_simp
      exact hK0 _ (by show AkD w V K B R pl tn M M' X cs 2 sg off z v (Array.getD _ 9 false) (Array.getD _ 20 false) _; rw [getD_set_ne false (by decide), getD_set_ne false (by decide)]; exact hI)
    · go_simp
      exact hK0 _ (by show AkD w V K B R pl tn M M' X cs 2 sg off z v (Array.getD _ 9 false) (Array.getD _ 20 false) _; rw [getD_set_ne false (by decide), getD_set_ne false (by decide)]; exact hI)
    · obtain ⟨c0, c1, c2, c3, c4⟩ := hI.b.o.all
      go_simp
      exact hK0 _ (by show AkD w V K B R pl tn M M' X cs 2 sg off z v (Array.getD _ 9 false) (Array.getD _ 20 false) _; rw [getD_set_ne false (by decide), getD_set_ne false (by decide)]; exact hI)
    · rw [hl] at hI
      have hI2 := hI.t
      obtain ⟨t1, ht1, hh1⟩ := hI2
      have ht1' : t1 ≤ tn := ht1
      have H1 : Hid _ := HL.out W' t1 _ hh1 hI.b.l (by have := HT.out; omega)
      go_simp
      refine Calls.mono H1.out ?_; rintro e z5 ⟨rfl, t2, ht2, hh2, k2⟩
      refine hK0 _ ?_
      show AkD w V K B R pl tn M M' X cs 2 sg off z v (Array.getD _ 9 false) (Array.getD _ 20 false) _
      rw [OrdG.getD_self hz (by decide), getD_set_ne false (by decide)]
      exact ⟨hI.b.kpS k2, t2, (show t2 ≤ tn + 2 by omega), hh2⟩
    · go_simp
      exact hK0 _ (by show AkD w V K B R pl tn M M' X cs 2 sg off z v (Array.getD _ 9 false) (Array.getD _ 20 false) _; rw [getD_set_ne false (by decide), getD_set_ne false (by decide)]; exact hI)
    · have hgc := HV.out.get hI.b.c
      go_simp
      exact hK0 _ (by show AkD w V K B R pl tn M M' X cs 2 sg off z v (Array.getD _ 9 false) (Array.getD _ 20 false) _; rw [getD_set_ne false (by decide), getD_set_ne false (by decide)]; exact hI)
    · go_simp
      exact hK0 _ (by show AkD w V K B R pl tn M M' X cs 2 sg off z v (Array.getD _ 9 false) (Array.getD _ 20 false) _; rw [getD_set_ne false (by decide), getD_set_ne false (by decide)]; exact hI)
    · obtain ⟨c0, c1, c2, c3, c4⟩ := hI.b.o.all
      go_simp
      exact hK0 _ (by show AkD w V K B R pl tn M M' X cs 2 sg off z v (Array.getD _ 9 false) (Array.getD _ 20 false) _; rw [getD_set_ne false (by decide), getD_set_ne false (by decide)]; exact hI)
    · go_simp
      exact hK0 _ (by show AkD w V K B R pl tn M M' X cs 2 sg off z v (Array.getD _ 9 false) (Array.getD _ 20 false) _; rw [getD_set_ne false (by decide), getD_set_ne false (by decide)]; exact hI)
    · obtain ⟨c0, c1, c2, c3, c4⟩ := hI.b.o.all
      go_simp
      exact hK0 _ (by show AkD w V K B R pl tn M M' X cs 2 sg off z v (Array.getD _ 9 false) (Array.getD _ 20 false) _; rw [getD_set_ne false (by decide), getD_set_ne false (by decide)]; exact hI)
    · go_simp
      exact hK0 _ (by show AkD w V K B R pl tn M M' X cs 2 sg off z v (Array.getD _ 9 false) (Array.getD _ 20 false) _; rw [getD_set_ne false (by decide), getD_set_ne false (by decide)]; exact hI)
    · obtain ⟨c0, c1, c2, c3, c4⟩ := hI.b.o.all
      go_simp
      exact hK0 _ (by show AkD w V K B R pl tn M M' X cs 2 sg off z v (Array.getD _ 9 false) (Array.getD _ 20 false) _; rw [getD_set_ne false (by decide), getD_set_ne false (by decide)]; exact hI)
    · go_simp
      exact hK0 _ (by show AkD w V K B R pl tn M M' X cs 2 sg off z v (Array.getD _ 9 false) (Array.getD _ 20 false) _; rw [getD_set_ne false (by decide), getD_set_ne false (by decide)]; exact hI)
    · obtain ⟨c0, c1, c2, c3, c4⟩ := hI.b.o.all
      go_simp
      exact hK0 _ (by show AkD w V K B R pl tn M M' X cs 2 sg off z v (Array.getD _ 9 false) (Array.getD _ 20 false) _; rw [getD_set_ne false (by decide), getD_set_ne false (by decide)]; exact hI)
    · rw [hl] at hI
      have hI2 := hI.t
      obtain ⟨t1, ht1, hh1⟩ := hI2
      have H1 : Hid _ := HR.out W' t1 _ hh1
      go_simp
      refine Calls.mono H1.out ?_; rintro e z5 ⟨rfl, hh2, k2⟩
      refine hK0 _ ?_
      show AkD w V K B R pl tn M M' X cs 2 sg off z v (Array.getD _ 9 false) (Array.getD _ 20 false) _
      rw [OrdG.getD_self hz (by decide), getD_set_ne false (by decide)]
      exact ⟨hI.b.kpS k2, t1, ht1, hh2⟩
    · go_simp
      exact hK0 _ (by show AkD w V K B R pl tn M M' X cs 2 sg off z v (Array.getD _ 9 false) (Array.getD _ 20 false) _; rw [getD_set_ne false (by decide), getD_set_ne false (by decide)]; exact hI)
    · go_simp
      exact hK0 _ (by show AkD w V K B R pl tn M M' X cs 2 sg off z v (Array.getD _ 9 false) (Array.getD _ 20 false) _; rw [getD_set_ne false (by decide), getD_set_ne false (by decide)]; exact hI)
  · intro t listed W' hall hI
    change AkD w V K B R pl tn M M' X cs 2 sg off z v (listed.getD 9 false) (listed.getD 20 false) W' at hI
    rw [hall 9 (by show 9 < 23; decide), hall 20 (by show 20 < 23; decide)] at hI
    have b7 := hI.b
    obtain ⟨tn4, ht4, h7⟩ := hI.t
    clear hI hall HI0 HL HR
    replace ht4 : tn4 ≤ tn + 2 := ht4
    go_upto_region 26 with fail
    have hgl := HV.out.get b7.l
    have hgc := HV.out.get b7.c
    go_wp2
    go_ret
    exact ⟨rfl, ⟨tn4, ht4, h7⟩, b7.k⟩

set_option maxHeartbeats 4000000 in
theorem ask_check (w : World) (V K B : Nat) (R : Rf) (pl tn : Nat) (M : Mem) (h : TwV w V K B R pl tn M M) (cs : Array Value) (wf : WfC cs) (c : Cp) (hc : CpC cs c) (ok : c.Ok) (heq : ∀ w, (Op.equalIn 10000 35 (.agg cs) (.agg cs)).run Tryz.prog w = .ok true w) (sg off z v : Int) (o0 : 0 ≤ off) (o1 : off < 4294967296) (v0 : 0 ≤ v) (v1 : v < 4294967296) (htn : tn < 18446744073709551613) :
    Calls Tryz.prog 8 #[.pointer (some ⟨V, 0, none⟩), .pointer (some ⟨R.r, 0, none⟩), .agg cs, .agg (op5 3 sg off z v)] w (AskP w V K B R pl tn (segQ M c sg off z true).m) := by
  obtain ⟨T, nn, Z, hV⟩ := vlP
  obtain ⟨vl, vs, va, vb⟩ := hV.ops
  have vq : ∀ x y, Op.binOp .eql 35 x y 35 = Op.binOp .eql T x y T := by rw [hV.t]; exact fun _ _ => rfl
  have g1 := hV.agg; have g2 := hV.size; have g3 := hV.zero
  have gE : ∀ w, (Op.equalIn 10000 T (.agg cs) (.agg cs)).run Tryz.prog w = .ok true w := by rw [hV.t]; exact heq
  have gG : Tryz.prog.eqGuardType Tryz.prog.depth T = false := by rw [hV.t]; kernel_rfl
  obtain ⟨X, hX⟩ : ∃ X, w.heap.size = X := ⟨_, rfl⟩
  have hst := hV.new wf w
  have hsz : cs.size = nn := by rw [wf.s, hV.s]
  have kA := Kp.alloc noB w (.cells cs T)
  have kO := Kp.alloc noB (w.alloc (.cells cs T)) (.cells (op5 3 sg off z v) 49)
  have kL := Kp.alloc noB ((w.alloc (.cells cs T)).alloc (.cells (op5 3 sg off z v) 49)) (.cells cs T)
  have s1 : (w.alloc (.cells cs T)).heap.size = X + 1 := by simp [hX]
  have s2 : ((w.alloc (.cells cs T)).alloc (.cells (op5 3 sg off z v) 49)).heap.size = X + 1 + 1 := by simp [hX]
  have pA := hV.at wf w
  rw [hX] at pA
  have rO : RowO ((w.alloc (.cells cs T)).alloc (.cells (op5 3 sg off z v) 49)) (X + 1) 3 sg off z v := by
    have := (MapKept.heap_alloc (w.alloc (.cells cs T)) (.cells (op5 3 sg off z v) 49)).1
    rw [s1] at this
    exact this
  have pL := hV.at wf ((w.alloc (.cells cs T)).alloc (.cells (op5 3 sg off z v) 49))
  rw [s2] at pL
  have hg1 := hV.get (pA.kp kO (fun f => f))
  have hst2 := hV.new wf ((w.alloc (.cells cs T)).alloc (.cells (op5 3 sg off z v) 49))
  rw [s2] at hst2
  obtain ⟨W3, hW3⟩ : ∃ W, W = ((w.alloc (.cells cs T)).alloc (.cells (op5 3 sg off z v) 49)).alloc (.cells cs T) := ⟨_, rfl⟩
  have hk : Kp noB w W3 := by rw [hW3]; exact (kA.trans kO).trans kL
  have h3 : TwV W3 V K B R pl tn M M := h.kp0 hk
  have b3 : AkB w K B R X cs 3 sg off z v W3 := ⟨by rw [hW3]; exact (pA.kp kO (fun f => f)).kp kL (fun f => f), by rw [hW3]; exact rO.kp kL (fun f => f), by rw [hW3]; exact pL, kp_no hk, fun j hj => by rw [← hX]; exact h.lt hj⟩
  have HV : Hid (VlP T nn Z) := hV
  have HS3 : Hid (X + 3 ≤ W3.heap.size) := (show X + 3 ≤ W3.heap.size by rw [hW3, World.size_alloc, s2]; exact Nat.le_refl _)
  clear kA kO kL pA rO pL hk h
  have HL := fun W t N (hh : TwV W V K B R pl t M N) (hl : PAt W (X + 1 + 1) cs) (ht : t < 18446744073709551613) => hh.check hl hc ok b3.nl ht sg off z o0 o1
  have HR := fun W t MM (hh : TwV W V K B R pl t MM M) => hh.dCheck h3.v.ram.rdB wf hc ok sg off z o0 o1
  generalize (segQ M c sg off z true).m = M' at *
  generalize (segQ M c sg off z true).ft = f at *
  obtain ⟨fv, fc, f2⟩ := f
  unfold Ft.val at HL HR
  simp only at HL HR
  replace HL : Hid _ := HL
  replace HR : Hid _ := HR
  clear wf hc ok heq hV s1 s2
  unfold op5 at *
  go_enter Tryz.func8, Tryz.ntmps8
  simp only [vl, vs, va, vb, vq] at *
  go_upto_region 11 with fail
  rw [← hW3]
  clear hW3 hst hst2 hsz hg1 hX
  have HI0 : Hid (AkD w V K B R pl tn M M' X cs 3 sg off z v false false { W3 with drawn := W3.drawn + 1 }) := AkD.kp0 ⟨b3, tn, Nat.le_refl _, h3⟩ (Kp.refl noB W3).drew
  have HT : Hid (tn < 18446744073709551613) := htn
  clear b3 h3 htn
  refine OrdG.region_vals (τ := Unit) (fun t => [(.pointer (some ⟨V, 0, none⟩)), (.pointer (some ⟨X + 1, 1, none⟩)), (.int .i64 sg), (.pointer (some ⟨X + 1, 2, none⟩)), (.int .u32 off), (.pointer (some ⟨X + 1, 3, none⟩)), (.int .i64 z), (.agg #[.int .i64 fv, .int .i64 fc, .int .u32 f2]), (.pointer (some ⟨R.r, 0, none⟩)), (.agg cs), (.pointer (some ⟨X + 1, 1, none⟩)), (.int .i64 sg), (.pointer (some ⟨X + 1, 2, none⟩)), (.int .u32 off), (.pointer (some ⟨X + 1, 3, none⟩)), (.int .i64 z), (.agg #[.int .i64 fv, .int .i64 fc, .int .u32 f2]), (.bool true), (.bool true)]) (fun t listed w' => AkD w V K B R pl tn M M' X cs 3 sg off z v (listed.getD 7 false) (listed.getD 16 false) w') () (by kernel_rfl) (by kernel_rfl) (by kernel_rfl) (by kernel_rfl) (fun _ => rfl) (fun t => by simp only [OrdG.puts, Act.put, List.setIfInBounds_toArray, List.set_cons_zero, List.set_cons_succ]; rfl) (fun _ => by kernel_rfl) HI0.out ?_ ?_
  · refine ⟨?_, ?_, ?_, ?_, ?_, ?_, ?_, ?_, ?_, ?_, ?_, ?_, ?_, ?_, ?_, ?_, ?_, ?_, ?_, trivial⟩
    all_goals (intro t listed W' hz hSh hl hI hb KK hK hK0; change AkD w V K B R pl tn M M' X cs 3 sg off z v (listed.getD 7 false) (listed.getD 16 false) W' at hI; replace hz : listed.size = 19 := hz)
    · go_simp
      exact hK0 _ (by show AkD w V K B R pl tn M M' X cs 3 sg off z v (Array.getD _ 7 false) (Array.getD _ 16 false) _; rw [getD_set_ne false (by decide), getD_set_ne false (by decide)]; exact hI)
    · go_simp
      exact hK0 _ (by show AkD w V K B R pl tn M M' X cs 3 sg off z v (Array.getD _ 7 false) (Array.getD _ 16 false) _; rw [getD_set_ne false (by decide), getD_set_ne false (by decide)]; exact hI)
    · obtain ⟨c0, c1, c2, c3, c4⟩ := hI.b.o.all
      go_simp
      exact hK0 _ (by show AkD w V K B R pl tn M M' X cs 3 sg off z v (Array.getD _ 7 false) (Array.getD _ 16 false) _; rw [getD_set_ne false (by decide), getD_set_ne false (by decide)]; exact hI)
    · go_simp
      exact hK0 _ (by show AkD w V K B R pl tn M M' X cs 3 sg off z v (Array.getD _ 7 false) (Array.getD _ 16 false) _; rw [getD_set_ne false (by decide), getD_set_ne false (by decide)]; exact hI)
    · obtain ⟨c0, c1, c2, c3, c4⟩ := hI.b.o.all
      go_simp
      exact hK0 _ (by show AkD w V K B R pl tn M M' X cs 3 sg off z v (Array.getD _ 7 false) (Array.getD _ 16 false) _; rw [getD_set_ne false (by decide), getD_set_ne false (by decide)]; exact hI)
    · go_simp
      exact hK0 _ (by show AkD w V K B R pl tn M M' X cs 3 sg off z v (Array.getD _ 7 false) (Array.getD _ 16 false) _; rw [getD_set_ne false (by decide), getD_set_ne false (by decide)]; exact hI)
    · obtain ⟨c0, c1, c2, c3, c4⟩ := hI.b.o.all
      go_simp
      exact hK0 _ (by show AkD w V K B R pl tn M M' X cs 3 sg off z v (Array.getD _ 7 false) (Array.getD _ 16 false) _; rw [getD_set_ne false (by decide), getD_set_ne false (by decide)]; exact hI)
    · rw [hl] at hI
      have hI2 := hI.t
      obtain ⟨t1, ht1, hh1⟩ := hI2
      have ht1' : t1 ≤ tn := ht1
      have H1 : Hid _ := HL.out W' t1 _ hh1 hI.b.l (by have := HT.out; omega)
      go_simp
      refine Calls.mono H1.out ?_; rintro e z5 ⟨rfl, t2, ht2, hh2, k2⟩
      refine hK0 _ ?_
      show AkD w V K B R pl tn M M' X cs 3 sg off z v (Array.getD _ 7 false) (Array.getD _ 16 false) _
      rw [OrdG.getD_self hz (by decide), getD_set_ne false (by decide)]
      exact ⟨hI.b.kpS k2, t2, (show t2 ≤ tn + 2 by omega), hh2⟩
    · go_simp
      exact hK0 _ (by show AkD w V K B R pl tn M M' X cs 3 sg off z v (Array.getD _ 7 false) (Array.getD _ 16 false) _; rw [getD_set_ne false (by decide), getD_set_ne false (by decide)]; exact hI)
    · have hgc := HV.out.get hI.b.c
      go_simp
      exact hK0 _ (by show AkD w V K B R pl tn M M' X cs 3 sg off z v (Array.getD _ 7 false) (Array.getD _ 16 false) _; rw [getD_set_ne false (by decide), getD_set_ne false (by decide)]; exact hI)
    · go_simp
      exact hK0 _ (by show AkD w V K B R pl tn M M' X cs 3 sg off z v (Array.getD _ 7 false) (Array.getD _ 16 false) _; rw [getD_set_ne false (by decide), getD_set_ne false (by decide)]; exact hI)
    · obtain ⟨c0, c1, c2, c3, c4⟩ := hI.b.o.all
      go_simp
      exact hK0 _ (by show AkD w V K B R pl tn M M' X cs 3 sg off z v (Array.getD _ 7 false) (Array.getD _ 16 false) _; rw [getD_set_ne false (by decide), getD_set_ne false (by decide)]; exact hI)
    · go_simp
      exact hK0 _ (by show AkD w V K B R pl tn M M' X cs 3 sg off z v (Array.getD _ 7 false) (Array.getD _ 16 false) _; rw [getD_set_ne false (by decide), getD_set_ne false (by decide)]; exact hI)
    · obtain ⟨c0, c1, c2, c3, c4⟩ := hI.b.o.all
      go_simp
      exact hK0 _ (by show AkD w V K B R pl tn M M' X cs 3 sg off z v (Array.getD _ 7 false) (Array.getD _ 16 false) _; rw [getD_set_ne false (by decide), getD_set_ne false (by decide)]; exact hI)
    · go_simp
      exact hK0 _ (by show AkD w V K B R pl tn M M' X cs 3 sg off z v (Array.getD _ 7 false) (Array.getD _ 16 false) _; rw [getD_set_ne false (by decide), getD_set_ne false (by decide)]; exact hI)
    · obtain ⟨c0, c1, c2, c3, c4⟩ := hI.b.o.all
      go_simp
      exact hK0 _ (by show AkD w V K B R pl tn M M' X cs 3 sg off z v (Array.getD _ 7 false) (Array.getD _ 16 false) _; rw [getD_set_ne false (by decide), getD_set_ne false (by decide)]; exact hI)
    · rw [hl] at hI
      have hI2 := hI.t
      obtain ⟨t1, ht1, hh1⟩ := hI2
      have H1 : Hid _ := HR.out W' t1 _ hh1
      go_simp
      refine Calls.mono H1.out ?_; rintro e z5 ⟨rfl, hh2, k2⟩
      refine hK0 _ ?_
      show AkD w V K B R pl tn M M' X cs 3 sg off z v (Array.getD _ 7 false) (Array.getD _ 16 false) _
      rw [OrdG.getD_self hz (by decide), getD_set_ne false (by decide)]
      exact ⟨hI.b.kpS k2, t1, ht1, hh2⟩
    · go_simp
      exact hK0 _ (by show AkD w V K B R pl tn M M' X cs 3 sg off z v (Array.getD _ 7 false) (Array.getD _ 16 false) _; rw [getD_set_ne false (by decide), getD_set_ne false (by decide)]; exact hI)
    · go_simp
      exact hK0 _ (by show AkD w V K B R pl tn M M' X cs 3 sg off z v (Array.getD _ 7 false) (Array.getD _ 16 false) _; rw [getD_set_ne false (by decide), getD_set_ne false (by decide)]; exact hI)
  · intro t listed W' hall hI
    change AkD w V K B R pl tn M M' X cs 3 sg off z v (listed.getD 7 false) (listed.getD 16 false) W' at hI
    rw [hall 7 (by show 7 < 19; decide), hall 16 (by show 16 < 19; decide)] at hI
    have b7 := hI.b
    obtain ⟨tn4, ht4, h7⟩ := hI.t
    clear hI hall HI0 HL HR
    replace ht4 : tn4 ≤ tn + 2 := ht4
    go_upto_region 26 with fail
    have hgl := HV.out.get b7.l
    have hgc := HV.out.get b7.c
    go_wp2
    go_ret
    exact ⟨rfl, ⟨tn4, ht4, h7⟩, b7.k⟩

set_option maxHeartbeats 4000000 in
theorem ask_setSys (w : World) (V K B : Nat) (R : Rf) (pl tn : Nat) (M : Mem) (h : TwV w V K B R pl tn M M) (cs : Array Value) (wf : WfC cs) (c : Cp) (hc : CpC cs c) (ok : c.Ok) (heq : ∀ w, (Op.equalIn 10000 35 (.agg cs) (.agg cs)).run Tryz.prog w = .ok true w) (sg off z v : Int) (o0 : 0 ≤ off) (o1 : off < 4294967296) (v0 : 0 ≤ v) (v1 : v < 4294967296) (htn : tn < 18446744073709551613) :
    Calls Tryz.prog 8 #[.pointer (some ⟨V, 0, none⟩), .pointer (some ⟨R.r, 0, none⟩), .agg cs, .agg (op5 5 sg off z v)] w (AskP w V K B R pl tn ((sysQ M c off z true).put v)) := by
  obtain ⟨T, nn, Z, hV⟩ := vlP
  obtain ⟨vl, vs, va, vb⟩ := hV.ops
  have vq : ∀ x y, Op.binOp .eql 35 x y 35 = Op.binOp .eql T x y T := by rw [hV.t]; exact fun _ _ => rfl
  have g1 := hV.agg; have g2 := hV.size; have g3 := hV.zero
  have gE : ∀ w, (Op.equalIn 10000 T (.agg cs) (.agg cs)).run Tryz.prog w = .ok true w := by rw [hV.t]; exact heq
  have gG : Tryz.prog.eqGuardType Tryz.prog.depth T = false := by rw [hV.t]; kernel_rfl
  obtain ⟨X, hX⟩ : ∃ X, w.heap.size = X := ⟨_, rfl⟩
  have hst := hV.new wf w
  have hsz : cs.size = nn := by rw [wf.s, hV.s]
  have kA := Kp.alloc noB w (.cells cs T)
  have kO := Kp.alloc noB (w.alloc (.cells cs T)) (.cells (op5 5 sg off z v) 49)
  have kL := Kp.alloc noB ((w.alloc (.cells cs T)).alloc (.cells (op5 5 sg off z v) 49)) (.cells cs T)
  have s1 : (w.alloc (.cells cs T)).heap.size = X + 1 := by simp [hX]
  have s2 : ((w.alloc (.cells cs T)).alloc (.cells (op5 5 sg off z v) 49)).heap.size = X + 1 + 1 := by simp [hX]
  have pA := hV.at wf w
  rw [hX] at pA
  have rO : RowO ((w.alloc (.cells cs T)).alloc (.cells (op5 5 sg off z v) 49)) (X + 1) 5 sg off z v := by
    have := (MapKept.heap_alloc (w.alloc (.cells cs T)) (.cells (op5 5 sg off z v) 49)).1
    rw [s1] at this
    exact this
  have pL := hV.at wf ((w.alloc (.cells cs T)).alloc (.cells (op5 5 sg off z v) 49))
  rw [s2] at pL
  have hg1 := hV.get (pA.kp kO (fun f => f))
  have hst2 := hV.new wf ((w.alloc (.cells cs T)).alloc (.cells (op5 5 sg off z v) 49))
  rw [s2] at hst2
  obtain ⟨W3, hW3⟩ : ∃ W, W = ((w.alloc (.cells cs T)).alloc (.cells (op5 5 sg off z v) 49)).alloc (.cells cs T) := ⟨_, rfl⟩
  have hk : Kp noB w W3 := by rw [hW3]; exact (kA.trans kO).trans kL
  have h3 : TwV W3 V K B R pl tn M M := h.kp0 hk
  have b3 : AkB w K B R X cs 5 sg off z v W3 := ⟨by rw [hW3]; exact (pA.kp kO (fun f => f)).kp kL (fun f => f), by rw [hW3]; exact rO.kp kL (fun f => f), by rw [hW3]; exact pL, kp_no hk, fun j hj => by rw [← hX]; exact h.lt hj⟩
  have HV : Hid (VlP T nn Z) := hV
  have HS3 : Hid (X + 3 ≤ W3.heap.size) := (show X + 3 ≤ W3.heap.size by rw [hW3, World.size_alloc, s2]; exact Nat.le_refl _)
  clear kA kO kL pA rO pL hk h
  have HL := fun W t N (hh : TwV W V K B R pl t M N) (hl : PAt W (X + 1 + 1) cs) (ht : t < 18446744073709551613) => hh.setSys hl hc ok b3.nl ht off z v o0 o1 v0 v1
  have HR := fun W t MM (hh : TwV W V K B R pl t MM M) => hh.dSetSys h3.v.ram.rdB wf hc ok off z v o0 o1 v0 v1
  generalize ((sysQ M c off z true).put v) = M' at *
  generalize (sysQ M c off z true).ft = f at *
  obtain ⟨fv, fc, f2⟩ := f
  unfold Ft.val at HL HR
  simp only at HL HR
  replace HL : Hid _ := HL
  replace HR : Hid _ := HR
  clear wf hc ok heq hV s1 s2
  unfold op5 at *
  go_enter Tryz.func8, Tryz.ntmps8
  simp only [vl, vs, va, vb, vq] at *
  go_upto_region 17 with fail
  rw [← hW3]
  clear hW3 hst hst2 hsz hg1 hX
  have HI0 : Hid (AkD w V K B R pl tn M M' X cs 5 sg off z v false false { W3 with drawn := W3.drawn + 1 }) := AkD.kp0 ⟨b3, tn, Nat.le_refl _, h3⟩ (Kp.refl noB W3).drew
  have HT : Hid (tn < 18446744073709551613) := htn
  clear b3 h3 htn
  refine OrdG.region_vals (τ := Unit) (fun t => [(.pointer (some ⟨V, 0, none⟩)), (.pointer (some ⟨X + 1, 2, none⟩)), (.int .u32 off), (.pointer (some ⟨X + 1, 3, none⟩)), (.int .i64 z), (.pointer (some ⟨X + 1, 4, none⟩)), (.int .u32 v), (.agg #[.int .i64 fv, .int .i64 fc, .int .u32 f2]), (.pointer (some ⟨R.r, 0, none⟩)), (.agg cs), (.pointer (some ⟨X + 1, 2, none⟩)), (.int .u32 off), (.pointer (some ⟨X + 1, 3, none⟩)), (.int .i64 z), (.pointer (some ⟨X + 1, 4, none⟩)), (.int .u32 v), (.agg #[.int .i64 fv, .int .i64 fc, .int .u32 f2]), (.bool true), (.bool true)]) (fun t listed w' => AkD w V K B R pl tn M M' X cs 5 sg off z v (listed.getD 7 false) (listed.getD 16 false) w') () (by kernel_rfl) (by kernel_rfl) (by kernel_rfl) (by kernel_rfl) (fun _ => rfl) (fun t => by simp only [OrdG.puts, Act.put, List.setIfInBounds_toArray, List.set_cons_zero, List.set_cons_succ]; rfl) (fun _ => by kernel_rfl) HI0.out ?_ ?_
  · refine ⟨?_, ?_, ?_, ?_, ?_, ?_, ?_, ?_, ?_, ?_, ?_, ?_, ?_, ?_, ?_, ?_, ?_, ?_, ?_, trivial⟩
    all_goals (intro t listed W' hz hSh hl hI hb KK hK hK0; change AkD w V K B R pl tn M M' X cs 5 sg off z v (listed.getD 7 false) (listed.getD 16 false) W' at hI; replace hz : listed.size = 19 := hz)
    · go_simp
      exact hK0 _ (by show AkD w V K B R pl tn M M' X cs 5 sg off z v (Array.getD _ 7 false) (Array.getD _ 16 false) _; rw [getD_set_ne false (by decide), getD_set_ne false (by decide)]; exact hI)
    · go_simp
      exact hK0 _ (by show AkD w V K B R pl tn M M' X cs 5 sg off z v (Array.getD _ 7 false) (Array.getD _ 16 false) _; rw [getD_set_ne false (by decide), getD_set_ne false (by decide)]; exact hI)
    · obtain ⟨c0, c1, c2, c3, c4⟩ := hI.b.o.all
      go_simp
      exact hK0 _ (by show AkD w V K B R pl tn M M' X cs 5 sg off z v (Array.getD _ 7 false) (Array.getD _ 16 false) _; rw [getD_set_ne false (by decide), getD_set_ne false (by decide)]; exact hI)
    · go_simp
      exact hK0 _ (by show AkD w V K B R pl tn M M' X cs 5 sg off z v (Array.getD _ 7 false) (Array.getD _ 16 false) _; rw [getD_set_ne false (by decide), getD_set_ne false (by decide)]; exact hI)
    · obtain ⟨c0, c1, c2, c3, c4⟩ := hI.b.o.all
      go_simp
      exact hK0 _ (by show AkD w V K B R pl tn M M' X cs 5 sg off z v (Array.getD _ 7 false) (Array.getD _ 16 false) _; rw [getD_set_ne false (by decide), getD_set_ne false (by decide)]; exact hI)
    · go_simp
      exact hK0 _ (by show AkD w V K B R pl tn M M' X cs 5 sg off z v (Array.getD _ 7 false) (Array.getD _ 16 false) _; rw [getD_set_ne false (by decide), getD_set_ne false (by decide)]; exact hI)
    · obtain ⟨c0, c1, c2, c3, c4⟩ := hI.b.o.all
      go_simp
      exact hK0 _ (by show AkD w V K B R pl tn M M' X cs 5 sg off z v (Array.getD _ 7 false) (Array.getD _ 16 false) _; rw [getD_set_ne false (by decide), getD_set_ne false (by decide)]; exact hI)
    · rw [hl] at hI
      have hI2 := hI.t
      obtain ⟨t1, ht1, hh1⟩ := hI2
      have ht1' : t1 ≤ tn := ht1
      have H1 : Hid _ := HL.out W' t1 _ hh1 hI.b.l (by have := HT.out; omega)
      go_simp
      refine Calls.mono H1.out ?_; rintro e z5 ⟨rfl, t2, ht2, hh2, k2⟩
      refine hK0 _ ?_
      show AkD w V K B R pl tn M M' X cs 5 sg off z v (Array.getD _ 7 false) (Array.getD _ 16 false) _
      rw [OrdG.getD_self hz (by decide), getD_set_ne false (by decide)]
      exact ⟨hI.b.kpS k2, t2, (show t2 ≤ tn + 2 by omega), hh2⟩
    · go_simp
      exact hK0 _ (by show AkD w V K B R pl tn M M' X cs 5 sg off z v (Array.getD _ 7 false) (Array.getD _ 16 false) _; rw [getD_set_ne false (by decide), getD_set_ne false (by decide)]; exact hI)
    · have hgc := HV.out.get hI.b.c
      go_simp
      exact hK0 _ (by show AkD w V K B R pl tn M M' X cs 5 sg off z v (Array.getD _ 7 false) (Array.getD _ 16 false) _; rw [getD_set_ne false (by decide), getD_set_ne false (by decide)]; exact hI)
    · go_simp
      exact hK0 _ (by show AkD w V K B R pl tn M M' X cs 5 sg off z v (Array.getD _ 7 false) (Array.getD _ 16 false) _; rw [getD_set_ne false (by decide), getD_set_ne false (by decide)]; exact hI)
    · obtain ⟨c0, c1, c2, c3, c4⟩ := hI.b.o.all
      go_simp
      exact hK0 _ (by show AkD w V K B R pl tn M M' X cs 5 sg off z v (Array.getD _ 7 false) (Array.getD _ 16 false) _; rw [getD_set_ne false (by decide), getD_set_ne false (by decide)]; exact hI)
    · go_simp
      exact hK0 _ (by show AkD w V K B R pl tn M M' X cs 5 sg off z v (Array.getD _ 7 false) (Array.getD _ 16 false) _; rw [getD_set_ne false (by decide), getD_set_ne false (by decide)]; exact hI)
    · obtain ⟨c0, c1, c2, c3, c4⟩ := hI.b.o.all
      go_simp
      exact hK0 _ (by show AkD w V K B R pl tn M M' X cs 5 sg off z v (Array.getD _ 7 false) (Array.getD _ 16 false) _; rw [getD_set_ne false (by decide), getD_set_ne false (by decide)]; exact hI)
    · go_simp
      exact hK0 _ (by show AkD w V K B R pl tn M M' X cs 5 sg off z v (Array.getD _ 7 false) (Array.getD _ 16 false) _; rw [getD_set_ne false (by decide), getD_set_ne false (by decide)]; exact hI)
    · obtain ⟨c0, c1, c2, c3, c4⟩ := hI.b.o.all
      go_simp
      exact hK0 _ (by show AkD w V K B R pl tn M M' X cs 5 sg off z v (Array.getD _ 7 false) (Array.getD _ 16 false) _; rw [getD_set_ne false (by decide), getD_set_ne false (by decide)]; exact hI)
    · rw [hl] at hI
      have hI2 := hI.t
      obtain ⟨t1, ht1, hh1⟩ := hI2
      have H1 : Hid _ := HR.out W' t1 _ hh1
      go_simp
      refine Calls.mono H1.out ?_; rintro e z5 ⟨rfl, hh2, k2⟩
      refine hK0 _ ?_
      show AkD w V K B R pl tn M M' X cs 5 sg off z v (Array.getD _ 7 false) (Array.getD _ 16 false) _
      rw [OrdG.getD_self hz (by decide), getD_set_ne false (by decide)]
      exact ⟨hI.b.kpS k2, t1, ht1, hh2⟩
    · go_simp
      exact hK0 _ (by show AkD w V K B R pl tn M M' X cs 5 sg off z v (Array.getD _ 7 false) (Array.getD _ 16 false) _; rw [getD_set_ne false (by decide), getD_set_ne false (by decide)]; exact hI)
    · go_simp
      exact hK0 _ (by show AkD w V K B R pl tn M M' X cs 5 sg off z v (Array.getD _ 7 false) (Array.getD _ 16 false) _; rw [getD_set_ne false (by decide), getD_set_ne false (by decide)]; exact hI)
  · intro t listed W' hall hI
    change AkD w V K B R pl tn M M' X cs 5 sg off z v (listed.getD 7 false) (listed.getD 16 false) W' at hI
    rw [hall 7 (by show 7 < 19; decide), hall 16 (by show 16 < 19; decide)] at hI
    have b7 := hI.b
    obtain ⟨tn4, ht4, h7⟩ := hI.t
    clear hI hall HI0 HL HR
    replace ht4 : tn4 ≤ tn + 2 := ht4
    go_upto_region 26 with fail
    have hgl := HV.out.get b7.l
    have hgc := HV.out.get b7.c
    go_wp2
    go_ret
    exact ⟨rfl, ⟨tn4, ht4, h7⟩, b7.k⟩

set_option maxHeartbeats 4000000 in
theorem ask_flush (w : World) (V K B : Nat) (R : Rf) (pl tn : Nat) (M : Mem) (h : TwV w V K B R pl tn M M) (cs : Array Value) (wf : WfC cs) (c : Cp) (hc : CpC cs c) (ok : c.Ok) (heq : ∀ w, (Op.equalIn 10000 35 (.agg cs) (.agg cs)).run Tryz.prog w = .ok true w) (sg off z v : Int) (o0 : 0 ≤ off) (o1 : off < 4294967296) (v0 : 0 ≤ v) (v1 : v < 4294967296) (htn : tn < 18446744073709551613) :
    Calls Tryz.prog 8 #[.pointer (some ⟨V, 0, none⟩), .pointer (some ⟨R.r, 0, none⟩), .agg cs, .agg (op5 7 sg off z v)] w (AskP w V K B R pl tn M) := by
  obtain ⟨T, nn, Z, hV⟩ := vlP
  obtain ⟨vl, vs, va, vb⟩ := hV.ops
  have vq : ∀ x y, Op.binOp .eql 35 x y 35 = Op.binOp .eql T x y T := by rw [hV.t]; exact fun _ _ => rfl
  have g1 := hV.agg; have g2 := hV.size; have g3 := hV.zero
  have gE : ∀ w, (Op.equalIn 10000 T (.agg cs) (.agg cs)).run Tryz.prog w = .ok true w := by rw [hV.t]; exact heq
  have gG : Tryz.prog.eqGuardType Tryz.prog.depth T = false := by rw [hV.t]; kernel_rfl
  obtain ⟨X, hX⟩ : ∃ X, w.heap.size = X := ⟨_, rfl⟩
  have hst := hV.new wf w
  have hsz : cs.size = nn := by rw [wf.s, hV.s]
  have kA := Kp.alloc noB w (.cells cs T)
  have kO := Kp.alloc noB (w.alloc (.cells cs T)) (.cells (op5 7 sg off z v) 49)
  have kL := Kp.alloc noB ((w.alloc (.cells cs T)).alloc (.cells (op5 7 sg off z v) 49)) (.cells cs T)
  have s1 : (w.alloc (.cells cs T)).heap.size = X + 1 := by simp [hX]
  have s2 : ((w.alloc (.cells cs T)).alloc (.cells (op5 7 sg off z v) 49)).heap.size = X + 1 + 1 := by simp [hX]
  have pA := hV.at wf w
  rw [hX] at pA
  have rO : RowO ((w.alloc (.cells cs T)).alloc (.cells (op5 7 sg off z v) 49)) (X + 1) 7 sg off z v := by
    have := (MapKept.heap_alloc (w.alloc (.cells cs T)) (.cells (op5 7 sg off z v) 49)).1
    rw [s1] at this
    exact this
  have pL := hV.at wf ((w.alloc (.cells cs T)).alloc (.cells (op5 7 sg off z v) 49))
  rw [s2] at pL
  have hg1 := hV.get (pA.kp kO (fun f => f))
  have hst2 := hV.new wf ((w.alloc (.cells cs T)).alloc (.cells (op5 7 sg off z v) 49))
  rw [s2] at hst2
  obtain ⟨W3, hW3⟩ : ∃ W, W = ((w.alloc (.cells cs T)).alloc (.cells (op5 7 sg off z v) 49)).alloc (.cells cs T) := ⟨_, rfl⟩
  have hk : Kp noB w W3 := by rw [hW3]; exact (kA.trans kO).trans kL
  have h3 : TwV W3 V K B R pl tn M M := h.kp0 hk
  have b3 : AkB w K B R X cs 7 sg off z v W3 := ⟨by rw [hW3]; exact (pA.kp kO (fun f => f)).kp kL (fun f => f), by rw [hW3]; exact rO.kp kL (fun f => f), by rw [hW3]; exact pL, kp_no hk, fun j hj => by rw [← hX]; exact h.lt hj⟩
  have HV : Hid (VlP T nn Z) := hV
  have HS3 : Hid (X + 3 ≤ W3.heap.size) := (show X + 3 ≤ W3.heap.size by rw [hW3, World.size_alloc, s2]; exact Nat.le_refl _)
  clear kA kO kL pA rO pL hk h
  have HL : Hid _ := h3.flush  
  clear wf hc ok heq hV s1 s2
  unfold op5 at *
  go_enter Tryz.func8, Tryz.ntmps8
  simp only [vl, vs, va, vb, vq] at *
  go_upto_region 23 with fail
  rw [← hW3]
  clear hW3 hst hst2 hsz hg1 hX
  obtain ⟨c0, c1, c2, c3, c4⟩ := b3.o.all
  go_wp2_with fail
  refine Calls.mono HL.out ?_; rintro e w4 ⟨rfl, tn4, ht4, h7, k4⟩
  have b7 := b3.kpS k4
  clear c0 c1 c2 c3 c4 HL b3 h3 k4
  have hgl := HV.out.get b7.l
  have hgc := HV.out.get b7.c
  go_wp2
  go_ret
  exact ⟨rfl, ⟨tn4, ht4, h7⟩, b7.k⟩

set_option maxHeartbeats 4000000 in
theorem ask_drop (w : World) (V K B : Nat) (R : Rf) (pl tn : Nat) (M : Mem) (h : TwV w V K B R pl tn M M) (cs : Array Value) (wf : WfC cs) (c : Cp) (hc : CpC cs c) (ok : c.Ok) (heq : ∀ w, (Op.equalIn 10000 35 (.agg cs) (.agg cs)).run Tryz.prog w = .ok true w) (sg off z v : Int) (o0 : 0 ≤ off) (o1 : off < 4294967296) (v0 : 0 ≤ v) (v1 : v < 4294967296) (htn : tn < 18446744073709551613) :
    Calls Tryz.prog 8 #[.pointer (some ⟨V, 0, none⟩), .pointer (some ⟨R.r, 0, none⟩), .agg cs, .agg (op5 8 sg off z v)] w (AskP w V K B R pl tn M) := by
  obtain ⟨T, nn, Z, hV⟩ := vlP
  obtain ⟨vl, vs, va, vb⟩ := hV.ops
  have vq : ∀ x y, Op.binOp .eql 35 x y 35 = Op.binOp .eql T x y T := by rw [hV.t]; exact fun _ _ => rfl
  have g1 := hV.agg; have g2 := hV.size; have g3 := hV.zero
  have gE : ∀ w, (Op.equalIn 10000 T (.agg cs) (.agg cs)).run Tryz.prog w = .ok true w := by rw [hV.t]; exact heq
  have gG : Tryz.prog.eqGuardType Tryz.prog.depth T = false := by rw [hV.t]; kernel_rfl
  obtain ⟨X, hX⟩ : ∃ X, w.heap.size = X := ⟨_, rfl⟩
  have hst := hV.new wf w
  have hsz : cs.size = nn := by rw [wf.s, hV.s]
  have kA := Kp.alloc noB w (.cells cs T)
  have kO := Kp.alloc noB (w.alloc (.cells cs T)) (.cells (op5 8 sg off z v) 49)
  have kL := Kp.alloc noB ((w.alloc (.cells cs T)).alloc (.cells (op5 8 sg off z v) 49)) (.cells cs T)
  have s1 : (w.alloc (.cells cs T)).heap.size = X + 1 := by simp [hX]
  have s2 : ((w.alloc (.cells cs T)).alloc (.cells (op5 8 sg off z v) 49)).heap.size = X + 1 + 1 := by simp [hX]
  have pA := hV.at wf w
  rw [hX] at pA
  have rO : RowO ((w.alloc (.cells cs T)).alloc (.cells (op5 8 sg off z v) 49)) (X + 1) 8 sg off z v := by
    have := (MapKept.heap_alloc (w.alloc (.cells cs T)) (.cells (op5 8 sg off z v) 49)).1
    rw [s1] at this
    exact this
  have pL := hV.at wf ((w.alloc (.cells cs T)).alloc (.cells (op5 8 sg off z v) 49))
  rw [s2] at pL
  have hg1 := hV.get (pA.kp kO (fun f => f))
  have hst2 := hV.new wf ((w.alloc (.cells cs T)).alloc (.cells (op5 8 sg off z v) 49))
  rw [s2] at hst2
  obtain ⟨W3, hW3⟩ : ∃ W, W = ((w.alloc (.cells cs T)).alloc (.cells (op5 8 sg off z v) 49)).alloc (.cells cs T) := ⟨_, rfl⟩
  have hk : Kp noB w W3 := by rw [hW3]; exact (kA.trans kO).trans kL
  have h3 : TwV W3 V K B R pl tn M M := h.kp0 hk
  have b3 : AkB w K B R X cs 8 sg off z v W3 := ⟨by rw [hW3]; exact (pA.kp kO (fun f => f)).kp kL (fun f => f), by rw [hW3]; exact rO.kp kL (fun f => f), by rw [hW3]; exact pL, kp_no hk, fun j hj => by rw [← hX]; exact h.lt hj⟩
  have HV : Hid (VlP T nn Z) := hV
  have HS3 : Hid (X + 3 ≤ W3.heap.size) := (show X + 3 ≤ W3.heap.size by rw [hW3, World.size_alloc, s2]; exact Nat.le_refl _)
  clear kA kO kL pA rO pL hk h
  have HL : Hid _ := h3.drop off o0 o1
  clear wf hc ok heq hV s1 s2
  unfold op5 at *
  go_enter Tryz.func8, Tryz.ntmps8
  simp only [vl, vs, va, vb, vq] at *
  go_upto_region 25 with fail
  rw [← hW3]
  clear hW3 hst hst2 hsz hg1 hX
  obtain ⟨c0, c1, c2, c3, c4⟩ := b3.o.all
  go_wp2_with fail
  refine Calls.mono HL.out ?_; rintro e w4 ⟨rfl, tn4, ht4, h7, k4⟩
  have b7 := b3.kpS k4
  clear c0 c1 c2 c3 c4 HL b3 h3 k4
  have hgl := HV.out.get b7.l
  have hgc := HV.out.get b7.c
  go_wp2
  go_ret
  exact ⟨rfl, ⟨tn4, ht4, h7⟩, b7.k⟩

set_option maxHeartbeats 4000000 in
theorem ask_none (w : World) (V K B : Nat) (R : Rf) (pl tn : Nat) (M : Mem) (h : TwV w V K B R pl tn M M) (cs : Array Value) (wf : WfC cs) (c : Cp) (hc : CpC cs c) (ok : c.Ok) (heq : ∀ w, (Op.equalIn 10000 35 (.agg cs) (.agg cs)).run Tryz.prog w = .ok true w) (sg off z v : Int) (o0 : 0 ≤ off) (o1 : off < 4294967296) (v0 : 0 ≤ v) (v1 : v < 4294967296) (htn : tn < 18446744073709551613) (kd : Int) (hk : kd < 1 ∨ 8 < kd) :
    Calls Tryz.prog 8 #[.pointer (some ⟨V, 0, none⟩), .pointer (some ⟨R.r, 0, none⟩), .agg cs, .agg (op5 kd sg off z v)] w (AskP w V K B R pl tn M) := by
  obtain ⟨T, nn, Z, hV⟩ := vlP
  obtain ⟨vl, vs, va, vb⟩ := hV.ops
  have vq : ∀ x y, Op.binOp .eql 35 x y 35 = Op.binOp .eql T x y T := by rw [hV.t]; exact fun _ _ => rfl
  have g1 := hV.agg; have g2 := hV.size; have g3 := hV.zero
  have gE : ∀ w, (Op.equalIn 10000 T (.agg cs) (.agg cs)).run Tryz.prog w = .ok true w := by rw [hV.t]; exact heq
  have gG : Tryz.prog.eqGuardType Tryz.prog.depth T = false := by rw [hV.t]; kernel_rfl
  obtain ⟨X, hX⟩ : ∃ X, w.heap.size = X := ⟨_, rfl⟩
  have hst := hV.new wf w
  have hsz : cs.size = nn := by rw [wf.s, hV.s]
  have kA := Kp.alloc noB w (.cells cs T)
  have kO := Kp.alloc noB (w.alloc (.cells cs T)) (.cells (op5 kd sg off z v) 49)
  have kL := Kp.alloc noB ((w.alloc (.cells cs T)).alloc (.cells (op5 kd sg off z v) 49)) (.cells cs T)
  have s1 : (w.alloc (.cells cs T)).heap.size = X + 1 := by simp [hX]
  have s2 : ((w.alloc (.cells cs T)).alloc (.cells (op5 kd sg off z v) 49)).heap.size = X + 1 + 1 := by simp [hX]
  have pA := hV.at wf w
  rw [hX] at pA
  have rO : RowO ((w.alloc (.cells cs T)).alloc (.cells (op5 kd sg off z v) 49)) (X + 1) kd sg off z v := by
    have := (MapKept.heap_alloc (w.alloc (.cells cs T)) (.cells (op5 kd sg off z v) 49)).1
    rw [s1] at this
    exact this
  have pL := hV.at wf ((w.alloc (.cells cs T)).alloc (.cells (op5 kd sg off z v) 49))
  rw [s2] at pL
  have hg1 := hV.get (pA.kp kO (fun f => f))
  have hst2 := hV.new wf ((w.alloc (.cells cs T)).alloc (.cells (op5 kd sg off z v) 49))
  rw [s2] at hst2
  obtain ⟨W3, hW3⟩ : ∃ W, W = ((w.alloc (.cells cs T)).alloc (.cells (op5 kd sg off z v) 49)).alloc (.cells cs T) := ⟨_, rfl⟩
  have hk : Kp noB w W3 := by rw [hW3]; exact (kA.trans kO).trans kL
  have h3 : TwV W3 V K B R pl tn M M := h.kp0 hk
  have b3 : AkB w K B R X cs kd sg off z v W3 := ⟨by rw [hW3]; exact (pA.kp kO (fun f => f)).kp kL (fun f => f), by rw [hW3]; exact rO.kp kL (fun f => f), by rw [hW3]; exact pL, kp_no hk, fun j hj => by rw [← hX]; exact h.lt hj⟩
  have HV : Hid (VlP T nn Z) := hV
  have HS3 : Hid (X + 3 ≤ W3.heap.size) := (show X + 3 ≤ W3.heap.size by rw [hW3, World.size_alloc, s2]; exact Nat.le_refl _)
  clear kA kO kL pA rO pL hk h
  have e1 : (kd == 1) = false := by rw [beq_eq_false_iff_ne]; omega
  have e2 : (kd == 2) = false := by rw [beq_eq_false_iff_ne]; omega
  have e3 : (kd == 3) = false := by rw [beq_eq_false_iff_ne]; omega
  have e4 : (kd == 4) = false := by rw [beq_eq_false_iff_ne]; omega
  have e5 : (kd == 5) = false := by rw [beq_eq_false_iff_ne]; omega
  have e6 : (kd == 6) = false := by rw [beq_eq_false_iff_ne]; omega
  have e7 : (kd == 7) = false := by rw [beq_eq_false_iff_ne]; omega
  have e8 : (kd == 8) = false := by rw [beq_eq_false_iff_ne]; omega
  clear hk
  clear wf hc ok heq hV s1 s2
  unfold op5 at *
  go_enter Tryz.func8, Tryz.ntmps8
  simp only [vl, vs, va, vb, vq] at *
  go_upto_region 26 with fail
  rw [← hW3]
  clear hW3 hst hst2 hsz hg1 hX
  have b7 := b3
  have hgl := HV.out.get b7.l
  have hgc := HV.out.get b7.c
  go_wp2
  go_ret
  exact ⟨rfl, ⟨tn, by omega, h3⟩, b7.k⟩
end Go.Proofs.YtmmnnafjikilpaaGreat
