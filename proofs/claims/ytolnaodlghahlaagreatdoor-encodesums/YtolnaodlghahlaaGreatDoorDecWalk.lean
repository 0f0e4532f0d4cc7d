/- The contract of Decode: the walk. -/
import Derived.Test.YtolnaodlghahlaaGreatDoorDecDec
namespace Go.Proofs.YtolnaodlghahlaaGreatDoor
open Go.ChangeShapes Go.WideShapes Go.ChangeAt Go.RowKit
set_option linter.unusedVariables false
set_option maxRecDepth 20000

theorem Kp.setRowNo {w w1 : World} (k : Kp noB w w1) {q : Nat} (hq : w.heap.size ≤ q) (cs : Array Value) : Kp noB w (w1.setRow q cs) := by
  have h := Kp.setRow (S := fun b => b = q) w1 rfl cs
  exact ⟨h.os.trans k.os, h.tape.trans k.tape, h.output.trans k.output, Nat.le_trans k.size h.size, fun i hi hs => (h.block i (Nat.lt_of_lt_of_le hi k.size) (by show ¬ i = q; omega)).trans (k.block i hi hs)⟩

/-- What stands behind Decode's calls: the result's block is there, the reader and the form hold the state, nothing older is changed. -/
structure InD (X : Cx) (w : World) (σ : Sg) (wr : World) : Prop where
  st : St X wr σ
  rs : wr.heap[w.heap.size]? = some (.cells (insV Ins.zero) 28 (0, 0))
  lo : w.heap.size < X.S ∧ w.heap.size < X.F
  kp : Kp noB w wr

theorem InD.own {X : Cx} {w wr w' : World} {σ : Sg} (h : InD X w σ wr) (k : Kp X.own wr w') : Kp noB w w' :=
  ⟨k.os.trans h.kp.os, k.tape.trans h.kp.tape, k.output.trans h.kp.output, Nat.le_trans h.kp.size k.size, fun i hi hs => (k.block i (Nat.lt_of_lt_of_le hi h.kp.size) (by have := h.lo; rintro (e | e) <;> omega)).trans (h.kp.block i hi hs)⟩

theorem InD.call {X : Cx} {w wr w' : World} {σ σ' : Sg} (h : InD X w σ wr) (d : Done X wr σ' w') : InD X w σ' w' :=
  ⟨d.1, heap_kept h.rs d.2 (by have := h.lo; rintro (e | e) <;> omega), h.lo, h.own d.2⟩

theorem InD.no {X : Cx} {w wr w' : World} {σ : Sg} (h : InD X w σ wr) (k : Kp noB wr w') : InD X w σ w' :=
  ⟨h.st.no k, heap_kept h.rs k id, h.lo, h.kp.trans k⟩

theorem res2 {P : Program} {fn : Func} {p t : Tmp} {ty : TypeId} (h : fn.results = #[.cell p ty, .tmp t]) (tmps : Array Value) (w : World) (q : Nat) (v e : Value) (hp : tmps.getD p undef = .pointer (some ⟨q, 0, none⟩)) (ht : tmps.getD t undef = e) (hl : (loadVar ty ⟨q, 0, none⟩).run P w = .ok v w) :
    (results fn tmps).run P w = .ok (.tuple #[v, e]) w := by
  have hp' : tmps[p]?.getD undef = .pointer (some ⟨q, 0, none⟩) := by simpa using hp
  have ht' : tmps[t]?.getD undef = e := by simpa using ht
  simp [results, h, hp', ht', asAddr, hl]

/-- Whole instructions, loaded and stored: the type's number and its size are letters, so that no walk opens them cell by cell. -/
structure Veil (T : TypeId) (n : Nat) : Prop where
  t : T = 28
  s : n = 32

theorem Veil.agg {T : TypeId} {n : Nat} (h : Veil T n) (w : World) : (isAgg T).run Tryz.prog w = .ok true w := by rw [h.t]; kernel_rfl
theorem Veil.size {T : TypeId} {n : Nat} (h : Veil T n) (w : World) : (sizeOf T).run Tryz.prog w = .ok n w := by rw [h.t, h.s]; kernel_rfl
theorem Veil.lit {T : TypeId} {n : Nat} (h : Veil T n) : (32 = n) = True := by rw [h.s]; simp
theorem Veil.ops {T : TypeId} {n : Nat} (h : Veil T n) : (∀ x, Op.load 28 x = Op.load T x) ∧ ∀ x y, Op.store 28 x y = Op.store T x y := by
  rw [h.t]
  exact ⟨fun _ => rfl, fun _ _ => rfl⟩
theorem Veil.zero {T : TypeId} {n : Nat} (h : Veil T n) (w : World) : (zeroValue T).run Tryz.prog w = .ok (.agg (insV Ins.zero)) w := by rw [h.t]; kernel_rfl
theorem Veil.build {T : TypeId} {n : Nat} (h : Veil T n) : Op.build 28 #[] = Op.build T #[] := by rw [h.t]
theorem Veil.under {T : TypeId} {n : Nat} (h : Veil T n) : ∃ (fs : Array Field) (ps : Array (Nat × Nat)), (∀ w, (underlying T).run Tryz.prog w = .ok (.struct fs) w) ∧ ∀ w, (Array.mapM (fun f : Field => Prod.mk f.offset <$> sizeOf f.type) fs).run Tryz.prog w = .ok ps w := by
  rw [h.t]
  exact ⟨(match Tryz.prog.underlying 28 with | some (.struct f) => f | _ => #[]), #[(0, 1), (1, 1), (2, 1), (3, 9), (12, 9), (21, 9), (30, 1), (31, 1)], fun w => by kernel_rfl, fun w => by kernel_rfl⟩
theorem Veil.load {T : TypeId} {n : Nat} (h : Veil T n) {w : World} {q o : Nat} {x : Ins} (hr : w.rangeAt q o (insV x).toList) : (loadCellsFrom ⟨q, o, none⟩ 0 n #[]).run Tryz.prog w = .ok (insV x) w := by
  have e := run_loadCells_list (P := Tryz.prog) w ⟨q, o, none⟩ (insV x).toList (fun j v hv => by rw [Addr.add_mid]; exact hr j v hv)
  rw [h.s]
  exact e
theorem Veil.cells {T : TypeId} {n : Nat} (h : Veil T n) (x : Ins) : (insV x).size = n := by rw [h.s]; rfl
theorem veil : ∃ T n, Veil T n := ⟨_, _, rfl, rfl⟩

theorem neq_nil (w : World) : (binOp .neq 57 .nilFunc .nilFunc).run Tryz.prog w = .ok (.bool false) w := by kernel_rfl
theorem neq_fun (n : Nat) (w : World) : (binOp .neq 57 (.func (.func n) #[] #[]) .nilFunc).run Tryz.prog w = .ok (.bool true) w := by kernel_rfl

def decR (σ : Sg) : Ins × Int := if σ.err = 0 then ({ σ.ins with len := σ.at' }, 0) else (Ins.zero, σ.err)

theorem decM_any (rl : Int → Option Rule) (X : Cx) : decM rl X.L X.bt = decR (behM rl (opcodeM X sg0).1 X (opcodeM X sg0).2) := by
  unfold decM
  rw [(rdFullM rl).same (bx X.L X.bt) X rfl rfl sg0]
  rfl

set_option maxHeartbeats 4000000 in
theorem decode_ok (rl : Int → Option Rule) (hT : TabOk rl) (w : World) (p : Option Addr) (cap L : Nat) (bt : Nat → Int) (hL : L ≤ 4611686018427387904) (hb : BytAt w p L bt) (hbd : ∀ j, j < L → 0 ≤ bt j ∧ bt j < 256) :
    Calls Tryz.prog 11 #[.slice p L cap] w fun e w' => e = .returned (.tuple #[.agg (insV (decM rl L bt).1), .int .i64 (decM rl L bt).2]) ∧ Kp noB w w' := by
  have hst := St.start w p cap L bt hL hb hbd
  have cO := opcode_ok _ _ _ hst
  have hod := opcodeM_bd (X := ⟨w.heap.size + 1, w.heap.size + 1 + 1, p, cap, L, bt, w.heap.size⟩) hbd sg0 (Nat.zero_le _)
  have hfull := decM_any rl ⟨w.heap.size + 1, w.heap.size + 1 + 1, p, cap, L, bt, w.heap.size⟩
  have hin : InD ⟨w.heap.size + 1, w.heap.size + 1 + 1, p, cap, L, bt, w.heap.size⟩ w sg0 _ := ⟨hst, heap_kept (S := noB) (heap_kept (S := noB) (MapKept.heap_alloc w _).1 (Kp.alloc _ _ _) id) (Kp.alloc _ _ _) id, ⟨by show w.heap.size < w.heap.size + 1; omega, by show w.heap.size < w.heap.size + 1 + 1; omega⟩, ((Kp.alloc _ _ _).trans (Kp.alloc _ _ _)).trans (Kp.alloc _ _ _)⟩
  obtain ⟨X, hX⟩ : ∃ X : Cx, X = ⟨w.heap.size + 1, w.heap.size + 1 + 1, p, cap, L, bt, w.heap.size⟩ := ⟨_, rfl⟩
  have hS : w.heap.size + 1 = X.S := by rw [hX]
  have hF : w.heap.size + 1 + 1 = X.F := by rw [hX]
  simp only [← hX] at cO hod hfull hin
  obtain ⟨op, hop⟩ : ∃ op, op = (opcodeM X sg0).1 := ⟨_, rfl⟩
  obtain ⟨σ1, hσ1⟩ : ∃ σ1, σ1 = (opcodeM X sg0).2 := ⟨_, rfl⟩
  rw [← hop, ← hσ1] at cO hfull
  rw [← hop] at hod
  obtain ⟨V, hV⟩ : ∃ V, V = decM rl L bt := ⟨_, rfl⟩
  have hV2 : V = decR (behM rl op X σ1) := hV.trans hfull
  rw [← hV]
  have HV : Hid (V = decR (behM rl op X σ1)) := hV2
  rw [hF] at cO
  have HI : Hid _ := hin
  have HS : Hid (w.heap.size + 1 = X.S) := hS
  have HF : Hid (w.heap.size + 1 + 1 = X.F) := hF
  obtain ⟨o0, o1⟩ := hod
  have hrow := hT op o0 o1
  have Hrow : Hid _ := hrow
  clear hst hb hbd hfull hin hX hS hF hop hσ1 hV hV2 hT hrow
  obtain ⟨T, nI, hVl⟩ := veil
  obtain ⟨vl, vs⟩ := hVl.ops
  have HVl : Hid _ := hVl
  have vA := hVl.agg
  have vS := hVl.size
  have vb := hVl.build
  obtain ⟨Z, hZ⟩ : ∃ Z, Z = insV Ins.zero := ⟨_, rfl⟩
  have vz : ∀ w, (zeroValue T).run Tryz.prog w = .ok (.agg Z) w := by rw [hZ]; exact hVl.zero
  obtain ⟨fsI, psI, vU, vM⟩ := hVl.under
  have vZ : Z.size = nI := by rw [hZ]; exact hVl.cells _
  have HZ : Hid (Z = insV Ins.zero) := hZ
  clear hZ
  clear hVl
  go_enter Tryz.func11, Tryz.ntmps11
  simp only [vl, vs, vb]
  clear vl vs vb
  go_wp2_with fail
  rw [HF.out, HS.out]
  refine cO.mono ?_; rintro e w1 ⟨rfl, hd⟩
  have h1 := HI.out.call hd
  clear hd cO HI HF HS
  have c2 := h1.st.f2
  have z2 := h1.st.ff 2
  have h2 : InD X w (opS op σ1) (w1.setCell ⟨X.F, 2, none⟩ (.int .i64 op)) := h1.call ⟨h1.st.setF 2 _ (fun _ => rfl) rfl rfl rfl ⟨o0, o1, h1.st.gd.vv, h1.st.gd.fb⟩, Kp.setCell _ (Or.inr rfl) _⟩
  have cF := find_ok (w1.setCell ⟨X.F, 2, none⟩ (.int .i64 op)) op o0 o1
  have H2 : Hid _ := h2
  clear h1 h2
  rcases Hrow.out with ⟨e1, e2⟩ | ⟨n, r, e1, e2, hn⟩
  · have hV3 : V = decR (refuse (opS op σ1)) := by rw [HV.out]; unfold behM; rw [e2]
    have HV3 : Hid _ := hV3
    rw [e1, show rvN none = .nilFunc from rfl] at cF
    clear e1 e2 hV3 HV Hrow
    go_wp2_with fail
    refine cF.mono ?_; rintro e w2 ⟨rfl, k2⟩
    have hq := neq_nil
    have h3 := H2.out.no k2
    have c1 := h3.st.f1
    have cR := refuse_ok w2 X _ h3.st
    have H3 : Hid _ := h3
    clear H2 cF k2 h3
    go_wp2_with fail
    refine cR.mono ?_; rintro e w3 ⟨rfl, hd⟩
    have h4 := H3.out.call hd
    clear hd cR H3 c1 c2 z2 o0 o1
    generalize refuse (opS op σ1) = σ3 at h4 HV3
    have s1 := h4.st.s1
    have s2 := h4.st.s2
    have zS := h4.st.sf 2
    have hle := h4.st.le
    have hrs := h4.rs
    by_cases he : σ3.err = 0
    · have hV4 : V = ({ σ3.ins with len := σ3.at' }, 0) := by rw [HV3.out]; unfold decR; rw [if_pos he]
      have HV4 : Hid _ := hV4
      rw [he] at s2
      have c38 := h4.st.f38
      have z38 := h4.st.ff 38
      have h5 : InD X w { σ3 with ins := { σ3.ins with len := σ3.at' } } (w3.setCell ⟨X.F, 38, none⟩ (.int .i64 (σ3.at' : Int))) := h4.call ⟨setLen_frm h4.st _, Kp.setCell _ (Or.inr rfl) _⟩
      have hld := HVl.out.load (range_frm h5.st)
      have hst := put_ins h5.rs rfl { σ3.ins with len := σ3.at' }
      have hgot := load_ins (got_ins h5.rs { σ3.ins with len := σ3.at' }) rfl
      have hkp := h5.kp.setRowNo (Nat.le_refl _) (insV { σ3.ins with len := σ3.at' })
      have hsz := HVl.out.cells { σ3.ins with len := σ3.at' }
      obtain ⟨A, hA⟩ : ∃ A, A = insV { σ3.ins with len := σ3.at' } := ⟨_, rfl⟩
      have hld' : (loadCellsFrom ⟨X.F, 7, none⟩ 0 nI #[]).run Tryz.prog (w3.setCell ⟨X.F, 38, none⟩ (.int .i64 (σ3.at' : Int))) = .ok A (w3.setCell ⟨X.F, 38, none⟩ (.int .i64 (σ3.at' : Int))) := by rw [hA]; exact hld
      rw [← hA] at hst hgot hkp hsz
      have HA : Hid _ := hA
      clear hld hA
      have Hgot : Hid _ := hgot
      have Hkp : Hid _ := hkp
      clear hgot hkp h5 h4 HV3 hV4 hle hrs
      go_wp2
      refine bodyPost_ret (v := .tuple #[.agg A, .int .i64 0]) ?_ rfl ⟨by rw [HV4.out, HA.out], Hkp.out⟩
      exact res2 rfl _ _ w.heap.size _ _ rfl rfl Hgot.out
    · have hV4 : V = (Ins.zero, σ3.err) := by rw [HV3.out]; unfold decR; rw [if_neg he]
      have HV4 : Hid _ := hV4
      have he' : (σ3.err != 0) = true := by simpa using he
      have hst : (storeCells ⟨w.heap.size, 0, none⟩ Z.toList).run Tryz.prog w3.drew = .ok () (w3.drew.setRow w.heap.size Z) := by rw [HZ.out]; exact put_ins (w := w3.drew) hrs rfl Ins.zero
      have hgot : (loadVar 28 ⟨w.heap.size, 0, none⟩).run Tryz.prog (w3.drew.setRow w.heap.size Z) = .ok (.agg Z) (w3.drew.setRow w.heap.size Z) := by rw [HZ.out]; exact load_ins (got_ins (w := w3.drew) hrs Ins.zero) rfl
      have hkp := (h4.kp.drewN 1).setRowNo (Nat.le_refl _) Z
      have hs2 : (w3.drew.setRow w.heap.size Z).cell? ⟨X.S, 2, none⟩ = some (.int .i64 σ3.err) := cell_kept (S := fun b => b = w.heap.size) (w := w3.drew) s2 (Kp.setRow (S := fun b => b = w.heap.size) w3.drew rfl Z) (by have := h4.lo; show ¬ X.S = w.heap.size; omega)
      have Hgot : Hid _ := hgot
      have Hkp : Hid _ := hkp
      clear h4 HV3 hV4 hle hgot hkp hrs
      go_wp2
      go_region
      all_goals
        go_wp2
        refine bodyPost_ret (v := .tuple #[.agg Z, .int .i64 σ3.err]) ?_ rfl ⟨by rw [HV4.out, HZ.out], Hkp.out⟩
        exact res2 rfl _ _ w.heap.size _ _ rfl rfl Hgot.out
  · have hV3 : V = decR (r.g X (opS op σ1)) := by rw [HV.out]; unfold behM; rw [e2]
    have HV3 : Hid _ := hV3
    rw [e1, show rvN (some n) = .func (.func n) #[] #[] from rfl] at cF
    clear e1 e2 hV3 HV Hrow
    go_wp2_with fail
    refine cF.mono ?_; rintro e w2 ⟨rfl, k2⟩
    have hq := neq_fun n
    have h3 := H2.out.no k2
    have cR := hn.1 w2 X _ h3.st
    have hcall := hn.2 (.pointer (some ⟨X.F, 0, none⟩))
    have H3 : Hid _ := h3
    clear H2 cF k2 h3 hn
    go_wp2_with fail
    refine cR.mono ?_; rintro e w3 ⟨rfl, hd⟩
    have h4 := H3.out.call hd
    clear hd cR H3 c2 z2 o0 o1 hcall
    generalize r.g X (opS op σ1) = σ3 at h4 HV3
    have s1 := h4.st.s1
    have s2 := h4.st.s2
    have zS := h4.st.sf 2
    have hle := h4.st.le
    have hrs := h4.rs
    by_cases he : σ3.err = 0
    · have hV4 : V = ({ σ3.ins with len := σ3.at' }, 0) := by rw [HV3.out]; unfold decR; rw [if_pos he]
      have HV4 : Hid _ := hV4
      rw [he] at s2
      have c38 := h4.st.f38
      have z38 := h4.st.ff 38
      have h5 : InD X w { σ3 with ins := { σ3.ins with len := σ3.at' } } (w3.setCell ⟨X.F, 38, none⟩ (.int .i64 (σ3.at' : Int))) := h4.call ⟨setLen_frm h4.st _, Kp.setCell _ (Or.inr rfl) _⟩
      have hld := HVl.out.load (range_frm h5.st)
      have hst := put_ins h5.rs rfl { σ3.ins with len := σ3.at' }
      have hgot := load_ins (got_ins h5.rs { σ3.ins with len := σ3.at' }) rfl
      have hkp := h5.kp.setRowNo (Nat.le_refl _) (insV { σ3.ins with len := σ3.at' })
      have hsz := HVl.out.cells { σ3.ins with len := σ3.at' }
      obtain ⟨A, hA⟩ : ∃ A, A = insV { σ3.ins with len := σ3.at' } := ⟨_, rfl⟩
      have hld' : (loadCellsFrom ⟨X.F, 7, none⟩ 0 nI #[]).run Tryz.prog (w3.setCell ⟨X.F, 38, none⟩ (.int .i64 (σ3.at' : Int))) = .ok A (w3.setCell ⟨X.F, 38, none⟩ (.int .i64 (σ3.at' : Int))) := by rw [hA]; exact hld
      rw [← hA] at hst hgot hkp hsz
      have HA : Hid _ := hA
      clear hld hA
      have Hgot : Hid _ := hgot
      have Hkp : Hid _ := hkp
      clear hgot hkp h5 h4 HV3 hV4 hle hrs
      go_wp2
      refine bodyPost_ret (v := .tuple #[.agg A, .int .i64 0]) ?_ rfl ⟨by rw [HV4.out, HA.out], Hkp.out⟩
      exact res2 rfl _ _ w.heap.size _ _ rfl rfl Hgot.out
    · have hV4 : V = (Ins.zero, σ3.err) := by rw [HV3.out]; unfold decR; rw [if_neg he]
      have HV4 : Hid _ := hV4
      have he' : (σ3.err != 0) = true := by simpa using he
      have hst : (storeCells ⟨w.heap.size, 0, none⟩ Z.toList).run Tryz.prog w3.drew = .ok () (w3.drew.setRow w.heap.size Z) := by rw [HZ.out]; exact put_ins (w := w3.drew) hrs rfl Ins.zero
      have hgot : (loadVar 28 ⟨w.heap.size, 0, none⟩).run Tryz.prog (w3.drew.setRow w.heap.size Z) = .ok (.agg Z) (w3.drew.setRow w.heap.size Z) := by rw [HZ.out]; exact load_ins (got_ins (w := w3.drew) hrs Ins.zero) rfl
      have hkp := (h4.kp.drewN 1).setRowNo (Nat.le_refl _) Z
      have hs2 : (w3.drew.setRow w.heap.size Z).cell? ⟨X.S, 2, none⟩ = some (.int .i64 σ3.err) := cell_kept (S := fun b => b = w.heap.size) (w := w3.drew) s2 (Kp.setRow (S := fun b => b = w.heap.size) w3.drew rfl Z) (by have := h4.lo; show ¬ X.S = w.heap.size; omega)
      have Hgot : Hid _ := hgot
      have Hkp : Hid _ := hkp
      clear h4 HV3 hV4 hle hgot hkp hrs
      go_wp2
      go_region
      all_goals
        go_wp2
        refine bodyPost_ret (v := .tuple #[.agg Z, .int .i64 σ3.err]) ?_ rfl ⟨by rw [HV4.out, HZ.out], Hkp.out⟩
        exact res2 rfl _ _ w.heap.size _ _ rfl rfl Hgot.out

end Go.Proofs.YtolnaodlghahlaaGreatDoor
