/- The bus and its devices: DecWalk, DecEq, DecTabD, DecLaw0, OrdFree, DecV. -/
import Derived.Test.YtiagfmkinefidaaGreatEx10
import Derived.Laws.StructEq
import Derived.Test.YtiagfmkinefidaaGreatEx08
import Derived.Test.YtiagfmkinefidaaGreatEx06
namespace Go.Proofs.YtiagfmkinefidaaGreat.Dc
open Go.ChangeShapes Go.WideShapes Go.ChangeAt Go.RowKit
set_option linter.unusedVariables false
set_option maxRecDepth 20000
theorem Kp.setRowNo {w w1 : World} (k : Kp noB w w1) {q : Nat} (hq : w.heap.size ≤ q) (cs : Array Value) : Kp noB w (w1.setRow q cs) := by
  have h := Kp.setRow (S := fun b => b = q) w1 rfl cs
  exact ⟨h.os.trans k.os, h.tape.trans k.tape, h.output.trans k.output, Nat.le_trans k.size h.size, fun i hi hs => (h.block i (Nat.lt_of_lt_of_le hi k.size) (by show ¬ i = q; omega)).trans (k.block i hi hs)⟩
/-- What stands behind Decode's calls: the result's block is there, the reader and the form hold the state, nothing older is changed. -/
structure InD (X : Cx) (w : World) (σ : Sg) (wr : World) : Prop where
  st : St X wr σ
  rs : wr.heap[w.heap.size]? = some (.cells (insV Ins.zero) 40 (0, 0))
  lo : w.heap.size < X.S ∧ w.heap.size < X.F
  kp : Kp noB w wr
theorem InD.own {X : Cx} {w wr w' : World} {σ : Sg} (h : InD X w σ wr) (k : Kp X.own wr w') : Kp noB w w' :=
  ⟨k.os.trans h.kp.os, k.tape.trans h.kp.tape, k.output.trans h.kp.output, Nat.le_trans h.kp.size k.size, fun i hi hs => (k.block i (Nat.lt_of_lt_of_le hi h.kp.size) (by have := h.lo; rintro (e | e) <;> omega)).trans (h.kp.block i hi hs)⟩
theorem InD.call {X : Cx} {w wr w' : World} {σ σ' : Sg} (h : InD X w σ wr) (d : Done X wr σ' w') : InD X w σ' w' :=
  ⟨d.1, heap_kept h.rs d.2 (by have := h.lo; rintro (e | e) <;> omega), h.lo, h.own d.2⟩
theorem InD.no {X : Cx} {w wr w' : World} {σ : Sg} (h : InD X w σ wr) (k : Kp noB wr w') : InD X w σ w' :=
  ⟨h.st.no k, heap_kept h.rs k id, h.lo, h.kp.trans k⟩
theorem res2 {P : Program} {fn : Func} {p t : Tmp} {ty : TypeId} (h : fn.results = #[.cell p ty, .tmp t]) (tmps : Array Value) (w : World) (q : Nat) (v e : Value) (hp : tmps.getD p undef = .pointer (some ⟨q, 0, none⟩)) (ht : tmps.getD t undef = e) (hl : (loadVar ty ⟨q, 0, none⟩).run P w = .ok v w) :
    (results fn tmps).run P w = .ok (.tuple #[v, e]) w := by
  have hp' : tmps[p]?.getD undef = .pointer (some ⟨q, 0, none⟩) := by simpa using hp
  have ht' : tmps[t]?.getD undef = e := by simpa using ht
  simp [results, h, hp', ht', asAddr, hl]
/-- Whole instructions, loaded and stored: the type's number and its size are letters, so that no walk opens them cell by cell. -/
structure Veil (T : TypeId) (n : Nat) : Prop where
  t : T = 40
  s : n = 32
theorem Veil.agg {T : TypeId} {n : Nat} (h : Veil T n) (w : World) : (isAgg T).run Tryz.prog w = .ok true w := by rw [h.t]; kernel_rfl
theorem Veil.size {T : TypeId} {n : Nat} (h : Veil T n) (w : World) : (sizeOf T).run Tryz.prog w = .ok n w := by rw [h.t, h.s]; kernel_rfl
theorem Veil.ops {T : TypeId} {n : Nat} (h : Veil T n) : (∀ x, Op.load 40 x = Op.load T x) ∧ ∀ x y, Op.store 40 x y = Op.store T x y := by
  rw [h.t]
  exact ⟨fun _ => rfl, fun _ _ => rfl⟩
theorem Veil.zero {T : TypeId} {n : Nat} (h : Veil T n) (w : World) : (zeroValue T).run Tryz.prog w = .ok (.agg (insV Ins.zero)) w := by rw [h.t]; kernel_rfl
theorem Veil.build {T : TypeId} {n : Nat} (h : Veil T n) : Op.build 40 #[] = Op.build T #[] := by rw [h.t]
theorem Veil.under {T : TypeId} {n : Nat} (h : Veil T n) : ∃ (fs : Array Field) (ps : Array (Nat × Nat)), (∀ w, (underlying T).run Tryz.prog w = .ok (.struct fs) w) ∧ ∀ w, (Array.mapM (fun f : Field => Prod.mk f.offset <$> sizeOf f.type) fs).run Tryz.prog w = .ok ps w := by
  rw [h.t]
  exact ⟨(match Tryz.prog.underlying 40 with | some (.struct f) => f | _ => #[]), #[(0, 1), (1, 1), (2, 1), (3, 9), (12, 9), (21, 9), (30, 1), (31, 1)], fun w => by kernel_rfl, fun w => by kernel_rfl⟩
theorem Veil.load {T : TypeId} {n : Nat} (h : Veil T n) {w : World} {q o : Nat} {x : Ins} (hr : w.rangeAt q o (insV x).toList) : (loadCellsFrom ⟨q, o, none⟩ 0 n #[]).run Tryz.prog w = .ok (insV x) w := by
  have e := run_loadCells_list (P := Tryz.prog) w ⟨q, o, none⟩ (insV x).toList (fun j v hv => by rw [Addr.add_mid]; exact hr j v hv)
  rw [h.s]
  exact e
theorem Veil.cells {T : TypeId} {n : Nat} (h : Veil T n) (x : Ins) : (insV x).size = n := by rw [h.s]; rfl
theorem veil : ∃ T n, Veil T n := ⟨_, _, rfl, rfl⟩
theorem neq_nil (w : World) : (binOp .neq 205 .nilFunc .nilFunc).run Tryz.prog w = .ok (.bool false) w := by kernel_rfl
theorem neq_fun (n : Nat) (w : World) : (binOp .neq 205 (.func (.func n) #[] #[]) .nilFunc).run Tryz.prog w = .ok (.bool true) w := by kernel_rfl
def decR (σ : Sg) : Ins × Int := if σ.err = 0 then ({ σ.ins with len := σ.at' }, 0) else (Ins.zero, σ.err)
theorem decM_any (rl : Int → Option Rule) (X : Cx) : decM rl X.L X.bt = decR (behM rl (opcodeM X sg0).1 X (opcodeM X sg0).2) := by
  unfold decM
  rw [(rdFullM rl).same (bx X.L X.bt) X rfl rfl sg0]
  rfl
set_option maxHeartbeats 4000000 in
theorem decode_ok (rl : Int → Option Rule) (hT : TabOk rl) (w : World) (p : Option Addr) (cap L : Nat) (bt : Nat → Int) (hL : L ≤ 4611686018427387904) (hb : BytAt w p L bt) (hbd : ∀ j, j < L → 0 ≤ bt j ∧ bt j < 256) :
    Calls Tryz.prog 44 #[.slice p L cap] w fun e w' => e = .returned (.tuple #[.agg (insV (decM rl L bt).1), .int .i64 (decM rl L bt).2]) ∧ Kp noB w w' := by
  have hst := St.start w p cap L bt hL hb hbd
  have cO := opcode_ok _ _ _ hst
  have hod := opcodeM_bd (X := ⟨w.heap.size + 1, w.heap.size + 1 + 1, p, cap, L, bt, w.heap.size⟩) hbd sg0 (Nat.zero_le _)
  have hfull := decM_any rl ⟨w.heap.size + 1, w.heap.size + 1 + 1, p, cap, L, bt, w.heap.size⟩
  have hin : InD ⟨w.heap.size + 1, w.heap.size + 1 + 1, p, cap, L, bt, w.heap.size⟩ w sg0 _ := ⟨hst, heap_kept (S := noB) (heap_kept (S := noB) (MapKept.heap_alloc w _).1 (Kp.alloc _ _ _) id) (Kp.alloc _ _ _) id, ⟨by show w.heap.size < w.heap.size + 1; omega, by show w.heap.size < w.heap.size + 1 + 1; omega⟩, ((Kp.alloc _ _ _).trans (Kp.alloc _ _ _)).trans (Kp.alloc _ _ _)⟩
  obtain ⟨X, hX⟩ : ∃ X : Cx, X = ⟨w.heap.size + 1, w.heap.size + 1 + 1, p, cap, L, bt, w.heap.size⟩ := ⟨_, rfl⟩
  have hS : w.heap.size + 1 = X.S := by rw [hX]
  have hF : w.heap.size + 1 + 1 = X.F := by rw [hX]
  simp only [← hX] at cO hod hfull hin
  obtain ⟨op, hop⟩ : ∃ op, op = (opcodeM X sg0).1 := ⟨_, rfl⟩
  obtain ⟨σ1, hσ1⟩ : ∃ σ1, σ1 = (opcodeM X sg0).2 := ⟨_, rfl⟩
  rw [← hop, ← hσ1] at cO hfull
  rw [← hop] at hod
  obtain ⟨V, hV⟩ : ∃ V, V = decM rl L bt := ⟨_, rfl⟩
  have hV2 : V = decR (behM rl op X σ1) := hV.trans hfull
  rw [← hV]
  have HV : Hid (V = decR (behM rl op X σ1)) := hV2
  rw [hF] at cO
  have HI : Hid _ := hin
  have HS : Hid (w.heap.size + 1 = X.S) := hS
  have HF : Hid (w.heap.size + 1 + 1 = X.F) := hF
  obtain ⟨o0, o1⟩ := hod
  have hrow := hT op o0 o1
  have Hrow : Hid _ := hrow
  clear hst hb hbd hfull hin hX hS hF hop hσ1 hV hV2 hT hrow
  obtain ⟨T, nI, hVl⟩ := veil
  obtain ⟨vl, vs⟩ := hVl.ops
  have HVl : Hid _ := hVl
  have vA := hVl.agg
  have vS := hVl.size
  have vb := hVl.build
  obtain ⟨Z, hZ⟩ : ∃ Z, Z = insV Ins.zero := ⟨_, rfl⟩
  have vz : ∀ w, (zeroValue T).run Tryz.prog w = .ok (.agg Z) w := by rw [hZ]; exact hVl.zero
  obtain ⟨fsI, psI, vU, vM⟩ := hVl.under
  have vZ : Z.size = nI := by rw [hZ]; exact hVl.cells _
  have HZ : Hid (Z = insV Ins.zero) := hZ
  clear hZ
  clear hVl
  go_enter Tryz.func44, Tryz.ntmps44
  simp only [vl, vs, vb]
  clear vl vs vb
  go_wp2_with fail
  rw [HF.out, HS.out]
  refine cO.mono ?_; rintro e w1 ⟨rfl, hd⟩
  have h1 := HI.out.call hd
  clear hd cO HI HF HS
  have c2 := h1.st.f2
  have z2 := h1.st.ff 2
  have h2 : InD X w (opS op σ1) (w1.setCell ⟨X.F, 2, none⟩ (.int .i64 op)) := h1.call ⟨h1.st.setF 2 _ (fun _ => rfl) rfl rfl rfl ⟨o0, o1, h1.st.gd.vv, h1.st.gd.fb⟩, Kp.setCell _ (Or.inr rfl) _⟩
  have cF := find_ok (w1.setCell ⟨X.F, 2, none⟩ (.int .i64 op)) op o0 o1
  have H2 : Hid _ := h2
  clear h1 h2
  rcases Hrow.out with ⟨e1, e2⟩ | ⟨n, r, e1, e2, hn⟩
  · have hV3 : V = decR (refuse (opS op σ1)) := by rw [HV.out]; unfold behM; rw [e2]
    have HV3 : Hid _ := hV3
    rw [e1, show rvN none = .nilFunc from rfl] at cF
    clear e1 e2 hV3 HV Hrow
    go_wp2_with fail
    refine cF.mono ?_; rintro e w2 ⟨rfl, k2⟩
    have hq := neq_nil
    have h3 := H2.out.no k2
    have c1 := h3.st.f1
    have cR := refuse_ok w2 X _ h3.st
    have H3 : Hid _ := h3
    clear H2 cF k2 h3
    go_wp2_with fail
    refine cR.mono ?_; rintro e w3 ⟨rfl, hd⟩
    have h4 := H3.out.call hd
    clear hd cR H3 c1 c2 z2 o0 o1
    generalize refuse (opS op σ1) = σ3 at h4 HV3
    have s1 := h4.st.s1
    have s2 := h4.st.s2
    have zS := h4.st.sf 2
    have hle := h4.st.le
    have hrs := h4.rs
    by_cases he : σ3.err = 0
    · have hV4 : V = ({ σ3.ins with len := σ3.at' }, 0) := by rw [HV3.out]; unfold decR; rw [if_pos he]
      have HV4 : Hid _ := hV4
      rw [he] at s2
      have c38 := h4.st.f38
      have z38 := h4.st.ff 38
      have h5 : InD X w { σ3 with ins := { σ3.ins with len := σ3.at' } } (w3.setCell ⟨X.F, 38, none⟩ (.int .i64 (σ3.at' : Int))) := h4.call ⟨setLen_frm h4.st _, Kp.setCell _ (Or.inr rfl) _⟩
      have hld := HVl.out.load (range_frm h5.st)
      have hst := put_ins h5.rs rfl { σ3.ins with len := σ3.at' }
      have hgot := load_ins (got_ins h5.rs { σ3.ins with len := σ3.at' }) rfl
      have hkp := h5.kp.setRowNo (Nat.le_refl _) (insV { σ3.ins with len := σ3.at' })
      have hsz := HVl.out.cells { σ3.ins with len := σ3.at' }
      obtain ⟨A, hA⟩ : ∃ A, A = insV { σ3.ins with len := σ3.at' } := ⟨_, rfl⟩
      have hld' : (loadCellsFrom ⟨X.F, 7, none⟩ 0 nI #[]).run Tryz.prog (w3.setCell ⟨X.F, 38, none⟩ (.int .i64 (σ3.at' : Int))) = .ok A (w3.setCell ⟨X.F, 38, none⟩ (.int .i64 (σ3.at' : Int))) := by rw [hA]; exact hld
      rw [← hA] at hst hgot hkp hsz
      have HA : Hid _ := hA
      clear hld hA
      have Hgot : Hid _ := hgot
      have Hkp : Hid _ := hkp
      clear hgot hkp h5 h4 HV3 hV4 hle hrs
      go_wp2
      refine bodyPost_ret (v := .tuple #[.agg A, .int .i64 0]) ?_ rfl ⟨by rw [HV4.out, HA.out], Hkp.out⟩
      exact res2 rfl _ _ w.heap.size _ _ rfl rfl Hgot.out
    · have hV4 : V = (Ins.zero, σ3.err) := by rw [HV3.out]; unfold decR; rw [if_neg he]
      have HV4 : Hid _ := hV4
      have he' : (σ3.err != 0) = true := by simpa using he
      have hst : (storeCells ⟨w.heap.size, 0, none⟩ Z.toList).run Tryz.prog w3.drew = .ok () (w3.drew.setRow w.heap.size Z) := by rw [HZ.out]; exact put_ins (w := w3.drew) hrs rfl Ins.zero
      have hgot : (loadVar 40 ⟨w.heap.size, 0, none⟩).run Tryz.prog (w3.drew.setRow w.heap.size Z) = .ok (.agg Z) (w3.drew.setRow w.heap.size Z) := by rw [HZ.out]; exact load_ins (got_ins (w := w3.drew) hrs Ins.zero) rfl
      have hkp := (h4.kp.drewN 1).setRowNo (Nat.le_refl _) Z
      have hs2 : (w3.drew.setRow w.heap.size Z).cell? ⟨X.S, 2, none⟩ = some (.int .i64 σ3.err) := cell_kept (S := fun b => b = w.heap.size) (w := w3.drew) s2 (Kp.setRow (S := fun b => b = w.heap.size) w3.drew rfl Z) (by have := h4.lo; show ¬ X.S = w.heap.size; omega)
      have Hgot : Hid _ := hgot
      have Hkp : Hid _ := hkp
      clear h4 HV3 hV4 hle hgot hkp hrs
      go_wp2
      go_region
      all_goals
        go_wp2
        refine bodyPost_ret (v := .tuple #[.agg Z, .int .i64 σ3.err]) ?_ rfl ⟨by rw [HV4.out, HZ.out], Hkp.out⟩
        exact res2 rfl _ _ w.heap.size _ _ rfl rfl Hgot.out
  · have hV3 : V = decR (r.g X (opS op σ1)) := by rw [HV.out]; unfold behM; rw [e2]
    have HV3 : Hid _ := hV3
    rw [e1, show rvN (some n) = .func (.func n) #[] #[] from rfl] at cF
    clear e1 e2 hV3 HV Hrow
    go_wp2_with fail
    refine cF.mono ?_; rintro e w2 ⟨rfl, k2⟩
    have hq := neq_fun n
    have h3 := H2.out.no k2
    have cR := hn.1 w2 X _ h3.st
    have hcall := hn.2 (.pointer (some ⟨X.F, 0, none⟩))
    have H3 : Hid _ := h3
    clear H2 cF k2 h3 hn
    go_wp2_with fail
    refine cR.mono ?_; rintro e w3 ⟨rfl, hd⟩
    have h4 := H3.out.call hd
    clear hd cR H3 c2 z2 o0 o1 hcall
    generalize r.g X (opS op σ1) = σ3 at h4 HV3
    have s1 := h4.st.s1
    have s2 := h4.st.s2
    have zS := h4.st.sf 2
    have hle := h4.st.le
    have hrs := h4.rs
    by_cases he : σ3.err = 0
    · have hV4 : V = ({ σ3.ins with len := σ3.at' }, 0) := by rw [HV3.out]; unfold decR; rw [if_pos he]
      have HV4 : Hid _ := hV4
      rw [he] at s2
      have c38 := h4.st.f38
      have z38 := h4.st.ff 38
      have h5 : InD X w { σ3 with ins := { σ3.ins with len := σ3.at' } } (w3.setCell ⟨X.F, 38, none⟩ (.int .i64 (σ3.at' : Int))) := h4.call ⟨setLen_frm h4.st _, Kp.setCell _ (Or.inr rfl) _⟩
      have hld := HVl.out.load (range_frm h5.st)
      have hst := put_ins h5.rs rfl { σ3.ins with len := σ3.at' }
      have hgot := load_ins (got_ins h5.rs { σ3.ins with len := σ3.at' }) rfl
      have hkp := h5.kp.setRowNo (Nat.le_refl _) (insV { σ3.ins with len := σ3.at' })
      have hsz := HVl.out.cells { σ3.ins with len := σ3.at' }
      obtain ⟨A, hA⟩ : ∃ A, A = insV { σ3.ins with len := σ3.at' } := ⟨_, rfl⟩
      have hld' : (loadCellsFrom ⟨X.F, 7, none⟩ 0 nI #[]).run Tryz.prog (w3.setCell ⟨X.F, 38, none⟩ (.int .i64 (σ3.at' : Int))) = .ok A (w3.setCell ⟨X.F, 38, none⟩ (.int .i64 (σ3.at' : Int))) := by rw [hA]; exact hld
      rw [← hA] at hst hgot hkp hsz
      have HA : Hid _ := hA
      clear hld hA
      have Hgot : Hid _ := hgot
      have Hkp : Hid _ := hkp
      clear hgot hkp h5 h4 HV3 hV4 hle hrs
      go_wp2
      refine bodyPost_ret (v := .tuple #[.agg A, .int .i64 0]) ?_ rfl ⟨by rw [HV4.out, HA.out], Hkp.out⟩
      exact res2 rfl _ _ w.heap.size _ _ rfl rfl Hgot.out
    · have hV4 : V = (Ins.zero, σ3.err) := by rw [HV3.out]; unfold decR; rw [if_neg he]
      have HV4 : Hid _ := hV4
      have he' : (σ3.err != 0) = true := by simpa using he
      have hst : (storeCells ⟨w.heap.size, 0, none⟩ Z.toList).run Tryz.prog w3.drew = .ok () (w3.drew.setRow w.heap.size Z) := by rw [HZ.out]; exact put_ins (w := w3.drew) hrs rfl Ins.zero
      have hgot : (loadVar 40 ⟨w.heap.size, 0, none⟩).run Tryz.prog (w3.drew.setRow w.heap.size Z) = .ok (.agg Z) (w3.drew.setRow w.heap.size Z) := by rw [HZ.out]; exact load_ins (got_ins (w := w3.drew) hrs Ins.zero) rfl
      have hkp := (h4.kp.drewN 1).setRowNo (Nat.le_refl _) Z
      have hs2 : (w3.drew.setRow w.heap.size Z).cell? ⟨X.S, 2, none⟩ = some (.int .i64 σ3.err) := cell_kept (S := fun b => b = w.heap.size) (w := w3.drew) s2 (Kp.setRow (S := fun b => b = w.heap.size) w3.drew rfl Z) (by have := h4.lo; show ¬ X.S = w.heap.size; omega)
      have Hgot : Hid _ := hgot
      have Hkp : Hid _ := hkp
      clear h4 HV3 hV4 hle hgot hkp hrs
      go_wp2
      go_region
      all_goals
        go_wp2
        refine bodyPost_ret (v := .tuple #[.agg Z, .int .i64 σ3.err]) ?_ rfl ⟨by rw [HV4.out, HZ.out], Hkp.out⟩
        exact res2 rfl _ _ w.heap.size _ _ rfl rfl Hgot.out
end Go.Proofs.YtiagfmkinefidaaGreat.Dc
namespace Go.Proofs.YtiagfmkinefidaaGreat.Dc
open Go.ChangeShapes Go.WideShapes Go.ChangeAt Go.RowKit
set_option linter.unusedVariables false
set_option maxRecDepth 20000
deriving instance DecidableEq for Opd
deriving instance DecidableEq for Ins
theorem guardI (w : World) (a b : Operand) (A B : Array Value) : (eqGuard .eql 40 a b (.agg A) (.agg B)).run Tryz.prog w = .ok () w := run_eqGuard_agg w _ _ _ _ _ _ (by kernel_rfl)
end Go.Proofs.YtiagfmkinefidaaGreat.Dc
namespace Go.Proofs.YtiagfmkinefidaaGreat.Dc
open Go.ChangeShapes Go.WideShapes Go.ChangeAt Go.RowKit
set_option linter.unusedVariables false
set_option maxRecDepth 100000
/-- The function of a row, and what the row says. -/
def tab : List (Nat × Rule) := [
  (230, .row ⟨.no, 1, .opn, (.k 1), [.E, .G]⟩),
  (238, .row ⟨.no, 1, .opn, (.k 1), [.A, .I]⟩),
  (245, .row ⟨.no, 12, (.k 0), .v, [.Seg 2]⟩),
  (249, .row ⟨.no, 13, (.k 0), .v, [.Seg 3]⟩),
  (253, .row ⟨.no, 7, (.k 3), (.k 1), []⟩),
  (258, .row ⟨.no, 13, (.k 0), .v, [.R]⟩),
  (262, .row ⟨.no, 5, (.k 0), .v, [.G, .E, .I]⟩),
  (269, .row ⟨.no, 1, .mn, (.k 1), [.E, .I]⟩),
  (274, .row ⟨.no, 1, (.k 8), .v, [.E, .G]⟩),
  (278, .row ⟨.no, 8, (.k 0), .v, [.E, .G]⟩),
  (286, .row ⟨.no, 10, (.k 0), .v, [.R, .A]⟩),
  (290, .row ⟨.no, 17, (.k 0), .v, []⟩),
  (294, .row ⟨.no, 8, (.k 0), (.k 1), [.A, .O]⟩),
  (299, .str 0 (.k 1)),
  (304, .row ⟨.no, 1, (.k 8), (.k 1), [.A, .I]⟩),
  (308, .str 3 (.k 1)),
  (312, .row ⟨.no, 8, (.k 0), (.k 1), [.R, .I]⟩),
  (317, .row ⟨.no, 30, (.k 0), .v, [.Iw]⟩),
  (323, .row ⟨.no, 35, (.k 0), .v, []⟩),
  (327, .row ⟨.no, 33, (.k 0), .v, []⟩),
  (332, .row ⟨.no, 2, .mn, .v, [.E, .CL]⟩),
  (336, .row ⟨.no, 31, (.k 1), .v, [.Jb]⟩),
  (340, .row ⟨.no, 37, (.k 0), .v, [.A, .Ib]⟩),
  (345, .row ⟨.no, 27, (.k 0), .v, [.J]⟩),
  (351, .row ⟨.no, 37, (.k 0), .v, [.A, .DX]⟩),
  (355, .row ⟨.no, 39, (.k 2), (.k 4), []⟩),
  (362, .row ⟨.no, 39, (.k 6), (.k 4), []⟩),
  (367, .row ⟨(.only [3]), 44, (.k 0), (.k 2), [.E]⟩),
  (374, .row ⟨.no, 26, .opc, .v, [.G, .E]⟩),
  (378, .row ⟨.no, 13, (.k 0), .v, [.Seg 4]⟩),
  (382, .row ⟨.no, 12, (.k 0), .v, [.Seg 5]⟩),
  (386, .row ⟨.no, 3, (.k 1), .v, [.E, .G, .CL]⟩),
  (391, .row ⟨.no, 9, (.k 0), .v, [.G, .Ew]⟩),
  (397, .row ⟨.no, 9, (.k 1), .v, [.G, .Eb]⟩),
  (235, .row ⟨.no, 1, .opn, .v, [.E, .G]⟩),
  (241, .row ⟨.no, 1, .opn, .v, [.A, .I]⟩),
  (246, .row ⟨.no, 12, (.k 0), .v, [.Seg 3]⟩),
  (250, .row ⟨.no, 7, (.k 0), (.k 1), []⟩),
  (254, .row ⟨.no, 1, (.k 9), .v, [.R]⟩),
  (259, .row ⟨.no, 14, (.k 0), .v, []⟩),
  (263, .row ⟨.no, 12, (.k 0), .v, [.Is]⟩),
  (271, .row ⟨.no, 1, .mn, .v, [.E, .I]⟩),
  (275, .row ⟨.no, 10, (.k 0), (.k 1), [.E, .G]⟩),
  (279, .row ⟨.no, 8, (.k 0), (.k 1), [.G, .E]⟩),
  (287, .row ⟨.no, 20, (.k 0), .v, []⟩),
  (291, .row ⟨.no, 18, (.k 0), (.k 1), []⟩),
  (296, .row ⟨.no, 8, (.k 0), .v, [.A, .O]⟩),
  (301, .str 0 .v),
  (305, .row ⟨.no, 1, (.k 8), .v, [.A, .I]⟩),
  (309, .str 3 .v),
  (313, .row ⟨.no, 8, (.k 0), .v, [.R, .I]⟩),
  (319, .row ⟨.no, 30, (.k 0), .v, [.Num 0]⟩),
  (324, .row ⟨.no, 32, (.k 1), (.k 4), [.Num 3]⟩),
  (328, .row ⟨.no, 2, .mn, (.k 1), [.E, .Num 1]⟩),
  (333, .row ⟨.no, 7, (.k 4), (.k 1), [.I]⟩),
  (337, .row ⟨.no, 31, (.k 2), .v, [.Jb]⟩),
  (341, .row ⟨.no, 38, (.k 0), (.k 1), [.Ib, .A]⟩),
  (346, .row ⟨.no, 34, (.k 0), .v, [.Far]⟩),
  (352, .row ⟨.no, 38, (.k 0), (.k 1), [.DX, .A]⟩),
  (359, .row ⟨.no, 39, (.k 0), (.k 4), []⟩),
  (363, .row ⟨.no, 39, (.k 3), (.k 4), []⟩),
  (369, .row ⟨.no, 47, (.k 0), (.k 4), []⟩),
  (375, .row ⟨.no, 28, .opc, .v, [.J]⟩),
  (379, .row ⟨.no, 23, (.k 0), .v, [.E, .G]⟩),
  (383, .row ⟨.no, 13, (.k 0), .v, [.Seg 5]⟩),
  (387, .row ⟨.no, 5, (.k 0), .v, [.G, .E]⟩),
  (394, .row ⟨.no, 23, (.k 3), .v, [.E, .G]⟩),
  (398, .row ⟨.no, 9, (.k 1), .v, [.G, .Ew]⟩),
  (236, .row ⟨.no, 1, .opn, (.k 1), [.G, .E]⟩),
  (242, .row ⟨.no, 12, (.k 0), .v, [.Seg 0]⟩),
  (247, .row ⟨.no, 13, (.k 0), .v, [.Seg 0]⟩),
  (251, .row ⟨.no, 7, (.k 1), (.k 1), []⟩),
  (256, .row ⟨.no, 1, (.k 10), .v, [.R]⟩),
  (260, .row ⟨.no, 15, (.k 0), .v, []⟩),
  (265, .row ⟨.no, 5, (.k 0), .v, [.G, .E, .Is]⟩),
  (272, .row ⟨.no, 1, .mn, .v, [.E, .Is]⟩),
  (276, .row ⟨.no, 10, (.k 0), .v, [.E, .G]⟩),
  (280, .row ⟨.no, 8, (.k 0), .v, [.G, .E]⟩),
  (288, .row ⟨.no, 21, (.k 0), .v, []⟩),
  (292, .row ⟨.no, 19, (.k 0), (.k 1), []⟩),
  (297, .row ⟨.no, 8, (.k 0), (.k 1), [.O, .A]⟩),
  (302, .str 1 (.k 1)),
  (306, .str 2 (.k 1)),
  (310, .str 4 (.k 1)),
  (314, .row ⟨.no, 2, .mn, (.k 1), [.E, .Ib]⟩),
  (321, .row ⟨(.only [0]), 8, (.k 0), (.k 1), [.E, .I]⟩),
  (325, .row ⟨.no, 32, (.k 0), (.k 4), [.Ib]⟩),
  (329, .row ⟨.no, 2, .mn, .v, [.E, .Num 1]⟩),
  (334, .row ⟨.no, 7, (.k 5), (.k 1), [.I]⟩),
  (338, .row ⟨.no, 31, (.k 3), .v, [.Jb]⟩),
  (342, .row ⟨.no, 38, (.k 0), .v, [.Ib, .A]⟩),
  (348, .row ⟨.no, 27, (.k 0), .v, [.Jb]⟩),
  (353, .row ⟨.no, 38, (.k 0), .v, [.DX, .A]⟩),
  (360, .row ⟨.no, 39, (.k 1), (.k 4), []⟩),
  (364, .row ⟨.no, 39, (.k 4), (.k 4), []⟩),
  (370, .row ⟨(.only [0, 2, 3]), 45, (.k 0), (.k 4), [.Rm, .Cr]⟩),
  (376, .row ⟨.no, 25, .opc, (.k 1), [.E]⟩),
  (380, .row ⟨.no, 3, (.k 0), .v, [.E, .G, .Ib]⟩),
  (384, .row ⟨.no, 23, (.k 1), .v, [.E, .G]⟩),
  (388, .row ⟨.no, 23, (.k 2), .v, [.E, .G]⟩),
  (395, .row ⟨.no, 24, (.k 0), .v, [.G, .E]⟩),
  (399, .row ⟨.no, 22, (.k 0), (.k 4), [.R]⟩),
  (237, .row ⟨.no, 1, .opn, .v, [.G, .E]⟩),
  (244, .row ⟨.no, 12, (.k 0), .v, [.Seg 1]⟩),
  (248, .row ⟨.no, 13, (.k 0), .v, [.Seg 2]⟩),
  (252, .row ⟨.no, 7, (.k 2), (.k 1), []⟩),
  (257, .row ⟨.no, 12, (.k 0), .v, [.R]⟩),
  (261, .row ⟨.no, 12, (.k 0), .v, [.I]⟩),
  (266, .row ⟨.no, 28, .opc, .v, [.Jb]⟩),
  (273, .row ⟨.no, 1, (.k 8), (.k 1), [.E, .G]⟩),
  (277, .row ⟨.no, 8, (.k 0), (.k 1), [.E, .G]⟩),
  (284, .row ⟨(.only [0]), 13, (.k 0), .v, [.E]⟩),
  (289, .row ⟨.no, 16, (.k 0), .v, []⟩),
  (293, .row ⟨.no, 41, (.k 0), (.k 4), []⟩),
  (298, .row ⟨.no, 8, (.k 0), .v, [.O, .A]⟩),
  (303, .str 1 .v),
  (307, .str 2 .v),
  (311, .str 4 .v),
  (316, .row ⟨.no, 2, .mn, .v, [.E, .Ib]⟩),
  (322, .row ⟨(.only [0]), 8, (.k 0), .v, [.E, .I]⟩),
  (326, .row ⟨.no, 32, (.k 2), (.k 4), [.Num 4]⟩),
  (330, .row ⟨.no, 2, .mn, (.k 1), [.E, .CL]⟩),
  (335, .row ⟨.no, 31, (.k 0), .v, [.Jb]⟩),
  (339, .row ⟨.no, 37, (.k 0), (.k 1), [.A, .Ib]⟩),
  (343, .row ⟨.no, 29, (.k 0), .v, [.J]⟩),
  (349, .row ⟨.no, 37, (.k 0), (.k 1), [.A, .DX]⟩),
  (354, .row ⟨.no, 40, (.k 0), (.k 4), []⟩),
  (361, .row ⟨.no, 39, (.k 5), (.k 4), []⟩),
  (365, .row ⟨(.only [0, 1]), 1, .mp9, (.k 1), [.E]⟩),
  (373, .row ⟨(.only [0, 2, 3]), 45, (.k 0), (.k 4), [.Cr, .Rm]⟩),
  (377, .row ⟨.no, 12, (.k 0), .v, [.Seg 4]⟩),
  (381, .row ⟨.no, 3, (.k 0), .v, [.E, .G, .CL]⟩),
  (385, .row ⟨.no, 3, (.k 1), .v, [.E, .G, .Ib]⟩),
  (389, .row ⟨.no, 9, (.k 0), .v, [.G, .Eb]⟩),
  (396, .row ⟨.no, 24, (.k 1), .v, [.G, .E]⟩),
  (393, .row ⟨(.only [4, 5, 6, 7]), 23, .mm4, .v, [.E, .Ib]⟩),
  (356, .un (.k 1)),
  (358, .un .v),
  (366, .ff),
  (368, .sys),
  (282, .row ⟨.mem, 11, .k 0, .v, [.G, .E]⟩),
  (283, .to),
  (281, .frm)]
def lookN (L : List (Nat × Rule)) (n : Nat) : Option Rule := match L with | [] => none | e :: r => if n = e.1 then some e.2 else lookN r n
theorem lookN_mem : ∀ (L : List (Nat × Rule)) (n : Nat) (r : Rule), lookN L n = some r → (n, r) ∈ L
  | [], _, _, h => by cases h
  | e :: L, n, r, h => by
    unfold lookN at h
    by_cases he : n = e.1
    · rw [if_pos he] at h
      injection h with h
      subst he h
      exact List.mem_cons_self
    · rw [if_neg he] at h
      exact List.mem_cons_of_mem _ (lookN_mem L n r h)
/-- An opcode's rule. -/
def ruleOf (op : Int) : Option Rule := (rowOf op).bind (lookN tab)
theorem ruleOf_all : ∀ k : Fin 4096, (rowOf ((k : Nat) : Int)).all (fun n => (lookN tab n).isSome) = true := by decide +kernel
end Go.Proofs.YtiagfmkinefidaaGreat.Dc
namespace Go.Proofs.YtiagfmkinefidaaGreat.Dc
open Go.ChangeShapes Go.WideShapes Go.ChangeAt Go.RowKit
set_option linter.unusedVariables false
set_option maxRecDepth 20000
structure VlF (T : TypeId) (n : Nat) (Z : Array Value) (fs : Array Field) (ps : Array (Nat × Nat)) : Prop where
  v : Veil T n
  z : Z = insV Ins.zero
  agg : ∀ w, (isAgg T).run Tryz.prog w = .ok true w
  size : ∀ w, (sizeOf T).run Tryz.prog w = .ok n w
  zero : ∀ w, (zeroValue T).run Tryz.prog w = .ok (.agg Z) w
  under : ∀ w, (underlying T).run Tryz.prog w = .ok (.struct fs) w
  map : ∀ w, (Array.mapM (fun f : Field => Prod.mk f.offset <$> sizeOf f.type) fs).run Tryz.prog w = .ok ps w
  guard : ∀ w a b A B, (eqGuard .eql T a b (.agg A) (.agg B)).run Tryz.prog w = .ok () w
  zs : Z.size = n
  zn : Z.toList.length = n
theorem vlF : ∃ T n Z fs ps, VlF T n Z fs ps := by
  obtain ⟨T, n, h⟩ := veil
  obtain ⟨fs, ps, hu, hm⟩ := h.under
  exact ⟨T, n, insV Ins.zero, fs, ps, h, rfl, h.agg, h.size, h.zero, hu, hm, fun w a b A B => by rw [h.t]; exact guardI w a b A B, h.cells _, by rw [h.s]; rfl⟩
theorem VlF.ops {T : TypeId} {n : Nat} {Z : Array Value} {fs : Array Field} {ps : Array (Nat × Nat)} (h : VlF T n Z fs ps) :
    (∀ x, Op.load 40 x = Op.load T x) ∧ (∀ x y, Op.store 40 x y = Op.store T x y) ∧ Op.build 40 #[] = Op.build T #[] ∧ Op.alloc 40 = Op.alloc T ∧ ∀ x y, Op.binOp .eql 40 x y 40 = Op.binOp .eql T x y T := by
  rw [h.v.t]
  exact ⟨fun _ => rfl, fun _ _ => rfl, rfl, rfl, fun _ _ => rfl⟩
theorem setRow_alloc (W : World) (c A : Array Value) (T : TypeId) : (W.alloc (.cells c T)).setRow W.heap.size A = W.alloc (.cells A T) := by
  unfold World.setRow World.alloc
  congr 1
  apply Array.ext_getElem?
  intro i
  rw [Array.getElem?_modify]
  by_cases h : W.heap.size = i
  · subst h; simp
  · simp only [h, if_false]
    by_cases h2 : i < W.heap.size
    · rw [Array.getElem?_push_lt h2, Array.getElem?_push_lt h2]
    · rw [Array.getElem?_eq_none (by simp; omega), Array.getElem?_eq_none (by simp; omega)]
/-- A new instruction is laid. -/
theorem VlF.new {T : TypeId} {n : Nat} {Z : Array Value} {fs : Array Field} {ps : Array (Nat × Nat)} (h : VlF T n Z fs ps) (x : Ins) (W : World) : (storeCells ⟨W.heap.size, 0, none⟩ (insV x).toList).run Tryz.prog (W.alloc (.cells Z T)) = .ok () (W.alloc (.cells (insV x) T)) := by
  rw [← setRow_alloc W Z (insV x) T, h.v.t]
  exact put_ins (MapKept.heap_alloc W (.cells Z 40)).1 (by rw [h.z]; rfl) x
/-- It is read where it lies. -/
theorem VlF.get {T : TypeId} {n : Nat} {Z : Array Value} {fs : Array Field} {ps : Array (Nat × Nat)} (h : VlF T n Z fs ps) {x : Ins} {W : World} {q : Nat} (hq : W.heap[q]? = some (.cells (insV x) T (0, 0))) : (loadCellsFrom ⟨q, 0, none⟩ 0 n #[]).run Tryz.prog W = .ok (insV x) W :=
  h.v.load (fun j v hv => by
    rw [cell_of_row W q (0 + j) _ _ _ hq, Nat.zero_add, ← Array.getElem?_toList]
    exact hv)
def bts (l : List Int) (j : Nat) : Int := l.getD j 0
end Go.Proofs.YtiagfmkinefidaaGreat.Dc
namespace Go.OrdFree
open Go
set_option linter.unusedVariables false
set_option maxRecDepth 20000
def neat (ops : Array Oper) : Bool :=
  (List.range ops.size).all fun i => match ops[i]? with
    | none => true
    | some o => o.guard.isNone && (o.after.all fun e => !Region.binds .any e || decide (e.on < i)) && o.op.operands.all fun x => match x with
      | .tmp s => (List.range ops.size).all fun j => ((ops[j]?).bind (·.dst)) != some s || o.after.any fun e => Region.binds .any e && e.on == j
      | _ => true
def Agr (ops : Array Oper) (listed : Array Bool) (a b : Act) : Prop :=
  a.defers = b.defers ∧ a.tmps.size = b.tmps.size ∧ ∀ d, (∀ j o, ops[j]? = some o → o.dst = some d → listed.getD j false = true) → a.tmps[d]? = b.tmps[d]?
def Shut (ops : Array Oper) (listed : Array Bool) : Prop :=
  ∀ (j : Nat) (o : Oper), ops[j]? = some o → listed.getD j false = true → ∀ e ∈ o.after, Region.binds .any e = true → listed.getD e.on false = true
def Qn : Exit → Act → World → Prop := fun _ _ _ => False
theorem neat_spec {ops : Array Oper} (h : neat ops = true) {i : Nat} {o : Oper} (ho : ops[i]? = some o) :
    o.guard = none ∧ (∀ e ∈ o.after, Region.binds .any e = true → e.on < i) ∧ ∀ s, Operand.tmp s ∈ o.op.operands → ∀ j oj, ops[j]? = some oj → oj.dst = some s → ∃ e ∈ o.after, Region.binds .any e = true ∧ e.on = j := by
  have hlt : i < ops.size := (Array.getElem?_eq_some_iff.1 ho).1
  have h1 := List.all_eq_true.1 h i (List.mem_range.2 hlt)
  rw [ho] at h1
  simp only [Bool.and_eq_true] at h1
  obtain ⟨⟨h2, h3⟩, h4⟩ := h1
  refine ⟨by simpa using h2, fun e he hb => ?_, fun s hs j oj hj hd => ?_⟩
  · have := Array.all_eq_true_iff_forall_mem.1 h3 e he
    simpa [hb] using this
  · have h5 := Array.all_eq_true_iff_forall_mem.1 h4 (.tmp s) hs
    have h6 := List.all_eq_true.1 h5 j (List.mem_range.2 (Array.getElem?_eq_some_iff.1 hj).1)
    simp only [hj, Option.bind_some, hd, bne_self_eq_false, Bool.false_or] at h6
    obtain ⟨k, hk, h7⟩ := Array.any_eq_true.1 h6
    simp only [Bool.and_eq_true, beq_iff_eq] at h7
    exact ⟨_, Array.getElem_mem hk, h7.1, h7.2⟩
theorem put_tr {a b : Act} {dst : Option Tmp} {u v : Value} (hs : a.tmps.size = b.tmps.size) (h : b.put dst u = b.put dst v) : a.put dst u = a.put dst v := by
  cases dst with
  | none => rfl
  | some d =>
    by_cases hd : d < b.tmps.size
    · have h1 : (b.tmps.setIfInBounds d u)[d]? = (b.tmps.setIfInBounds d v)[d]? := congrArg (fun x : Act => x.tmps[d]?) h
      rw [Array.getElem?_setIfInBounds_self_of_lt hd, Array.getElem?_setIfInBounds_self_of_lt hd] at h1
      rw [Option.some.inj h1]
    · have : ∀ z, a.tmps.setIfInBounds d z = a.tmps := fun z => Array.setIfInBounds_eq_of_size_le (by rw [hs]; exact Nat.le_of_not_lt hd)
      show ({ a with tmps := _ } : Act) = { a with tmps := _ }
      rw [this, this]
theorem put_defers_ne {b : Act} {dst : Option Tmp} {d : Deferred} {v : Value} (h : ({ b with defers := d :: b.defers } : Act).put dst undef = b.put dst v) : False := by
  have h1 := congrArg (fun x : Act => x.defers.length) h
  cases dst <;> simp [Act.put] at h1
/-- From the final state to the state at hand. -/
theorem wp_tr {P : Program} {o : Oper} {a b : Act} {w : World} {R : Value → World → Prop} {Q : Exit → Act → World → Prop}
    (he : execOp a.eval o = execOp b.eval o) (hs : a.tmps.size = b.tmps.size)
    (h : o.wp P b w (fun a' w' => ∃ v, a' = b.put o.dst v ∧ R v w') Qn) : o.wp P a w (fun a' w' => ∃ v, a' = a.put o.dst v ∧ R v w') Q := by
  unfold Oper.wp at *
  rw [he]
  have nl : ¬ LetsOut Qn := fun ⟨_, _, h⟩ => h
  generalize (execOp b.eval o).run P w = r at *
  cases r with
  | ok n w' =>
    cases n <;> simp only [Oper.upon] at h ⊢
    case value v => obtain ⟨u, e, hr⟩ := h; exact ⟨u, put_tr hs e, hr⟩
    case skip => obtain ⟨u, e, hr⟩ := h; exact ⟨u, put_tr hs e, hr⟩
    case defer d => obtain ⟨u, e, hr⟩ := h; exact (put_defers_ne e).elim
    case enter f args =>
      refine Calls.mono h (fun e w'' hh => ?_)
      cases e with
      | returned v => obtain ⟨u, e, hr⟩ := hh; exact ⟨u, put_tr hs e, hr⟩
      | panicked c => exact hh.elim
      | outgrown => exact (nl hh).elim
    case row r args =>
      refine Rows.mono h (fun v w'' hh => ?_)
      obtain ⟨u, e, hr⟩ := hh; exact ⟨u, put_tr hs e, hr⟩
  | halt x w' => cases x <;> simp only [Oper.upon] at h ⊢ <;> exact h.elim
theorem getD_tf {l : Array Bool} {i : Nat} (h : i < l.size) (h1 : l.getD i true = false) : l.getD i false = false := by
  simp [Array.getD, h] at *; exact h1
section
variable {P : Program} {ops : Array Oper} {Q : Exit → Act → World → Prop} {τ : Type} (A : τ → Act) (I : τ → Array Bool → World → Prop)
theorem all_listed (hn : neat ops = true) {listed : Array Bool} (hz : listed.size = ops.size) (hr : Region.ready .any ops listed = []) : ∀ i, i < ops.size → listed.getD i false = true := by
  intro i
  induction i using Nat.strongRecOn with
  | _ i ih =>
    intro hi
    have ho : ops[i]? = some ops[i] := Array.getElem?_eq_getElem hi
    by_cases hl : listed.getD i true = false
    · have : i ∈ Region.ready .any ops listed := mem_ready.2 ⟨hl, _, ho, fun e he hb => by
        have := (neat_spec hn ho).2.1 e he hb
        exact ih _ this (by omega)⟩
      rw [hr] at this
      cases this
    · have hi' : i < listed.size := by omega
      simp [Array.getD, hi'] at hl ⊢
      exact hl
theorem wpAny_free (hn : neat ops = true) (hs : Region.noSelect ops = true)
    (step : ∀ (i : Nat) (o : Oper), ops[i]? = some o → ∀ (t : τ) (listed : Array Bool) (w : World), listed.size = ops.size → Shut ops listed → listed.getD i false = false → I t listed w →
      (∀ e ∈ o.after, Region.binds .any e = true → listed.getD e.on false = true) →
      o.wp P (A t) w (fun a' w' => ∃ v, a' = (A t).put o.dst v ∧ ∃ t', (∀ d, o.dst = some d → (A t').tmps[d]? = some v) ∧ Agr ops listed (A t) (A t') ∧ I t' (listed.setIfInBounds i true) w') Qn)
    (done : ∀ (t : τ) (listed : Array Bool) (w : World), (∀ i, i < ops.size → listed.getD i false = true) → I t listed w → Q .normal (A t) w) :
    ∀ (fuel : Nat) (listed : Array Bool) (a : Act) (w : World), listed.size = ops.size → listed.toList.count false ≤ fuel → Shut ops listed → (∃ t, Agr ops listed a (A t) ∧ I t listed w) → wpAny P .any ops Q fuel listed a w := by
  have fin : ∀ (listed : Array Bool) (a : Act) (w : World), listed.size = ops.size → (∃ t, Agr ops listed a (A t) ∧ I t listed w) → Region.ready .any ops listed = [] → Q .normal a w := by
    rintro listed a w hz ⟨t, ⟨g1, g2, g3⟩, hI⟩ hr
    have hall := all_listed hn hz hr
    have e : a = A t := by
      have ht : a.tmps = (A t).tmps := Array.ext_getElem? fun d => g3 d fun j o hj _ => hall j (Array.getElem?_eq_some_iff.1 hj).1
      cases ha : a with
      | mk x y => cases hb : A t with
        | mk x' y' => rw [ha, hb] at ht g1; simp only at ht g1; rw [ht, g1]
    rw [e]
    exact done t listed w hall hI
  intro fuel
  induction fuel with
  | zero =>
    intro listed a w hz hc hS hI
    have hr : Region.ready .any ops listed = [] := by
      cases hr : Region.ready .any ops listed with
      | nil => rfl
      | cons i l =>
        have hi : i ∈ Region.ready .any ops listed := by rw [hr]; simp
        obtain ⟨h1, o, ho, _⟩ := mem_ready.1 hi
        have hlt : i < listed.size := by rw [hz]; exact (Array.getElem?_eq_some_iff.1 ho).1
        have hm : false ∈ listed.toList := by
          simp [Array.getD, hlt] at h1
          rw [← h1]
          simp
        have := List.count_pos_iff.2 hm
        omega
    exact ⟨hr, fin listed a w hz hI hr⟩
  | succ fuel ih =>
    intro listed a w hz hc hS hI
    refine ⟨fin listed a w hz hI, fun i hi => ?_⟩
    obtain ⟨t, ⟨g1, g2, g3⟩, hI⟩ := hI
    obtain ⟨h1, o, ho, hb⟩ := mem_ready.1 hi
    have hlt : i < ops.size := (Array.getElem?_eq_some_iff.1 ho).1
    have h1' := getD_tf (by omega) h1
    obtain ⟨n1, n2, n3⟩ := neat_spec hn ho
    have he : execOp a.eval o = execOp (A t).eval o := execOp_congr o (fun cs b => Region.noSelect_spec hs i o cs b ho) fun x hx => by
      cases x with
      | tmp s =>
        have := g3 s fun j oj hj hd => by
          obtain ⟨e, he, hbe, rfl⟩ := n3 s hx j oj hj hd
          exact hb e he hbe
        show a.tmps.getD s undef = (A t).tmps.getD s undef
        rw [Array.getD_eq_getD_getElem?, Array.getD_eq_getD_getElem?, this]
      | _ => rfl
    have hw := step i o ho t listed w hz hS h1' hI hb
    have hw' := wp_tr (Q := Q) (a := a) he g2 hw
    unfold wpOp
    rw [ho]
    have hwant : Region.wanted o (yielded ops a.tmps) = true := by simp [Region.wanted, n1]
    simp only [hwant, if_true]
    left
    refine Oper.wp_mono ?_ hw'
    rintro a' w' ⟨v, rfl, t', hv, ⟨q1, q2, q3⟩, hI'⟩
    refine ih _ _ _ (by simpa using hz) ?_ ?_ ⟨t', ⟨?_, ?_, ?_⟩, hI'⟩
    · have hl : listed.toList[i]? = some false := by
        have : i < listed.size := by omega
        simp [Array.getD, this] at h1
        simp [this, h1]
      have hm := List.count_set (a := true) (b := false) (l := listed.toList) (i := i) (by simp; omega)
      rw [Array.toList_setIfInBounds]
      have h3 : listed.toList[i]'(by simp; omega) = false := by
        rw [List.getElem?_eq_some_iff] at hl; exact hl.2
      rw [hm, h3]
      have h4 := List.count_pos_iff.2 (List.mem_of_getElem? hl)
      simp only [beq_self_eq_true, if_true]
      have : (true == false) = false := rfl
      rw [this]
      simp only [Bool.false_eq_true, if_false]
      omega
    · intro j oj hj hl e he hbe
      by_cases hij : i = j
      · subst hij
        rw [ho] at hj
        obtain rfl := Option.some.inj hj
        exact getD_set_true (hb e he hbe)
      · rw [getD_set_ne false hij] at hl
        exact getD_set_true (hS j oj hj hl e he hbe)
    · rw [← q1, ← g1]; cases o.dst <;> rfl
    · rw [← q2, ← g2]; cases o.dst <;> simp [Act.put]
    · intro d hd
      by_cases hod : o.dst = some d
      · rw [hod]
        have h5 := hv d hod
        rw [h5]
        have : d < a.tmps.size := by rw [g2, q2]; exact (Array.getElem?_eq_some_iff.1 h5).1
        exact Array.getElem?_setIfInBounds_self_of_lt this
      · have hpre : ∀ j oj, ops[j]? = some oj → oj.dst = some d → listed.getD j false = true := fun j oj hj hdj => by
          have h6 := hd j oj hj hdj
          have hij : i ≠ j := by
            rintro rfl
            rw [ho] at hj
            obtain rfl := Option.some.inj hj
            exact hod hdj
          rwa [getD_set_ne false hij] at h6
        have : (a.put o.dst v).tmps[d]? = a.tmps[d]? := by
          cases hdst : o.dst with
          | none => rfl
          | some z => exact Array.getElem?_setIfInBounds_ne (fun e => hod (by rw [hdst, e]))
        rw [this, g3 d hpre, q3 d hpre]
/-- A region that draws its order, by one proof for each operation. -/
theorem wp_region_free {id : Nat} {a : Act} {w : World} (hm : P.follows .mixedOrders = true) (hn : neat ops = true) (hs : Region.noSelect ops = true) (t0 : τ)
    (h0 : Agr ops (Array.replicate ops.size false) a (A t0)) (hI : I t0 (Array.replicate ops.size false) { w with drawn := w.drawn + 1 })
    (done : ∀ (t : τ) (listed : Array Bool) (w : World), (∀ i, i < ops.size → listed.getD i false = true) → I t listed w → Q .normal (A t) w)
    (step : ∀ (i : Nat) (o : Oper), ops[i]? = some o → ∀ (t : τ) (listed : Array Bool) (w : World), listed.size = ops.size → Shut ops listed → listed.getD i false = false → I t listed w →
      (∀ e ∈ o.after, Region.binds .any e = true → listed.getD e.on false = true) →
      o.wp P (A t) w (fun a' w' => ∃ v, a' = (A t).put o.dst v ∧ ∃ t', (∀ d, o.dst = some d → (A t').tmps[d]? = some v) ∧ Agr ops listed (A t) (A t') ∧ I t' (listed.setIfInBounds i true) w') Qn) :
    (Code.region id ops true).wp P Q a w :=
  wp_region_any hm (wpAny_free A I hn hs step done _ _ _ _ (by simp) (by simp) (fun j o hj hl => by
    have : (Array.replicate ops.size false).getD j false = false := by simp [Array.getD]
    rw [this] at hl; cases hl) ⟨t0, h0, hI⟩)
end
def puts : List Oper → List Value → Act → Act
  | o :: os, v :: vs, a => puts os vs (a.put o.dst v)
  | _, _, a => a
theorem puts_size : ∀ (os : List Oper) (vs : List Value) (a : Act), (puts os vs a).tmps.size = a.tmps.size ∧ (puts os vs a).defers = a.defers
  | [], _, a => ⟨rfl, rfl⟩
  | _ :: _, [], a => ⟨rfl, rfl⟩
  | o :: os, v :: vs, a => by
    have := puts_size os vs (a.put o.dst v)
    refine ⟨this.1.trans ?_, this.2.trans ?_⟩ <;> cases o.dst <;> simp [Act.put]
theorem put_get_ne {a : Act} {x : Option Tmp} {v : Value} {d : Nat} (h : x ≠ some d) : (a.put x v).tmps[d]? = a.tmps[d]? := by
  cases x with
  | none => rfl
  | some z => exact Array.getElem?_setIfInBounds_ne (fun e => h (by rw [e]))
theorem puts_get_ne {d : Nat} : ∀ (os : List Oper) (vs : List Value) (a : Act), (∀ o ∈ os, o.dst ≠ some d) → (puts os vs a).tmps[d]? = a.tmps[d]?
  | [], _, a, _ => rfl
  | _ :: _, [], a, _ => rfl
  | o :: os, v :: vs, a, h => (puts_get_ne os vs _ (fun o ho => h o (List.mem_cons_of_mem _ ho))).trans (put_get_ne (h o (by simp)))
theorem puts_agree {d : Nat} : ∀ (os : List Oper) (us vs : List Value) (a b : Act), us.length = vs.length → a.tmps.size = b.tmps.size → a.tmps[d]? = b.tmps[d]? →
    (∀ (j : Nat) (o : Oper), os[j]? = some o → o.dst = some d → us[j]? = vs[j]?) → (puts os us a).tmps[d]? = (puts os vs b).tmps[d]?
  | [], _, _, a, b, _, _, h, _ => h
  | o :: os, [], [], a, b, _, _, h, _ => h
  | o :: os, u :: us, v :: vs, a, b, hl, hs, h, hv => by
    refine puts_agree os us vs _ _ (by simpa using hl) (by cases o.dst <;> simp [Act.put, hs]) ?_ (fun j o' hj hd => by simpa using hv (j + 1) o' (by simpa using hj) hd)
    by_cases hd : o.dst = some d
    · have e := hv 0 o rfl hd
      simp only [List.getElem?_cons_zero, Option.some.injEq] at e
      rw [hd, e]
      by_cases hb : d < b.tmps.size
      · show (a.tmps.setIfInBounds d v)[d]? = (b.tmps.setIfInBounds d v)[d]?
        rw [Array.getElem?_setIfInBounds_self_of_lt hb, Array.getElem?_setIfInBounds_self_of_lt (by rw [hs]; exact hb)]
      · show (a.tmps.setIfInBounds d v)[d]? = (b.tmps.setIfInBounds d v)[d]?
        rw [Array.setIfInBounds_eq_of_size_le (Nat.le_of_not_lt hb), Array.setIfInBounds_eq_of_size_le (by rw [hs]; exact Nat.le_of_not_lt hb)]
        exact h
    · rw [put_get_ne hd, put_get_ne hd]; exact h
def once : List Oper → Nat → Bool
  | [], _ => true
  | o :: os, n => (match o.dst with | none => true | some d => decide (d < n) && os.all fun p => p.dst != some d) && once os n
theorem puts_get {d : Nat} {v : Value} {n : Nat} : ∀ (os : List Oper) (vs : List Value) (a : Act) (i : Nat) (o : Oper), once os n = true → a.tmps.size = n → os[i]? = some o → o.dst = some d → vs[i]? = some v → (puts os vs a).tmps[d]? = some v
  | [], _, a, i, o, _, _, ho, _, _ => by simp at ho
  | _ :: _, [], a, i, o, _, _, _, _, hv => by simp at hv
  | p :: os, u :: vs, a, 0, o, h1, hs, ho, hd, hv => by
    simp only [List.getElem?_cons_zero, Option.some.injEq] at ho hv
    subst ho; subst hv
    simp only [once, hd, Bool.and_eq_true, decide_eq_true_eq] at h1
    show (puts os vs (a.put p.dst u)).tmps[d]? = _
    rw [puts_get_ne os vs _ (fun o ho => by have := List.all_eq_true.1 h1.1.2 o ho; simpa using this), hd]
    exact Array.getElem?_setIfInBounds_self_of_lt (by rw [hs]; exact h1.1.1)
  | p :: os, u :: vs, a, i + 1, o, h1, hs, ho, hd, hv => by
    simp only [once, Bool.and_eq_true] at h1
    exact puts_get os vs _ i o h1.2 (by cases p.dst <;> simp [Act.put, hs]) (by simpa using ho) hd (by simpa using hv)
def Each (S : Nat → Oper → Prop) : List Oper → Nat → Prop
  | [], _ => True
  | o :: os, k => S k o ∧ Each S os (k + 1)
theorem Each.get {S : Nat → Oper → Prop} : ∀ (os : List Oper) (k : Nat), Each S os k → ∀ i o, os[i]? = some o → S (k + i) o
  | [], _, _, i, o, h => by simp at h
  | p :: os, k, h, 0, o, ho => by simp only [List.getElem?_cons_zero, Option.some.injEq] at ho; exact ho ▸ h.1
  | p :: os, k, h, i + 1, o, ho => by
    have := Each.get os (k + 1) h.2 i o (by simpa using ho)
    rwa [show k + 1 + i = k + (i + 1) by omega] at this
/-- What is asked of one operation. 'K' is a letter: the walk ends at 'K (..put ..) ..'. -/
def Step1 {τ : Type} (P : Program) (ops : Array Oper) (vals : τ → List Value) (B : τ → Act) (I : τ → Array Bool → World → Prop) (i : Nat) (o : Oper) : Prop :=
  ∀ (t : τ) (listed : Array Bool) (w : World), listed.size = ops.size → Shut ops listed → listed.getD i false = false → I t listed w →
    (∀ e ∈ o.after, Region.binds .any e = true → listed.getD e.on false = true) →
    ∀ K : Act → World → Prop, (∀ v w', (∃ t', (vals t')[i]? = some v ∧ (∀ j, listed.getD j false = true → (vals t)[j]? = (vals t')[j]?) ∧ I t' (listed.setIfInBounds i true) w') → K ((B t).put o.dst v) w') →
      (∀ w', I t (listed.setIfInBounds i true) w' → K (B t) w') → o.wp P (B t) w K Qn
theorem region_vals {τ : Type} {P : Program} {ops : Array Oper} {Q : Exit → Act → World → Prop} {id : Nat} {a : Act} {w : World} (vals : τ → List Value) (I : τ → Array Bool → World → Prop) (t0 : τ) {B : τ → Act}
    (hm : P.follows .mixedOrders = true) (hn : neat ops = true) (hs : Region.noSelect ops = true) (h1 : once ops.toList a.tmps.size = true) (hv : ∀ t, (vals t).length = ops.size)
    (hB : ∀ t, puts ops.toList (vals t) a = B t) (hI : I t0 (Array.replicate ops.size false) { w with drawn := w.drawn + 1 })
    (step : Each (Step1 P ops vals B I) ops.toList 0)
    (done : ∀ (t : τ) (listed : Array Bool) (w : World), (∀ i, i < ops.size → listed.getD i false = true) → I t listed w → Q .normal (B t) w) :
    (Code.region id ops true).wp P Q a w := by
  have sz : ∀ t, (B t).tmps.size = a.tmps.size ∧ (B t).defers = a.defers := fun t => by rw [← hB t]; exact puts_size _ _ _
  refine wp_region_free B I hm hn hs t0 ⟨(sz t0).2.symm, (sz t0).1.symm, fun d hd => ?_⟩ hI done ?_
  · rw [← hB t0, puts_get_ne]
    intro o ho hod
    obtain ⟨j, hj⟩ := List.getElem?_of_mem ho
    have := hd j o (by simpa using hj) hod
    simp [Array.getD] at this
  · intro i o ho t listed w hz hS hl hI' hb
    have st := Each.get _ _ step i o (by simpa using ho)
    rw [Nat.zero_add] at st
    have main : ∀ v w', (∃ t', (vals t')[i]? = some v ∧ (∀ j, listed.getD j false = true → (vals t)[j]? = (vals t')[j]?) ∧ I t' (listed.setIfInBounds i true) w') → ∃ v', (B t).put o.dst v = (B t).put o.dst v' ∧ ∃ t', (∀ d, o.dst = some d → (B t').tmps[d]? = some v') ∧ Agr ops listed (B t) (B t') ∧ I t' (listed.setIfInBounds i true) w' := ?_
    · refine st t listed w hz hS hl hI' hb _ main (fun w' h => ?_)
      have hi : i < (vals t).length := by rw [hv]; exact (Array.getElem?_eq_some_iff.1 ho).1
      have e1 : (vals t)[i]? = some (vals t)[i] := List.getElem?_eq_getElem hi
      obtain ⟨v', e, h'⟩ := main _ w' ⟨t, e1, fun _ _ => rfl, h⟩
      refine ⟨v', ?_, h'⟩
      rw [← e]
      cases hd : o.dst with
      | none => rfl
      | some d =>
        have g := puts_get (v := (vals t)[i]) ops.toList (vals t) a i o h1 rfl (by simpa using ho) hd e1
        rw [hB t] at g
        have : (B t).tmps.setIfInBounds d (vals t)[i] = (B t).tmps := Array.ext_getElem? fun j => by
          by_cases hj : d = j
          · subst hj
            rw [Array.getElem?_setIfInBounds_self_of_lt (Array.getElem?_eq_some_iff.1 g).1, g]
          · exact Array.getElem?_setIfInBounds_ne hj
        unfold Act.put
        simp only [this]
    rintro v w' ⟨t', e1, e2, hI2⟩
    refine ⟨v, rfl, t', fun d hd => ?_, ⟨(sz t).2.trans (sz t').2.symm, (sz t).1.trans (sz t').1.symm, fun d hd => ?_⟩, hI2⟩
    · rw [← hB t']
      exact puts_get ops.toList _ a i o h1 rfl (by simpa using ho) hd e1
    · rw [← hB t, ← hB t']
      refine puts_agree _ _ _ _ _ ((hv t).trans (hv t').symm) rfl rfl (fun j o' hj hd' => e2 j (hd j o' (by simpa using hj) hd'))
theorem wp_of_run {P : Program} {o : Oper} {a : Act} {w w' : World} {K : Act → World → Prop} {Q : Exit → Act → World → Prop} {v : Value} (h : (execOp a.eval o).run P w = .ok (.value v) w') (hk : K (a.put o.dst v) w') : o.wp P a w K Q := by
  unfold Oper.wp
  rw [h]
  exact hk
def edge (ops : Array Oper) (j i : Nat) : Bool := match ops[j]? with
  | some o => o.after.any fun e => Region.binds .any e && e.on == i
  | none => false
theorem shut_no {ops : Array Oper} {listed : Array Bool} {i j : Nat} (hS : Shut ops listed) (hl : listed.getD i false = false) (h : edge ops j i = true) : listed.getD j false = false := by
  unfold edge at h
  cases ho : ops[j]? with
  | none => rw [ho] at h; cases h
  | some o =>
    rw [ho] at h
    obtain ⟨k, hk, h7⟩ := Array.any_eq_true.1 h
    simp only [Bool.and_eq_true, beq_iff_eq] at h7
    cases hj : listed.getD j false with
    | false => rfl
    | true =>
      have := hS j o ho hj _ (Array.getElem_mem hk) h7.1
      rw [h7.2, hl] at this
      cases this
theorem vals_two {l l' : List Value} {i k : Nat} {u v : Value} {listed : Array Bool} (e : (l.set i u).set k v = l') (hi : listed.getD i false = false) (hk : listed.getD k false = false) (j : Nat) (hj : listed.getD j false = true) : l[j]? = l'[j]? := by
  rw [← e]
  by_cases h1 : k = j
  · rw [← h1, hk] at hj; cases hj
  by_cases h2 : i = j
  · rw [← h2, hi] at hj; cases hj
  rw [List.getElem?_set_ne h1, List.getElem?_set_ne h2]
end Go.OrdFree
namespace Go.Proofs.YtiagfmkinefidaaGreat.Dc
open Go.ChangeShapes Go.WideShapes Go.ChangeAt Go.RowKit
set_option linter.unusedVariables false
set_option maxRecDepth 20000
theorem wrapI {n : Int} (h0 : -1000 ≤ n) (h1 : n ≤ 1000) : IntKind.i64.wrap n = n := by
  simp [IntKind.wrap, IntKind.bits, IntKind.signed]
  have := Int.bmod_def n 18446744073709551616
  omega
def KeepsV (p : Cx → Int → Sg → Opd × Sg) : Prop := ∀ X s σ, (p X s σ).2.v = σ.v
theorem take_v (X : Cx) (σ : Sg) : (take X σ).2.v = σ.v := by
  unfold take
  split
  · rfl
  · split
    · rfl
    · split <;> rfl
theorem numM_v (X : Cx) : ∀ (k i : Nat) (n : Int) (σ : Sg), (numM X k i n σ).2.v = σ.v
  | 0, _, _, _ => rfl
  | k + 1, i, n, σ => (numM_v X k (i + 1) _ _).trans (take_v X σ)
theorem bytesM_v (X : Cx) (s : Int) (σ : Sg) : (bytesM X s σ).2.v = σ.v := numM_v X _ _ _ σ
theorem vA : KeepsV pA := fun _ _ _ => rfl
theorem vCL : KeepsV pCL := fun _ _ _ => rfl
theorem vG : KeepsV pG := fun X _ σ => modrm_v X σ
theorem vI : KeepsV pI := fun X s σ => bytesM_v X s σ
theorem vIb : KeepsV pIb := fun X s σ => bytesM_v X 1 σ
theorem vIs : KeepsV pIs := fun X s σ => bytesM_v X 1 σ
theorem vJ : KeepsV pJ := fun X s σ => bytesM_v X s σ
theorem vJb : KeepsV pJb := fun X s σ => bytesM_v X 1 σ
theorem vE : KeepsV pE := fun X s σ => by
  unfold pE
  split
  · exact modrm_v X σ
  · have h1 : (sibP X (modrm X σ).1.2.2 (modrm X σ).2).2.v = σ.v := by
      unfold sibP
      split
      · exact (take_v X _).trans (modrm_v X σ)
      · exact modrm_v X σ
    refine Eq.trans ?_ h1
    unfold finE dispP
    simp only
    split
    · exact bytesM_v X 4 _
    · split
      · exact bytesM_v X 1 _
      · split
        · exact bytesM_v X 4 _
        · rfl
theorem vSeg (r : Int) : KeepsV (pSeg r) := fun _ _ _ => rfl
theorem vNum (r : Int) : KeepsV (pNum r) := fun _ _ _ => rfl
def KeepsL (fs : List (Cx → Int → Sg → Opd × Sg)) : Prop := ∀ f ∈ fs, KeepsV f
theorem kN : KeepsL [] := fun _ h => nomatch h
theorem kC {f : Cx → Int → Sg → Opd × Sg} {fs : List (Cx → Int → Sg → Opd × Sg)} (h : KeepsV f) (t : KeepsL fs) : KeepsL (f :: fs) := fun g hg => by
  rcases List.mem_cons.1 hg with rfl | hg
  · exact h
  · exact t g hg
theorem stpF_v (X : Cx) (s : Int) : ∀ (fs : List (Cx → Int → Sg → Opd × Sg)) (i : Nat) (σ : Sg), KeepsL fs → (stpF X s i fs σ).v = σ.v
  | [], _, _, _ => rfl
  | f :: fs, i, σ, h => by
    show (stpF X s (i + 1) fs (setI i (f X s σ))).v = _
    rw [stpF_v X s fs _ _ (fun g hg => h g (List.mem_cons_of_mem _ hg))]
    have : (setI i (f X s σ)).v = (f X s σ).2.v := by
      unfold setI
      split <;> rfl
    rw [this]
    exact h f (List.mem_cons_self ..) X s σ
theorem isM_v (X : Cx) (op sub s : Int) (fs : List (Cx → Int → Sg → Opd × Sg)) (σ : Sg) (h : KeepsL fs) : (isM X op sub s fs σ).v = σ.v := by
  unfold isM
  rw [stpF_v X s fs _ _ h]
  rfl
end Go.Proofs.YtiagfmkinefidaaGreat.Dc
