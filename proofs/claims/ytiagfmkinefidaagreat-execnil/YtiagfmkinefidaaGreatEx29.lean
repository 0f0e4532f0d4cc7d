/- The bus and its devices: IxNew, IxAll. -/
import Derived.Test.YtiagfmkinefidaaGreatEx26
import Derived.Test.YtiagfmkinefidaaGreatRows
import Derived.WalkKit
import Derived.ProofKit
import Derived.OpenShut
import Derived.Carry
import Derived.Deep.Slices
import Derived.Below
import Derived.SizedLaws
import Derived.Laws.BytesArg
namespace Go.Proofs.YtiagfmkinefidaaGreat.Dk
open Go.ChangeShapes Go.WideShapes Go.ChangeAt Go.RowKit
set_option linter.unusedVariables false
set_option maxRecDepth 20000
/-- Bytes joined to none: a block of their own. -/
theorem app_new {w : World} (g0 : Nat) {a : Option Addr} {L : Nat} (c : Nat) {bt : Nat → Int} (h0 : w.heap[g0]? = some (.cells #[] 5 (0, 0))) (hB : BytAt w a L bt) (hL : L ≤ 140737488355328) :
    ∃ g cap w', (Builtin.append_ #[71, 71] 71 #[.slice (some ⟨g0, 0, none⟩) 0 0, .slice a L c]).run Tryz.prog w = .ok (.slice (some ⟨g, 0, none⟩) L cap) w' ∧ L ≤ cap ∧ (∃ cur, w'.heap[g]? = some (.cells cur 5 (0, 0)) ∧ L ≤ cur.size ∧ ∀ j, j < L → cur[j]? = some (.int .u8 (bt j))) ∧ Kp noB w w' ∧ (g = g0 ∨ w.heap.size ≤ g) := by
  have u : ∀ w, (underlying 71).run Tryz.prog w = .ok (.slice 5) w := fun w => by kernel_rfl
  have s : ∀ w, (sizeOf 5).run Tryz.prog w = .ok 1 w := fun w => by kernel_rfl
  rcases Nat.eq_zero_or_pos L with rfl | hp
  · refine ⟨g0, 0, w, ?_, Nat.le_refl _, ⟨_, h0, Nat.le_refl _, fun j hj => by omega⟩, Kp.refl _ _, .inl rfl⟩
    cases a
    · simp [Builtin.append_, u, s, Builtin.lenOf, Builtin.firstCells, storeCells]
    · simp [Builtin.append_, u, s, Builtin.lenOf, Builtin.firstCells, storeCells, loadCells, loadCellsFrom]
  · obtain ⟨b, o, rfl, hb, _⟩ := hB 0 hp
    have hcell : ∀ j, j < L → w.cell? ⟨b, o + j, none⟩ = some (.int .u8 (bt j)) := fun j hj => by
      obtain ⟨b', o', e, _, hc⟩ := hB j hj
      injection e with e
      injection e with e1 e2
      subst e1; subst e2
      exact hc
    obtain ⟨i, hi, hz, hs, hby⟩ := info_of info8
    have hn : Builtin.nextslicecap (0 + L) 0 = L := by
      unfold Builtin.nextslicecap
      simp
      omega
    have hlen : ((List.range L).map (fun j => Value.int .u8 (bt j))).length = L := by simp
    have hget : ∀ j, j < L → ((List.range L).map (fun j => Value.int .u8 (bt j)))[j]? = some (.int .u8 (bt j)) := by
      intro j hj
      rw [List.getElem?_map, List.getElem?_range hj]
      rfl
    have e := run_append_grow (P := Tryz.prog) (w := w) 71 71 5 i (.int .u8 0) Tryz.underlying71 hi hz ⟨g0, 0, none⟩ 0 0 [] (by simp) (by simp) ⟨b, o, none⟩ L c ((List.range L).map (fun j => Value.int .u8 (bt j))) (by rw [hlen, hs, Nat.mul_one]) (fun j v hv => by
      have hj : j < L := by
        have := (List.getElem?_eq_some_iff.1 hv).1
        rwa [hlen] at this
      rw [hget j hj] at hv
      rw [← hv, Addr.add_mid]
      exact hcell j hj) (by omega) (by omega) (by rw [hn, hby]; omega)
    rw [Nat.zero_add] at e
    refine ⟨w.heap.size, _, _, e, grownCap_ge _ _ _ _, ⟨_, heap_new w.drew _, ?_, fun j hj => ?_⟩, (Kp.refl _ _).drew.trans (Kp.alloc _ _ _), .inr (Nat.le_refl _)⟩
    · simp
    · rw [Array.getElem?_append_left (by simp; omega)]
      simp [hj]
/-- At a plain region's list: the append whose answer is known. -/
theorem wpList_app {ops : Array Oper} {rest : List Oper} {o : Oper} {a : Act} {w w' : World} {Q : Exit → Act → World → Prop} {v v' x : Value} (hgd : o.guard = none) (s y : Operand)
    (ho : o.op = .call { callee := .builtin .append, args := #[s, y], argTypes := #[71, 71] }) (hty : o.type = 71) (hs : a.eval s = v) (hx : a.eval y = x)
    (hr : (Builtin.append_ #[71, 71] 71 #[v, x]).run Tryz.prog w = .ok v' w') (h : wpList Tryz.prog ops Q rest (a.put o.dst v') w') : wpList Tryz.prog ops Q (o :: rest) a w := by
  refine wpList_plain hgd fun K hK => ?_
  unfold Oper.wp execOp
  simp only [ho, hty, resolve, invoke, builtin, Sem.run_bind, Sem.run_pure, Result.andThen_ok, List.map_toArray, List.map_cons, List.map_nil, hs, hx, hr]
  exact hK _ _ h
def zX : Array Value := (Value.slice none 0 0 :: zp 520 [.int .i64 0, .int .i64 0, .bool false, .bool false, .slice none 0 0]).toArray
theorem zX_size : zX.size = 526 := by
  unfold zX
  rw [List.size_toArray, List.length_cons, zp_len]
  rfl
theorem zX_get {k : Nat} (hk : k < 526) : zX[k]? = some (xC (.slice none 0 0) (fun _ => 0) 0 (fun _ => 0) 0 0 false false (.slice none 0 0) k) := by
  unfold zX
  rw [List.getElem?_toArray]
  rcases Nat.eq_zero_or_pos k with rfl | hp
  · rfl
  · obtain ⟨j, rfl⟩ : ∃ j, k = j + 1 := ⟨k - 1, by omega⟩
    rw [List.getElem?_cons_succ, zp_get]
    by_cases c : j < 520
    · rw [if_pos c]
      unfold xC
      repeat' split
      all_goals first | rfl | omega
    · rw [if_neg c]
      rcases (by omega : j = 520 ∨ j = 521 ∨ j = 522 ∨ j = 523 ∨ j = 524) with rfl | rfl | rfl | rfl | rfl <;> rfl
theorem zeroX (w : World) : (zeroValue 236).run Tryz.prog w = .ok (.agg zX) w := by
  simp [zeroValue, typeInfo, show Tryz.prog.info? 236 = some Tryz.t236 from Tryz.type236, zero45, zX]
theorem placesX : ∃ fs ps, (∀ w, (underlying 236).run Tryz.prog w = .ok (.struct fs) w) ∧ (∀ w, (Array.mapM (fun f : Field => Prod.mk f.offset <$> sizeOf f.type) fs).run Tryz.prog w = .ok ps w) ∧ ps = #[(0, 1), (1, 7), (8, 1), (9, 512), (521, 1), (522, 1), (523, 1), (524, 1), (525, 1)] :=
  ⟨(match Tryz.prog.underlying 236 with | some (.struct f) => f | _ => #[]), #[(0, 1), (1, 7), (8, 1), (9, 512), (521, 1), (522, 1), (523, 1), (524, 1), (525, 1)], fun w => by kernel_rfl, fun w => by kernel_rfl, rfl⟩
structure VlX (T : TypeId) (Z : Array Value) (fs : Array Field) (ps : Array (Nat × Nat)) : Prop where
  t : T = 236
  z : Z = zX
  zero : ∀ w, (zeroValue T).run Tryz.prog w = .ok (.agg Z) w
  under : ∀ w, (underlying T).run Tryz.prog w = .ok (.struct fs) w
  map : ∀ w, (Array.mapM (fun f : Field => Prod.mk f.offset <$> sizeOf f.type) fs).run Tryz.prog w = .ok ps w
  place : ps = #[(0, 1), (1, 7), (8, 1), (9, 512), (521, 1), (522, 1), (523, 1), (524, 1), (525, 1)]
  zs : Z.size = 526
theorem vlX : ∃ T Z fs ps, VlX T Z fs ps := by
  obtain ⟨fs, ps, h1, h2, h3⟩ := placesX
  exact ⟨_, _, fs, ps, rfl, rfl, zeroX, h1, h2, h3, zX_size⟩
theorem VlX.ops {T : TypeId} {Z : Array Value} {fs : Array Field} {ps : Array (Nat × Nat)} (h : VlX T Z fs ps) : (∀ x, Op.build 236 x = Op.build T x) ∧ (∀ x, Op.box 236 x = Op.box T x) := by
  rw [h.t]
  exact ⟨fun _ => rfl, fun _ => rfl⟩
theorem xnew_at {T : TypeId} {Z : Array Value} {fs : Array Field} {ps : Array (Nat × Nat)} (V : VlX T Z fs ps) {w : World} {gD cap n : Nat} {D : Nat → Int} (hr : DRow w gD cap n D) (hc : 512 * n ≤ cap) : XAt (w.alloc (.cells (Z.setIfInBounds 0 (.slice (some ⟨gD, 0, none⟩) (512 * n) cap)) T)) w.heap.size gD cap 0 (.slice none 0 0) { id0 n D with r1 := 0, r2 := 0, r3 := 0 } := by
  refine ⟨⟨_, by rw [heap_new, V.t], ?_, fun k hk => ?_⟩, hr.kept (Kp.alloc noB _ _) id, hc, OwnI.nil _⟩
  · rw [Array.size_setIfInBounds, V.z, zX_size]
  · rw [V.z, Array.getElem?_setIfInBounds]
    by_cases e : 0 = k
    · subst e
      rw [if_pos rfl, if_pos (by rw [zX_size]; decide)]
      rfl
    · rw [if_neg e, zX_get hk]
      have e' : ¬ k = 0 := fun g => e g.symm
      have hR : (fun _ : Nat => (0 : Int)) = ({ id0 n D with r1 := 0, r2 := 0, r3 := 0 } : Id).reg := by
        funext j
        unfold Id.reg id0
        simp only
        repeat' split
        all_goals rfl
      rw [← hR]
      unfold xC
      simp only [if_neg e']
      rfl
theorem xnew_no (w : World) (a : Option Addr) (L c : Nat) (h : L % 512 ≠ 0 ∨ 32768 < L) (hL : L < 9223372036854775808) : Calls Tryz.prog 81 #[.slice a L c] w fun e w' => e = .returned (.tuple #[.pointer none, .int .i64 140]) ∧ w' = w := by
  by_cases q : L % 512 = 0
  · have q1 : ((L : Int) % 512 != 0) = false := by rw [bne_eq_false_iff_eq]; omega
    have q2 : decide ((L : Int) > 32768) = true := by simp; omega
    go_enter Tryz.func81, Tryz.ntmps81
    go_wp2
    go_ret2
    exact ⟨rfl, rfl⟩
  · have q1 : ((L : Int) % 512 != 0) = true := by rw [bne_iff_ne]; omega
    go_enter Tryz.func81, Tryz.ntmps81
    go_wp2
    go_ret2
    exact ⟨rfl, rfl⟩
/-- A new disk of the document's. -/
def XNew (w : World) (L : Nat) (bt : Nat → Int) (R : Nat) (w' : World) : Prop := ∃ gD cap dn, XAt w' R gD cap dn (.slice none 0 0) (id0 (L / 512) (dB L bt)) ∧ Dn (id0 (L / 512) (dB L bt)) dn ∧ w.heap.size ≤ R ∧ w.heap.size ≤ gD ∧ Kp noB w w'
theorem xnew_ok (w : World) (a : Option Addr) (L c : Nat) (bt : Nat → Int) (hb : BytAt w a L bt) (h1 : L % 512 = 0) (h2 : L ≤ 32768) : Calls Tryz.prog 81 #[.slice a L c] w fun e w' => ∃ R, e = .returned (.tuple #[.pointer (some ⟨R, 0, none⟩), .int .i64 0]) ∧ XNew w L bt R w' := by
  obtain ⟨T, Z, fs, ps, V⟩ := vlX
  have q1 : ((L : Int) % 512 != 0) = false := by rw [bne_eq_false_iff_eq]; omega
  have q2 : decide ((L : Int) > 32768) = false := by simp; omega
  obtain ⟨w1, e1⟩ : ∃ w1, w1 = w.alloc (.cells #[] 5) := ⟨_, rfl⟩
  have k1 : Kp noB w w1 := by rw [e1]; exact Kp.alloc _ _ _
  obtain ⟨g, cap, w2, hap, hc, ⟨cur, g1, g2, g3⟩, k2, hg⟩ := app_new (w := w1) w.heap.size c (by rw [e1]; exact heap_new _ _) (hb.kept k1 (fun _ _ => id)) (by omega)
  have eL : 512 * (L / 512) = L := by omega
  have hr : DRow w2 g cap (L / 512) (dB L bt) := ⟨cur, g1, by omega, fun j hj => by
    unfold dB
    rw [if_pos (by omega)]
    exact g3 j (by omega)⟩
  have h3 := xnew_at V hr (by omega)
  rw [eL] at h3
  obtain ⟨R, hR⟩ : ∃ R, R = w2.heap.size := ⟨_, rfl⟩
  have HS : Hid _ := xfresh_ok h3
  have ef : ({ id0 (L / 512) (dB L bt) with r1 := 0, r2 := 0, r3 := 0 } : Id).fresh = id0 (L / 512) (dB L bt) := rfl
  rw [ef] at HS
  have HF : Hid (∀ w3, XOk (w2.alloc (.cells (Z.setIfInBounds 0 (.slice (some ⟨g, 0, none⟩) L cap)) T)) w2.heap.size g cap (.slice none 0 0) (id0 (L / 512) (dB L bt)) w3 → XNew w L bt w2.heap.size w3) := by
    rintro w3 ⟨dn, h4, d4, k4⟩
    have kk := k1.trans k2
    refine ⟨g, cap, dn, h4, d4, kk.size, ?_, (kk.trans (Kp.alloc _ _ _)).over k4 (fun j hj (e : j = _) => by have := kk.size; omega)⟩
    have := k1.size
    omega
  have o1 := V.ops
  have v1 := V.zero
  have v2 := V.under
  have v3 := V.map
  rw [V.place] at v3
  have v5 := V.zs
  have v6 : ¬ Z = #[] := by rintro rfl; cases v5
  rw [e1] at hap
  have Hap : Hid _ := hap
  clear hap g1 g2 g3 k1 k2 V hb h1 h2 e1 h3 hr hg ef eL hc hR
  go_enter Tryz.func81, Tryz.ntmps81
  simp only [o1.1, o1.2]
  go_wp2_with (first
    | (at_builtin; refine wpList_app rfl _ _ rfl rfl rfl rfl Hap.out ?_))
  refine Calls.mono HS.out ?_; rintro e w3 ⟨rfl, h3⟩
  have H : Hid (XNew w L bt w2.heap.size w3) := HF.out _ h3
  clear h3 HS HF Hap
  go_wp2
  go_ret2
  exact ⟨_, rfl, H.out⟩
end Go.Proofs.YtiagfmkinefidaaGreat.Dk
namespace Go.Proofs.YtiagfmkinefidaaGreat.Dk
open Go.ChangeShapes Go.WideShapes Go.ChangeAt Go.RowKit
set_option linter.unusedVariables false
set_option maxRecDepth 20000
theorem XAt.kept {S : Nat → Prop} {w w' : World} {B gD cap : Nat} {dn : Int} {sv : Value} {d : Id} (h : XAt w B gD cap dn sv d) (k : Kp S w w') (hS : ∀ j, footX B gD sv j → ¬ S j) : XAt w' B gD cap dn sv d :=
  ⟨h.blk.kept k (hS _ (.inl rfl)), h.row.kept k (hS _ (.inr (.inl rfl))), h.le, h.log.kept k (fun g e => hS _ (.inr (.inr e)))⟩
theorem XAt.foot_lt {w : World} {B gD cap : Nat} {dn : Int} {sv : Value} {d : Id} (h : XAt w B gD cap dn sv d) {k : Nat} (g : footX B gD sv k) : k < w.heap.size := by
  rcases g with rfl | rfl | g
  · exact h.lt
  · obtain ⟨cur, e, _⟩ := h.row
    exact heap_lt e
  · obtain ⟨cur, e⟩ := h.log.lt g
    exact heap_lt e
structure XW (w : World) (T : Nat → Prop) (R gD cap : Nat) (d : Id) : Prop where
  ex : ∃ dn sv, XAt w R gD cap dn sv d ∧ Dn d dn ∧ ∀ k, footX R gD sv k → T k
  lt : ∀ k, T k → k < w.heap.size
def XNx (w : World) (T : Nat → Prop) (R gD cap : Nat) (d : Id) (w' : World) : Prop := ∃ T', XW w' T' R gD cap d ∧ Nxt w T w' T'
section
variable {w w' : World} {T : Nat → Prop} {R gD cap : Nat} {d : Id}
theorem XW.kept {Y : Nat → Prop} (h : XW w T R gD cap d) (k : Kp Y w w') (hS : ∀ k, T k → ¬ Y k) : XW w' T R gD cap d := by
  obtain ⟨dn, sv, h1, hd, h2⟩ := h.ex
  exact ⟨⟨dn, sv, h1.kept k (fun j g => hS j (h2 j g)), hd, h2⟩, fun j hj => Nat.lt_of_lt_of_le (h.lt j hj) k.size⟩
theorem XNx.same (h : XW w T R gD cap d) (e : w' = w) : XNx w T R gD cap d w' := by
  subst e
  exact ⟨T, h, Nxt.refl _ _⟩
theorem xLine (h : XW w T R gD cap d) (k : d.Ok) : Calls Tryz.prog 132 #[.pointer (some ⟨R, 0, none⟩)] w fun e w' => e = .returned (.bool d.line) ∧ w' = w := by
  obtain ⟨dn, sv, h1, hd, h2⟩ := h.ex
  exact xline_ok h1 k
end
section
variable {W w : World} {B R gD cap : Nat} {sd : List (Nat × Obj)} {lv : Value} {l : List Int} {d e : Id}
end
end Go.Proofs.YtiagfmkinefidaaGreat.Dk
