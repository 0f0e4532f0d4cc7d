/- The document's disk: command EC. -/
import Derived.Test.YtddalplpmgmplaaIxCmd
namespace Go.Proofs.Ytddalplpmgmplaa
open Go.ChangeShapes Go.WideShapes Go.ChangeAt Go.RowKit
set_option linter.unusedVariables false

section
variable {w : World} {B gD cap : Nat} {dn : Int} {sv : Value} {d : Id}

theorem q_at {w : World} {Q : Nat} {Z : Array Value} {T : TypeId} (h : w.heap[Q]? = some (.cells Z T (0, 0))) (e : Z = (zr 512).toArray) (k : Nat) (hk : k < 512) : w.cell? ⟨Q, k, none⟩ = some (.int .u8 0) := by
  rw [cell_at h, e, List.getElem?_toArray]
  exact zr_get hk

theorem ecB_one (n : Nat) : ∀ v ∈ (List.range 512).map (fun j => Value.int .u8 (ecB n j)), v.oneCell' = true := by
  intro v hv
  obtain ⟨j, _, rfl⟩ := List.mem_map.1 hv
  rfl

/-- The array is made, and laid into the buffer. -/
theorem ec_lay {w1 : World} {Q : Nat} {Z : Array Value} {T : TypeId} (h : XAt w1 B gD cap dn sv d) (n64 : d.n ≤ 64) (hq : w1.heap[Q]? = some (.cells Z T (0, 0))) (eZ : Z = (zr 512).toArray) (eT : T = 43) :
    ∃ arr w3, (loadCellsFrom ⟨Q, 0, none⟩ 0 512 #[]).run Try.prog (((w1.setCell ⟨Q, 0, none⟩ (.int .u8 64)).setCell ⟨Q, 99, none⟩ (.int .u8 2)).setCell ⟨Q, 120, none⟩ (.int .u8 d.n)) = .ok arr (((w1.setCell ⟨Q, 0, none⟩ (.int .u8 64)).setCell ⟨Q, 99, none⟩ (.int .u8 2)).setCell ⟨Q, 120, none⟩ (.int .u8 d.n)) ∧ arr.size = 512 ∧
      (storeCells ⟨B, 9, none⟩ arr.toList).run Try.prog (((w1.setCell ⟨Q, 0, none⟩ (.int .u8 64)).setCell ⟨Q, 99, none⟩ (.int .u8 2)).setCell ⟨Q, 120, none⟩ (.int .u8 d.n)) = .ok () w3 ∧ XAt w3 B gD cap dn sv { d with buf := ecB d.n } ∧ Kp (fun k => k = B ∨ k = Q) w1 w3 := by
  have k2 : Kp (isB Q) w1 (((w1.setCell ⟨Q, 0, none⟩ (.int .u8 64)).setCell ⟨Q, 99, none⟩ (.int .u8 2)).setCell ⟨Q, 120, none⟩ (.int .u8 d.n)) := ((kpB Q _ _ _).trans (kpB Q _ _ _)).trans (kpB Q _ _ _)
  have h2 := heap_set (k := 120) (v := .int .u8 d.n) (heap_set (k := 99) (v := .int .u8 2) (heap_set (k := 0) (v := .int .u8 64) hq))
  generalize (((w1.setCell ⟨Q, 0, none⟩ (.int .u8 64)).setCell ⟨Q, 99, none⟩ (.int .u8 2)).setCell ⟨Q, 120, none⟩ (.int .u8 d.n)) = w2 at *
  have nB : ¬ isB Q B := by
    rintro (e : B = Q)
    obtain ⟨c, h3, _⟩ := h.blk
    rw [e, hq, eT] at h3
    simp at h3
  have nD : ¬ isB Q gD := by
    rintro (e : gD = Q)
    obtain ⟨c, h3, _⟩ := h.row
    rw [e, hq, eT] at h3
    simp at h3
  have nL : ∀ g, sv.ownBlock = some g → ¬ isB Q g := by
    rintro g e (e2 : g = Q)
    obtain ⟨c, h3⟩ := h.log.lt e
    rw [e2, hq, eT] at h3
    simp at h3
  have r2 := h.raw.kept k2 nB nD nL
  have hlen : ((List.range 512).map (fun j => Value.int .u8 (ecB d.n j))).length = 512 := by simp
  have hget : ∀ j, j < 512 → ((List.range 512).map (fun j => Value.int .u8 (ecB d.n j)))[j]? = some (.int .u8 (ecB d.n j)) := by
    intro j hj
    rw [List.getElem?_map, List.getElem?_range hj]
    rfl
  have hload : (loadCellsFrom ⟨Q, 0, none⟩ 0 512 #[]).run Try.prog w2 = .ok ((List.range 512).map (fun j => Value.int .u8 (ecB d.n j))).toArray w2 := by
    have := run_loadCells_list (P := Try.prog) (w := w2) ⟨Q, 0, none⟩ ((List.range 512).map (fun j => Value.int .u8 (ecB d.n j))) (fun j v hv => by
      have hj : j < 512 := by
        have := (List.getElem?_eq_some_iff.1 hv).1
        rwa [hlen] at this
      rw [hget j hj] at hv
      rw [← hv]
      have ea : (⟨Q, 0, none⟩ : Addr).add j = ⟨Q, j, none⟩ := by unfold Addr.add; split <;> simp_all
      rw [ea, cell_at h2, eZ]
      rw [Array.getElem?_setIfInBounds, Array.getElem?_setIfInBounds, Array.getElem?_setIfInBounds, List.getElem?_toArray, zr_get hj]
      simp only [Array.size_setIfInBounds, List.size_toArray, zr_len]
      unfold ecB z8
      by_cases a : j = 0
      · subst a; rfl
      · by_cases b : j = 99
        · subst b; rfl
        · by_cases c : j = 120
          · subst c
            simp
            omega
          · rw [if_neg (fun e => c e.symm), if_neg (fun e => b e.symm), if_neg (fun e => a e.symm), if_neg a, if_neg b, if_neg c])
    rw [hlen] at this
    exact this
  obtain ⟨cur, hb, hs, hc⟩ := r2.blk
  have e := run_storeCells_at Try.prog B 9 _ ((List.range 512).map (fun j => Value.int .u8 (ecB d.n j))) 0 cur w2 hb (by rw [hlen]; omega) (ecB_one d.n)
  have hl := Laid.splice (cur := cur) (o := 9) (cs := (List.range 512).map (fun j => Value.int .u8 (ecB d.n j))) (by rw [hlen]; omega) (fun j => .int .u8 (ecB d.n j)) (fun j hj => hget j (by rwa [hlen] at hj))
  rw [hlen] at hl
  refine ⟨_, _, hload, by rw [List.size_toArray, hlen], (by rw [List.toList_toArray, e, Nat.add_zero, hlen]), ?_, ?_⟩
  · have yl := r2.blk.laid hb (setRow_heap w2 B _ _ _ _ hb) hl
    have := r2.own yl (Kp.setRow (S := isB B) w2 rfl _) (fun k hk => xC_laybuf (o := 0) (m := 512) (by decide) (ecB d.n) k)
    exact (this.same (b' := ecB d.n) (fun i hi => by unfold layB; rw [if_pos (by omega)]; rfl)).id _ rfl rfl rfl (fun _ _ => rfl) rfl rfl rfl rfl rfl
  · exact (k2.mono fun k _ e => .inr e).trans ((Kp.setRow (S := isB B) w2 rfl _).mono fun k _ e => .inl e)

set_option maxRecDepth 20000 in
set_option maxHeartbeats 2000000 in
theorem xcommand_ec (h : XAt w B gD cap dn sv d) (k : d.Ok) (ho : d.off = false) : Calls Try.prog 25 #[.pointer (some ⟨B, 0, none⟩), .int .u8 236] w fun e w' => e = .returned (.tuple #[]) ∧ XOk w B gD cap sv (d.command 236) w' := by
  have ec : d.command 236 = { d.clear with buf := ecB d.n, mode := 3, don := 0, mark := true } := by
    unfold Id.command
    rw [if_neg (by rw [ho]; decide), if_neg (by decide), if_pos rfl]
  rw [ec]
  have c1 := h.r1
  have c6 := h.r6
  have cf := h.cfl
  have cg := h.cmo
  have cm := h.cmk
  have z1 := h.fz 2
  have z2 := h.fz 522
  have z3 := h.fz 523
  have z4 := h.fz 524
  obtain ⟨b0, b1⟩ := k.r6
  have f64 := k.few
  have HC : Hid (XAt (xclr w B) B gD cap dn sv d.clear ∧ Kp (isB B) w (xclr w B)) := xclear_ok h
  have q0 : (d.r6 / 16 % 2 == 1) = false := ho
  obtain ⟨T, n, Z, V⟩ := vlB
  have o1 := V.ops
  have e1 := V.agg
  have e2 := V.size
  have e3 := V.zero
  have e4 := V.under
  have e5 := V.zs
  have eZ : Hid (Z = (zr 512).toArray ∧ n = 512 ∧ T = 43) := ⟨V.z, V.s, V.t⟩
  have b9 := h.lt
  clear h k ho V ec
  generalize d.r6 = r at *
  unfold xclr at HC
  go_enter Try.func25, Try.ntmps25
  simp only [o1.2.1, o1.2.2.1, o1.2.2.2]
  go_upto_region 19 with fail
  obtain ⟨w1, hw1⟩ : ∃ w1, w1 = World.alloc (World.setCell (World.setCell (World.setCell (World.setCell w ⟨B, 523, none⟩ (.bool false)) ⟨B, 2, none⟩ (.int .u8 0)) ⟨B, 524, none⟩ (.bool false)) ⟨B, 522, none⟩ (.int .i64 0)) (.cells Z T) := ⟨_, rfl⟩
  rw [← hw1]
  have h1 : XAt w1 B gD cap dn sv d.clear := by rw [hw1]; exact HC.out.1.keep (Kp.alloc noB _ _)
  have k1 : Hid (Kp (isB B) w w1) := by show Kp _ _ _; rw [hw1]; exact HC.out.2.trans (Kp.alloc _ _ _)
  have hq : w1.heap[w.heap.size]? = some (.cells Z T (0, 0)) := by
    rw [hw1]
    have := heap_new (World.setCell (World.setCell (World.setCell (World.setCell w ⟨B, 523, none⟩ (.bool false)) ⟨B, 2, none⟩ (.int .u8 0)) ⟨B, 524, none⟩ (.bool false)) ⟨B, 522, none⟩ (.int .i64 0)) (.cells Z T)
    have es : (World.setCell (World.setCell (World.setCell (World.setCell w ⟨B, 523, none⟩ (.bool false)) ⟨B, 2, none⟩ (.int .u8 0)) ⟨B, 524, none⟩ (.bool false)) ⟨B, 522, none⟩ (.int .i64 0)).heap.size = w.heap.size := by simp [World.setCell]
    rw [es] at this
    exact this
  generalize hQ : w.heap.size = Q at hq ⊢ b9
  clear hw1 HC c1 c6 cf cg cm z1 z2 z3 z4
  have b1 := h1.c0
  have b2 := q_at hq eZ.out.1 0 (by decide)
  have b3 := q_at hq eZ.out.1 99 (by decide)
  have b4 := q_at hq eZ.out.1 120 (by decide)
  have b5 : ∀ k, w1.frozen? ⟨Q, k, none⟩ = false := fun k => frozen_at hq
  have bq : ¬ B = Q := by omega
  have bq' : ¬ Q = B := by omega
  have H1 : Hid (XAt w1 B gD cap dn sv d.clear ∧ w1.heap[Q]? = some (.cells Z T (0, 0))) := ⟨h1, hq⟩
  have en : d.clear.n = d.n := rfl
  rw [en] at b1
  have e9 : ((512 * d.n : Nat) : Int) / 512 = d.n := by omega
  have e8 : Int.tdiv ((512 * d.n : Nat) : Int) 512 = d.n := by rw [Int.tdiv_eq_ediv_of_nonneg (by omega)]; omega
  obtain ⟨L, hL⟩ : ∃ L, L = 512 * d.n := ⟨_, rfl⟩
  rw [← hL] at b1 e9 e8
  clear h1 hq en
  obtain ⟨arr, w3, l1, l2, l3, l4, l5⟩ := ec_lay H1.out.1 f64 H1.out.2 eZ.out.1 eZ.out.2.2
  have en2 : n = 512 := eZ.out.2.1
  rw [← en2] at l1 l2
  have en3 : d.clear.n = d.n := rfl
  rw [en3] at l1 l3
  have x1 := l4.cmo
  have x2 := l4.cdn
  have x3 := l4.cmk
  have y1 := l4.fz 522
  have y2 := l4.fz 521
  have y3 := l4.fz 523
  have H : Hid (XOk w B gD cap sv { d.clear with buf := ecB d.n, mode := 3, don := 0, mark := true } (((w3.setCell ⟨B, 522, none⟩ (.int .i64 3)).setCell ⟨B, 521, none⟩ (.int .i64 0)).setCell ⟨B, 523, none⟩ (.bool true))) :=
    ⟨0, (((l4.raw.setmo 3).setdn 0).setmk true).id _ rfl rfl rfl (fun _ _ => rfl) rfl rfl rfl rfl rfl, fun _ => rfl, (((k1.out.over l5 (fun j hj e => by rcases e with e | e; exact e; omega)).trans (kpB B _ _ _)).trans (kpB B _ _ _)).trans (kpB B _ _ _)⟩
  clear l4 l5 en2 en3 H1
  go_wp2
  go_end0
  exact ⟨rfl, H.out⟩

theorem xcommand_ok (h : XAt w B gD cap dn sv d) (hd : Dn d dn) (k : d.Ok) (v : Int) (hv : byt v) : Calls Try.prog 25 #[.pointer (some ⟨B, 0, none⟩), .int .u8 v] w fun e w' => e = .returned (.tuple #[]) ∧ XOk w B gD cap sv (d.command v) w' := by
  cases ho : d.off
  · by_cases e : v = 236
    · subst e
      exact xcommand_ec h k ho
    · exact xcommand_on h k ho v e hv
  · exact xcommand_off h hd k ho v
end
end Go.Proofs.Ytddalplpmgmplaa
