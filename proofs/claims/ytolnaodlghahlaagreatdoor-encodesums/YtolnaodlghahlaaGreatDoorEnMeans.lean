/- The contract of encode.means: whether bytes are read as an instruction. -/
import Derived.Test.YtolnaodlghahlaaGreatDoorEnCat
import Derived.Test.YtolnaodlghahlaaGreatDoorDecTab
import Derived.Test.YtolnaodlghahlaaGreatDoorDecLaw0
namespace Go.Proofs.YtolnaodlghahlaaGreatDoor
open Go.ChangeShapes Go.WideShapes Go.ChangeAt Go.RowKit
set_option linter.unusedVariables false
set_option maxRecDepth 20000

/-- What bytes are read as. -/
def decL (b : List Int) : Ins × Int := decM ruleOf b.length (bts b)
def meansB (b : List Int) (x : Ins) : Bool := decide ((decL b).2 = 0) && decide ((decL b).1 = { x with len := (b.length : Int) })

def Byts (b : List Int) : Prop := ∀ j, j < b.length → 0 ≤ bts b j ∧ bts b j < 256

theorem bts_get {b : List Int} {j : Nat} (h : j < b.length) : b[j]? = some (bts b j) := by
  unfold bts
  rw [List.getD_eq_getElem?_getD, List.getElem?_eq_getElem h]
  rfl

theorem BSl.byt {w : World} {v : Value} {b : List Int} (h : BSl w v b) : ∃ p c, v = .slice p b.length c ∧ BytAt w p b.length (bts b) := by
  obtain ⟨p, c, rfl, h⟩ := h
  refine ⟨p, c, rfl, fun j hj => ?_⟩
  rcases h with ⟨_, rfl, _⟩ | ⟨g, o, rfl, hg, hc⟩
  · simp at hj
  · obtain ⟨cs, fr, hg⟩ := hg
    exact ⟨g, o, rfl, (Array.getElem?_eq_some_iff.1 hg).1, hc j _ (bts_get hj)⟩

theorem VlF.box {T : TypeId} {n : Nat} {Z : Array Value} {fs : Array Field} {ps : Array (Nat × Nat)} (h : VlF T n Z fs ps) : ∀ x, Op.box 28 x = Op.box T x := by
  rw [h.v.t]
  exact fun _ => rfl

theorem Kp.setNew' {w W : World} {q : Nat} (h : Kp noB w W) (hq : w.heap.size ≤ q) (k : Nat) (v : Value) : Kp noB w (W.setCell ⟨q, k, none⟩ v) :=
  h.over (Kp.setCell (S := fun b => b = q) W (p := ⟨q, k, none⟩) rfl v) (fun j hj e => by omega)

set_option maxHeartbeats 4000000 in
theorem means_ok (w : World) (v : Value) (b : List Int) (x : Ins) (hb : BSl w v b) (hy : Byts b) (hl : b.length ≤ 4096) : Calls Tryz.prog 15 #[v, .agg (insV x)] w fun e w' => e = .returned (.bool (meansB b x)) ∧ Kp noB w w' := by
  obtain ⟨T, nI, Z, fsI, psI, h⟩ := vlF
  have H : Hid _ := h
  obtain ⟨vl, vs, vb, va, ve⟩ := h.ops
  have vx := h.box
  have v1 := h.agg
  have v2 := h.size
  have v3 := h.zero
  have v4 := h.under
  have v5 := h.map
  have v6 := h.guard
  have v7 := h.zs
  have v8 := h.zn
  obtain ⟨p, c, rfl, hB⟩ := hb.byt
  have hqx := (MapKept.heap_alloc w (.cells (insV x) T)).1
  have hB1 : BytAt (w.alloc (.cells (insV x) T)) p b.length (bts b) := fun j hj => by
    obtain ⟨g, o, e1, e2, e3⟩ := hB j hj
    exact ⟨g, o, e1, by simp; omega, by rw [World.cell?_alloc_lt _ _ _ (by exact e2)]; exact e3⟩
  have cX := decode_ok ruleOf tabOk (w.alloc (.cells (insV x) T)) p c b.length (bts b) (by omega) hB1 hy
  have K1 : Hid (Kp noB w (w.alloc (.cells (insV x) T))) := Kp.alloc _ _ _
  unfold meansB
  have hd : decL b = decM ruleOf b.length (bts b) := rfl
  rw [hd]
  generalize decM ruleOf b.length (bts b) = DX at cX
  obtain ⟨y, er⟩ := DX
  simp only at cX ⊢
  obtain ⟨L, hL⟩ : ∃ L : Nat, L = b.length := ⟨_, rfl⟩
  rw [← hL] at cX ⊢
  have n1 := H.out.new y
  have s1 := H.out.v.cells y
  have s0 := H.out.v.cells x
  have HX : Hid _ := cX
  obtain ⟨A, hA⟩ : ∃ A, A = (decide (er = 0) && decide (y = { x with len := (L : Int) })) := ⟨_, rfl⟩
  rw [← hA]
  have HA : Hid (A = (decide (er = 0) && decide (y = { x with len := (L : Int) }))) := hA
  clear hA
  have hL2 : (L : Int) < 4097 := by omega
  have lq0 : w.heap.size ≤ w.heap.size := Nat.le_refl _
  obtain ⟨q, hq⟩ : ∃ q, q = w.heap.size := ⟨_, rfl⟩
  have HQ : Hid (q = w.heap.size) := hq
  clear hb hB hB1 hy hl hd hL h cX lq0
  go_enter Tryz.func15, Tryz.ntmps15
  simp only [vl, vs, va, ve, vx]
  clear vl vs vb va ve vx
  go_wp2_with fail
  refine Calls.mono HX.out ?_; rintro e w2 ⟨rfl, k2⟩
  rw [← hq] at hqx ⊢
  clear hq
  have hqx2 := heap_kept hqx (k2.trans (Kp.alloc noB w2 (.cells (insV y) T))) id
  have hqy := (MapKept.heap_alloc w2 (.cells (insV y) T)).1
  have hne : ¬ w2.heap.size = q := by have := heap_lt (heap_kept hqx k2 id); omega
  have K3 : Hid (Kp noB w (w2.alloc (.cells (insV y) T))) := (K1.out.trans k2).trans (Kp.alloc _ _ _)
  have c31 : (w2.alloc (.cells (insV y) T)).cell? ⟨q, 31, none⟩ = some (.int .i64 x.len) := cell_of_row _ _ _ _ _ _ hqx2
  have z31 : (w2.alloc (.cells (insV y) T)).frozen? ⟨q, 31, none⟩ = false := by simp [World.frozen?, hqx2]
  have hqx7 : ((w2.alloc (.cells (insV y) T)).setCell ⟨q, 31, none⟩ (.int .i64 (L : Int))).heap[q]? = some (.cells (insV { x with len := (L : Int) }) T (0, 0)) := by
    rw [heap_set hqx2]
    rfl
  have hqy7 : ((w2.alloc (.cells (insV y) T)).setCell ⟨q, 31, none⟩ (.int .i64 (L : Int))).heap[w2.heap.size]? = some (.cells (insV y) T (0, 0)) := heap_kept hqy (Kp.setCell (S := fun b => b = q) _ (p := ⟨q, 31, none⟩) rfl _) hne
  have l1 := H.out.get hqx7
  have l2 := H.out.get hqy7
  have hev := fun w => H.out.eql w y { x with len := (L : Int) }
  have K7 : Hid (Kp noB w ((w2.alloc (.cells (insV y) T)).setCell ⟨q, 31, none⟩ (.int .i64 (L : Int)))) := K3.out.setNew' (by rw [HQ.out]; exact Nat.le_refl _) 31 _
  clear hqx hqx2 hqy hqx7 hqy7 k2 HX hne
  by_cases he : er = 0
  · subst he
    go_wp2
    go_ret
    exact ⟨ret_bool (by rw [HA.out]; simp), K7.out⟩
  · have he' : (er == 0) = false := by simp [he]
    go_wp2
    go_ret
    exact ⟨ret_bool (by rw [HA.out]; simp [he]), K7.out⟩
end Go.Proofs.YtolnaodlghahlaaGreatDoor
