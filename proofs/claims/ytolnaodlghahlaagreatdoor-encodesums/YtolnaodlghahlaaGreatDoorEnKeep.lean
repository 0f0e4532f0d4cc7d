/- The closure that keeps the best one. -/
import Derived.Test.YtolnaodlghahlaaGreatDoorEnTries
namespace Go.Proofs.YtolnaodlghahlaaGreatDoor
open Go.ChangeShapes Go.WideShapes Go.ChangeAt Go.RowKit
set_option linter.unusedVariables false
set_option maxRecDepth 20000

/-- Which one is kept. -/
def keepM (x : Ins) (o : Option (List Int)) (b : List Int) : Option (List Int) :=
  match o with
  | none => if meansB b x then some b else none
  | some a => if decide (b.length < a.length) && meansB b x then some b else some a

def bestM (x : Ins) (L : List (List Int)) : Option (List Int) := L.foldl (keepM x) none

theorem bestM_snoc (x : Ins) (L : List (List Int)) (b : List Int) : bestM x (L ++ [b]) = keepM x (bestM x L) b := by unfold bestM; rw [List.foldl_append]; rfl

theorem decL_nil : (decL []).2 ≠ 0 := by decide +kernel

theorem means_some {b : List Int} {x : Ins} (h : meansB b x = true) : b ≠ [] := by
  intro e
  subst e
  unfold meansB at h
  have := decL_nil
  simp [this] at h

/-- The best one so far, in its cell. -/
def Best (W : World) (bb : Nat) (o : Option (List Int)) : Prop :=
  ∃ v, W.heap[bb]? = some (.cells #[v] 23 (0, 0)) ∧ match o with
    | none => v = .slice none 0 0
    | some b => b ≠ [] ∧ BSl W v b

theorem Best.kp {W W' : World} {bb : Nat} {o : Option (List Int)} (h : Best W bb o) (k : Kp noB W W') : Best W' bb o := by
  obtain ⟨v, h1, h2⟩ := h
  refine ⟨v, heap_kept h1 k id, ?_⟩
  cases o with
  | none => exact h2
  | some b => exact ⟨h2.1, h2.2.kp k⟩

theorem BSl.ptr {W : World} {v : Value} {b : List Int} (h : BSl W v b) (hb : b ≠ []) : ∃ g o c, v = .slice (some ⟨g, o, none⟩) b.length c := by
  obtain ⟨p, c, rfl, h⟩ := h
  rcases h with ⟨_, e, _⟩ | ⟨g, o, rfl, _⟩
  · exact absurd e hb
  · exact ⟨g, o, c, rfl⟩

def isBk (B k : Nat) : Prop := k = B

theorem Best.put {W : World} {bb : Nat} {o : Option (List Int)} (h : Best W bb o) {v : Value} {b : List Int} (hb : b ≠ []) (hv : BSl W v b) : Best (W.setCell ⟨bb, 0, none⟩ v) bb (some b) := by
  obtain ⟨u, h1, h2⟩ := h
  refine ⟨v, ?_, hb, ?_⟩
  · rw [heap_set h1]; rfl
  · exact hv.over (Y := isBk bb) (fun k hk cs fr he => by unfold isBk at hk; subst hk; rw [h1] at he; injection he with he; injection he with _ e _; exact absurd e (by decide)) (Kp.setCell (S := isBk bb) W (p := ⟨bb, 0, none⟩) rfl v)

theorem eqNil (w : World) : (binOp .eql 23 (.slice none 0 0) (.slice none 0 0)).run Tryz.prog w = .ok (.bool true) w := by kernel_rfl
theorem eqSome (w : World) (g o l c : Nat) : (binOp .eql 23 (.slice (some ⟨g, o, none⟩) l c) (.slice none 0 0)).run Tryz.prog w = .ok (.bool false) w := by kernel_rfl

set_option maxHeartbeats 4000000 in
theorem keep_ok (W : World) (bb q : Nat) (x : Ins) (o : Option (List Int)) (v : Value) (b : List Int) (hB : Best W bb o) (hx : W.heap[q]? = some (.cells (insV x) 28 (0, 0))) (hv : BSl W v b) (ok : OkB b) :
    Calls Tryz.prog 14 #[v, .pointer (some ⟨bb, 0, none⟩), .pointer (some ⟨q, 0, none⟩)] W fun e W' => e = .returned (.tuple #[]) ∧ Best W' bb (keepM x o b) ∧ Kp (isBk bb) W W' := by
  obtain ⟨T, nI, Z, fsI, psI, h⟩ := vlF
  obtain ⟨vl, vs, vb, va, ve⟩ := h.ops
  have hT : T = 28 := h.v.t
  have v1 := h.agg
  have v2 := h.size
  have v4 := h.under
  have v5 := h.map
  have hxW : W.heap[q]? = some (.cells (insV x) T (0, 0)) := by rw [hT]; exact hx
  have l0 := h.get hxW
  have HM : Hid _ := means_ok W v b x hv ok.1 ok.2
  have en := eqNil W
  have HBe : Hid (Best W bb o) := hB
  have HV : Hid (BSl W v b) := hv
  obtain ⟨u, hu, hcase⟩ := id hB
  have c0 : W.cell? ⟨bb, 0, none⟩ = some u := by rw [cellA hu]; rfl
  obtain ⟨pv, cv, rfl, hpv⟩ := id hv
  have HN : Hid (meansB b x = true → b ≠ []) := means_some
  clear hT hx hxW h hB hu hv ok hpv
  cases o with
  | none =>
    subst hcase
    have e0 : keepM x none b = if meansB b x then some b else none := rfl
    rw [e0]
    cases hm : meansB b x
    · rw [hm] at HM
      rw [if_neg (by decide)]
      go_enter Tryz.func14, Tryz.ntmps14
      simp only [vl]
      clear vl vs vb va ve
      go_wp2_with fail
      refine Calls.mono HM.out ?_; rintro e w1 ⟨rfl, k1⟩
      have HF : Hid _ := HBe.out.kp k1
      have KF : Hid (Kp (isBk bb) W w1) := k1.mono (fun _ _ f => f.elim)
      clear k1
      go_wp2
      go_end0
      exact ⟨rfl, HF.out, KF.out⟩
    · rw [hm] at HM
      rw [if_pos rfl]
      go_enter Tryz.func14, Tryz.ntmps14
      simp only [vl]
      clear vl vs vb va ve
      go_wp2_with fail
      refine Calls.mono HM.out ?_; rintro e w1 ⟨rfl, k1⟩
      have hB1 := HBe.out.kp k1
      have HF : Hid _ := hB1.put (HN.out hm) (HV.out.kp k1)
      have KF : Hid (Kp (isBk bb) W (w1.setCell ⟨bb, 0, none⟩ (.slice pv b.length cv))) := (k1.mono (fun _ _ f => f.elim)).trans (Kp.setCell (S := isBk bb) w1 (p := ⟨bb, 0, none⟩) rfl _)
      obtain ⟨u1, hu1, _⟩ := hB1
      have d0 : w1.cell? ⟨bb, 0, none⟩ = some u1 := by rw [cellA hu1]; rfl
      have z0 : w1.frozen? ⟨bb, 0, none⟩ = false := by simp [World.frozen?, hu1]
      clear k1 hu1 c0
      go_wp2
      go_end0
      exact ⟨rfl, HF.out, KF.out⟩
  | some a =>
    obtain ⟨hne, hva⟩ := hcase
    obtain ⟨ga, oa, ca, rfl⟩ := hva.ptr hne
    have es := eqSome W ga oa a.length ca
    have e0 : keepM x (some a) b = if decide (b.length < a.length) && meansB b x then some b else some a := rfl
    rw [e0]
    clear hva hne e0 en
    by_cases hlt : b.length < a.length
    · have g1 : decide ((b.length : Int) < (a.length : Int)) = true := by simp; omega
      have d1 : decide (b.length < a.length) = true := by simp [hlt]
      rw [d1]
      cases hm : meansB b x
      · rw [hm] at HM
        have e2 : (if (true && false) = true then some b else some a) = some a := rfl
        rw [e2]
        clear d1 e2
        go_enter Tryz.func14, Tryz.ntmps14
        simp only [vl]
        clear vl vs vb va ve
        go_wp2_with fail
        refine Calls.mono HM.out ?_; rintro e w1 ⟨rfl, k1⟩
        have HF : Hid _ := HBe.out.kp k1
        have KF : Hid (Kp (isBk bb) W w1) := k1.mono (fun _ _ f => f.elim)
        clear k1
        go_wp2
        go_end0
        exact ⟨rfl, HF.out, KF.out⟩
      · rw [hm] at HM
        have e2 : (if (true && true) = true then some b else some a) = some b := rfl
        rw [e2]
        clear d1 e2
        go_enter Tryz.func14, Tryz.ntmps14
        simp only [vl]
        clear vl vs vb va ve
        go_wp2_with fail
        refine Calls.mono HM.out ?_; rintro e w1 ⟨rfl, k1⟩
        have hB1 := HBe.out.kp k1
        have HF : Hid _ := hB1.put (HN.out hm) (HV.out.kp k1)
        have KF : Hid (Kp (isBk bb) W (w1.setCell ⟨bb, 0, none⟩ (.slice pv b.length cv))) := (k1.mono (fun _ _ f => f.elim)).trans (Kp.setCell (S := isBk bb) w1 (p := ⟨bb, 0, none⟩) rfl _)
        obtain ⟨u1, hu1, _⟩ := hB1
        have d0 : w1.cell? ⟨bb, 0, none⟩ = some u1 := by rw [cellA hu1]; rfl
        have z0 : w1.frozen? ⟨bb, 0, none⟩ = false := by simp [World.frozen?, hu1]
        clear k1 hu1 c0
        go_wp2
        go_end0
        exact ⟨rfl, HF.out, KF.out⟩
    · have g1 : decide ((b.length : Int) < (a.length : Int)) = false := by simp; omega
      have d1 : decide (b.length < a.length) = false := by simp; omega
      rw [d1]
      have e2 : (if (false && meansB b x) = true then some b else some a) = some a := rfl
      rw [e2]
      clear d1 e2
      go_enter Tryz.func14, Tryz.ntmps14
      simp only [vl]
      clear vl vs vb va ve
      go_wp2
      go_end0
      exact ⟨rfl, HBe.out, Kp.refl _ _⟩
end Go.Proofs.YtolnaodlghahlaaGreatDoor
