/- The contract of encode.Encode: the first of the fewest bytes that mean the instruction, of those that are tried. -/
import Derived.Test.YtolnaodlghahlaaGreatDoorEnKeep
namespace Go.Proofs.YtolnaodlghahlaaGreatDoor
open Go.ChangeShapes Go.WideShapes Go.ChangeAt Go.RowKit
set_option linter.unusedVariables false
set_option maxRecDepth 20000
attribute [local go_sem] Oper.semAt_some

theorem tries_any (w : World) (x : Ins) : Calls Tryz.prog 16 #[.agg (insV x)] w fun e w' => e = .returned (.func (.func 32) #[] #[.pointer (some ⟨w.heap.size, 0, none⟩)]) ∧ w' = w.alloc (.cells (insV x) 28) := by
  obtain ⟨T, nI, Z, fsI, psI, h⟩ := vlF
  have hT : T = 28 := h.v.t
  have vx := h.box
  have v1 := h.agg
  have v2 := h.size
  have v4 := h.under
  have v5 := h.map
  have s0 := h.v.cells x
  have HT : Hid (T = 28) := hT
  clear h hT
  go_enter Tryz.func16, Tryz.ntmps16
  simp only [vx]
  clear vx
  go_wp2
  go_ret
  exact ⟨rfl, by rw [HT.out]⟩

/-- What Encode answers. -/
def EncR (o : Option (List Int)) (e : Ending) (w' : World) : Prop :=
  match o with
  | none => e = .returned (.tuple #[.slice none 0 0, .int .i64 70])
  | some b => ∃ p l c, e = .returned (.tuple #[.slice p l c, .int .i64 0]) ∧ BSl w' (.slice p l c) b

/-- The state of Encode's loop. -/
structure EI (x : Ins) (q : Nat) (pre : List (List Int)) (W : World) : Prop where
  best : Best W (q + 1) (bestM x pre)
  box : W.heap[q]? = some (.cells (insV x) 28 (0, 0))
  fn : W.heap[q + 2]? = some (.cells #[.func (.func 14) #[] #[.pointer (some ⟨q + 1, 0, none⟩), .pointer (some ⟨q, 0, none⟩)]] 45 (0, 0))

theorem EI.kp {x : Ins} {q : Nat} {pre : List (List Int)} {W W' : World} (h : EI x q pre W) (k : Kp noB W W') : EI x q pre W' :=
  ⟨h.best.kp k, heap_kept h.box k id, heap_kept h.fn k id⟩

theorem EI.put {x : Ins} {q : Nat} {pre : List (List Int)} {W : World} (h : EI x q pre W) {l : Nat} {r : Loop} (o : Obj) (hl : q + 3 ≤ l) (hr : W.heap[l]? = some (.loop r)) : EI x q pre (W.putObj l o) := by
  have k : Kp (fun j => j = l) W (W.putObj l o) := kp_put (fun j => j = l) W rfl o
  refine ⟨?_, heap_kept h.box k (by omega), heap_kept h.fn k (by omega)⟩
  obtain ⟨v, h1, h2⟩ := h.best
  refine ⟨v, heap_kept h1 k (by omega), ?_⟩
  cases e : bestM x pre with
  | none => rw [e] at h2; exact h2
  | some b =>
    rw [e] at h2
    exact ⟨h2.1, h2.2.over (Y := fun j => j = l) (fun j hj cs fr he => by subst hj; rw [hr] at he; cases he) k⟩

theorem EI.no {x : Ins} {q : Nat} {pre : List (List Int)} {W : World} (h : EI x q pre W) : NoBytes (isBk (q + 1)) W := by
  intro k hk cs fr he
  obtain ⟨v, h1, h2⟩ := h.best
  unfold isBk at hk
  subst hk
  rw [h1] at he
  injection he with he
  injection he with _ e _
  exact absurd e (by decide)

set_option maxRecDepth 100000 in
set_option maxHeartbeats 4000000 in
theorem enc_in (n : Nat) (w : World) (x : Ins) (PL BL : List (List Int))
    (HB : ∀ W, Calls Tryz.prog 33 #[.agg (insV x)] W fun e w' => ∃ v, e = .returned v ∧ BB w' v BL ∧ Fr W.heap.size v ∧ Kp noB W w')
    (HP : ∀ W, Calls Tryz.prog 34 #[.agg (insV x)] W fun e w' => ∃ v, e = .returned v ∧ BB w' v PL ∧ Fr W.heap.size v ∧ Kp noB W w')
    (ok : ∀ a ∈ PL, ∀ b ∈ BL, OkB (a ++ b) ∧ a.length ≤ 100 ∧ b.length ≤ 100) (hl1 : PL.length ≤ 64) (hl2 : BL.length ≤ 64) :
    CallsIn Fence.wide n Tryz.prog 10 #[.agg (insV x)] w fun e w' => EncR (bestM x (triesL PL BL)) e w' ∧ Kp noB w w' := by
  obtain ⟨T, nI, Z, fsI, psI, h⟩ := vlF
  obtain ⟨vl, vs, vb, va, ve⟩ := h.ops
  have hT : T = 28 := h.v.t
  have vx := h.box
  have v1 := h.agg
  have v2 := h.size
  have v4 := h.under
  have v5 := h.map
  have s0 := h.v.cells x
  have H : Hid _ := h
  have HT : Hid (T = 28) := hT
  have HTr : Hid (∀ W, CallsIn Fence.wide (n - 1) Tryz.prog 16 #[.agg (insV x)] W _) := fun W => callsIn_wide.2 (tries_any W x)
  have HSeq : Hid (∀ q w0, w0.heap[q]? = some (.cells (insV x) 28 (0, 0)) → SeqB 32 #[.pointer (some ⟨q, 0, none⟩)] (triesL PL BL) w0) := fun q w0 hq => tries_seq x q w0 PL BL hq HB HP ok hl1 hl2
  have hqx := (MapKept.heap_alloc w (.cells (insV x) T)).1
  obtain ⟨FV, hFV⟩ : ∃ FV : Value, FV = .func (.func 14) #[] #[.pointer (some ⟨w.heap.size + 1, 0, none⟩), .pointer (some ⟨w.heap.size, 0, none⟩)] := ⟨_, rfl⟩
  have kA : Kp noB (w.alloc (.cells (insV x) T)) (((w.alloc (.cells (insV x) T)).alloc (.cells #[.slice none 0 0] 23)).alloc (.cells #[FV] 45)) := (Kp.alloc _ _ _).trans (Kp.alloc _ _ _)
  have hq3 := heap_kept hqx kA id
  have hb3 : (((w.alloc (.cells (insV x) T)).alloc (.cells #[.slice none 0 0] 23)).alloc (.cells #[FV] 45)).heap[w.heap.size + 1]? = some (.cells #[.slice none 0 0] 23 (0, 0)) := by
    have := (MapKept.heap_alloc (w.alloc (.cells (insV x) T)) (.cells #[.slice none 0 0] 23)).1
    rw [World.size_alloc] at this
    exact heap_kept this (Kp.alloc noB _ _) id
  have hf3 : (((w.alloc (.cells (insV x) T)).alloc (.cells #[.slice none 0 0] 23)).alloc (.cells #[FV] 45)).heap[w.heap.size + 2]? = some (.cells #[FV] 45 (0, 0)) := by
    have := (MapKept.heap_alloc ((w.alloc (.cells (insV x) T)).alloc (.cells #[.slice none 0 0] 23)) (.cells #[FV] 45)).1
    rw [World.size_alloc, World.size_alloc] at this
    exact this
  have l3 := h.get hq3
  have HE0 : Hid (EI x w.heap.size [] (((w.alloc (.cells (insV x) T)).alloc (.cells #[.slice none 0 0] 23)).alloc (.cells #[FV] 45))) := ⟨⟨_, hb3, rfl⟩, by rw [← hT]; exact hq3, by rw [← hFV]; exact hf3⟩
  have HK0 : Hid (Kp noB w (((w.alloc (.cells (insV x) T)).alloc (.cells #[.slice none 0 0] 23)).alloc (.cells #[FV] 45))) := (Kp.alloc noB w _).trans kA
  have HSz : Hid ((((w.alloc (.cells (insV x) T)).alloc (.cells #[.slice none 0 0] 23)).alloc (.cells #[FV] 45)).heap.size = w.heap.size + 3) := by show (((w.alloc (.cells (insV x) T)).alloc (.cells #[.slice none 0 0] 23)).alloc (.cells #[FV] 45)).heap.size = w.heap.size + 3; simp
  rw [hFV] at l3 HE0 HK0 HSz
  clear hqx kA hq3 hb3 hf3 hFV FV
  clear HB HP ok hl1 hl2 h hT
  refine callsIn_of_wp_marks Tryz.func10 rfl trivial ?_ rfl
  simp only [Tryz.ntmps10, List.size_toArray, List.length_cons, List.length_nil, Nat.reduceAdd, Nat.reduceSub, Array.replicate_succ, Array.replicate_zero, List.push_toArray, List.append_toArray, List.nil_append, List.cons_append]
  simp only [vl, vx]
  clear vl vs vb va ve vx
  gi_wp2_with fail
  refine ⟨trivial, (fun h => by cases h), CallsIn.mono (HTr.out _) ?_⟩; rintro e w4 ⟨rfl, hw4⟩
  have HE4 : Hid (EI x w.heap.size [] w4) := by rw [hw4]; exact HE0.out.kp (Kp.alloc _ _ _)
  have HK4 : Hid (Kp noB w w4) := by rw [hw4]; exact HK0.out.trans (Kp.alloc _ _ _)
  have hs4 : w4.heap.size = w.heap.size + 4 := by rw [hw4, World.size_alloc, HSz.out]
  have HS4 : Hid (w4.heap.size = w.heap.size + 4) := hs4
  clear hs4
  have hb4 : w4.heap[w.heap.size + 3]? = some (.cells (insV x) 28 (0, 0)) := by
    have := (MapKept.heap_alloc (((w.alloc (.cells (insV x) T)).alloc (.cells #[.slice none 0 0] 23)).alloc (.cells #[.func (.func 14) #[] #[.pointer (some ⟨w.heap.size + 1, 0, none⟩), .pointer (some ⟨w.heap.size, 0, none⟩)]] 45)) (.cells (insV x) 28)).1
    rw [HSz.out, ← hw4] at this
    exact this
  have hseq := HSeq.out _ _ hb4
  rw [HSz.out]
  clear hb4 hw4 l3 HE0 HK0 HSz HSeq HTr s0
  gi_wp2_with fail
  refine range_bytes (lb := #[.pointer (some ⟨w.heap.size + 3, 0, none⟩)]) rfl (enters_of Tryz.func32 (by kernel_rfl) rfl) rfl hseq (Kp.refl _ _) (fun pre W => EI x w.heap.size pre W ∧ Kp noB w W) (isBk (w.heap.size + 1)) (fun pre A B h k => ⟨h.1.kp k, h.2.trans k⟩) (fun pre A l r o h hl hr => ⟨h.1.put o (by have := HS4.out; omega) hr, h.2.over (kp_put (fun j => j = l) A rfl o) (fun j hj e => by have := HS4.out; omega)⟩) (fun k hk => by unfold isBk at hk; have := HS4.out; omega) (fun pre A h => h.1.no) ⟨HE4.out, HK4.out⟩
    (fun v => { tmps := #[.agg (insV x), .pointer (some ⟨w.heap.size, 0, none⟩), .slice none 0 0, .int .i64 0, .pointer (some ⟨w.heap.size + 1, 0, none⟩), .pointer (some ⟨w.heap.size + 1 + 1, 0, none⟩), v, .func (.func 14) #[] #[.pointer (some ⟨w.heap.size + 1, 0, none⟩), .pointer (some ⟨w.heap.size, 0, none⟩)], .agg (insV x), .func (.func 32) #[] #[.pointer (some ⟨w.heap.size + 3, 0, none⟩)], v, undef, undef, undef, undef, undef, undef], defers := [] }) ?assign ?body ?done
  case assign =>
    intro l v W K hK
    gi_wp2
    exact hK
  case body =>
    intro l pre b v W hEK hv ok
    obtain ⟨hE, hKw⟩ := hEK
    have HKw : Hid _ := hKw
    have hK : Hid (Calls _ _ _ W _) := keep_ok W (w.heap.size + 1) w.heap.size x (bestM x pre) v b hE.best hE.box hv ok
    have cf : W.cell? ⟨w.heap.size + 1 + 1, 0, none⟩ = some (.func (.func 14) #[] #[.pointer (some ⟨w.heap.size + 1, 0, none⟩), .pointer (some ⟨w.heap.size, 0, none⟩)]) := by
      have := hE.fn
      rw [cellA (S := w.heap.size + 1 + 1) this]; rfl
    have HEp : Hid _ := hE
    obtain ⟨pv, cv, rfl, _⟩ := id hv
    clear hE hv ok hseq hKw
    gi_wp2_with fail
    refine ⟨trivial, (fun h => by cases h), CallsIn.mono (CallsIn.inRound l (callsIn_wide.2 hK.out)) ?_⟩; rintro e W1 ⟨rfl, hB1, k1⟩
    have hE1 : EI x w.heap.size (pre ++ [b]) W1 := ⟨by rw [bestM_snoc]; exact hB1, heap_kept HEp.out.box k1 (by unfold isBk; omega), heap_kept HEp.out.fn k1 (by unfold isBk; omega)⟩
    have hk1 : Kp noB w W1 := HKw.out.over k1 (fun j hj e => by unfold isBk at e; omega)
    have HZ : Hid (EI x w.heap.size (pre ++ [b]) W1 ∧ Kp noB w W1) := ⟨hE1, hk1⟩
    have HK1 : Hid _ := k1
    clear cf hB1 hE1 hk1 k1
    gi_wp2
    exact ⟨HK1.out, HZ.out⟩
  case done =>
    intro W hEK hD
    obtain ⟨hE, hKw⟩ := hEK
    obtain ⟨u, hu, hcase⟩ := hE.best
    have cb : W.cell? ⟨w.heap.size + 1, 0, none⟩ = some u := by rw [cellA hu]; rfl
    have kD : Kp noB w (W.putObj w4.heap.size (.deferred none)) := hKw.over (kp_put (fun j => j = w4.heap.size) W rfl _) (fun j hj e => by have := HS4.out; omega)
    have HKD : Hid _ := kD
    have HKp : Hid (Kp (fun j => j = w4.heap.size) W (W.putObj w4.heap.size (.deferred none))) := kp_put (fun j => j = w4.heap.size) W rfl _
    have HD : Hid _ := hD
    have HRun : Hid _ := run_takeDeferred (P := Tryz.prog) hD
    cases hbm : bestM x (triesL PL BL) with
    | none =>
      rw [hbm] at hcase
      simp only at hcase
      subst hcase
      have en := eqNil W
      clear hE hKw hu kD hD hseq
      gi_wp2
      refine ⟨by simp, .inl ⟨_, _, rfl, HRun.out, ?_⟩⟩
      exact ⟨_, results_tmp2 rfl _ _ _, by rw [hbm]; exact rfl, HKD.out⟩
    | some b =>
      rw [hbm] at hcase
      simp only at hcase
      obtain ⟨hne, hva⟩ := hcase
      obtain ⟨ga, oa, ca, rfl⟩ := hva.ptr hne
      have es := eqSome W ga oa b.length ca
      have HVa : Hid (BSl (W.putObj w4.heap.size (.deferred none)) (.slice (some ⟨ga, oa, none⟩) b.length ca) b) := hva.over (Y := fun j => j = w4.heap.size) (fun j hj cs fr he => by subst hj; rw [HD.out] at he; cases he) HKp.out
      clear hE hKw hu kD hD hseq hva hne
      gi_wp2
      refine ⟨by simp, .inl ⟨_, _, rfl, HRun.out, ?_⟩⟩
      exact ⟨_, results_tmp2 rfl _ _ _, by rw [hbm]; exact ⟨_, _, _, rfl, HVa.out⟩, HKD.out⟩

theorem enc_ok (w : World) (x : Ins) (PL BL : List (List Int))
    (HB : ∀ W, Calls Tryz.prog 33 #[.agg (insV x)] W fun e w' => ∃ v, e = .returned v ∧ BB w' v BL ∧ Fr W.heap.size v ∧ Kp noB W w')
    (HP : ∀ W, Calls Tryz.prog 34 #[.agg (insV x)] W fun e w' => ∃ v, e = .returned v ∧ BB w' v PL ∧ Fr W.heap.size v ∧ Kp noB W w')
    (ok : ∀ a ∈ PL, ∀ b ∈ BL, OkB (a ++ b) ∧ a.length ≤ 100 ∧ b.length ≤ 100) (hl1 : PL.length ≤ 64) (hl2 : BL.length ≤ 64) :
    Calls Tryz.prog 10 #[.agg (insV x)] w fun e w' => EncR (bestM x (triesL PL BL)) e w' ∧ Kp noB w w' :=
  (callsIn_wide (n := 8)).1 (enc_in 8 w x PL BL HB HP ok hl1 hl2)

/-- Of a sum with Sub 0 to 7, without memory. -/
theorem enc_sum (w : World) (x : Ins) (s : Nat) (hop : x.op = 1) (hsz : x.size = s) (hs : s = 1 ∨ s = 2 ∨ s = 4) (hsub : 0 ≤ x.sub ∧ x.sub < 8) (hi : 0 ≤ x.b.imm ∧ x.b.imm < 4294967296) (hrep : x.rep = 0) (ha : ¬ x.a.kind = 2) (hb : ¬ x.b.kind = 2) (hc : ¬ x.c.kind = 2)
    (ok : ∀ a ∈ preE s, ∀ b ∈ (fm5 x s).flatMap bodF, OkB (a ++ b) ∧ a.length ≤ 100 ∧ b.length ≤ 100) :
    Calls Tryz.prog 10 #[.agg (insV x)] w fun e w' => EncR (bestM x (triesL (preE s) ((fm5 x s).flatMap bodF))) e w' ∧ Kp noB w w' := by
  have hn := numL_len x.b.imm s
  refine enc_ok w x _ _ (fun W => bodiesOf_ok W x (fm5 x s) (by simp [fm5]) (fun f hf => ?_) (fun W => forms_sum W x s hop hsz hs hsub hi)) (fun W => by rw [← hsz]; exact prefixes_ok W x hrep ha hb hc) ok (by unfold preE; split <;> simp) ?_
  · simp only [fm5, List.mem_cons, List.not_mem_nil, or_false] at hf
    rcases hf with rfl | rfl | rfl | rfl | rfl
    · exact ⟨by simp, fun _ => ha⟩
    · exact ⟨by simp, fun _ => hb⟩
    · exact ⟨by simp only; omega, fun h => by cases h⟩
    · exact ⟨by simp only; omega, fun _ => ha⟩
    · exact ⟨by simp, fun _ => ha⟩
  · have := accB_len (fm5 x s) 5
    have e : accB (fm5 x s) 5 = (fm5 x s).flatMap bodF := rfl
    rw [e] at this
    omega

/-- Of a size that there is not. -/
theorem enc_none (w : World) (x : Ins) (h1 : ¬ x.size = 1) (h2 : ¬ x.size = 2) (h4 : ¬ x.size = 4) (hrep : x.rep = 0) (ha : ¬ x.a.kind = 2) (hb : ¬ x.b.kind = 2) (hc : ¬ x.c.kind = 2) :
    Calls Tryz.prog 10 #[.agg (insV x)] w fun e w' => e = .returned (.tuple #[.slice none 0 0, .int .i64 70]) ∧ Kp noB w w' := by
  have := enc_ok w x (preE x.size) [] (fun W => bodiesOf_ok W x [] (by simp) (fun f hf => by cases hf) (fun W => forms_no W x h1 h2 h4)) (fun W => prefixes_ok W x hrep ha hb hc) (fun a ha b hb => by cases hb) (by unfold preE; split <;> simp) (by simp)
  have e : triesL (preE x.size) [] = [] := by unfold triesL preE; split <;> rfl
  rw [e] at this
  exact this
end Go.Proofs.YtolnaodlghahlaaGreatDoor
