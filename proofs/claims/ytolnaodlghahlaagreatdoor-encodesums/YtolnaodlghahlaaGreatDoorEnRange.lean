/- A range over a function that tells lists of bytes: what the function owes, and what the loop gets. -/
import Derived.Test.YtolnaodlghahlaaGreatDoorEnPre
import Derived.RangeFuncNested
import Derived.RangeFuncBound
import Derived.RangeFuncCalls
import Derived.RangeFuncLeaves
import Derived.RangeFuncBox
namespace Go.Proofs.YtolnaodlghahlaaGreatDoor
open Go.ChangeShapes Go.WideShapes Go.ChangeAt Go.RowKit
set_option linter.unusedVariables false

def OkB (b : List Int) : Prop := Byts b ∧ b.length ≤ 4096

/-- No block of Y holds bytes. -/
def NoBytes (Y : Nat → Prop) (W : World) : Prop := ∀ k, Y k → ∀ cs fr, W.heap[k]? ≠ some (.cells cs 5 fr)

theorem BSl.over {W W' : World} {v : Value} {b : List Int} {Y : Nat → Prop} (h : BSl W v b) (hY : NoBytes Y W) (k : Kp Y W W') : BSl W' v b := by
  obtain ⟨p, c, rfl, h⟩ := h
  refine ⟨p, c, rfl, ?_⟩
  rcases h with h | ⟨g, o, rfl, ⟨cs, fr, ht⟩, hc⟩
  · exact .inl h
  · have e := k.block g (Array.getElem?_eq_some_iff.1 ht).1 (fun f => hY g f cs fr ht)
    refine .inr ⟨g, o, rfl, ⟨cs, fr, e.trans ht⟩, fun j x hx => ?_⟩
    have := hc j x hx
    unfold World.cell? at this ⊢
    simp only [e]
    exact this

/-- What a function owes that tells the lists Ls, one behind the other, each to its end. -/
def SeqB (gf : Nat) (lb : Array Value) (Ls : List (List Int)) (w0 : World) : Prop :=
  ∀ (n l : Nat) (Y : Nat → Prop) (J : List (List Int) → World → Prop) (W : World), Kp noB w0 W → (∀ k, Y k → k < W.heap.size) →
    (∀ pre A B, J pre A → Kp noB A B → J pre B) → (∀ pre A, J pre A → NoBytes Y A) →
    (∀ pre b v A, J pre A → BSl A v b → OkB b → YieldAt Fence.wide (n - 1) Tryz.prog l #[v] A fun e B => e = .returned (.bool true) ∧ J (pre ++ [b]) B ∧ Kp Y A B) →
    J [] W →
    CallsIn Fence.wide n Tryz.prog gf (#[.func (.yield l) #[] #[]] ++ lb) W fun e B => (∃ v, e = .returned v) ∧ J Ls B

theorem kp_put (S : Nat → Prop) (W : World) {l : Nat} (hl : S l) (o : Obj) : Kp S W (W.putObj l o) :=
  ⟨rfl, rfl, rfl, by simp, fun k hk hs => World.putObj_heap_other (fun e => hs (e ▸ hl))⟩

set_option maxHeartbeats 2000000 in
theorem range_bytes {n : Nat} {g : Operand} {ps : Array Tmp} {assign body : Code} {Q : Exit → Act → World → Prop} {a : Act} {w w0 : World} {gf : Nat} {lb : Array Value} {Ls : List (List Int)}
    (hg : a.eval g = .func (.func gf) #[] lb) (eg : ∀ args w, (callFunc gf args).run Tryz.prog w = .ok (.enter gf args) w) (hps : ps.size = 1)
    (hseq : SeqB gf lb Ls w0) (k0 : Kp noB w0 w)
    (I : List (List Int) → World → Prop) (YI : Nat → Prop) (hI : ∀ pre A B, I pre A → Kp noB A B → I pre B) (hIl : ∀ pre A l r o, I pre A → w.heap.size ≤ l → A.heap[l]? = some (.loop r) → I pre (A.putObj l o))
    (hYI : ∀ k, YI k → k < w.heap.size) (hYt : ∀ pre A, I pre A → NoBytes YI A) (h0 : I [] w) (a₁ : Value → Act)
    (hassign : ∀ (l : Nat) (x : Value) (W : World) (K : Act → World → Prop), K (a₁ x) W →
      assign.wpIn (Fence.wide.inRound l) (n - 1 - 1) Tryz.prog (Exit.then K (fun _ _ _ => False)) { tmps := (ps.zip #[x]).foldl (fun t (p, v) => t.setIfInBounds p v) a.tmps, defers := [] } W)
    (hbody : ∀ (l : Nat) (pre : List (List Int)) (b : List Int) (x : Value) (W : World), I pre W → BSl W x b → OkB b →
      body.wpIn (Fence.wide.inRound l) (n - 1 - 1) Tryz.prog (fun e _ W' => e = .normal ∧ Kp YI W W' ∧ I (pre ++ [b]) W') (a₁ x) W)
    (hdone : ∀ (W : World), I Ls W → W.heap[w.heap.size]? = some (.deferred (some [])) → Q .normal { a with defers := { target := .collected w.heap.size, args := #[] } :: a.defers } W) :
    (Code.rangeFunc g ps assign body).wpIn Fence.wide n Tryz.prog Q a w := by
  refine wpIn_rangeFunc ?_
  intro fn hfn
  obtain ⟨rec, hrec⟩ : ∃ rec : LoopState → Option Code → Loop, rec = fun st pe => { state := st, pending := pe, fn, tmps := a.tmps, params := ps, assign, body, defers := w.heap.size } := ⟨_, rfl⟩
  obtain ⟨W1, hW1⟩ : ∃ W1, (w.alloc (.deferred (some []))).alloc (.loop (rec .ready none)) = W1 := ⟨_, rfl⟩
  have kW : Kp noB w W1 := by rw [← hW1]; exact (Kp.alloc _ _ _).trans (Kp.alloc _ _ _)
  have sW : W1.heap.size = w.heap.size + 2 := by rw [← hW1]; simp
  have hL1 : W1.heap[w.heap.size + 1]? = some (.loop (rec .ready none)) := by
    have := World.alloc_heap_new (w.alloc (.deferred (some []))) (.loop (rec .ready none))
    rw [World.size_alloc, hW1] at this
    exact this
  have hD1 : W1.heap[w.heap.size]? = some (.deferred (some [])) := by
    rw [← hW1]
    exact heap_kept (S := noB) (World.alloc_heap_new w _) (Kp.alloc _ _ _) id
  refine ⟨w.heap.size + 1, [{ target := .collected w.heap.size, args := #[] }], W1, { target := .fn (.func gf) lb, args := #[.func (.yield (w.heap.size + 1)) #[] #[]] }, W1, gf, #[.func (.yield (w.heap.size + 1)) #[] #[]] ++ lb, W1, ?_, ?_, ?_, ?_, fun h => ?_, ?_⟩
  · rw [← hW1, hrec]; exact run_enterLoop_outer _ _ _ _ _
  · simp only [resolve, hg]
    simp [go_sem]
  · intro f' _; exact trivial
  · simp [invoke, go_sem, eg]
  · cases h
  · have hl : w.heap.size + 1 < W1.heap.size := by omega
    refine (hseq (n - 1) (w.heap.size + 1) (fun k => YI k ∨ k = w.heap.size + 1)
      (fun pre W => I pre W ∧ W.heap[w.heap.size + 1]? = some (.loop (rec .ready none)) ∧ W.heap[w.heap.size]? = some (.deferred (some [])))
      W1 (k0.trans kW) ?_ ?_ ?_ ?_ ⟨hI _ _ _ h0 kW, hL1, hD1⟩).mono ?_
    · rintro k (h | rfl)
      · have := hYI k h; omega
      · exact hl
    · rintro pre A B ⟨h1, h2, h3⟩ k
      exact ⟨hI _ _ _ h1 k, heap_kept h2 k id, heap_kept h3 k id⟩
    · rintro pre A ⟨h1, h2, h3⟩ k hk cs fr he
      rcases hk with hk | rfl
      · exact hYt pre A h1 k hk cs fr he
      · rw [h2] at he; cases he
    · rintro pre b v A ⟨h1, h2, h3⟩ hb ok
      have hlA : w.heap.size + 1 < A.heap.size := (Array.getElem?_eq_some_iff.1 h2).1
      have hy := run_yield (P := Tryz.prog) (args := #[v]) h2 (by rw [hrec]; exact hps.symm)
      rw [hrec] at hy
      refine ⟨fn, _, assign, body, hy, roundIn_of_wpIn hfn (hassign _ v A _ ⟨_, run_beginRound h2 (by rw [hrec]), ?_⟩)⟩
      have kp2 : Kp (fun k => k = w.heap.size + 1) A (A.putObj (w.heap.size + 1) (.loop { rec .ready none with state := .busy })) := kp_put (fun k => k = w.heap.size + 1) A rfl _
      have hl2 : (A.putObj (w.heap.size + 1) (.loop { rec .ready none with state := .busy })).heap[w.heap.size + 1]? = some (.loop { rec .ready none with state := .busy }) := World.putObj_heap_same hlA
      have hd2 := heap_kept h3 kp2 (by omega)
      have hb2 : BSl (A.putObj (w.heap.size + 1) (.loop { rec .ready none with state := .busy })) v b := hb.over (Y := fun k => k = w.heap.size + 1) (fun k hk cs fr he => by subst hk; rw [h2] at he; cases he) kp2
      refine wpIn_mono (hbody (w.heap.size + 1) pre b v _ (hIl _ _ _ _ _ h1 (by omega) h2) hb2 ok) ?_
      rintro e a3 W3 ⟨rfl, kY, hi3⟩
      have hnl : ¬ YI (w.heap.size + 1) := fun f => by have := hYI _ f; omega
      have hnd : ¬ YI w.heap.size := fun f => by have := hYI _ f; omega
      have hl3 := heap_kept hl2 kY hnl
      have hd3 := heap_kept hd2 kY hnd
      have hr : (Instr.endRound (w.heap.size + 1) none).run Tryz.prog W3 = .ok (.bool true) (W3.putObj (w.heap.size + 1) (.loop (rec .ready none))) := by
        have := run_endRound (P := Tryz.prog) none hl3
        rw [hrec] at this ⊢
        exact this
      have kp4 : Kp (fun k => k = w.heap.size + 1) W3 (W3.putObj (w.heap.size + 1) (.loop (rec .ready none))) := kp_put (fun k => k = w.heap.size + 1) W3 rfl _
      refine ⟨_, _, hr, rfl, ⟨?_, ?_, ?_⟩, ?_⟩
      · exact hIl _ _ _ _ _ hi3 (by omega) hl3
      · exact World.putObj_heap_same (Array.getElem?_eq_some_iff.1 hl3).1
      · exact (World.putObj_heap_other (by omega)).trans hd3
      · exact ((kp2.mono (fun _ _ e => .inr e)).trans (kY.mono (fun _ _ e => .inl e))).trans ((kp_put (fun k => k = w.heap.size + 1) W3 rfl _).mono (fun _ _ e => .inr e))
    · rintro e W2 ⟨⟨v, rfl⟩, hi, hl2, hd2⟩
      have hr : (Instr.endLoop (w.heap.size + 1)).run Tryz.prog W2 = .ok none (W2.putObj (w.heap.size + 1) (.loop { rec .ready none with state := .exhausted })) := by
        have := run_endLoop (P := Tryz.prog) hl2 (by rw [hrec]; simp)
        rw [hrec] at this ⊢
        exact this
      refine ⟨none, _, hr, ?_⟩
      exact hdone _ (hIl _ _ _ _ _ hi (by omega) hl2) ((World.putObj_heap_other (by omega)).trans hd2)
end Go.Proofs.YtolnaodlghahlaaGreatDoor
