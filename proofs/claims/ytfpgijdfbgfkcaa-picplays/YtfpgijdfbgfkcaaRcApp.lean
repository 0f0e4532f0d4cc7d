/- Numbers joined to numbers: what 'append' makes; what a chip that is set up still wants. -/
import Derived.Test.YtfpgijdfbgfkcaaRcData
import Derived.Maps.AppendAt
import Derived.OwnWalk
namespace Go.Proofs.Ytfpgijdfbgfkcaa
open Go.ChangeShapes Go.WideShapes Go.ChangeAt Go.RowKit
set_option linter.unusedVariables false

def OwnN (w : World) (base : Nat) (v : Value) (l : List Int) : Prop := w.ownsRow base 3 1 v l.length (l.map (Value.int .i64))

theorem OwnN.new (w : World) (base : Nat) (hb : base ≤ w.heap.size) (l : List Int) (hl : l.length ≤ 100) : OwnN (w.alloc (.cells (l.map (Value.int .i64)).toArray 3)) base (.slice (some ⟨w.heap.size, 0, none⟩) l.length l.length) l :=
  ⟨by simp, .inr ⟨w.heap.size, l.length, _, rfl, hb, (MapKept.heap_alloc w _).1, Nat.le_refl _, by unfold maxLen; omega, by simp, by rw [Nat.mul_one]; exact List.take_of_length_le (by simp)⟩⟩

theorem Kp.grown {w0 w w' : World} {row : Option Nat} (h : Kp noB w0 w) (g : w.grownBy w' row) (hr : ∀ k, row = some k → w0.heap.size ≤ k) : Kp noB w0 w' :=
  ⟨g.os.trans h.os, g.tape.trans h.tape, g.output.trans h.output, Nat.le_trans h.size g.size, fun k hk _ => (g.block k (Nat.lt_of_lt_of_le hk h.size) (fun e => by have := hr k e.symm; omega)).trans (h.block k hk id)⟩

/-- m numbers from a place on. -/
def NumAt (w : World) (a : Option Addr) (m : Nat) (g : Nat → Int) : Prop := ∀ j, j < m → ∃ b o, a = some ⟨b, o, none⟩ ∧ b < w.heap.size ∧ w.cell? ⟨b, o + j, none⟩ = some (.int .i64 (g j))

def rngN (m : Nat) (g : Nat → Int) : List Int := (List.range m).map g

theorem appN_ok {w0 w : World} (h0 : Kp noB w0 w) {v : Value} {l : List Int} (hv : OwnN w w0.heap.size v l) {a : Option Addr} {m : Nat} (c : Nat) {g : Nat → Int} (hB : NumAt w a m g) (hs : l.length + m ≤ 1000) :
    ∃ v' w', (Builtin.append_ #[40, 40] 40 #[v, .slice a m c]).run Try.prog w = .ok v' w' ∧ OwnN w' w0.heap.size v' (l ++ rngN m g) ∧ Kp noB w0 w' := by
  have hlen : (rngN m g).length = m := by simp [rngN]
  cases a with
  | none =>
    have hm : m = 0 := by
      rcases Nat.eq_zero_or_pos m with h | h
      · exact h
      · obtain ⟨b, o, e, _⟩ := hB 0 h; cases e
    subst hm
    refine ⟨v, w, ?_, by simpa [rngN] using hv, h0⟩
    have u : ∀ w, (underlying 40).run Try.prog w = .ok (.slice 3) w := fun w => by kernel_rfl
    have s : ∀ w, (sizeOf 3).run Try.prog w = .ok 1 w := fun w => by kernel_rfl
    rcases hv.2 with ⟨rfl, h2⟩ | ⟨g, cap, cur, rfl, hb, hg, hc, r⟩
    · simp [Builtin.append_, u, s, Builtin.lenOf, Builtin.firstCells]
    · simp [Builtin.append_, u, s, Builtin.lenOf, Builtin.firstCells, hc, storeCells]
  | some ad =>
    obtain ⟨v', w', hr, h2, h3, h4, h5⟩ := run_append_own_at (P := Try.prog) w w0.heap.size 40 40 3 _ (.int .i64 0) 1 8 Try.underlying40 (show Try.prog.info? 3 = some _ from Try.type3) (by kernel_rfl) (by kernel_rfl) (by kernel_rfl) (by kernel_rfl) (by decide)
      v l.length (l.map (Value.int .i64)) hv ad m c ((rngN m g).map (Value.int .i64)) (by simp [hlen]) (by
        intro j u hu
        rw [List.getElem?_map] at hu
        obtain ⟨x, hx, rfl⟩ := Option.map_eq_some_iff.1 hu
        have hj : j < m := by have := (List.getElem?_eq_some_iff.1 hx).1; omega
        obtain ⟨b, o, e, _, hc⟩ := hB j hj
        injection e with e
        subst e
        rw [Addr.add_mid, hc]
        have : x = g j := by
          unfold rngN at hx
          rw [List.getElem?_map, List.getElem?_range hj] at hx
          simpa using hx.symm
        rw [this]) (by simp [Value.oneCell']) (by unfold maxLen; omega) (by omega) (h0.size)
    refine ⟨v', w', hr, ?_, h0.grown h3 (fun k hk => ?_)⟩
    · unfold OwnN
      rw [List.length_append, hlen, List.map_append]
      exact h2
    · rcases hv.2 with ⟨rfl, _⟩ | ⟨g, cap, cur, rfl, hb, r⟩
      · cases hk
      · simp [Value.ownBlock] at hk; omega

/-- At a plain region's list: the append whose answer is known. -/
theorem wpList_appN {ops : Array Oper} {rest : List Oper} {o : Oper} {a : Act} {w w' : World} {Q : Exit → Act → World → Prop} {v v' x : Value} (hgd : o.guard = none) (s y : Operand)
    (ho : o.op = .call { callee := .builtin .append, args := #[s, y], argTypes := #[40, 40] }) (hty : o.type = 40) (hs : a.eval s = v) (hx : a.eval y = x)
    (hr : (Builtin.append_ #[40, 40] 40 #[v, x]).run Try.prog w = .ok v' w') (h : wpList Try.prog ops Q rest (a.put o.dst v') w') : wpList Try.prog ops Q (o :: rest) a w := by
  refine wpList_plain hgd fun K hK => ?_
  unfold Oper.wp execOp
  simp only [ho, hty, resolve, invoke, builtin, Sem.run_bind, Sem.run_pure, Result.andThen_ok, List.map_toArray, List.map_cons, List.map_nil, hs, hx, hr]
  exact hK _ _ h

/-- What is wanted lies in a block of its own, behind 'base'. -/
def Wn (w : World) (base : Nat) (p : Option Addr) (n c : Nat) (l : List Int) : Prop := n = l.length ∧ n ≤ c ∧ ∀ j, j < l.length → ∃ g, p = some ⟨g, 0, none⟩ ∧ base ≤ g ∧ g < w.heap.size ∧ w.cell? ⟨g, j, none⟩ = some (.int .i64 (l.getD j 0))

theorem OwnN.wn {w : World} {base : Nat} {v : Value} {l : List Int} (h : OwnN w base v l) : ∃ p c, v = .slice p l.length c ∧ Wn w base p l.length c l := by
  rcases h.2 with ⟨e, h2⟩ | ⟨g, cap, cur, rfl, hb, hg, hc, hm, hsz, ht⟩
  · refine ⟨none, 0, ?_, rfl, by omega, fun j hj => by omega⟩
    rw [e]
    have : l.length = 0 := by omega
    rw [this]
  · refine ⟨_, _, rfl, rfl, hc, fun j hj => ⟨g, rfl, hb, heap_lt hg, ?_⟩⟩
    rw [cell_of_row _ _ _ _ _ _ hg]
    have hj' : j < l.length := hj
    have e := congrArg (fun L : List Value => L[j]?) ht
    simp only [Nat.mul_one] at e
    rw [List.getElem?_take_of_lt hj, List.getElem?_map, List.getElem?_eq_getElem hj'] at e
    rw [← Array.getElem?_toList, e, List.getD_eq_getElem?_getD, List.getElem?_eq_getElem hj']
    rfl

theorem Wn.kept {S : Nat → Prop} {w w' : World} {base : Nat} {p : Option Addr} {n c : Nat} {l : List Int} (h : Wn w base p n c l) (k : Kp S w w') (hS : ∀ g, base ≤ g → ¬ S g) : Wn w' base p n c l :=
  ⟨h.1, h.2.1, fun j hj => by
    obtain ⟨g, e, hb, hl, hc⟩ := h.2.2 j hj
    exact ⟨g, e, hb, Nat.lt_of_lt_of_le hl k.size, cell_kept hc k (hS g hb)⟩⟩

theorem Wn.mono {w : World} {base base' : Nat} {p : Option Addr} {n c : Nat} {l : List Int} (h : Wn w base p n c l) (hb : base' ≤ base) : Wn w base' p n c l :=
  ⟨h.1, h.2.1, fun j hj => by
    obtain ⟨g, e, hb', hl, hc⟩ := h.2.2 j hj
    exact ⟨g, e, Nat.le_trans hb hb', hl, hc⟩⟩
end Go.Proofs.Ytfpgijdfbgfkcaa
