/- Bytes joined to bytes: what 'append' makes. -/
import Derived.Test.YtopeccjghamjmaaGreatDecFrame
import Derived.Maps.AppendAt
import Derived.OwnWalk
namespace Go.Proofs.YtopeccjghamjmaaGreat
open Go.ChangeShapes Go.WideShapes Go.ChangeAt Go.RowKit
set_option linter.unusedVariables false

/-- Bytes of our own: a slice made behind 'base'. -/
def OwnB (w : World) (base : Nat) (v : Value) (l : List Int) : Prop := w.ownsRow base 5 1 v l.length (l.map (Value.int .u8))

theorem OwnB.new (w : World) (base : Nat) (hb : base ≤ w.heap.size) (l : List Int) (hl : l.length ≤ 100) : OwnB (w.alloc (.cells (l.map (Value.int .u8)).toArray 5)) base (.slice (some ⟨w.heap.size, 0, none⟩) l.length l.length) l :=
  ⟨by simp, .inr ⟨w.heap.size, l.length, _, rfl, hb, (MapKept.heap_alloc w _).1, Nat.le_refl _, by unfold maxLen; omega, by simp, by rw [Nat.mul_one]; exact List.take_of_length_le (by simp)⟩⟩

theorem Kp.grown {w0 w w' : World} {row : Option Nat} (h : Kp noB w0 w) (g : w.grownBy w' row) (hr : ∀ k, row = some k → w0.heap.size ≤ k) : Kp noB w0 w' :=
  ⟨g.os.trans h.os, g.tape.trans h.tape, g.output.trans h.output, Nat.le_trans h.size g.size, fun k hk _ => (g.block k (Nat.lt_of_lt_of_le hk h.size) (fun e => by have := hr k e.symm; omega)).trans (h.block k hk id)⟩

theorem OwnB.kp {w w' : World} {base : Nat} {v : Value} {l : List Int} (h : OwnB w base v l) (k : Kp noB w w') : OwnB w' base v l := by
  refine ⟨h.1, ?_⟩
  rcases h.2 with h2 | ⟨g, cap, cur, hv, hb, hg, r⟩
  · exact .inl h2
  · exact .inr ⟨g, cap, cur, hv, hb, heap_kept hg k id, r⟩

def rngB (m : Nat) (bt : Nat → Int) : List Int := (List.range m).map bt

theorem app_ok {w0 w : World} (h0 : Kp noB w0 w) {v : Value} {l : List Int} (hv : OwnB w w0.heap.size v l) {a : Option Addr} {m : Nat} (c : Nat) {bt : Nat → Int} (hB : BytAt w a m bt) (hs : l.length + m ≤ 140737488355328) :
    ∃ v' w', (Builtin.append_ #[23, 23] 23 #[v, .slice a m c]).run Tryz.prog w = .ok v' w' ∧ OwnB w' w0.heap.size v' (l ++ rngB m bt) ∧ Kp noB w0 w' := by
  have hlen : (rngB m bt).length = m := by simp [rngB]
  cases a with
  | none =>
    have hm : m = 0 := by
      rcases Nat.eq_zero_or_pos m with h | h
      · exact h
      · obtain ⟨b, o, e, _⟩ := hB 0 h; cases e
    subst hm
    refine ⟨v, w, ?_, by simpa [rngB] using hv, h0⟩
    have u : ∀ w, (underlying 23).run Tryz.prog w = .ok (.slice 5) w := fun w => by kernel_rfl
    have s : ∀ w, (sizeOf 5).run Tryz.prog w = .ok 1 w := fun w => by kernel_rfl
    rcases hv.2 with ⟨rfl, h2⟩ | ⟨g, cap, cur, rfl, hb, hg, hc, r⟩
    · simp [Builtin.append_, u, s, Builtin.lenOf, Builtin.firstCells]
    · simp [Builtin.append_, u, s, Builtin.lenOf, Builtin.firstCells, hc, storeCells]
  | some ad =>
    obtain ⟨i, hi⟩ : ∃ i, Tryz.prog.info? 5 = some i := ⟨_, Tryz.type5⟩
    obtain ⟨v', w', hr, h2, h3, h4, h5⟩ := run_append_own_at (P := Tryz.prog) w w0.heap.size 23 23 5 _ (.int .u8 0) 1 1 Tryz.underlying23 (show Tryz.prog.info? 5 = some _ from Tryz.type5) (by kernel_rfl) (by kernel_rfl) (by kernel_rfl) (by kernel_rfl) (by decide)
      v l.length (l.map (Value.int .u8)) hv ad m c ((rngB m bt).map (Value.int .u8)) (by simp [hlen]) (by
        intro j u hu
        rw [List.getElem?_map] at hu
        obtain ⟨x, hx, rfl⟩ := Option.map_eq_some_iff.1 hu
        have hj : j < m := by have := (List.getElem?_eq_some_iff.1 hx).1; omega
        obtain ⟨b, o, e, _, hc⟩ := hB j hj
        injection e with e
        subst e
        rw [Addr.add_mid, hc]
        have : x = bt j := by
          unfold rngB at hx
          rw [List.getElem?_map, List.getElem?_range hj] at hx
          simpa using hx.symm
        rw [this]) (by simp [Value.oneCell']) (by unfold maxLen; omega) (by omega) (h0.size)
    refine ⟨v', w', hr, ?_, h0.grown h3 (fun k hk => ?_)⟩
    · unfold OwnB
      rw [List.length_append, hlen, List.map_append]
      exact h2
    · rcases hv.2 with ⟨rfl, _⟩ | ⟨g, cap, cur, rfl, hb, r⟩
      · cases hk
      · simp [Value.ownBlock] at hk; omega

/-- At a plain region's list: the append whose answer is known. -/
theorem wpList_app {ops : Array Oper} {rest : List Oper} {o : Oper} {a : Act} {w w' : World} {Q : Exit → Act → World → Prop} {v v' x : Value} (hgd : o.guard = none) (s y : Operand)
    (ho : o.op = .call { callee := .builtin .append, args := #[s, y], argTypes := #[23, 23] }) (hty : o.type = 23) (hs : a.eval s = v) (hx : a.eval y = x)
    (hr : (Builtin.append_ #[23, 23] 23 #[v, x]).run Tryz.prog w = .ok v' w') (h : wpList Tryz.prog ops Q rest (a.put o.dst v') w') : wpList Tryz.prog ops Q (o :: rest) a w := by
  refine wpList_plain hgd fun K hK => ?_
  unfold Oper.wp execOp
  simp only [ho, hty, resolve, invoke, builtin, Sem.run_bind, Sem.run_pure, Result.andThen_ok, List.map_toArray, List.map_cons, List.map_nil, hs, hx, hr]
  exact hK _ _ h

theorem OwnB.byt {w : World} {base : Nat} {v : Value} {l : List Int} (h : OwnB w base v l) (hl : 0 < l.length) : ∃ g cap, v = .slice (some ⟨g, 0, none⟩) l.length cap ∧ BytAt w (some ⟨g, 0, none⟩) l.length (fun j => l.getD j 0) := by
  rcases h.2 with ⟨_, h2⟩ | ⟨g, cap, cur, rfl, hb, hg, hc, hm, hsz, ht⟩
  · omega
  · refine ⟨g, cap, rfl, fun j hj => ⟨g, 0, rfl, heap_lt hg, ?_⟩⟩
    rw [cell_of_row _ _ _ _ _ _ hg, Nat.zero_add]
    have e : (cur.toList.take (l.length * 1))[j]? = (l.map (Value.int .u8))[j]? := by rw [ht]
    rw [List.getElem?_take_of_lt (by omega), List.getElem?_map, List.getElem?_eq_getElem hj] at e
    rw [← Array.getElem?_toList, e]
    show some _ = some (Value.int .u8 (l.getD j 0))
    rw [List.getD_eq_getElem?_getD, List.getElem?_eq_getElem hj]
    rfl

theorem slice_cap {H : Type} {enc : TypeId × Value → H} {w : World} {fuel : Nat} {a : Option Addr} {len cap : Nat} {x : DataW H × List MemPlace} (h : DataW.trod enc Tryz.prog w 0 (fun _ => true) true fuel 23 (Value.slice a len cap).cells.toList = some x) : len ≤ cap := by
  rcases open_ints Tryz.underlying23 Tryz.underlying5 (by kernel_rfl) h with ⟨hcs, _⟩ | ⟨y, l, c, zs, hcs, _, hl, hm, hzl, hx, hcell, hwz⟩
  · simp [Value.cells] at hcs
    omega
  · simp [Value.cells] at hcs
    omega

end Go.Proofs.YtopeccjghamjmaaGreat
