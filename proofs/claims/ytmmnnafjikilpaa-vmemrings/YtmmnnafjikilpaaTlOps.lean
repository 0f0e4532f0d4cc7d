/- The contracts of New, Kept and Flush, and of serves. -/
import Derived.Test.YtmmnnafjikilpaaTlMap
import Derived.Test.YtmmnnafjikilpaaPgFind
import Derived.Laws.MakeOwn
namespace Go.Proofs.Ytmmnnafjikilpaa
open Go.ChangeShapes Go.WideShapes Go.ChangeAt Go.RowKit Go.Maps
set_option linter.unusedVariables false

theorem tlNew_nil (w : World) (p : Int) : Calls Try.prog 30 #[.pointer none, .int .i64 p] w fun e w' => e = .returned (.tuple #[.pointer none, .int .i64 1]) ∧ w' = w := by
  go_enter Try.func30, Try.ntmps30
  go_wp2
  go_ret2
  exact ⟨rfl, rfl⟩

theorem tlNew_no (w : World) (x : Addr) (p : Int) (p0 : -9223372036854775808 ≤ p) (p1 : p ≤ 9223372036854775807) (h : p < 0 ∨ 64 < p) : Calls Try.prog 30 #[.pointer (some x), .int .i64 p] w fun e w' => e = .returned (.tuple #[.pointer none, .int .i64 100]) ∧ w' = w := by
  rcases h with h | h
  · have h' : decide (p < 0) = true := decide_eq_true h
    go_enter Try.func30, Try.ntmps30
    go_wp2
    go_ret2
    exact ⟨rfl, rfl⟩
  · have h' : decide (p < 0) = false := decide_eq_false (by omega)
    have h2 : decide (64 < p) = true := decide_eq_true h
    go_enter Try.func30, Try.ntmps30
    go_wp2
    go_ret2
    exact ⟨rfl, rfl⟩

theorem tlb_start (w : World) (B pl : Nat) (h : pl ≤ 64) : TlbD ((w.alloc (.map #[] 0)).alloc (.cells #[.pointer (some ⟨B + 3, 0, none⟩), .int .i64 pl, .map (some w.heap.size), .int .u64 0] 110)) w.heap.size B pl 0 (.map []) where
  c := by
    have h := (MapKept.heap_alloc (w.alloc (.map #[] 0)) (.cells #[.pointer (some ⟨B + 3, 0, none⟩), .int .i64 pl, .map (some w.heap.size), .int .u64 0] 110)).1
    simpa using h
  m := ((World.ownsMap_made w Try.prog 127 entElem).mono (Nat.zero_le _)).alloc _
  g := Tidied.empty _ _
  lim := h

theorem tlNew_ok (w : World) (B p : Nat) (h : p ≤ 64) : Calls Try.prog 30 #[.pointer (some ⟨B + 3, 0, none⟩), .int .i64 p] w fun e w' => e = .returned (.tuple #[.pointer (some ⟨w.heap.size + 1, 0, none⟩), .int .i64 0]) ∧ TlbD w' w.heap.size B p 0 (.map []) ∧ Kp noB w w' := by
  have h' : decide ((p : Int) < 0) = false := decide_eq_false (by omega)
  have h2 : decide (64 < (p : Int)) = false := decide_eq_false (by omega)
  have hmm := @run_makeMap Try.prog
  have R := tlb_start w B p h
  have k : Kp noB w ((w.alloc (.map #[] 0)).alloc (.cells #[.pointer (some ⟨B + 3, 0, none⟩), .int .i64 p, .map (some w.heap.size), .int .u64 0] 110)) := (Kp.alloc _ _ _).trans (Kp.alloc _ _ _)
  go_enter Try.func30, Try.ntmps30
  go_wp2
  go_ret2
  exact ⟨by simp, R, k⟩

theorem tlFlush_nil (w : World) : Calls Try.prog 44 #[.pointer none] w fun e w' => e = .returned (.tuple #[]) ∧ w' = w := by
  go_enter Try.func44, Try.ntmps44
  go_wp2
  go_end0
  exact ⟨rfl, rfl⟩

theorem run_clearK {w : World} {b : Nat} {es : Array MapEntry} {clock : Nat} (hb : w.heap[b]? = some (.map es clock)) (ty : TypeId) : (Builtin.clear_ #[108] ty #[.map (some b)]).run Try.prog w = .ok (.tuple #[]) (ChangeMaps.setBlock w b (.map #[] clock)) := by
  have hs := MapKept.run_setObj_map (P := Try.prog) (.map #[] clock) hb
  simp [Builtin.clear_, run_underlying keptT, MapKept.run_getObj_map hb, hs, Result.andThen]
  rfl

theorem kp_setBlockK {S : Nat → Prop} {w : World} {b : Nat} {es : Array MapEntry} {clock : Nat} (hb : w.heap[b]? = some (.map es clock)) (o : Obj) (hS : S b) : Kp S w (ChangeMaps.setBlock w b o) :=
  ⟨rfl, rfl, rfl, by simp [ChangeMaps.setBlock], fun k hk hs => ChangeMaps.heap_setBlock_other hb _ (fun e => hs (e ▸ hS))⟩

theorem tlFlush_ok (w : World) (K B pl tn : Nat) (D : DataW Unit) (h : TlbD w K B pl tn D) : Calls Try.prog 44 #[.pointer (some ⟨K + 1, 0, none⟩)] w fun e w' => e = .returned (.tuple #[]) ∧ TlbD w' K B pl tn (.map []) ∧ Kp (inTlb K) w w' := by
  have c2 := h.c2
  obtain ⟨es, clock, hb, hrest⟩ := h.m
  have hcl := run_clearK hb
  have R : TlbD (ChangeMaps.setBlock w K (.map #[] clock)) K B pl tn (.map []) :=
    ⟨(ChangeMaps.heap_setBlock_other hb _ (by omega)).trans h.c, ⟨#[], clock, ChangeMaps.heap_setBlock_same hb _, ⟨by simp, MapKept.stamped_empty clock, by simp⟩, Nat.zero_le _, rfl⟩, Tidied.empty _ _, h.lim⟩
  have hk3 : Kp (inTlb K) w (ChangeMaps.setBlock w K (.map #[] clock)) := kp_setBlockK hb _ (.inl rfl)
  clear hb hrest
  go_enter Try.func44, Try.ntmps44
  go_wp2
  go_end0
  exact ⟨rfl, R, hk3⟩
end Go.Proofs.Ytmmnnafjikilpaa
