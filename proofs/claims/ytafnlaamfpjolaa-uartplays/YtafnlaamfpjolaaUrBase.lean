/- The document's serial port: what it means that a world holds one. -/
import Derived.Test.YtafnlaamfpjolaaUtStr
import Derived.Test.YtafnlaamfpjolaaUtApp
namespace Go.Proofs.Ytafnlaamfpjolaa
open Go.ChangeShapes Go.WideShapes Go.ChangeAt Go.RowKit
set_option linter.unusedVariables false

/-- Bytes that wait in a list, from some place of a block on. -/
inductive CqAt (w : World) : Value → List Int → Prop
  | no : CqAt w (.slice none 0 0) []
  | on (g o cap : Nat) (cur : Array Value) (l : List Int) (hg : w.heap[g]? = some (.cells cur 5 (0, 0))) (hn : l.length ≤ cap) (hc : o + cap ≤ cur.size) (hm : cap ≤ maxLen) (hx : ∀ j, j < l.length → cur[o + j]? = some (.int .u8 (l.getD j 0))) : CqAt w (.slice (some ⟨g, o, none⟩) l.length cap) l

theorem CqAt.kept {S : Nat → Prop} {w w' : World} {v : Value} {l : List Int} (h : CqAt w v l) (k : Kp S w w') (hS : ∀ g, v.ownBlock = some g → ¬ S g) : CqAt w' v l := by
  cases h with
  | no => exact .no
  | on g o cap cur l hg hn hc hm hx => exact .on g o cap cur l (heap_kept hg k (hS g rfl)) hn hc hm hx

theorem CqAt.lt {w : World} {v : Value} {l : List Int} (h : CqAt w v l) {g : Nat} (e : v.ownBlock = some g) : ∃ cur, w.heap[g]? = some (.cells cur 5 (0, 0)) := by
  cases h with
  | no => cases e
  | on g' o cap cur l hg hn hc hm hx =>
    simp only [Value.ownBlock, Option.some.injEq] at e
    subst e
    exact ⟨cur, hg⟩

theorem CqAt.sl {w : World} {v : Value} {l : List Int} (h : CqAt w v l) : ∃ p c, v = .slice p l.length c := by
  cases h with
  | no => exact ⟨_, _, rfl⟩
  | on g o cap cur l hg hn hc hm hx => exact ⟨_, _, rfl⟩

def rC (cq sv : Value) (u : U) : Array Value := #[cq, .bool u.lost, .int .u8 u.d0, .int .u8 u.d1, .int .u8 u.line, .int .u8 u.modem, .int .u8 u.jot, .int .u8 u.want, .bool u.on, .bool u.tell, sv]

structure RAt (w : World) (R : Nat) (cq sv : Value) (u : U) : Prop where
  blk : w.heap[R]? = some (.cells (rC cq sv u) 46 (0, 0))
  chn : CqAt w cq u.came
  snt : OwnB w sv u.sent
  apart : ∀ g, cq.ownBlock = some g → sv.ownBlock ≠ some g

section
variable {w : World} {R : Nat} {cq sv : Value} {u : U}

theorem RAt.kept {S : Nat → Prop} {w' : World} (h : RAt w R cq sv u) (k : Kp S w w') (hB : ¬ S R) (hc : ∀ g, cq.ownBlock = some g → ¬ S g) (hs : ∀ g, sv.ownBlock = some g → ¬ S g) : RAt w' R cq sv u :=
  ⟨heap_kept h.blk k hB, h.chn.kept k hc, h.snt.kept k hs, h.apart⟩

theorem RAt.cell (h : RAt w R cq sv u) {k : Nat} {v : Value} (e : (rC cq sv u)[k]? = some v) : w.cell? ⟨R, k, none⟩ = some v := by
  simp [World.cell?, h.blk, e]

theorem RAt.c0 (h : RAt w R cq sv u) : w.cell? ⟨R, 0, none⟩ = some cq := h.cell rfl
theorem RAt.c1 (h : RAt w R cq sv u) : w.cell? ⟨R, 1, none⟩ = some (.bool u.lost) := h.cell rfl
theorem RAt.c2 (h : RAt w R cq sv u) : w.cell? ⟨R, 2, none⟩ = some (.int .u8 u.d0) := h.cell rfl
theorem RAt.c3 (h : RAt w R cq sv u) : w.cell? ⟨R, 3, none⟩ = some (.int .u8 u.d1) := h.cell rfl
theorem RAt.c4 (h : RAt w R cq sv u) : w.cell? ⟨R, 4, none⟩ = some (.int .u8 u.line) := h.cell rfl
theorem RAt.c5 (h : RAt w R cq sv u) : w.cell? ⟨R, 5, none⟩ = some (.int .u8 u.modem) := h.cell rfl
theorem RAt.c6 (h : RAt w R cq sv u) : w.cell? ⟨R, 6, none⟩ = some (.int .u8 u.jot) := h.cell rfl
theorem RAt.c7 (h : RAt w R cq sv u) : w.cell? ⟨R, 7, none⟩ = some (.int .u8 u.want) := h.cell rfl
theorem RAt.c8 (h : RAt w R cq sv u) : w.cell? ⟨R, 8, none⟩ = some (.bool u.on) := h.cell rfl
theorem RAt.c9 (h : RAt w R cq sv u) : w.cell? ⟨R, 9, none⟩ = some (.bool u.tell) := h.cell rfl
theorem RAt.c10 (h : RAt w R cq sv u) : w.cell? ⟨R, 10, none⟩ = some sv := h.cell rfl
theorem RAt.fz (h : RAt w R cq sv u) (j : Nat) : w.frozen? ⟨R, j, none⟩ = false := by simp [World.frozen?, h.blk]
theorem RAt.lt (h : RAt w R cq sv u) : R < w.heap.size := heap_lt h.blk

theorem off_row {w : World} {cs : Array Value} (hb : w.heap[R]? = some (.cells cs 46 (0, 0))) {g : Nat} (h : ∃ cur, w.heap[g]? = some (.cells cur 5 (0, 0))) : ¬ isB R g := by
  rintro (rfl : g = R)
  obtain ⟨cur, hc⟩ := h
  rw [hb] at hc
  simp at hc

theorem RAt.put (h : RAt w R cq sv u) {k : Nat} {v : Value} (cq' sv' : Value) (u' : U) (e : (rC cq sv u).setIfInBounds k v = rC cq' sv' u') (hc : CqAt w cq' u'.came) (hs : OwnB w sv' u'.sent) (ha : ∀ g, cq'.ownBlock = some g → sv'.ownBlock ≠ some g) : RAt (w.setCell ⟨R, k, none⟩ v) R cq' sv' u' := by
  have hk := kpB R w k v
  exact ⟨by rw [heap_set h.blk, e], hc.kept hk (fun g eg => off_row h.blk (hc.lt eg)), hs.kept hk (fun g eg => off_row h.blk (hs.lt eg)), ha⟩

theorem RAt.set (h : RAt w R cq sv u) {k : Nat} {v : Value} (u' : U) (e : (rC cq sv u).setIfInBounds k v = rC cq sv u') (hc : u'.came = u.came) (hs : u'.sent = u.sent) : RAt (w.setCell ⟨R, k, none⟩ v) R cq sv u' :=
  h.put cq sv u' e (hc ▸ h.chn) (hs ▸ h.snt) h.apart
end

/-- The blocks that it owns. -/
def rfoot (R : Nat) (cq sv : Value) (k : Nat) : Prop := k = R ∨ cq.ownBlock = some k ∨ sv.ownBlock = some k

structure RW (w : World) (S : Nat → Prop) (R : Nat) (u : U) : Prop where
  ex : ∃ cq sv, RAt w R cq sv u ∧ ∀ k, rfoot R cq sv k → S k
  lt : ∀ k, S k → k < w.heap.size

theorem RW.kept {w w' : World} {S T : Nat → Prop} {R : Nat} {u : U} (h : RW w S R u) (k : Kp T w w') (hS : ∀ k, S k → ¬ T k) : RW w' S R u := by
  obtain ⟨cv, sv, h1, h2⟩ := h.ex
  exact ⟨⟨cv, sv, h1.kept k (hS _ (h2 _ (.inl rfl))) (fun c e => hS _ (h2 _ (.inr (.inl e)))) (fun g e => hS _ (h2 _ (.inr (.inr e)))), h2⟩, fun j hj => Nat.lt_of_lt_of_le (h.lt j hj) k.size⟩

theorem kp_row (w : World) (g : Nat) (row : Array Value) : Kp (isB g) w (w.setRow g row) := ⟨rfl, rfl, rfl, by simp, fun k hk hs => setRow_other w g k _ (fun e => hs e)⟩

/-- A byte behind those that wait. -/
theorem appQ {w : World} {v : Value} {l : List Int} (h : CqAt w v l) (b : Int) (hl : l.length < 16) :
    ∃ v' w', (Builtin.append_ #[35, 35] 35 #[v, .slice (some ⟨w.heap.size, 0, none⟩) 1 1]).run Try.prog (wB w b) = .ok v' w' ∧ CqAt w' v' (l ++ [b]) ∧ Kp (isO v) w w' ∧ (∀ g, v'.ownBlock = some g → v.ownBlock = some g ∨ w.heap.size ≤ g) := by
  have hnew : ∀ j x, [Value.int .u8 b][j]? = some x → (wB w b).cell? ((⟨w.heap.size, 0, none⟩ : Addr).add j) = some x := cell_one_new w (.int .u8 b) 5
  have one : ∀ x ∈ [Value.int .u8 b], x.oneCell' = true := by simp [Value.oneCell']
  cases h with
  | no =>
    obtain ⟨v', w', hr, h2, h3, h4⟩ := appB (OwnB.nil w) b (by decide)
    refine ⟨v', w', hr, ?_, h3, h4⟩
    rcases h2.2 with ⟨e, h2'⟩ | ⟨g, cap, cur, rfl, hb, hg, hc, hm, hsz, ht⟩
    · simp at h2'
    · refine .on g 0 cap cur _ hg hc (by omega) hm (fun j hj => ?_)
      obtain ⟨g', e, hcell, _⟩ := h2.at hj
      injection e with e
      injection e with e
      subst e
      rw [cell_of_row _ _ _ _ _ _ hg] at hcell
      rw [Nat.zero_add]
      exact hcell
  | on g o cap cur l hg hn hc hm hx =>
    have hgB : (wB w b).heap[g]? = some (.cells cur 5 (0, 0)) := heap_kept hg (Kp.alloc noB _ _) id
    obtain ⟨i, hi, hi1, hi2⟩ : ∃ i, Try.prog.info? 5 = some i ∧ i.size = 1 ∧ i.bytes = 1 ∧ i.zero = some (.int .u8 0) := ⟨_, show Try.prog.info? 5 = some _ from Try.type5, by kernel_rfl, by kernel_rfl, by kernel_rfl⟩
    obtain ⟨hi2, hi3⟩ := hi2
    by_cases hroom : l.length + 1 ≤ cap
    · have hf := run_firstCells_some (P := Try.prog) (wB w b) i.size 1 ⟨w.heap.size, 0, none⟩ 1 1 [.int .u8 b] (by simp [hi1]) hnew
      have hst := run_storeCells_at Try.prog g (o + l.length) 5 [.int .u8 b] 0 cur (wB w b) hgB (by simp; omega) one
      simp only [Nat.add_zero] at hst
      rw [hi1] at hf
      refine ⟨.slice (some ⟨g, o, none⟩) (l.length + 1) cap, (wB w b).setRow g (cur.toList.take (o + l.length) ++ [Value.int .u8 b] ++ cur.toList.drop (o + l.length + 1)).toArray, ?_, ?_, ?_, ?_⟩
      · have ea : (⟨g, o, none⟩ : Addr).add l.length = ⟨g, o + l.length, none⟩ := add_plain _ _ _
        simp [Builtin.append_, run_underlying Try.underlying35, sizeOf, typeInfo, hi, Builtin.lenOf, hroom, hf, hi1, ea, hst]
      · have := CqAt.on (w := (wB w b).setRow g (cur.toList.take (o + l.length) ++ [Value.int .u8 b] ++ cur.toList.drop (o + l.length + 1)).toArray) g o cap (cur.toList.take (o + l.length) ++ [Value.int .u8 b] ++ cur.toList.drop (o + l.length + 1)).toArray (l ++ [b]) (setRow_heap _ g cur _ _ _ hgB) (by simp; omega) (by simp; omega) hm (fun j hj => ?_)
        · simpa using this
        · rw [List.length_append, List.length_singleton] at hj
          rcases (by omega : j < l.length ∨ j = l.length) with g1 | rfl
          · have := hx j g1
            rw [List.getElem?_toArray, List.append_assoc, List.getElem?_append_left (by simp; omega), List.getElem?_take_of_lt (by omega), Array.getElem?_toList, this]
            simp [List.getD_eq_getElem?_getD, List.getElem?_append_left g1]
          · rw [List.getElem?_toArray, List.append_assoc, List.getElem?_append_right (by simp; omega)]
            have e : o + l.length - (List.take (o + l.length) cur.toList).length = 0 := by simp; omega
            rw [e]
            simp [List.getD_eq_getElem?_getD]
      · exact (Kp.alloc _ _ _).trans ((kp_row _ g _).mono fun k _ (e : k = g) => by rw [e]; rfl)
      · intro k e
        exact .inl e
    · have ha : ∀ j x, (l.map (Value.int .u8))[j]? = some x → (wB w b).cell? ((⟨g, o, none⟩ : Addr).add j) = some x := fun j x hj => by
        rw [List.getElem?_map] at hj
        obtain ⟨y, hy, rfl⟩ := Option.map_eq_some_iff.1 hj
        have hjl : j < l.length := (List.getElem?_eq_some_iff.1 hy).1
        rw [add_plain, cell_of_row _ _ _ _ _ _ hgB, hx j hjl, List.getD_eq_getElem?_getD, hy]
        rfl
      have hr := run_append_grow (P := Try.prog) (wB w b) 35 35 5 i (.int .u8 0) Try.underlying35 hi hi3 ⟨g, o, none⟩ l.length cap (l.map (Value.int .u8)) (by simp [hi1]) ha ⟨w.heap.size, 0, none⟩ 1 1 [.int .u8 b] (by simp [hi1]) hnew (by omega) (by omega) (growslice_fits (by omega) (by rw [hi2]; omega))
      have hge := grownCap_ge (wB w b) (l.length + 1) cap 5
      have hcm := grownCap_le_maxLen (wB w b) (l.length + 1) cap 5 (by unfold maxLen; omega)
      refine ⟨_, _, hr, ?_, (Kp.alloc _ _ _).trans ((Kp.refl _ _).drew.trans (Kp.alloc _ _ _)), ?_⟩
      · have := CqAt.on (w := (wB w b).drew.alloc (.cells ((l.map (Value.int .u8)).toArray ++ [Value.int .u8 b].toArray ++ Builtin.zeroCells (Value.int .u8 0).cells (grownCap (wB w b) (l.length + 1) cap 5 - (l.length + 1))) 5)) (wB w b).heap.size 0 (grownCap (wB w b) (l.length + 1) cap 5) _ (l ++ [b]) (heap_alloc_new (wB w b).drew _) (by simp; omega) (by simp [size_zeroCells, Value.cells]; omega) hcm (fun j hj => ?_)
        · simpa using this
        · rw [Nat.zero_add]
          rw [List.length_append, List.length_singleton] at hj
          have e1 : (l.map (Value.int .u8)).toArray ++ [Value.int .u8 b].toArray = ((l ++ [b]).map (Value.int .u8)).toArray := by simp
          rw [e1, Array.getElem?_append_left (by simp; omega), List.getElem?_toArray, List.getElem?_map, List.getD_eq_getElem?_getD, List.getElem?_eq_getElem (by simp; omega)]
          rfl
      · intro k e
        right
        simp only [Value.ownBlock, Option.some.injEq] at e
        subst e
        simp [wB]
end Go.Proofs.Ytafnlaamfpjolaa
