/- The contract of Written, over whatever contract of slices.Sort. -/
import Derived.Test.YtankfdcpnhociaaRamSort1
namespace Go.Proofs.Ytankfdcpnhociaa
open Go.ChangeShapes Go.WideShapes Go.ChangeAt Go.RowKit Go.Maps Go.Shelf
set_option linter.unusedVariables false

/-- A slice of numbers in a block of its own, from the block base on; of none: nil. -/
def Nums (w : World) (base : Nat) (v : Value) (ts : List Int) : Prop :=
  (ts = [] ∧ v = .slice none 0 0) ∨ (ts ≠ [] ∧ ∃ blk cap cur, v = .slice (some ⟨blk, 0, none⟩) ts.length cap ∧ base ≤ blk ∧ w.heap[blk]? = some (.cells cur 32 (0, 0)) ∧ ts.length ≤ cap ∧ cur.size = cap ∧ ∀ j, j < ts.length → cur[j]? = some (.int .u32 (ts.getD j 0)))

/-- slices.Sort sorts the lists of which Q holds. -/
def Sorts (Q : List Int → Prop) : Prop := ∀ (w : World) (blk cap : Nat) (cur : Array Value) (ss : List Int), ss ≠ [] → ss.length ≤ 16384 → (∀ x ∈ ss, 0 ≤ x ∧ x < 4294967296) → Q ss → w.heap[blk]? = some (.cells cur 32 (0, 0)) → ss.length ≤ cap → cur.size = cap → (∀ j, j < ss.length → cur[j]? = some (.int .u32 (ss.getD j 0))) →
  Calls Try.prog 42 #[.slice (some ⟨blk, 0, none⟩) ss.length cap] w fun e w' => e = .returned (.tuple #[]) ∧ Kp (fun j => j = blk) w w' ∧
    ∃ (ts : List Int) (cur' : Array Value), ts.Perm ss ∧ ts.Pairwise (· ≤ ·) ∧ w'.heap[blk]? = some (.cells cur' 32 (0, 0)) ∧ cur'.size = cap ∧ ∀ j, j < ts.length → cur'[j]? = some (.int .u32 (ts.getD j 0))

theorem sorts_one : Sorts (fun ss => ss.length ≤ 1) := by
  intro w blk cap cur ss hne hl hb hQ hh hc hs hcell
  refine (sort_few w (some ⟨blk, 0, none⟩) ss.length cap hQ).mono ?_
  rintro e w' ⟨rfl, rfl⟩
  refine ⟨rfl, Kp.refl _ _, ss, cur, List.Perm.refl _, ?_, hh, hs, hcell⟩
  match ss, hQ with
  | [], _ => exact List.Pairwise.nil
  | [a], _ => simp

theorem owns_cells {w : World} {base : Nat} {v : Value} {ss : List Int} (h : w.ownsRow base 32 1 v ss.length (ss.map (Value.int .u32))) (hn : v = .slice none 0 0 ↔ ss = []) : Nums w base v ss := by
  rcases h.2 with ⟨h1, h2⟩ | ⟨g, cap, cur, h1, hbase, hg, r1, r2, r3, r4⟩
  · exact .inl ⟨hn.1 h1, h1⟩
  · refine .inr ⟨fun e => ?_, g, cap, cur, h1, hbase, hg, r1, by simpa using r3, fun j hj => ?_⟩
    · have := hn.2 e; rw [h1] at this; cases this
    · rw [← Array.getElem?_toList]
      have e : (cur.toList.take (ss.length * 1))[j]? = (ss.map (Value.int .u32))[j]? := by rw [r4]
      rw [List.getElem?_take_of_lt (by omega)] at e
      rw [e, List.getElem?_map, List.getElem?_eq_getElem hj]
      simp [hj]

theorem Nums.kp {S : Nat → Prop} {w w' : World} {base : Nat} {v : Value} {ts : List Int} (h : Nums w base v ts) (hk : Kp S w w') (hS : ∀ k, base ≤ k → ¬ S k) : Nums w' base v ts := by
  rcases h with h | ⟨h1, blk, cap, cur, h2, h3, h4, h5⟩
  · exact .inl h
  · exact .inr ⟨h1, blk, cap, cur, h2, h3, (hk.block blk (Array.getElem?_eq_some_iff.1 h4).1 (hS _ h3)).trans h4, h5⟩

theorem Nums.mono {w : World} {base b' : Nat} {v : Value} {ts : List Int} (h : Nums w base v ts) (hb : b' ≤ base) : Nums w b' v ts := by
  rcases h with h | ⟨h1, blk, cap, cur, h2, h3, h4⟩
  · exact .inl h
  · exact .inr ⟨h1, blk, cap, cur, h2, by omega, h4⟩

set_option maxHeartbeats 1000000 in
theorem sorted_any {Q : List Int → Prop} (hQ : Sorts Q) (Bm b m : Nat) (D : DataW Unit) (w : World) (hBm : Bm < w.heap.size) (hm : w.cell? ⟨Bm, 0, none⟩ = some (.map (some b))) (hown : w.ownsMap Try.prog 32 unitElem b m D) (hsz : Maps.size D ≤ 16384)
    (hb : ∀ x : Int, Maps.has D (.int .u32 x) = true → 0 ≤ x ∧ x < 4294967296) (hq : ∀ ss : List Int, ss.Nodup → (∀ x : Int, x ∈ ss ↔ Maps.has D (.int .u32 x) = true) → Q ss) :
    Calls Try.prog 31 #[.func (.func 43) #[] #[.pointer (some ⟨Bm, 0, none⟩)]] w fun e W' => ∃ (v : Value) (ts : List Int), e = .returned v ∧ ts.Nodup ∧ (∀ x : Int, x ∈ ts ↔ Maps.has D (.int .u32 x) = true) ∧ ts.Pairwise (· ≤ ·) ∧ Nums W' w.heap.size v ts ∧ Kp noB w W' := by
  have c := collect_any Bm b m D w hBm hm hown hsz
  go_enter Try.func31, Try.ntmps31
  go_wp2_with fail
  refine c.mono ?_; rintro e W ⟨v, ss, rfl, ⟨hnd, hS⟩, hl, hrow, hnil, hbl⟩
  have hN := owns_cells hrow hnil
  have hk : Kp noB w W := Kp.ofBelow hbl (fun k h1 h2 => by omega)
  rcases hN with ⟨rfl, rfl⟩ | ⟨hne, blk, cap, cur, rfl, hbase, hh, h5, h6, h7⟩
  · have cs := sort_few W none 0 0 (by omega)
    go_wp2_with fail
    refine cs.mono ?_; rintro e w' ⟨rfl, hw⟩; replace hw := hw.symm; subst hw
    go_wp2
    go_ret
    exact ⟨_, [], rfl, List.nodup_nil, hS, List.Pairwise.nil, .inl ⟨rfl, rfl⟩, hk⟩
  · have cs := hQ W blk cap cur ss hne hl (fun x hx => hb x ((hS x).1 hx)) (hq ss hnd hS) hh h5 h6 h7
    go_wp2_with fail
    refine cs.mono ?_; rintro e w' ⟨rfl, hk2, ts, cur', hp, hpw, hh', h6', h7'⟩
    have hle := hp.length_eq
    go_wp2
    go_ret
    refine ⟨_, ts, rfl, hp.nodup_iff.2 hnd, fun x => by rw [hp.mem_iff]; exact hS x, hpw, .inr ⟨fun e => hne ?_, blk, cap, cur', by rw [hle]; rfl, hbase, hh', by omega, h6', h7'⟩, hk.over hk2 (fun j hj e => by omega)⟩
    rw [e] at hp
    exact hp.symm.eq_nil

/-- Nothing is noted any more. -/
def Mem.asked (M : Mem) : Mem := { M with nt := fun _ => false }

theorem run_clear {w : World} {b : Nat} {es : Array MapEntry} {clock : Nat} (hb : w.heap[b]? = some (.map es clock)) (ty : TypeId) : (Builtin.clear_ #[59] ty #[.map (some b)]).run Try.prog w = .ok (.tuple #[]) (ChangeMaps.setBlock w b (.map #[] clock)) := by
  have hs := MapKept.run_setObj_map (P := Try.prog) (.map #[] clock) hb
  simp [Builtin.clear_, run_underlying setT, MapKept.run_getObj_map hb, hs, Result.andThen]
  rfl

theorem ram_clear {w : World} {B : Nat} {M : Mem} (h : RamAt w B M) {es : Array MapEntry} {clock : Nat} (hb : w.heap[B + 2]? = some (.map es clock)) : RamAt (ChangeMaps.setBlock w (B + 2) (.map #[] clock)) B M.asked := by
  have hold : ∀ j, inRam B M.n j → j ≠ B + 2 → (ChangeMaps.setBlock w (B + 2) (.map #[] clock)).heap[j]? = w.heap[j]? := fun j hj hne => ChangeMaps.heap_setBlock_other hb _ hne
  exact {
    le := h.le
    r := (hold _ ⟨by omega, by omega⟩ (by omega)).trans h.r
    p := by obtain ⟨D', h1, h2⟩ := h.p; exact ⟨D', owns_at h1 (hold _ ⟨by omega, by omega⟩ (by omega)), h2⟩
    pg := fun i hi => by obtain ⟨cs, h1, h2⟩ := h.pg i hi; exact ⟨cs, (hold _ ⟨by omega, by have : i < M.n := hi; omega⟩ (by omega)).trans h1, h2⟩
    wm := by obtain ⟨D', h1, h2⟩ := h.wm; exact ⟨D', owns_at h1 (hold _ ⟨by omega, by omega⟩ (by omega)), h2⟩
    nm := ⟨.map [], ⟨#[], clock, ChangeMaps.heap_setBlock_same hb _, ⟨by simp, MapKept.stamped_empty clock, by simp⟩, Nat.zero_le _, rfl⟩, fun _ => rfl⟩
    wb := h.wb
    nb := fun x hx => by cases hx
    bb := h.bb }

theorem kp_setBlock {S : Nat → Prop} {w : World} {b : Nat} {es : Array MapEntry} {clock : Nat} (hb : w.heap[b]? = some (.map es clock)) (o : Obj) (hS : S b) : Kp S w (ChangeMaps.setBlock w b o) :=
  ⟨rfl, rfl, rfl, by simp [ChangeMaps.setBlock], fun k hk hs => ChangeMaps.heap_setBlock_other hb _ (fun e => hs (e ▸ hS))⟩

set_option maxHeartbeats 1000000 in
theorem written_ok {Q : List Int → Prop} (hQ : Sorts Q) (w : World) (B : Nat) (M : Mem) (h : RamAt w B M) (hq : ∀ ss : List Int, ss.Nodup → (∀ x : Int, x ∈ ss ↔ M.nt x = true) → Q ss) :
    Calls Try.prog 14 #[.pointer (some ⟨B + 3, 0, none⟩)] w fun e w' => ∃ (v : Value) (ts : List Int), e = .returned v ∧ ts.Nodup ∧ (∀ x : Int, x ∈ ts ↔ M.nt x = true) ∧ ts.Pairwise (· ≤ ·) ∧ Nums w' w.heap.size v ts ∧ RamAt w' B M.asked ∧ Kp (inRam B M.n) w w' := by
  have hle := h.le
  have c3 := h.c3
  have cK := keys_any (some (B + 2)) w
  obtain ⟨D, hown, hD⟩ := h.nm
  have hown1 := hown.alloc (.cells #[.map (some (B + 2))] 59)
  have hsz := set_size hown _ hD (fun x hx => by have := h.nb x hx; omega)
  have cS := sorted_any hQ w.heap.size (B + 2) 16384 D (w.alloc (.cells #[.map (some (B + 2))] 59)) (by simp) (Boxed.new w _ _).cell hown1 hsz (fun x hx => by rw [hD] at hx; have := h.nb x hx; omega) (fun ss h1 h2 => hq ss h1 (fun x => by rw [h2, hD]))
  have hr1 := h.alloc (.cells #[.map (some (B + 2))] 59)
  have hk1 : Kp noB w (w.alloc (.cells #[.map (some (B + 2))] 59)) := Kp.alloc _ _ _
  clear hown hown1 hsz
  go_enter Try.func14, Try.ntmps14
  go_wp2_with fail
  refine cK.mono ?_; rintro e w1 ⟨rfl, rfl⟩
  go_wp2_with fail
  refine cS.mono ?_; rintro e w2 ⟨v, ts, rfl, hnd, hS, hpw, hN, hk2⟩
  have hr2 : RamAt w2 B M := hr1.kp hk2 (fun _ _ f => f)
  have c3' := hr2.c3
  obtain ⟨D2, ⟨es, clock, hb2, hrest⟩, hD2⟩ := hr2.nm
  have hcl := run_clear hb2
  have R := ram_clear hr2 hb2
  have hk3 : Kp (inRam B M.n) w2 (ChangeMaps.setBlock w2 (B + 2) (.map #[] clock)) := kp_setBlock hb2 _ ⟨by omega, by omega⟩
  have hlt := h.lt
  have hN3 : Nums (ChangeMaps.setBlock w2 (B + 2) (.map #[] clock)) w.heap.size v ts := (hN.mono (by simp)).kp hk3 (fun k hk hi => by have := hi.2; omega)
  have hk4 : Kp (inRam B M.n) w (ChangeMaps.setBlock w2 (B + 2) (.map #[] clock)) := ((hk1.trans hk2).mono (fun _ _ f => f.elim)).trans hk3
  clear hk1 hk2 hk3 hr2 hr1 hb2 hrest hN
  go_wp2
  go_ret
  exact ⟨v, ts, rfl, hnd, fun x => by rw [hS, hD], hpw, hN3, R, hk4⟩
end Go.Proofs.Ytankfdcpnhociaa
