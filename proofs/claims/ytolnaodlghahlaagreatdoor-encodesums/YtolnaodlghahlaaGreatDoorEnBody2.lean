/- The contract of encode.bodiesOf, whatever the forms are. -/
import Derived.Test.YtolnaodlghahlaaGreatDoorEnBody
import Derived.Test.YtolnaodlghahlaaGreatDoorEnMeans
namespace Go.Proofs.YtolnaodlghahlaaGreatDoor
open Go.ChangeShapes Go.WideShapes Go.ChangeAt Go.RowKit
set_option linter.unusedVariables false
set_option maxRecDepth 20000

def accB (fs : List Fm) (i : Nat) : List (List Int) := (fs.take i).flatMap bodF

theorem accB_succ {fs : List Fm} {i : Nat} {f : Fm} (h : fs[i]? = some f) : accB fs (i + 1) = accB fs i ++ bodF f := by
  unfold accB
  rw [List.take_add_one, h]
  simp

theorem bodF_one (f : Fm) : bodF f = [] ∨ ∃ b, bodF f = [b] := by
  unfold bodF
  split
  · exact .inr ⟨_, rfl⟩
  · split
    · exact .inr ⟨_, rfl⟩
    · exact .inl rfl

theorem accB_len (fs : List Fm) : ∀ i, (accB fs i).length ≤ i := by
  intro i
  induction i with
  | zero => simp [accB]
  | succ n ih =>
    cases h : fs[n]? with
    | none =>
      have : accB fs (n + 1) = accB fs n := by unfold accB; rw [List.take_add_one, h]; simp
      rw [this]; omega
    | some f =>
      rw [accB_succ h, List.length_append]
      have : (bodF f).length ≤ 1 := by rcases bodF_one f with e | ⟨b, e⟩ <;> rw [e] <;> simp
      omega

theorem BSl.one {W : World} {u : Value} {b : List Int} (h : BSl W u b) : u.oneCell' = true := by
  obtain ⟨p, c, rfl, _⟩ := h
  rfl

theorem RowB.add {W W' : World} {base : Nat} {v v' : Value} {us news : List Value} {L M : List (List Int)} (h : RowB W base v us L) (hg : W.grownBy W' v.ownBlock) (ho : W'.ownsRow base 23 1 v' (us.length + news.length) (us ++ news)) (hl : news.length = M.length) (hb : ∀ (j : Nat) (b : List Int), M[j]? = some b → ∃ u, news[j]? = some u ∧ BSl W u b) : RowB W' base v' (us ++ news) (L ++ M) := by
  refine ⟨by rw [List.length_append]; exact ho, by rw [List.length_append, List.length_append, h.len, hl], fun j b hj => ?_⟩
  by_cases hlt : j < L.length
  · rw [List.getElem?_append_left hlt] at hj
    obtain ⟨u, hu, hB⟩ := h.bsl j b hj
    exact ⟨u, by rw [List.getElem?_append_left (by rw [h.len]; exact hlt)]; exact hu, hB.grown h.own hg⟩
  · rw [List.getElem?_append_right (by omega)] at hj
    obtain ⟨u, hu, hB⟩ := hb _ b hj
    exact ⟨u, by rw [List.getElem?_append_right (by rw [h.len]; omega), h.len]; exact hu, hB.grown h.own hg⟩

/-- A slice whose block is new. -/
def Fr (base : Nat) (v : Value) : Prop := ∀ a l c, v = .slice (some a) l c → base ≤ a.block

theorem RowB.fr {W : World} {base : Nat} {v : Value} {us : List Value} {L : List (List Int)} (h : RowB W base v us L) : Fr base v := by
  intro a l c e
  obtain ⟨⟨h0, h1⟩, hl, hb⟩ := h
  rcases h1 with ⟨h1, _⟩ | ⟨g, cap, cur, e', hg, r⟩
  · rw [h1] at e; cases e
  · rw [e'] at e
    injection e with e _ _
    injection e with e
    subst e
    exact hg

theorem RowB.kp {W W' : World} {base : Nat} {v : Value} {us : List Value} {L : List (List Int)} (h : RowB W base v us L) (k : Kp noB W W') : RowB W' base v us L := by
  obtain ⟨⟨h0, h1⟩, hl, hb⟩ := h
  refine ⟨⟨h0, ?_⟩, hl, fun j b hj => ?_⟩
  · rcases h1 with h1 | ⟨g, cap, cur, e, hg, hh, r⟩
    · exact .inl h1
    · exact .inr ⟨g, cap, cur, e, hg, heap_kept hh k id, r⟩
  · obtain ⟨u, hu, hB⟩ := hb j b hj
    exact ⟨u, hu, hB.kp k⟩

set_option maxRecDepth 100000 in
set_option maxHeartbeats 4000000 in
theorem bodiesOf_ok (w : World) (x : Ins) (fs : List Fm) (hlen : fs.length ≤ 64) (ok : ∀ f ∈ fs, OkF f) (HF : ∀ W, Calls Tryz.prog 57 #[.agg (insV x)] W fun e w' => ∃ v, e = .returned v ∧ FS w' v fs ∧ Kp noB W w') :
    Calls Tryz.prog 33 #[.agg (insV x)] w fun e w' => ∃ v, e = .returned v ∧ BB w' v (fs.flatMap bodF) ∧ Fr w.heap.size v ∧ Kp noB w w' := by
  obtain ⟨T, nI, Z, fsI, psI, h⟩ := vlF
  have H : Hid _ := h
  obtain ⟨vl, vs, vb, va, ve⟩ := h.ops
  have vx := h.box
  have v1 := h.agg
  have v2 := h.size
  have v3 := h.zero
  have v4 := h.under
  have v5 := h.map
  have v7 := h.zs
  have v8 := h.zn
  have s0 := h.v.cells x
  have hqx := (MapKept.heap_alloc w (.cells (insV x) T)).1
  have l0 := h.get hqx
  have K1 : Hid (Kp noB w (w.alloc (.cells (insV x) T))) := Kp.alloc _ _ _
  have HFF : Hid _ := HF (w.alloc (.cells (insV x) T))
  have HOk : Hid (∀ f ∈ fs, OkF f) := ok
  clear h HF ok hqx
  go_enter Tryz.func33, Tryz.ntmps33
  simp only [vl, vx]
  clear vl vs vb va ve vx
  go_wp2_with fail
  refine Calls.mono HFF.out ?_; rintro e w1 ⟨v0, rfl, hFS, k1⟩
  have K2 : Hid (Kp noB w w1) := K1.out.trans k1
  obtain ⟨p, c, rfl, hcase⟩ := hFS
  obtain ⟨i1, hi1, hz0, hz1, hz2⟩ := sliceI_parts
  clear l0 HFF k1 v1 v2 v3 v4 v5 v7 v8 s0
  go_wp2_with fail
  go_loopw [3, 9] (fun s3 s9 wr => ∃ (i : Nat) (us : List Value), s9 = .int .i64 i ∧ i ≤ fs.length ∧ RowB wr w1.heap.size s3 us (accB fs i) ∧ Kp noB w1 wr) (fun _ s9 _ => ((fs.length : Int) - intOf s9).toNat)
  case atStart => exact ⟨0, [], rfl, Nat.zero_le _, ⟨World.ownsRow_nil _ _ _ _, rfl, fun j b hj => by simp [accB] at hj⟩, Kp.refl _ _⟩
  case round =>
    obtain ⟨i, us, rfl, hi, hrow, kr⟩ := hrel
    by_cases hlt : i < fs.length
    · obtain ⟨f, hf⟩ : ∃ f, fs[i]? = some f := ⟨_, List.getElem?_eq_getElem hlt⟩
      have hok := HOk.out f (List.mem_of_getElem? hf)
      obtain ⟨g, o, rfl, hg, hall⟩ : ∃ g o, p = some ⟨g, o, none⟩ ∧ g < w1.heap.size ∧ ∀ j f, fs[j]? = some f → FmAt w1 g (o + j * 13) f := by
        rcases hcase with ⟨_, e, _⟩ | h
        · rw [e] at hlt; simp at hlt
        · exact h
      clear hcase
      obtain ⟨p0, l0, k0, hb0, hcl⟩ := (hall i f hf).kp kr hg
      clear hall
      have d0 : wr.cell? ⟨g, o + i * 13, none⟩ = some (.int .i64 f.code) := hcl 0 _ rfl
      have d1 : wr.cell? ⟨g, o + i * 13 + 1, none⟩ = some (.bool f.md) := hcl 1 _ rfl
      have d2 : wr.cell? ⟨g, o + i * 13 + 2, none⟩ = some (.int .i64 f.n) := hcl 2 _ rfl
      have d3 : wr.cell? ⟨g, o + i * 13 + 3, none⟩ = some (.int .i64 f.o.kind) := hcl 3 _ rfl
      have d4 : wr.cell? ⟨g, o + i * 13 + 4, none⟩ = some (.int .i64 f.o.reg) := hcl 4 _ rfl
      have d5 : wr.cell? ⟨g, o + i * 13 + 5, none⟩ = some (.int .i64 f.o.size) := hcl 5 _ rfl
      have d6 : wr.cell? ⟨g, o + i * 13 + 6, none⟩ = some (.int .i64 f.o.seg) := hcl 6 _ rfl
      have d7 : wr.cell? ⟨g, o + i * 13 + 7, none⟩ = some (.int .i64 f.o.base) := hcl 7 _ rfl
      have d8 : wr.cell? ⟨g, o + i * 13 + 8, none⟩ = some (.int .i64 f.o.index) := hcl 8 _ rfl
      have d9 : wr.cell? ⟨g, o + i * 13 + 9, none⟩ = some (.int .i64 f.o.scale) := hcl 9 _ rfl
      have d10 : wr.cell? ⟨g, o + i * 13 + 10, none⟩ = some (.int .u32 f.o.disp) := hcl 10 _ rfl
      have d11 : wr.cell? ⟨g, o + i * 13 + 11, none⟩ = some (.int .u32 f.o.imm) := hcl 11 _ rfl
      have d12 : wr.cell? ⟨g, o + i * 13 + 12, none⟩ = some (.slice p0 l0 k0) := hcl 12 _ rfl
      have HB0 : Hid (BSl wr (.slice p0 l0 k0) f.b) := hb0
      have HRow : Hid _ := hrow
      have HKr : Hid _ := kr
      have HOkf : Hid (OkF f) := hok
      have HS : Hid (accB fs (i + 1) = accB fs i ++ bodF f) := accB_succ hf
      have HL : Hid ((accB fs i).length ≤ i) := accB_len fs i
      have hi64 : i < 64 := by omega
      have g1 : (i : Int) < (fs.length : Int) := by omega
      clear hcl hb0 hrow kr hok hf hg
      obtain ⟨N, hN⟩ : ∃ N, N = fs.length := ⟨_, rfl⟩
      have HN : Hid (N = fs.length) := hN
      rw [← hN] at g1 hlt hi hlen ⊢
      clear hN
      go_wp2_with fail
      have HC := bodies_any (wr.alloc (.cells (formV f.code f.md f.n f.o (.slice p0 l0 k0)) 77)) f p0 l0 k0 (HB0.out.kp (Kp.alloc _ _ _)) HOkf.out
      refine Calls.mono HC ?_; rintro e w2 ⟨v2, rfl, hBB, k2⟩
      have k3 : Kp noB wr w2 := (Kp.alloc _ _ _).trans k2
      have hrow := HRow.out.kp k3
      have kk := HKr.out.trans k3
      have hsz : w1.heap.size ≤ w2.heap.size := kk.size
      have hul : us.length ≤ 64 := by have := hrow.len; have := HL.out; omega
      have HRow2 : Hid _ := hrow
      have HKK : Hid _ := kk
      have ho := hrow.own
      clear HC k2 k3 hrow kk HRow HKr HB0 d0 d1 d2 d3 d4 d5 d6 d7 d8 d9 d10 d11 d12
      obtain ⟨p2, c2, rfl, hcase2⟩ := hBB
      rcases hcase2 with ⟨rfl, hnil, rfl⟩ | ⟨g2, o2, rfl, hg2, hc2⟩
      · have h0 : (bodF f).length = 0 := by rw [hnil]; rfl
        rw [h0]
        have HE0 : Hid (accB fs (i + 1) = accB fs i) := by show accB fs (i + 1) = accB fs i; rw [HS.out, hnil, List.append_nil]
        clear hnil h0
        go_wp2_with (at_builtin; refine wpList_append_own_none rfl _ _ 59 rfl w1.heap.size 23 i1 1 slicesL hi1 _ _ _ rfl ho rfl ?_)
        go_roundw
        case rel => exact ⟨i + 1, us, by go_num, by have := HN.out; omega, by rw [HE0.out]; exact HRow2.out, HKK.out⟩
        case measure => simp [intOf]; omega
      · obtain ⟨news, hnl, hnw⟩ : ∃ news : List Value, news.length = (bodF f).length ∧ ∀ (j : Nat) (b : List Int), (bodF f)[j]? = some b → ∃ u, news[j]? = some u ∧ w2.cell? ⟨g2, o2 + j, none⟩ = some u ∧ BSl w2 u b := by
          rcases bodF_one f with e | ⟨b, e⟩
          · rw [e]; exact ⟨[], rfl, fun j b hj => by simp at hj⟩
          · rw [e] at hc2 ⊢
            obtain ⟨u, hu1, hu2⟩ := hc2 0 b rfl
            refine ⟨[u], rfl, fun j b' hj => ?_⟩
            match j, hj with
            | 0, hj =>
              simp at hj
              subst hj
              exact ⟨u, rfl, hu1, hu2⟩
        have hn1 : news.length ≤ 1 := by rw [hnl]; rcases bodF_one f with e | ⟨b, e⟩ <;> rw [e] <;> simp
        have hnb : ∀ (j : Nat) (u : Value), news[j]? = some u → ∃ b, w2.cell? ⟨g2, o2 + j, none⟩ = some u ∧ BSl w2 u b := fun j u hu => by
          have hj : j < news.length := (List.getElem?_eq_some_iff.1 hu).1
          obtain ⟨u', h1, h2, h3⟩ := hnw j _ (List.getElem?_eq_getElem (by omega))
          rw [hu] at h1
          injection h1 with h1
          subst h1
          exact ⟨_, h2, h3⟩
        have HNC : Hid (∀ j u, news[j]? = some u → w2.cell? ((⟨g2, o2, none⟩ : Addr).add j) = some u) := fun j u hu => by
          rw [addP]
          obtain ⟨b, h1, _⟩ := hnb j u hu
          exact h1
        have H1 : Hid (∀ u ∈ news, u.oneCell' = true) := fun u hu => by
          obtain ⟨j, hj⟩ := List.mem_iff_getElem?.1 hu
          obtain ⟨b, _, h2⟩ := hnb j u hj
          exact h2.one
        have HNW : Hid (∀ (j : Nat) (b : List Int), (bodF f)[j]? = some b → ∃ u, news[j]? = some u ∧ BSl w2 u b) := fun j b hj => by
          obtain ⟨u, h1, _, h3⟩ := hnw j b hj
          exact ⟨u, h1, h3⟩
        have HNL : Hid (news.length = (bodF f).length) := hnl
        rw [← hnl]
        clear hnw hnb hc2 hnl
        go_wp2_with (at_builtin; refine wpList_append_own _ rfl _ _ 59 rfl w1.heap.size 23 i1 (.slice none 0 0) 1 24 slicesL hi1 hz0 hz1 hz2 rfl (by decide) _ _ _ rfl ho ⟨g2, o2, none⟩ news.length c2 news rfl (by omega) HNC.out H1.out (by unfold maxLen; omega) (by omega) hsz ?_; intro v' w' hown' hgrow hnil)
        have kg := kp_own ho hgrow
        have kk' : Kp noB w1 w' := HKK.out.over kg (fun j hj f => by unfold fromN at f; omega)
        have hR := HRow2.out.add hgrow hown' HNL.out HNW.out
        rw [← HS.out] at hR
        go_roundw
        case rel => exact ⟨i + 1, _, by go_num, by have := HN.out; omega, hR, kk'⟩
        case measure => simp [intOf]; omega
    · obtain rfl : i = fs.length := by omega
      have e : accB fs fs.length = fs.flatMap bodF := by unfold accB; rw [List.take_length]
      have hBB := hrow.bb
      rw [e] at hBB
      have HBB : Hid _ := hBB
      have HFr : Hid (Fr w.heap.size u3) := fun a l c e => Nat.le_trans K2.out.size (hrow.fr a l c e)
      have KF : Hid _ := K2.out.trans kr
      clear hBB hrow kr e
      go_wp2
      go_ret
      exact ⟨_, rfl, HBB.out, HFr.out, KF.out⟩
end Go.Proofs.YtolnaodlghahlaaGreatDoor
