/- The document's reader, and the code's (RfSys2). -/
import Derived.Test.YtbfccfhjgopnbaaGreatDr26
import Derived.Test.YtbfccfhjgopnbaaGreatDr12
set_option linter.unusedSimpArgs false
namespace Go.Proofs.YtbfccfhjgopnbaaGreat
open Go.ChangeShapes Go.WideShapes Go.ChangeAt Go.RowKit
set_option linter.unusedVariables false
set_option linter.unusedSimpArgs false
set_option maxHeartbeats 4000000
set_option maxRecDepth 20000
theorem InQ.getA {T : TypeId} {X : Cx} {w wr : World} {ρ q : Nat} {x : Ins} {σ : Sg} {f : Int × Int × Int} {c : Int} {U : TypeId} {m : Nat} (ho : VlO U m) (h : InQ T X w ρ q x σ f c wr) : (loadCellsFrom ⟨q, 3, none⟩ 0 m #[]).run Tryz.prog wr = .ok x.a.vals wr := by
  rw [ho.s]
  exact run_loadCells_list (P := Tryz.prog) wr ⟨q, 3, none⟩ x.a.vals.toList (fun j v hv => by
    have hj : j < 9 := by rcases Nat.lt_or_ge j 9 with g | g; exact g; simp [List.getElem?_eq_none (show x.a.vals.toList.length ≤ j from g)] at hv
    simp only [World.cell?, Addr.add_mid, h.op]
    rcases (by omega : j = 0 ∨ j = 1 ∨ j = 2 ∨ j = 3 ∨ j = 4 ∨ j = 5 ∨ j = 6 ∨ j = 7 ∨ j = 8) with rfl | rfl | rfl | rfl | rfl | rfl | rfl | rfl | rfl <;> exact hv)
theorem InQ.getB {T : TypeId} {X : Cx} {w wr : World} {ρ q : Nat} {x : Ins} {σ : Sg} {f : Int × Int × Int} {c : Int} {U : TypeId} {m : Nat} (ho : VlO U m) (h : InQ T X w ρ q x σ f c wr) : (loadCellsFrom ⟨q, 12, none⟩ 0 m #[]).run Tryz.prog wr = .ok x.b.vals wr := by
  rw [ho.s]
  exact run_loadCells_list (P := Tryz.prog) wr ⟨q, 12, none⟩ x.b.vals.toList (fun j v hv => by
    have hj : j < 9 := by rcases Nat.lt_or_ge j 9 with g | g; exact g; simp [List.getElem?_eq_none (show x.b.vals.toList.length ≤ j from g)] at hv
    simp only [World.cell?, Addr.add_mid, h.op]
    rcases (by omega : j = 0 ∨ j = 1 ∨ j = 2 ∨ j = 3 ∨ j = 4 ∨ j = 5 ∨ j = 6 ∨ j = 7 ∨ j = 8) with rfl | rfl | rfl | rfl | rfl | rfl | rfl | rfl | rfl <;> exact hv)
theorem system_32_g (w : World) (X : Cx) (σ : Sg) (f : Int × Int × Int) (h : RSt X w σ f 32) (hf : σ.fl = none) {kk : Int} (hm : (modrm X σ).1.2.1 = kk) (hk : (kk != 0) = false ∨ ((kk != 0) = true ∧ (kk != 2) = false) ∨ ((kk != 0) = true ∧ (kk != 2) = true ∧ (kk != 3) = false)) :
    Calls Tryz.prog 202 #[.pointer (some ⟨X.S, 0, none⟩)] w fun e w' => e = .returned (.agg (insV { Ins.zero with op := 45, size := 4, a := regO (modrm X σ).1.2.2 4, b := crO kk })) ∧ RDn X w (modrm X σ).2 (modrm X σ).1 32 w' := by
  obtain ⟨T, nI, fsI, psI, hv, Hv, ⟨vl, vs, vb, va, vx⟩, v1, v2, v3, v4, v5, v6, p0, p1, p2, p3, p4, p5, p6, p7, sz, ne⟩ := vlP
  obtain ⟨U, mU, ho, Ho, ⟨ol, os, oa⟩, o1, o2, o3, o6, so⟩ := vlOP
  have hr := RsQ.start (T := T) h
  have d9 := h.c9
  have hS := h.ltS
  have cM := rmodrm_ok _ X σ f 32 hr.st hf
  generalize modrm X σ = Y at *
  obtain ⟨⟨m, k, r⟩, σ1⟩ := Y
  simp only at cM hm ⊢
  obtain rfl : k = kk := hm
  have HR : Hid _ := hr
  clear h hv ho hr hf
  rcases hk with k0 | ⟨k0, k1⟩ | ⟨k0, k1, k2⟩
  all_goals
    go_enter Tryz.func202, Tryz.ntmps202
    try simp only [vl, vs, va, vb, vx, ol, os, oa]
    clear vl vs va vb vx ol os oa
    go_wp2_with fail
    refine cM.mono ?_; rintro e w1 ⟨rfl, hd1⟩
    have hr1 := HR.out.call hd1
    have c7 := hr1.st.c7
    have c9b := hr1.st.c9
    simp only at c7
    have hS1 := hr1.st.ltS
    have HR1 : Hid _ := hr1
    clear cM hd1 hr1 HR d9 hS
    go_upto_region 20 with fail
    obtain ⟨w2, hw2⟩ : ∃ w2, w2 = w1 := ⟨_, rfl⟩
    rw [← hw2] at HR1 ⊢
    have HR2 := HR1
    clear HR1 c7 c9b hw2
    have hIA : InQ T X w w.heap.size w2.heap.size Ins.zero σ1 (m, k, r) 32 (w2.drew.alloc (.cells (insV Ins.zero) T)) := HR2.out.drew.own Ins.zero
    have HIA : Hid _ := hIA
    have HSR : Hid (∀ W, RSt X W σ1 (m, k, r) 32 → (W.cell? ⟨X.S, 8, none⟩ = some (.int .i64 r) ∧ W.cell? ⟨X.S, 7, none⟩ = some (.int .i64 k))) := fun W hW => ⟨hW.c8, hW.c7⟩
    have HS0 : Hid (w2.drew.cell? ⟨X.S, 8, none⟩ = some (.int .i64 r) ∧ w2.drew.cell? ⟨X.S, 7, none⟩ = some (.int .i64 k)) := HSR.out _ HR2.out.drew.st
    have HSA : Hid ((w2.alloc (.cells (insV Ins.zero) T)).drew.cell? ⟨X.S, 8, none⟩ = some (.int .i64 r) ∧ (w2.alloc (.cells (insV Ins.zero) T)).drew.cell? ⟨X.S, 7, none⟩ = some (.int .i64 k)) := HSR.out _ hIA.r.st
    have hS2 := HR2.out.st.ltS
    have new1 := Hv.out.newQ
    obtain ⟨u0, u1, u2, u3, u4, u5, u6, u7, u8, u9, u10, u11, u12, u13, u14, u15, u16, u17, u18, u19, u20⟩ := ups21
    clear hIA
    go_wp2
    go_region_held3 (fun W => (W.cell? ⟨X.S, 8, none⟩ = some (.int .i64 r) ∧ W.cell? ⟨X.S, 7, none⟩ = some (.int .i64 k)))
      (first | with_reducible exact HS0.out | with_reducible exact HSA.out | with_reducible exact HSR.out _ hr5.st | with_reducible exact HSR.out _ hI5.r.st | exact HSR.out _ (hI5.row _).r.st | exact HSR.out _ (hr5.own _).r.st)
      (first | (go_at_call 207; refine (reg_lit _ r 4).mono ?_; rintro e w5 ⟨rfl, k5⟩; first | (have hI5 := InQ.no HIA.out k5; have pt5 := hI5.put Hv.out) | (have hr5 := RsQ.no HR2.out.drew k5)))
    all_goals
      first
      | (have hI6 : InQ T X w w.heap.size w2.heap.size ((((((((((((((((((((Ins.zero.up 0 45).up 2 4).up 3 1).up 4 r).up 5 4).up 6 0).up 7 0).up 8 0).up 9 0).up 10 0).up 11 0).up 12 5).up 13 k).up 14 0).up 15 0).up 16 0).up 17 0).up 18 0).up 19 0).up 20 0) σ1 (m, k, r) 32 (w5.setRow w2.heap.size (insV ((((((((((((((((((((Ins.zero.up 0 45).up 2 4).up 3 1).up 4 r).up 5 4).up 6 0).up 7 0).up 8 0).up 9 0).up 10 0).up 11 0).up 12 5).up 13 k).up 14 0).up 15 0).up 16 0).up 17 0).up 18 0).up 19 0).up 20 0))) := hI5.row _
         generalize (w5.setRow w2.heap.size (insV ((((((((((((((((((((Ins.zero.up 0 45).up 2 4).up 3 1).up 4 r).up 5 4).up 6 0).up 7 0).up 8 0).up 9 0).up 10 0).up 11 0).up 12 5).up 13 k).up 14 0).up 15 0).up 16 0).up 17 0).up 18 0).up 19 0).up 20 0))) = W at hI6 ⊢
         generalize w2.heap.size = q at hI6 ⊢)
      | (have hI6 : InQ T X w w.heap.size w5.heap.size ((((((((((((((((((((Ins.zero.up 0 45).up 2 4).up 3 1).up 4 r).up 5 4).up 6 0).up 7 0).up 8 0).up 9 0).up 10 0).up 11 0).up 12 5).up 13 k).up 14 0).up 15 0).up 16 0).up 17 0).up 18 0).up 19 0).up 20 0) σ1 (m, k, r) 32 (w5.alloc (.cells (insV ((((((((((((((((((((Ins.zero.up 0 45).up 2 4).up 3 1).up 4 r).up 5 4).up 6 0).up 7 0).up 8 0).up 9 0).up 10 0).up 11 0).up 12 5).up 13 k).up 14 0).up 15 0).up 16 0).up 17 0).up 18 0).up 19 0).up 20 0)) T)) := hr5.own _
         generalize (w5.alloc (.cells (insV ((((((((((((((((((((Ins.zero.up 0 45).up 2 4).up 3 1).up 4 r).up 5 4).up 6 0).up 7 0).up 8 0).up 9 0).up 10 0).up 11 0).up 12 5).up 13 k).up 14 0).up 15 0).up 16 0).up 17 0).up 18 0).up 19 0).up 20 0)) T)) = W at hI6 ⊢
         generalize w5.heap.size = q at hI6 ⊢)
      have e9 := hI6.r.st.c9
      have hSW := hI6.r.st.ltS
      have g6 := Hv.out.get hI6.op
      have p6' := hI6.r.put Hv.out
      have HI6 : Hid _ := hI6
      clear hI6
      go_wp2
      exact bodyPost_ret (v := _) (res1 rfl _ _ w.heap.size _ rfl (HI6.out.r.got Hv.out _)) rfl ⟨rfl, HI6.out.r.fin _⟩
theorem system_32_u (w : World) (X : Cx) (σ : Sg) (f : Int × Int × Int) (h : RSt X w σ f 32) (hf : σ.fl = none) {kk : Int} (hm : (modrm X σ).1.2.1 = kk) (k0 : (kk != 0) = true) (k1 : (kk != 2) = true) (k2 : (kk != 3) = true) :
    Calls Tryz.prog 202 #[.pointer (some ⟨X.S, 0, none⟩)] w fun e w' => e = .returned (.agg (insV { Ins.zero with op := 45, size := 4, a := regO (modrm X σ).1.2.2 4, b := crO kk })) ∧ RDn X w (refuse (modrm X σ).2) (modrm X σ).1 32 w' := by
  obtain ⟨T, nI, fsI, psI, hv, Hv, ⟨vl, vs, vb, va, vx⟩, v1, v2, v3, v4, v5, v6, p0, p1, p2, p3, p4, p5, p6, p7, sz, ne⟩ := vlP
  obtain ⟨U, mU, ho, Ho, ⟨ol, os, oa⟩, o1, o2, o3, o6, so⟩ := vlOP
  have hr := RsQ.start (T := T) h
  have d9 := h.c9
  have hS := h.ltS
  have cM := rmodrm_ok _ X σ f 32 hr.st hf
  generalize modrm X σ = Y at *
  obtain ⟨⟨m, k, r⟩, σ1⟩ := Y
  simp only at cM hm ⊢
  obtain rfl : k = kk := hm
  have HR : Hid _ := hr
  clear h hv ho hr hf
  go_enter Tryz.func202, Tryz.ntmps202
  try simp only [vl, vs, va, vb, vx, ol, os, oa]
  clear vl vs va vb vx ol os oa
  go_wp2_with fail
  refine cM.mono ?_; rintro e w1 ⟨rfl, hd1⟩
  have hr1 := HR.out.call hd1
  have c7 := hr1.st.c7
  have c9b := hr1.st.c9
  simp only at c7
  have hS1 := hr1.st.ltS
  have HR1 : Hid _ := hr1
  clear cM hd1 hr1 HR d9 hS
  have cU := ud_ok w1 X σ1 (m, k, r) 32 HR1.out.st
  go_wp2_with fail
  refine cU.mono ?_; rintro e w2 ⟨rfl, hd2⟩
  have HR2 : Hid _ := HR1.out.call hd2
  clear hd2 cU HR1 c7 c9b
  have hIA : InQ T X w w.heap.size w2.heap.size Ins.zero (refuse σ1) (m, k, r) 32 (w2.drew.alloc (.cells (insV Ins.zero) T)) := HR2.out.drew.own Ins.zero
  have HIA : Hid _ := hIA
  have HSR : Hid (∀ W, RSt X W (refuse σ1) (m, k, r) 32 → (W.cell? ⟨X.S, 8, none⟩ = some (.int .i64 r) ∧ W.cell? ⟨X.S, 7, none⟩ = some (.int .i64 k))) := fun W hW => ⟨hW.c8, hW.c7⟩
  have HS0 : Hid (w2.drew.cell? ⟨X.S, 8, none⟩ = some (.int .i64 r) ∧ w2.drew.cell? ⟨X.S, 7, none⟩ = some (.int .i64 k)) := HSR.out _ HR2.out.drew.st
  have HSA : Hid ((w2.alloc (.cells (insV Ins.zero) T)).drew.cell? ⟨X.S, 8, none⟩ = some (.int .i64 r) ∧ (w2.alloc (.cells (insV Ins.zero) T)).drew.cell? ⟨X.S, 7, none⟩ = some (.int .i64 k)) := HSR.out _ hIA.r.st
  have hS2 := HR2.out.st.ltS
  have new1 := Hv.out.newQ
  obtain ⟨u0, u1, u2, u3, u4, u5, u6, u7, u8, u9, u10, u11, u12, u13, u14, u15, u16, u17, u18, u19, u20⟩ := ups21
  clear hIA
  go_wp2
  go_region_held3 (fun W => (W.cell? ⟨X.S, 8, none⟩ = some (.int .i64 r) ∧ W.cell? ⟨X.S, 7, none⟩ = some (.int .i64 k)))
    (first | with_reducible exact HS0.out | with_reducible exact HSA.out | with_reducible exact HSR.out _ hr5.st | with_reducible exact HSR.out _ hI5.r.st | exact HSR.out _ (hI5.row _).r.st | exact HSR.out _ (hr5.own _).r.st)
    (first | (go_at_call 207; refine (reg_lit _ r 4).mono ?_; rintro e w5 ⟨rfl, k5⟩; first | (have hI5 := InQ.no HIA.out k5; have pt5 := hI5.put Hv.out) | (have hr5 := RsQ.no HR2.out.drew k5)))
  all_goals
    first
    | (have hI6 : InQ T X w w.heap.size w2.heap.size ((((((((((((((((((((Ins.zero.up 0 45).up 2 4).up 3 1).up 4 r).up 5 4).up 6 0).up 7 0).up 8 0).up 9 0).up 10 0).up 11 0).up 12 5).up 13 k).up 14 0).up 15 0).up 16 0).up 17 0).up 18 0).up 19 0).up 20 0) (refuse σ1) (m, k, r) 32 (w5.setRow w2.heap.size (insV ((((((((((((((((((((Ins.zero.up 0 45).up 2 4).up 3 1).up 4 r).up 5 4).up 6 0).up 7 0).up 8 0).up 9 0).up 10 0).up 11 0).up 12 5).up 13 k).up 14 0).up 15 0).up 16 0).up 17 0).up 18 0).up 19 0).up 20 0))) := hI5.row _
       generalize (w5.setRow w2.heap.size (insV ((((((((((((((((((((Ins.zero.up 0 45).up 2 4).up 3 1).up 4 r).up 5 4).up 6 0).up 7 0).up 8 0).up 9 0).up 10 0).up 11 0).up 12 5).up 13 k).up 14 0).up 15 0).up 16 0).up 17 0).up 18 0).up 19 0).up 20 0))) = W at hI6 ⊢
       generalize w2.heap.size = q at hI6 ⊢)
    | (have hI6 : InQ T X w w.heap.size w5.heap.size ((((((((((((((((((((Ins.zero.up 0 45).up 2 4).up 3 1).up 4 r).up 5 4).up 6 0).up 7 0).up 8 0).up 9 0).up 10 0).up 11 0).up 12 5).up 13 k).up 14 0).up 15 0).up 16 0).up 17 0).up 18 0).up 19 0).up 20 0) (refuse σ1) (m, k, r) 32 (w5.alloc (.cells (insV ((((((((((((((((((((Ins.zero.up 0 45).up 2 4).up 3 1).up 4 r).up 5 4).up 6 0).up 7 0).up 8 0).up 9 0).up 10 0).up 11 0).up 12 5).up 13 k).up 14 0).up 15 0).up 16 0).up 17 0).up 18 0).up 19 0).up 20 0)) T)) := hr5.own _
       generalize (w5.alloc (.cells (insV ((((((((((((((((((((Ins.zero.up 0 45).up 2 4).up 3 1).up 4 r).up 5 4).up 6 0).up 7 0).up 8 0).up 9 0).up 10 0).up 11 0).up 12 5).up 13 k).up 14 0).up 15 0).up 16 0).up 17 0).up 18 0).up 19 0).up 20 0)) T)) = W at hI6 ⊢
       generalize w5.heap.size = q at hI6 ⊢)
    have e9 := hI6.r.st.c9
    have hSW := hI6.r.st.ltS
    have g6 := Hv.out.get hI6.op
    have p6' := hI6.r.put Hv.out
    have HI6 : Hid _ := hI6
    clear hI6
    go_wp2
    exact bodyPost_ret (v := _) (res1 rfl _ _ w.heap.size _ rfl (HI6.out.r.got Hv.out _)) rfl ⟨rfl, HI6.out.r.fin _⟩
theorem system_34_g (w : World) (X : Cx) (σ : Sg) (f : Int × Int × Int) (h : RSt X w σ f 34) (hf : σ.fl = none) {kk : Int} (hm : (modrm X σ).1.2.1 = kk) (hk : (kk != 0) = false ∨ ((kk != 0) = true ∧ (kk != 2) = false) ∨ ((kk != 0) = true ∧ (kk != 2) = true ∧ (kk != 3) = false)) :
    Calls Tryz.prog 202 #[.pointer (some ⟨X.S, 0, none⟩)] w fun e w' => e = .returned (.agg (insV { Ins.zero with op := 45, size := 4, a := crO kk, b := regO (modrm X σ).1.2.2 4 })) ∧ RDn X w (modrm X σ).2 (modrm X σ).1 34 w' := by
  obtain ⟨T, nI, fsI, psI, hv, Hv, ⟨vl, vs, vb, va, vx⟩, v1, v2, v3, v4, v5, v6, p0, p1, p2, p3, p4, p5, p6, p7, sz, ne⟩ := vlP
  obtain ⟨U, mU, ho, Ho, ⟨ol, os, oa⟩, o1, o2, o3, o6, so⟩ := vlOP
  have hr := RsQ.start (T := T) h
  have d9 := h.c9
  have hS := h.ltS
  have cM := rmodrm_ok _ X σ f 34 hr.st hf
  generalize modrm X σ = Y at *
  obtain ⟨⟨m, k, r⟩, σ1⟩ := Y
  simp only at cM hm ⊢
  obtain rfl : k = kk := hm
  have HR : Hid _ := hr
  clear h hv ho hr hf
  rcases hk with k0 | ⟨k0, k1⟩ | ⟨k0, k1, k2⟩
  all_goals
    go_enter Tryz.func202, Tryz.ntmps202
    try simp only [vl, vs, va, vb, vx, ol, os, oa]
    clear vl vs va vb vx ol os oa
    go_wp2_with fail
    refine cM.mono ?_; rintro e w1 ⟨rfl, hd1⟩
    have hr1 := HR.out.call hd1
    have c7 := hr1.st.c7
    have c9b := hr1.st.c9
    simp only at c7
    have hS1 := hr1.st.ltS
    have HR1 : Hid _ := hr1
    clear cM hd1 hr1 HR d9 hS
    go_upto_region 20 with fail
    obtain ⟨w2, hw2⟩ : ∃ w2, w2 = w1 := ⟨_, rfl⟩
    rw [← hw2] at HR1 ⊢
    have HR2 := HR1
    clear HR1 c7 c9b hw2
    have hIA : InQ T X w w.heap.size w2.heap.size Ins.zero σ1 (m, k, r) 34 (w2.drew.alloc (.cells (insV Ins.zero) T)) := HR2.out.drew.own Ins.zero
    have HIA : Hid _ := hIA
    have HSR : Hid (∀ W, RSt X W σ1 (m, k, r) 34 → (W.cell? ⟨X.S, 8, none⟩ = some (.int .i64 r) ∧ W.cell? ⟨X.S, 7, none⟩ = some (.int .i64 k))) := fun W hW => ⟨hW.c8, hW.c7⟩
    have HS0 : Hid (w2.drew.cell? ⟨X.S, 8, none⟩ = some (.int .i64 r) ∧ w2.drew.cell? ⟨X.S, 7, none⟩ = some (.int .i64 k)) := HSR.out _ HR2.out.drew.st
    have HSA : Hid ((w2.alloc (.cells (insV Ins.zero) T)).drew.cell? ⟨X.S, 8, none⟩ = some (.int .i64 r) ∧ (w2.alloc (.cells (insV Ins.zero) T)).drew.cell? ⟨X.S, 7, none⟩ = some (.int .i64 k)) := HSR.out _ hIA.r.st
    have hS2 := HR2.out.st.ltS
    have new1 := Hv.out.newQ
    obtain ⟨u0, u1, u2, u3, u4, u5, u6, u7, u8, u9, u10, u11, u12, u13, u14, u15, u16, u17, u18, u19, u20⟩ := ups21
    clear hIA
    go_wp2
    go_region_held3 (fun W => (W.cell? ⟨X.S, 8, none⟩ = some (.int .i64 r) ∧ W.cell? ⟨X.S, 7, none⟩ = some (.int .i64 k)))
      (first | with_reducible exact HS0.out | with_reducible exact HSA.out | with_reducible exact HSR.out _ hr5.st | with_reducible exact HSR.out _ hI5.r.st | exact HSR.out _ (hI5.row _).r.st | exact HSR.out _ (hr5.own _).r.st)
      (first | (go_at_call 207; refine (reg_lit _ r 4).mono ?_; rintro e w5 ⟨rfl, k5⟩; first | (have hI5 := InQ.no HIA.out k5; have pt5 := hI5.put Hv.out) | (have hr5 := RsQ.no HR2.out.drew k5)))
    all_goals
      first
      | (have hI6 : InQ T X w w.heap.size w2.heap.size ((((((((((((((((((((Ins.zero.up 0 45).up 2 4).up 3 1).up 4 r).up 5 4).up 6 0).up 7 0).up 8 0).up 9 0).up 10 0).up 11 0).up 12 5).up 13 k).up 14 0).up 15 0).up 16 0).up 17 0).up 18 0).up 19 0).up 20 0) σ1 (m, k, r) 34 (w5.setRow w2.heap.size (insV ((((((((((((((((((((Ins.zero.up 0 45).up 2 4).up 3 1).up 4 r).up 5 4).up 6 0).up 7 0).up 8 0).up 9 0).up 10 0).up 11 0).up 12 5).up 13 k).up 14 0).up 15 0).up 16 0).up 17 0).up 18 0).up 19 0).up 20 0))) := hI5.row _
         generalize (w5.setRow w2.heap.size (insV ((((((((((((((((((((Ins.zero.up 0 45).up 2 4).up 3 1).up 4 r).up 5 4).up 6 0).up 7 0).up 8 0).up 9 0).up 10 0).up 11 0).up 12 5).up 13 k).up 14 0).up 15 0).up 16 0).up 17 0).up 18 0).up 19 0).up 20 0))) = W at hI6 ⊢
         generalize w2.heap.size = q at hI6 ⊢)
      | (have hI6 : InQ T X w w.heap.size w5.heap.size ((((((((((((((((((((Ins.zero.up 0 45).up 2 4).up 3 1).up 4 r).up 5 4).up 6 0).up 7 0).up 8 0).up 9 0).up 10 0).up 11 0).up 12 5).up 13 k).up 14 0).up 15 0).up 16 0).up 17 0).up 18 0).up 19 0).up 20 0) σ1 (m, k, r) 34 (w5.alloc (.cells (insV ((((((((((((((((((((Ins.zero.up 0 45).up 2 4).up 3 1).up 4 r).up 5 4).up 6 0).up 7 0).up 8 0).up 9 0).up 10 0).up 11 0).up 12 5).up 13 k).up 14 0).up 15 0).up 16 0).up 17 0).up 18 0).up 19 0).up 20 0)) T)) := hr5.own _
         generalize (w5.alloc (.cells (insV ((((((((((((((((((((Ins.zero.up 0 45).up 2 4).up 3 1).up 4 r).up 5 4).up 6 0).up 7 0).up 8 0).up 9 0).up 10 0).up 11 0).up 12 5).up 13 k).up 14 0).up 15 0).up 16 0).up 17 0).up 18 0).up 19 0).up 20 0)) T)) = W at hI6 ⊢
         generalize w5.heap.size = q at hI6 ⊢)
      have e9 := hI6.r.st.c9
      have hSW := hI6.r.st.ltS
      replace hI6 : InQ T X w w.heap.size q { Ins.zero with op := 45, size := 4, a := regO r 4, b := crO k } σ1 (m, k, r) 34 W := hI6
      obtain ⟨aO, ha⟩ : ∃ aO, regO r 4 = aO := ⟨_, rfl⟩
      obtain ⟨cO, hc⟩ : ∃ cO, crO k = cO := ⟨_, rfl⟩
      rw [ha, hc] at hI6
      have HA : Hid _ := ha
      have HC : Hid _ := hc
      clear ha hc
      have gA : (loadCellsFrom ⟨q, 3, none⟩ 0 mU #[]).run Tryz.prog W = .ok aO.vals W := hI6.getA Ho.out
      have newO : ∀ (W : World) (o : Opd), (storeCells ⟨W.heap.size, 0, none⟩ o.vals.toList).run Tryz.prog (W.alloc (.cells Opd.zero.vals U)) = .ok () (W.alloc (.cells o.vals U)) := fun W o => Ho.out.new W _ rfl o
      have hI7 := hI6.no (Kp.alloc noB W (.cells aO.vals U))
      have bA := (MapKept.heap_alloc W (.cells aO.vals U)).1
      have hqW : q < W.heap.size := heap_lt hI6.op
      have gB : (loadCellsFrom ⟨q, 12, none⟩ 0 mU #[]).run Tryz.prog (W.alloc (.cells aO.vals U)) = .ok cO.vals (W.alloc (.cells aO.vals U)) := hI7.getB Ho.out
      have pA := hI7.putA cO
      have hI8 := hI7.row { ({ Ins.zero with op := 45, size := 4, a := aO, b := cO } : Ins) with a := cO }
      have bA8 := heap_kept bA (Kp.setRow (S := fun j => j = q) (W.alloc (.cells aO.vals U)) rfl (insV { ({ Ins.zero with op := 45, size := 4, a := aO, b := cO } : Ins) with a := cO })) (by show ¬ W.heap.size = q; omega)
      have gA8 := Ho.out.get bA8
      have pB := hI8.putB aO
      have hI9 := hI8.row { ({ ({ Ins.zero with op := 45, size := 4, a := aO, b := cO } : Ins) with a := cO } : Ins) with b := aO }
      have g9 := Hv.out.get hI9.op
      have p9 := hI9.r.put Hv.out
      have HI9 : Hid _ := hI9
      clear hI6 hI7 hI8 hI9 bA bA8
      go_wp2
      refine bodyPost_ret (v := _) (res1 rfl _ _ w.heap.size _ rfl (HI9.out.r.got Hv.out _)) rfl ⟨?_, HI9.out.r.fin _⟩
      rw [HA.out, HC.out]
theorem system_34_u (w : World) (X : Cx) (σ : Sg) (f : Int × Int × Int) (h : RSt X w σ f 34) (hf : σ.fl = none) {kk : Int} (hm : (modrm X σ).1.2.1 = kk) (k0 : (kk != 0) = true) (k1 : (kk != 2) = true) (k2 : (kk != 3) = true) :
    Calls Tryz.prog 202 #[.pointer (some ⟨X.S, 0, none⟩)] w fun e w' => e = .returned (.agg (insV { Ins.zero with op := 45, size := 4, a := crO kk, b := regO (modrm X σ).1.2.2 4 })) ∧ RDn X w (refuse (modrm X σ).2) (modrm X σ).1 34 w' := by
  obtain ⟨T, nI, fsI, psI, hv, Hv, ⟨vl, vs, vb, va, vx⟩, v1, v2, v3, v4, v5, v6, p0, p1, p2, p3, p4, p5, p6, p7, sz, ne⟩ := vlP
  obtain ⟨U, mU, ho, Ho, ⟨ol, os, oa⟩, o1, o2, o3, o6, so⟩ := vlOP
  have hr := RsQ.start (T := T) h
  have d9 := h.c9
  have hS := h.ltS
  have cM := rmodrm_ok _ X σ f 34 hr.st hf
  generalize modrm X σ = Y at *
  obtain ⟨⟨m, k, r⟩, σ1⟩ := Y
  simp only at cM hm ⊢
  obtain rfl : k = kk := hm
  have HR : Hid _ := hr
  clear h hv ho hr hf
  go_enter Tryz.func202, Tryz.ntmps202
  try simp only [vl, vs, va, vb, vx, ol, os, oa]
  clear vl vs va vb vx ol os oa
  go_wp2_with fail
  refine cM.mono ?_; rintro e w1 ⟨rfl, hd1⟩
  have hr1 := HR.out.call hd1
  have c7 := hr1.st.c7
  have c9b := hr1.st.c9
  simp only at c7
  have hS1 := hr1.st.ltS
  have HR1 : Hid _ := hr1
  clear cM hd1 hr1 HR d9 hS
  have cU := ud_ok w1 X σ1 (m, k, r) 34 HR1.out.st
  go_wp2_with fail
  refine cU.mono ?_; rintro e w2 ⟨rfl, hd2⟩
  have HR2 : Hid _ := HR1.out.call hd2
  clear hd2 cU HR1 c7 c9b
  have hIA : InQ T X w w.heap.size w2.heap.size Ins.zero (refuse σ1) (m, k, r) 34 (w2.drew.alloc (.cells (insV Ins.zero) T)) := HR2.out.drew.own Ins.zero
  have HIA : Hid _ := hIA
  have HSR : Hid (∀ W, RSt X W (refuse σ1) (m, k, r) 34 → (W.cell? ⟨X.S, 8, none⟩ = some (.int .i64 r) ∧ W.cell? ⟨X.S, 7, none⟩ = some (.int .i64 k))) := fun W hW => ⟨hW.c8, hW.c7⟩
  have HS0 : Hid (w2.drew.cell? ⟨X.S, 8, none⟩ = some (.int .i64 r) ∧ w2.drew.cell? ⟨X.S, 7, none⟩ = some (.int .i64 k)) := HSR.out _ HR2.out.drew.st
  have HSA : Hid ((w2.alloc (.cells (insV Ins.zero) T)).drew.cell? ⟨X.S, 8, none⟩ = some (.int .i64 r) ∧ (w2.alloc (.cells (insV Ins.zero) T)).drew.cell? ⟨X.S, 7, none⟩ = some (.int .i64 k)) := HSR.out _ hIA.r.st
  have hS2 := HR2.out.st.ltS
  have new1 := Hv.out.newQ
  obtain ⟨u0, u1, u2, u3, u4, u5, u6, u7, u8, u9, u10, u11, u12, u13, u14, u15, u16, u17, u18, u19, u20⟩ := ups21
  clear hIA
  go_wp2
  go_region_held3 (fun W => (W.cell? ⟨X.S, 8, none⟩ = some (.int .i64 r) ∧ W.cell? ⟨X.S, 7, none⟩ = some (.int .i64 k)))
    (first | with_reducible exact HS0.out | with_reducible exact HSA.out | with_reducible exact HSR.out _ hr5.st | with_reducible exact HSR.out _ hI5.r.st | exact HSR.out _ (hI5.row _).r.st | exact HSR.out _ (hr5.own _).r.st)
    (first | (go_at_call 207; refine (reg_lit _ r 4).mono ?_; rintro e w5 ⟨rfl, k5⟩; first | (have hI5 := InQ.no HIA.out k5; have pt5 := hI5.put Hv.out) | (have hr5 := RsQ.no HR2.out.drew k5)))
  all_goals
    first
    | (have hI6 : InQ T X w w.heap.size w2.heap.size ((((((((((((((((((((Ins.zero.up 0 45).up 2 4).up 3 1).up 4 r).up 5 4).up 6 0).up 7 0).up 8 0).up 9 0).up 10 0).up 11 0).up 12 5).up 13 k).up 14 0).up 15 0).up 16 0).up 17 0).up 18 0).up 19 0).up 20 0) (refuse σ1) (m, k, r) 34 (w5.setRow w2.heap.size (insV ((((((((((((((((((((Ins.zero.up 0 45).up 2 4).up 3 1).up 4 r).up 5 4).up 6 0).up 7 0).up 8 0).up 9 0).up 10 0).up 11 0).up 12 5).up 13 k).up 14 0).up 15 0).up 16 0).up 17 0).up 18 0).up 19 0).up 20 0))) := hI5.row _
       generalize (w5.setRow w2.heap.size (insV ((((((((((((((((((((Ins.zero.up 0 45).up 2 4).up 3 1).up 4 r).up 5 4).up 6 0).up 7 0).up 8 0).up 9 0).up 10 0).up 11 0).up 12 5).up 13 k).up 14 0).up 15 0).up 16 0).up 17 0).up 18 0).up 19 0).up 20 0))) = W at hI6 ⊢
       generalize w2.heap.size = q at hI6 ⊢)
    | (have hI6 : InQ T X w w.heap.size w5.heap.size ((((((((((((((((((((Ins.zero.up 0 45).up 2 4).up 3 1).up 4 r).up 5 4).up 6 0).up 7 0).up 8 0).up 9 0).up 10 0).up 11 0).up 12 5).up 13 k).up 14 0).up 15 0).up 16 0).up 17 0).up 18 0).up 19 0).up 20 0) (refuse σ1) (m, k, r) 34 (w5.alloc (.cells (insV ((((((((((((((((((((Ins.zero.up 0 45).up 2 4).up 3 1).up 4 r).up 5 4).up 6 0).up 7 0).up 8 0).up 9 0).up 10 0).up 11 0).up 12 5).up 13 k).up 14 0).up 15 0).up 16 0).up 17 0).up 18 0).up 19 0).up 20 0)) T)) := hr5.own _
       generalize (w5.alloc (.cells (insV ((((((((((((((((((((Ins.zero.up 0 45).up 2 4).up 3 1).up 4 r).up 5 4).up 6 0).up 7 0).up 8 0).up 9 0).up 10 0).up 11 0).up 12 5).up 13 k).up 14 0).up 15 0).up 16 0).up 17 0).up 18 0).up 19 0).up 20 0)) T)) = W at hI6 ⊢
       generalize w5.heap.size = q at hI6 ⊢)
    have e9 := hI6.r.st.c9
    have hSW := hI6.r.st.ltS
    replace hI6 : InQ T X w w.heap.size q { Ins.zero with op := 45, size := 4, a := regO r 4, b := crO k } (refuse σ1) (m, k, r) 34 W := hI6
    obtain ⟨aO, ha⟩ : ∃ aO, regO r 4 = aO := ⟨_, rfl⟩
    obtain ⟨cO, hc⟩ : ∃ cO, crO k = cO := ⟨_, rfl⟩
    rw [ha, hc] at hI6
    have HA : Hid _ := ha
    have HC : Hid _ := hc
    clear ha hc
    have gA : (loadCellsFrom ⟨q, 3, none⟩ 0 mU #[]).run Tryz.prog W = .ok aO.vals W := hI6.getA Ho.out
    have newO : ∀ (W : World) (o : Opd), (storeCells ⟨W.heap.size, 0, none⟩ o.vals.toList).run Tryz.prog (W.alloc (.cells Opd.zero.vals U)) = .ok () (W.alloc (.cells o.vals U)) := fun W o => Ho.out.new W _ rfl o
    have hI7 := hI6.no (Kp.alloc noB W (.cells aO.vals U))
    have bA := (MapKept.heap_alloc W (.cells aO.vals U)).1
    have hqW : q < W.heap.size := heap_lt hI6.op
    have gB : (loadCellsFrom ⟨q, 12, none⟩ 0 mU #[]).run Tryz.prog (W.alloc (.cells aO.vals U)) = .ok cO.vals (W.alloc (.cells aO.vals U)) := hI7.getB Ho.out
    have pA := hI7.putA cO
    have hI8 := hI7.row { ({ Ins.zero with op := 45, size := 4, a := aO, b := cO } : Ins) with a := cO }
    have bA8 := heap_kept bA (Kp.setRow (S := fun j => j = q) (W.alloc (.cells aO.vals U)) rfl (insV { ({ Ins.zero with op := 45, size := 4, a := aO, b := cO } : Ins) with a := cO })) (by show ¬ W.heap.size = q; omega)
    have gA8 := Ho.out.get bA8
    have pB := hI8.putB aO
    have hI9 := hI8.row { ({ ({ Ins.zero with op := 45, size := 4, a := aO, b := cO } : Ins) with a := cO } : Ins) with b := aO }
    have g9 := Hv.out.get hI9.op
    have p9 := hI9.r.put Hv.out
    have HI9 : Hid _ := hI9
    clear hI6 hI7 hI8 hI9 bA bA8
    go_wp2
    refine bodyPost_ret (v := _) (res1 rfl _ _ w.heap.size _ rfl (HI9.out.r.got Hv.out _)) rfl ⟨?_, HI9.out.r.fin _⟩
    rw [HA.out, HC.out]
end Go.Proofs.YtbfccfhjgopnbaaGreat
