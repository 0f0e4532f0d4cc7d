/- The document's reader, and the code's (RfSums, RfSumsN, RfEgs). -/
import Derived.Test.YtbfccfhjgopnbaaGreatDr09
set_option linter.unusedSimpArgs false
namespace Go.Proofs.YtbfccfhjgopnbaaGreat
open Go.ChangeShapes Go.WideShapes Go.ChangeAt Go.RowKit
set_option linter.unusedVariables false
set_option linter.unusedSimpArgs false
set_option maxHeartbeats 600000
set_option maxRecDepth 20000
theorem sums_t (w : World) (X : Cx) (σ : Sg) (f : Int × Int × Int) (c : Int) (h : RSt X w σ f c) (h0 : 0 ≤ c) (h1 : c < 256) (hlt : c % 8 < 4) (hgt : 1 < c % 8) (hfl : σ.fl = none) :
    Calls Tryz.prog 22 #[.pointer (some ⟨X.S, 0, none⟩)] w fun e w' => e = .returned (.agg (insV (egM X (szM c σ) true { Ins.zero with op := 1, sub := c / 8 } σ).1)) ∧ RDn X w (egM X (szM c σ) true { Ins.zero with op := 1, sub := c / 8 } σ).2.1 (egM X (szM c σ) true { Ins.zero with op := 1, sub := c / 8 } σ).2.2 c w' := by
  obtain ⟨T, nI, fsI, psI, hv, Hv, ⟨vl, vs, vb, va, vx⟩, v1, v2, v3, v4, v5, v6, p0, p1, p2, p3, p4, p5, p6, p7, sz, ne⟩ := vlP
  have new1 : ∀ x y o, (storeCells ⟨w.heap.size + 1, 0, none⟩ (insV x).toList).run Tryz.prog ((w.alloc o).alloc (.cells (insV y) T)) = .ok () ((w.alloc o).alloc (.cells (insV x) T)) := fun x y o => hv.new (w.alloc o) _ (by simp) x y
  have hI : InQ T X w w.heap.size (w.heap.size + 1) ((Ins.zero.up 0 1).up 1 (c / 8)) σ f c ((w.alloc (.cells (insV Ins.zero) T)).alloc (.cells (insV ((Ins.zero.up 0 1).up 1 (c / 8))) T)) := by
    have e := (RsQ.start (T := T) h).own ((Ins.zero.up 0 1).up 1 (c / 8))
    rw [show (w.alloc (.cells (insV Ins.zero) T)).heap.size = w.heap.size + 1 by simp] at e
    exact e
  have c9 := h.c9
  have hS := h.ltS
  have hq : c.tdiv 8 = c / 8 := Int.tdiv_eq_ediv_of_nonneg h0
  have ht : c.tmod 8 = c % 8 := Int.tmod_eq_emod_of_nonneg h0
  have hw : IntKind.i64.wrap (c / 8) = c / 8 := IntWalk.i64_in _ ⟨by omega, by omega⟩
  have hw2 : wrap64 (c / 8) = c / 8 := by unfold wrap64; omega
  skip
  skip
  have gD := hv.get hI.drew.op
  have cS := rsize_ok _ X σ f c hI.r.st h0
  have cE := eg_t _ X σ f c hI.drew.r.st hfl ((Ins.zero.up 0 1).up 1 (c / 8)) (szM c σ)
  change Calls _ _ _ _ (fun e w' => e = .returned (.agg (insV (egM X (szM c σ) true { Ins.zero with op := 1, sub := c / 8 } σ).1)) ∧ RDn X _ (egM X (szM c σ) true { Ins.zero with op := 1, sub := c / 8 } σ).2.1 (egM X (szM c σ) true { Ins.zero with op := 1, sub := c / 8 } σ).2.2 c w') at cE
  generalize (egM X (szM c σ) true { Ins.zero with op := 1, sub := c / 8 } σ) = V at *
  obtain ⟨y, σ2, f2⟩ := V
  simp only at cE ⊢
  have HI : Hid _ := hI.drew
  clear h hv hI hfl
  go_enter Tryz.func22, Tryz.ntmps22
  try simp only [vl, vs, va, vb, vx]
  clear vl vs va vb vx
  have u0 := insUp0
  have u1 := insUp1
  go_wp2_with fail
  refine cS.mono ?_; rintro e wn ⟨rfl, rfl⟩
  go_wp2
  go_region_with (go_at_call 203; refine cE.mono ?_; rintro e w5 ⟨rfl, hd⟩; have hr5 := HI.out.r.call hd; have pt5 := hr5.put Hv.out)
  all_goals
    go_wp2
    exact bodyPost_ret (v := _) (res1 rfl _ _ w.heap.size _ rfl (RsQ.got Hv.out (by assumption) _)) rfl ⟨rfl, RsQ.fin (by assumption) _⟩
theorem sums_f (w : World) (X : Cx) (σ : Sg) (f : Int × Int × Int) (c : Int) (h : RSt X w σ f c) (h0 : 0 ≤ c) (h1 : c < 256) (hlt : c % 8 < 4) (hgt : ¬ 1 < c % 8) (hfl : σ.fl = none) :
    Calls Tryz.prog 22 #[.pointer (some ⟨X.S, 0, none⟩)] w fun e w' => e = .returned (.agg (insV (egM X (szM c σ) false { Ins.zero with op := 1, sub := c / 8 } σ).1)) ∧ RDn X w (egM X (szM c σ) false { Ins.zero with op := 1, sub := c / 8 } σ).2.1 (egM X (szM c σ) false { Ins.zero with op := 1, sub := c / 8 } σ).2.2 c w' := by
  obtain ⟨T, nI, fsI, psI, hv, Hv, ⟨vl, vs, vb, va, vx⟩, v1, v2, v3, v4, v5, v6, p0, p1, p2, p3, p4, p5, p6, p7, sz, ne⟩ := vlP
  have new1 : ∀ x y o, (storeCells ⟨w.heap.size + 1, 0, none⟩ (insV x).toList).run Tryz.prog ((w.alloc o).alloc (.cells (insV y) T)) = .ok () ((w.alloc o).alloc (.cells (insV x) T)) := fun x y o => hv.new (w.alloc o) _ (by simp) x y
  have hI : InQ T X w w.heap.size (w.heap.size + 1) ((Ins.zero.up 0 1).up 1 (c / 8)) σ f c ((w.alloc (.cells (insV Ins.zero) T)).alloc (.cells (insV ((Ins.zero.up 0 1).up 1 (c / 8))) T)) := by
    have e := (RsQ.start (T := T) h).own ((Ins.zero.up 0 1).up 1 (c / 8))
    rw [show (w.alloc (.cells (insV Ins.zero) T)).heap.size = w.heap.size + 1 by simp] at e
    exact e
  have c9 := h.c9
  have hS := h.ltS
  have hq : c.tdiv 8 = c / 8 := Int.tdiv_eq_ediv_of_nonneg h0
  have ht : c.tmod 8 = c % 8 := Int.tmod_eq_emod_of_nonneg h0
  have hw : IntKind.i64.wrap (c / 8) = c / 8 := IntWalk.i64_in _ ⟨by omega, by omega⟩
  have hw2 : wrap64 (c / 8) = c / 8 := by unfold wrap64; omega
  have hd1 : decide (1 < c % 8) = false := decide_eq_false hgt
  have hd2 : c % 8 ≤ 1 := by omega
  have gD := hv.get hI.drew.op
  have cS := rsize_ok _ X σ f c hI.r.st h0
  have cE := eg_f _ X σ f c hI.drew.r.st hfl ((Ins.zero.up 0 1).up 1 (c / 8)) (szM c σ)
  change Calls _ _ _ _ (fun e w' => e = .returned (.agg (insV (egM X (szM c σ) false { Ins.zero with op := 1, sub := c / 8 } σ).1)) ∧ RDn X _ (egM X (szM c σ) false { Ins.zero with op := 1, sub := c / 8 } σ).2.1 (egM X (szM c σ) false { Ins.zero with op := 1, sub := c / 8 } σ).2.2 c w') at cE
  generalize (egM X (szM c σ) false { Ins.zero with op := 1, sub := c / 8 } σ) = V at *
  obtain ⟨y, σ2, f2⟩ := V
  simp only at cE ⊢
  have HI : Hid _ := hI.drew
  clear h hv hI hfl
  go_enter Tryz.func22, Tryz.ntmps22
  try simp only [vl, vs, va, vb, vx]
  clear vl vs va vb vx
  have u0 := insUp0
  have u1 := insUp1
  go_wp2_with fail
  refine cS.mono ?_; rintro e wn ⟨rfl, rfl⟩
  go_wp2
  go_region_with (go_at_call 203; refine cE.mono ?_; rintro e w5 ⟨rfl, hd⟩; have hr5 := HI.out.r.call hd; have pt5 := hr5.put Hv.out)
  all_goals
    go_wp2
    exact bodyPost_ret (v := _) (res1 rfl _ _ w.heap.size _ rfl (RsQ.got Hv.out (by assumption) _)) rfl ⟨rfl, RsQ.fin (by assumption) _⟩
end Go.Proofs.YtbfccfhjgopnbaaGreat
namespace Go.Proofs.YtbfccfhjgopnbaaGreat
open Go.ChangeShapes Go.WideShapes Go.ChangeAt Go.RowKit
set_option linter.unusedVariables false
set_option linter.unusedSimpArgs false
set_option maxRecDepth 20000
set_option maxHeartbeats 4000000 in
theorem sums_n (w : World) (X : Cx) (σ : Sg) (f : Int × Int × Int) (c : Int) (h : RSt X w σ f c) (h0 : 0 ≤ c) (h1 : c < 256) (hge : ¬ c % 8 < 4) :
    Calls Tryz.prog 22 #[.pointer (some ⟨X.S, 0, none⟩)] w fun e w' => e = .returned (.agg (insV { Ins.zero with op := 1, sub := c / 8, size := szM c σ, a := regO 0 (szM c σ), b := numO (bytesM X (szM c σ) σ).1 })) ∧ RDn X w (bytesM X (szM c σ) σ).2 f c w' := by
  obtain ⟨T, nI, fsI, psI, hv, Hv, ⟨vl, vs, vb, va, vx⟩, v1, v2, v3, v4, v5, v6, p0, p1, p2, p3, p4, p5, p6, p7, sz, ne⟩ := vlP
  obtain ⟨U, mU, ho, Ho, ⟨ol, os, oa⟩, o1, o2, o3, o6, so⟩ := vlOP
  have new1 : ∀ x y o, (storeCells ⟨w.heap.size + 1, 0, none⟩ (insV x).toList).run Tryz.prog ((w.alloc o).alloc (.cells (insV y) T)) = .ok () ((w.alloc o).alloc (.cells (insV x) T)) := fun x y o => hv.new (w.alloc o) _ (by simp) x y
  have hI : ∀ x, InQ T X w w.heap.size (w.heap.size + 1) x σ f c ((w.alloc (.cells (insV Ins.zero) T)).alloc (.cells (insV x) T)) := fun x => by
    have e := (RsQ.start (T := T) h).own x
    rw [show (w.alloc (.cells (insV Ins.zero) T)).heap.size = w.heap.size + 1 by simp] at e
    exact e
  have c9 := h.c9
  have hS := h.ltS
  have hq : c.tdiv 8 = c / 8 := Int.tdiv_eq_ediv_of_nonneg h0
  have ht : c.tmod 8 = c % 8 := Int.tmod_eq_emod_of_nonneg h0
  have hw : IntKind.i64.wrap (c / 8) = c / 8 := IntWalk.i64_in _ ⟨by omega, by omega⟩
  have hw2 : wrap64 (c / 8) = c / 8 := IntWalk.wrap64_in _ ⟨by omega, by omega⟩
  have i2 : ∀ x, (insV x)[2]? = some (.int .i64 x.size) := fun x => rfl
  have cS := rsize_ok _ X σ f c (hI ((Ins.zero.up 0 1).up 1 (c / 8))).r.st h0
  have Hsz : Hid (szM c σ = 1 ∨ szM c σ = 2 ∨ szM c σ = 4) := szM_or h.vv
  obtain ⟨s, hs⟩ : ∃ s, s = szM c σ := ⟨_, rfl⟩
  rw [← hs] at cS Hsz ⊢
  have HI : Hid _ := hI
  clear h hv hI hs ho
  go_enter Tryz.func22, Tryz.ntmps22
  try simp only [vl, vs, va, vb, vx]; simp only [os]
  clear vl vs va vb vx ol os oa
  have u0 := insUp0
  have u1 := insUp1
  have u2 := insUp2
  go_wp2_with fail
  refine cS.mono ?_; rintro e wn ⟨rfl, rfl⟩
  have cR := rReg_ok ((w.alloc (.cells (insV Ins.zero) T)).alloc (.cells (insV (((Ins.zero.up 0 1).up 1 (c / 8)).up 2 s)) T)) 0 s
  obtain ⟨gO, hg⟩ : ∃ gO, regO 0 s = gO := ⟨_, rfl⟩
  rw [hg] at cR
  have HG : Hid _ := hg
  clear hg cS
  go_wp2_with fail
  refine cR.mono ?_; rintro e w3 ⟨rfl, k3⟩
  have hI3 := (HI.out (((Ins.zero.up 0 1).up 1 (c / 8)).up 2 s)).no k3
  have t3 := hI3.putA gO
  have hI4 := hI3.row { (((Ins.zero.up 0 1).up 1 (c / 8)).up 2 s) with a := gO }
  have cN := num_okR _ X σ f c hI4.r.st s Hsz.out
  have HI4 : Hid _ := hI4
  clear hI4 hI3 k3 cR HI
  go_wp2_with fail
  refine cN.mono ?_; rintro e w5 ⟨rfl, hd5⟩
  have hI5 := HI4.out.call hd5
  have cI := rImm_ok w5 (bytesM X s σ).1
  obtain ⟨nO, hn⟩ : ∃ nO, numO (bytesM X s σ).1 = nO := ⟨_, rfl⟩
  rw [hn] at cI
  have HN : Hid _ := hn
  have HI5 : Hid _ := hI5
  clear hn hI5 hd5 cN HI4
  go_wp2_with fail
  refine cI.mono ?_; rintro e w6 ⟨rfl, k6⟩
  have hI6 := HI5.out.no k6
  have t6 := hI6.putB nO
  have hI7 := hI6.row { (((Ins.zero.up 0 1).up 1 (c / 8)).up 2 s) with a := gO, b := nO }
  have g7 := Hv.out.get hI7.op
  have p7' := hI7.r.put Hv.out
  have HI7 : Hid _ := hI7
  clear hI7 hI6 k6 cI HI5
  go_wp2
  refine bodyPost_ret (v := _) (res1 rfl _ _ w.heap.size _ rfl (HI7.out.r.got Hv.out _)) rfl ⟨?_, HI7.out.r.fin _⟩
  rw [HG.out, HN.out]
  rfl
end Go.Proofs.YtbfccfhjgopnbaaGreat
namespace Go.Proofs.YtbfccfhjgopnbaaGreat
open Go.ChangeShapes Go.WideShapes Go.ChangeAt Go.RowKit
set_option linter.unusedVariables false
set_option linter.unusedSimpArgs false
set_option maxHeartbeats 1000000
set_option maxRecDepth 20000
theorem group_132 (w : World) (X : Cx) (σ : Sg) (f : Int × Int × Int) (h : RSt X w σ f 132) (hfl : σ.fl = none) :
    Calls Tryz.prog 25 #[.pointer (some ⟨X.S, 0, none⟩)] w fun e w' => e = .returned (.agg (insV (egM X (szM 132 σ) false { Ins.zero with op := 1, sub := 8 } σ).1)) ∧ RDn X w (egM X (szM 132 σ) false { Ins.zero with op := 1, sub := 8 } σ).2.1 (egM X (szM 132 σ) false { Ins.zero with op := 1, sub := 8 } σ).2.2 132 w' := by
  obtain ⟨T, nI, fsI, psI, hv, Hv, ⟨vl, vs, vb, va, vx⟩, v1, v2, v3, v4, v5, v6, p0, p1, p2, p3, p4, p5, p6, p7, sz, ne⟩ := vlP
  have hr := RsQ.start (T := T) h
  have hrA := fun o => RsQ.no hr (Kp.alloc noB _ o)
  have hrD := hrA
  have hS := h.ltS
  have c4 := h.c4
  have c9 := h.c9
  have Hfl : Hid _ := hfl
  clear h hv hfl
  go_enter Tryz.func25, Tryz.ntmps25
  try simp only [vl, vs, va, vb, vx]
  clear vl vs va vb vx
  have u0 := insUp0
  have u1 := insUp1
  go_wp2_with (first
    | (go_at_call 209; refine (rsize_ok _ X _ _ _ (RsQ.st (by first | assumption | exact hrD _ | exact hrA _)) (by decide)).mono ?_; rintro e wn ⟨rfl, rfl⟩)
    | (go_at_call 203; refine (eg_f _ X σ f 132 (RsQ.st (by first | assumption | exact hrD _ | exact hrA _)) Hfl.out _ _).mono ?_; rintro e wn ⟨rfl, hd⟩; have hrn := RsQ.call (by first | assumption | exact hrD _ | exact hrA _) hd; have ptn := hrn.put Hv.out))
  exact bodyPost_ret (v := _) (res1 rfl _ _ w.heap.size _ rfl (RsQ.got Hv.out (by assumption) _)) rfl ⟨rfl, RsQ.fin (by assumption) _⟩
theorem group_133 (w : World) (X : Cx) (σ : Sg) (f : Int × Int × Int) (h : RSt X w σ f 133) (hfl : σ.fl = none) :
    Calls Tryz.prog 25 #[.pointer (some ⟨X.S, 0, none⟩)] w fun e w' => e = .returned (.agg (insV (egM X (szM 133 σ) false { Ins.zero with op := 1, sub := 8 } σ).1)) ∧ RDn X w (egM X (szM 133 σ) false { Ins.zero with op := 1, sub := 8 } σ).2.1 (egM X (szM 133 σ) false { Ins.zero with op := 1, sub := 8 } σ).2.2 133 w' := by
  obtain ⟨T, nI, fsI, psI, hv, Hv, ⟨vl, vs, vb, va, vx⟩, v1, v2, v3, v4, v5, v6, p0, p1, p2, p3, p4, p5, p6, p7, sz, ne⟩ := vlP
  have hr := RsQ.start (T := T) h
  have hrA := fun o => RsQ.no hr (Kp.alloc noB _ o)
  have hrD := hrA
  have hS := h.ltS
  have c4 := h.c4
  have c9 := h.c9
  have Hfl : Hid _ := hfl
  clear h hv hfl
  go_enter Tryz.func25, Tryz.ntmps25
  try simp only [vl, vs, va, vb, vx]
  clear vl vs va vb vx
  have u0 := insUp0
  have u1 := insUp1
  go_wp2_with (first
    | (go_at_call 209; refine (rsize_ok _ X _ _ _ (RsQ.st (by first | assumption | exact hrD _ | exact hrA _)) (by decide)).mono ?_; rintro e wn ⟨rfl, rfl⟩)
    | (go_at_call 203; refine (eg_f _ X σ f 133 (RsQ.st (by first | assumption | exact hrD _ | exact hrA _)) Hfl.out _ _).mono ?_; rintro e wn ⟨rfl, hd⟩; have hrn := RsQ.call (by first | assumption | exact hrD _ | exact hrA _) hd; have ptn := hrn.put Hv.out))
  exact bodyPost_ret (v := _) (res1 rfl _ _ w.heap.size _ rfl (RsQ.got Hv.out (by assumption) _)) rfl ⟨rfl, RsQ.fin (by assumption) _⟩
theorem group_134 (w : World) (X : Cx) (σ : Sg) (f : Int × Int × Int) (h : RSt X w σ f 134) (hfl : σ.fl = none) :
    Calls Tryz.prog 25 #[.pointer (some ⟨X.S, 0, none⟩)] w fun e w' => e = .returned (.agg (insV (egM X (szM 134 σ) false { Ins.zero with op := 10 } σ).1)) ∧ RDn X w (egM X (szM 134 σ) false { Ins.zero with op := 10 } σ).2.1 (egM X (szM 134 σ) false { Ins.zero with op := 10 } σ).2.2 134 w' := by
  obtain ⟨T, nI, fsI, psI, hv, Hv, ⟨vl, vs, vb, va, vx⟩, v1, v2, v3, v4, v5, v6, p0, p1, p2, p3, p4, p5, p6, p7, sz, ne⟩ := vlP
  have hr := RsQ.start (T := T) h
  have hrA := fun o => RsQ.no hr (Kp.alloc noB _ o)
  have hrD := hrA
  have hS := h.ltS
  have c4 := h.c4
  have c9 := h.c9
  have Hfl : Hid _ := hfl
  clear h hv hfl
  go_enter Tryz.func25, Tryz.ntmps25
  try simp only [vl, vs, va, vb, vx]
  clear vl vs va vb vx
  have u0 := insUp0
  go_wp2_with (first
    | (go_at_call 209; refine (rsize_ok _ X _ _ _ (RsQ.st (by first | assumption | exact hrD _ | exact hrA _)) (by decide)).mono ?_; rintro e wn ⟨rfl, rfl⟩)
    | (go_at_call 203; refine (eg_f _ X σ f 134 (RsQ.st (by first | assumption | exact hrD _ | exact hrA _)) Hfl.out _ _).mono ?_; rintro e wn ⟨rfl, hd⟩; have hrn := RsQ.call (by first | assumption | exact hrD _ | exact hrA _) hd; have ptn := hrn.put Hv.out))
  exact bodyPost_ret (v := _) (res1 rfl _ _ w.heap.size _ rfl (RsQ.got Hv.out (by assumption) _)) rfl ⟨rfl, RsQ.fin (by assumption) _⟩
theorem group_135 (w : World) (X : Cx) (σ : Sg) (f : Int × Int × Int) (h : RSt X w σ f 135) (hfl : σ.fl = none) :
    Calls Tryz.prog 25 #[.pointer (some ⟨X.S, 0, none⟩)] w fun e w' => e = .returned (.agg (insV (egM X (szM 135 σ) false { Ins.zero with op := 10 } σ).1)) ∧ RDn X w (egM X (szM 135 σ) false { Ins.zero with op := 10 } σ).2.1 (egM X (szM 135 σ) false { Ins.zero with op := 10 } σ).2.2 135 w' := by
  obtain ⟨T, nI, fsI, psI, hv, Hv, ⟨vl, vs, vb, va, vx⟩, v1, v2, v3, v4, v5, v6, p0, p1, p2, p3, p4, p5, p6, p7, sz, ne⟩ := vlP
  have hr := RsQ.start (T := T) h
  have hrA := fun o => RsQ.no hr (Kp.alloc noB _ o)
  have hrD := hrA
  have hS := h.ltS
  have c4 := h.c4
  have c9 := h.c9
  have Hfl : Hid _ := hfl
  clear h hv hfl
  go_enter Tryz.func25, Tryz.ntmps25
  try simp only [vl, vs, va, vb, vx]
  clear vl vs va vb vx
  have u0 := insUp0
  go_wp2_with (first
    | (go_at_call 209; refine (rsize_ok _ X _ _ _ (RsQ.st (by first | assumption | exact hrD _ | exact hrA _)) (by decide)).mono ?_; rintro e wn ⟨rfl, rfl⟩)
    | (go_at_call 203; refine (eg_f _ X σ f 135 (RsQ.st (by first | assumption | exact hrD _ | exact hrA _)) Hfl.out _ _).mono ?_; rintro e wn ⟨rfl, hd⟩; have hrn := RsQ.call (by first | assumption | exact hrD _ | exact hrA _) hd; have ptn := hrn.put Hv.out))
  exact bodyPost_ret (v := _) (res1 rfl _ _ w.heap.size _ rfl (RsQ.got Hv.out (by assumption) _)) rfl ⟨rfl, RsQ.fin (by assumption) _⟩
theorem group_136 (w : World) (X : Cx) (σ : Sg) (f : Int × Int × Int) (h : RSt X w σ f 136) (hfl : σ.fl = none) :
    Calls Tryz.prog 25 #[.pointer (some ⟨X.S, 0, none⟩)] w fun e w' => e = .returned (.agg (insV (egM X (szM 136 σ) false { Ins.zero with op := 8 } σ).1)) ∧ RDn X w (egM X (szM 136 σ) false { Ins.zero with op := 8 } σ).2.1 (egM X (szM 136 σ) false { Ins.zero with op := 8 } σ).2.2 136 w' := by
  obtain ⟨T, nI, fsI, psI, hv, Hv, ⟨vl, vs, vb, va, vx⟩, v1, v2, v3, v4, v5, v6, p0, p1, p2, p3, p4, p5, p6, p7, sz, ne⟩ := vlP
  have hr := RsQ.start (T := T) h
  have hrA := fun o => RsQ.no hr (Kp.alloc noB _ o)
  have hrD := hrA
  have hS := h.ltS
  have c4 := h.c4
  have c9 := h.c9
  have Hfl : Hid _ := hfl
  clear h hv hfl
  go_enter Tryz.func25, Tryz.ntmps25
  try simp only [vl, vs, va, vb, vx]
  clear vl vs va vb vx
  have u0 := insUp0
  go_wp2_with (first
    | (go_at_call 209; refine (rsize_ok _ X _ _ _ (RsQ.st (by first | assumption | exact hrD _ | exact hrA _)) (by decide)).mono ?_; rintro e wn ⟨rfl, rfl⟩)
    | (go_at_call 203; refine (eg_f _ X σ f 136 (RsQ.st (by first | assumption | exact hrD _ | exact hrA _)) Hfl.out _ _).mono ?_; rintro e wn ⟨rfl, hd⟩; have hrn := RsQ.call (by first | assumption | exact hrD _ | exact hrA _) hd; have ptn := hrn.put Hv.out))
  exact bodyPost_ret (v := _) (res1 rfl _ _ w.heap.size _ rfl (RsQ.got Hv.out (by assumption) _)) rfl ⟨rfl, RsQ.fin (by assumption) _⟩
theorem group_137 (w : World) (X : Cx) (σ : Sg) (f : Int × Int × Int) (h : RSt X w σ f 137) (hfl : σ.fl = none) :
    Calls Tryz.prog 25 #[.pointer (some ⟨X.S, 0, none⟩)] w fun e w' => e = .returned (.agg (insV (egM X (szM 137 σ) false { Ins.zero with op := 8 } σ).1)) ∧ RDn X w (egM X (szM 137 σ) false { Ins.zero with op := 8 } σ).2.1 (egM X (szM 137 σ) false { Ins.zero with op := 8 } σ).2.2 137 w' := by
  obtain ⟨T, nI, fsI, psI, hv, Hv, ⟨vl, vs, vb, va, vx⟩, v1, v2, v3, v4, v5, v6, p0, p1, p2, p3, p4, p5, p6, p7, sz, ne⟩ := vlP
  have hr := RsQ.start (T := T) h
  have hrA := fun o => RsQ.no hr (Kp.alloc noB _ o)
  have hrD := hrA
  have hS := h.ltS
  have c4 := h.c4
  have c9 := h.c9
  have Hfl : Hid _ := hfl
  clear h hv hfl
  go_enter Tryz.func25, Tryz.ntmps25
  try simp only [vl, vs, va, vb, vx]
  clear vl vs va vb vx
  have u0 := insUp0
  go_wp2_with (first
    | (go_at_call 209; refine (rsize_ok _ X _ _ _ (RsQ.st (by first | assumption | exact hrD _ | exact hrA _)) (by decide)).mono ?_; rintro e wn ⟨rfl, rfl⟩)
    | (go_at_call 203; refine (eg_f _ X σ f 137 (RsQ.st (by first | assumption | exact hrD _ | exact hrA _)) Hfl.out _ _).mono ?_; rintro e wn ⟨rfl, hd⟩; have hrn := RsQ.call (by first | assumption | exact hrD _ | exact hrA _) hd; have ptn := hrn.put Hv.out))
  exact bodyPost_ret (v := _) (res1 rfl _ _ w.heap.size _ rfl (RsQ.got Hv.out (by assumption) _)) rfl ⟨rfl, RsQ.fin (by assumption) _⟩
theorem group_138 (w : World) (X : Cx) (σ : Sg) (f : Int × Int × Int) (h : RSt X w σ f 138) (hfl : σ.fl = none) :
    Calls Tryz.prog 25 #[.pointer (some ⟨X.S, 0, none⟩)] w fun e w' => e = .returned (.agg (insV (egM X (szM 138 σ) true { Ins.zero with op := 8 } σ).1)) ∧ RDn X w (egM X (szM 138 σ) true { Ins.zero with op := 8 } σ).2.1 (egM X (szM 138 σ) true { Ins.zero with op := 8 } σ).2.2 138 w' := by
  obtain ⟨T, nI, fsI, psI, hv, Hv, ⟨vl, vs, vb, va, vx⟩, v1, v2, v3, v4, v5, v6, p0, p1, p2, p3, p4, p5, p6, p7, sz, ne⟩ := vlP
  have hr := RsQ.start (T := T) h
  have hrA := fun o => RsQ.no hr (Kp.alloc noB _ o)
  have hrD := hrA
  have hS := h.ltS
  have c4 := h.c4
  have c9 := h.c9
  have Hfl : Hid _ := hfl
  clear h hv hfl
  go_enter Tryz.func25, Tryz.ntmps25
  try simp only [vl, vs, va, vb, vx]
  clear vl vs va vb vx
  have u0 := insUp0
  go_wp2_with (first
    | (go_at_call 209; refine (rsize_ok _ X _ _ _ (RsQ.st (by first | assumption | exact hrD _ | exact hrA _)) (by decide)).mono ?_; rintro e wn ⟨rfl, rfl⟩)
    | (go_at_call 203; refine (eg_t _ X σ f 138 (RsQ.st (by first | assumption | exact hrD _ | exact hrA _)) Hfl.out _ _).mono ?_; rintro e wn ⟨rfl, hd⟩; have hrn := RsQ.call (by first | assumption | exact hrD _ | exact hrA _) hd; have ptn := hrn.put Hv.out))
  exact bodyPost_ret (v := _) (res1 rfl _ _ w.heap.size _ rfl (RsQ.got Hv.out (by assumption) _)) rfl ⟨rfl, RsQ.fin (by assumption) _⟩
theorem group_139 (w : World) (X : Cx) (σ : Sg) (f : Int × Int × Int) (h : RSt X w σ f 139) (hfl : σ.fl = none) :
    Calls Tryz.prog 25 #[.pointer (some ⟨X.S, 0, none⟩)] w fun e w' => e = .returned (.agg (insV (egM X (szM 139 σ) true { Ins.zero with op := 8 } σ).1)) ∧ RDn X w (egM X (szM 139 σ) true { Ins.zero with op := 8 } σ).2.1 (egM X (szM 139 σ) true { Ins.zero with op := 8 } σ).2.2 139 w' := by
  obtain ⟨T, nI, fsI, psI, hv, Hv, ⟨vl, vs, vb, va, vx⟩, v1, v2, v3, v4, v5, v6, p0, p1, p2, p3, p4, p5, p6, p7, sz, ne⟩ := vlP
  have hr := RsQ.start (T := T) h
  have hrA := fun o => RsQ.no hr (Kp.alloc noB _ o)
  have hrD := hrA
  have hS := h.ltS
  have c4 := h.c4
  have c9 := h.c9
  have Hfl : Hid _ := hfl
  clear h hv hfl
  go_enter Tryz.func25, Tryz.ntmps25
  try simp only [vl, vs, va, vb, vx]
  clear vl vs va vb vx
  have u0 := insUp0
  go_wp2_with (first
    | (go_at_call 209; refine (rsize_ok _ X _ _ _ (RsQ.st (by first | assumption | exact hrD _ | exact hrA _)) (by decide)).mono ?_; rintro e wn ⟨rfl, rfl⟩)
    | (go_at_call 203; refine (eg_t _ X σ f 139 (RsQ.st (by first | assumption | exact hrD _ | exact hrA _)) Hfl.out _ _).mono ?_; rintro e wn ⟨rfl, hd⟩; have hrn := RsQ.call (by first | assumption | exact hrD _ | exact hrA _) hd; have ptn := hrn.put Hv.out))
  exact bodyPost_ret (v := _) (res1 rfl _ _ w.heap.size _ rfl (RsQ.got Hv.out (by assumption) _)) rfl ⟨rfl, RsQ.fin (by assumption) _⟩
theorem bits_163 (w : World) (X : Cx) (σ : Sg) (f : Int × Int × Int) (h : RSt X w σ f 163) (hfl : σ.fl = none) :
    Calls Tryz.prog 208 #[.pointer (some ⟨X.S, 0, none⟩)] w fun e w' => e = .returned (.agg (insV (egM X σ.v false { Ins.zero with op := 23, sub := 0 } σ).1)) ∧ RDn X w (egM X σ.v false { Ins.zero with op := 23, sub := 0 } σ).2.1 (egM X σ.v false { Ins.zero with op := 23, sub := 0 } σ).2.2 163 w' := by
  obtain ⟨T, nI, fsI, psI, hv, Hv, ⟨vl, vs, vb, va, vx⟩, v1, v2, v3, v4, v5, v6, p0, p1, p2, p3, p4, p5, p6, p7, sz, ne⟩ := vlP
  have hr := RsQ.start (T := T) h
  have hrA := fun o => RsQ.no hr (Kp.alloc noB _ o)
  have hrD := hrA
  have hS := h.ltS
  have c4 := h.c4
  have c9 := h.c9
  have Hfl : Hid _ := hfl
  clear h hv hfl
  go_enter Tryz.func208, Tryz.ntmps208
  try simp only [vl, vs, va, vb, vx]
  clear vl vs va vb vx
  have u0 := insUp0
  have u1 := insUp1
  go_wp2_with (first
    | (go_at_call 209; refine (rsize_ok _ X _ _ _ (RsQ.st (by first | assumption | exact hrD _ | exact hrA _)) (by decide)).mono ?_; rintro e wn ⟨rfl, rfl⟩)
    | (go_at_call 203; refine (eg_f _ X σ f 163 (RsQ.st (by first | assumption | exact hrD _ | exact hrA _)) Hfl.out _ _).mono ?_; rintro e wn ⟨rfl, hd⟩; have hrn := RsQ.call (by first | assumption | exact hrD _ | exact hrA _) hd; have ptn := hrn.put Hv.out))
  exact bodyPost_ret (v := _) (res1 rfl _ _ w.heap.size _ rfl (RsQ.got Hv.out (by assumption) _)) rfl ⟨rfl, RsQ.fin (by assumption) _⟩
theorem bits_171 (w : World) (X : Cx) (σ : Sg) (f : Int × Int × Int) (h : RSt X w σ f 171) (hfl : σ.fl = none) :
    Calls Tryz.prog 208 #[.pointer (some ⟨X.S, 0, none⟩)] w fun e w' => e = .returned (.agg (insV (egM X σ.v false { Ins.zero with op := 23, sub := 1 } σ).1)) ∧ RDn X w (egM X σ.v false { Ins.zero with op := 23, sub := 1 } σ).2.1 (egM X σ.v false { Ins.zero with op := 23, sub := 1 } σ).2.2 171 w' := by
  obtain ⟨T, nI, fsI, psI, hv, Hv, ⟨vl, vs, vb, va, vx⟩, v1, v2, v3, v4, v5, v6, p0, p1, p2, p3, p4, p5, p6, p7, sz, ne⟩ := vlP
  have hr := RsQ.start (T := T) h
  have hrA := fun o => RsQ.no hr (Kp.alloc noB _ o)
  have hrD := hrA
  have hS := h.ltS
  have c4 := h.c4
  have c9 := h.c9
  have Hfl : Hid _ := hfl
  clear h hv hfl
  go_enter Tryz.func208, Tryz.ntmps208
  try simp only [vl, vs, va, vb, vx]
  clear vl vs va vb vx
  have u0 := insUp0
  have u1 := insUp1
  go_wp2_with (first
    | (go_at_call 209; refine (rsize_ok _ X _ _ _ (RsQ.st (by first | assumption | exact hrD _ | exact hrA _)) (by decide)).mono ?_; rintro e wn ⟨rfl, rfl⟩)
    | (go_at_call 203; refine (eg_f _ X σ f 171 (RsQ.st (by first | assumption | exact hrD _ | exact hrA _)) Hfl.out _ _).mono ?_; rintro e wn ⟨rfl, hd⟩; have hrn := RsQ.call (by first | assumption | exact hrD _ | exact hrA _) hd; have ptn := hrn.put Hv.out))
  exact bodyPost_ret (v := _) (res1 rfl _ _ w.heap.size _ rfl (RsQ.got Hv.out (by assumption) _)) rfl ⟨rfl, RsQ.fin (by assumption) _⟩
theorem bits_179 (w : World) (X : Cx) (σ : Sg) (f : Int × Int × Int) (h : RSt X w σ f 179) (hfl : σ.fl = none) :
    Calls Tryz.prog 208 #[.pointer (some ⟨X.S, 0, none⟩)] w fun e w' => e = .returned (.agg (insV (egM X σ.v false { Ins.zero with op := 23, sub := 2 } σ).1)) ∧ RDn X w (egM X σ.v false { Ins.zero with op := 23, sub := 2 } σ).2.1 (egM X σ.v false { Ins.zero with op := 23, sub := 2 } σ).2.2 179 w' := by
  obtain ⟨T, nI, fsI, psI, hv, Hv, ⟨vl, vs, vb, va, vx⟩, v1, v2, v3, v4, v5, v6, p0, p1, p2, p3, p4, p5, p6, p7, sz, ne⟩ := vlP
  have hr := RsQ.start (T := T) h
  have hrA := fun o => RsQ.no hr (Kp.alloc noB _ o)
  have hrD := hrA
  have hS := h.ltS
  have c4 := h.c4
  have c9 := h.c9
  have Hfl : Hid _ := hfl
  clear h hv hfl
  go_enter Tryz.func208, Tryz.ntmps208
  try simp only [vl, vs, va, vb, vx]
  clear vl vs va vb vx
  have u0 := insUp0
  have u1 := insUp1
  go_wp2_with (first
    | (go_at_call 209; refine (rsize_ok _ X _ _ _ (RsQ.st (by first | assumption | exact hrD _ | exact hrA _)) (by decide)).mono ?_; rintro e wn ⟨rfl, rfl⟩)
    | (go_at_call 203; refine (eg_f _ X σ f 179 (RsQ.st (by first | assumption | exact hrD _ | exact hrA _)) Hfl.out _ _).mono ?_; rintro e wn ⟨rfl, hd⟩; have hrn := RsQ.call (by first | assumption | exact hrD _ | exact hrA _) hd; have ptn := hrn.put Hv.out))
  exact bodyPost_ret (v := _) (res1 rfl _ _ w.heap.size _ rfl (RsQ.got Hv.out (by assumption) _)) rfl ⟨rfl, RsQ.fin (by assumption) _⟩
theorem bits_187 (w : World) (X : Cx) (σ : Sg) (f : Int × Int × Int) (h : RSt X w σ f 187) (hfl : σ.fl = none) :
    Calls Tryz.prog 208 #[.pointer (some ⟨X.S, 0, none⟩)] w fun e w' => e = .returned (.agg (insV (egM X σ.v false { Ins.zero with op := 23, sub := 3 } σ).1)) ∧ RDn X w (egM X σ.v false { Ins.zero with op := 23, sub := 3 } σ).2.1 (egM X σ.v false { Ins.zero with op := 23, sub := 3 } σ).2.2 187 w' := by
  obtain ⟨T, nI, fsI, psI, hv, Hv, ⟨vl, vs, vb, va, vx⟩, v1, v2, v3, v4, v5, v6, p0, p1, p2, p3, p4, p5, p6, p7, sz, ne⟩ := vlP
  have hr := RsQ.start (T := T) h
  have hrA := fun o => RsQ.no hr (Kp.alloc noB _ o)
  have hrD := hrA
  have hS := h.ltS
  have c4 := h.c4
  have c9 := h.c9
  have Hfl : Hid _ := hfl
  clear h hv hfl
  go_enter Tryz.func208, Tryz.ntmps208
  try simp only [vl, vs, va, vb, vx]
  clear vl vs va vb vx
  have u0 := insUp0
  have u1 := insUp1
  go_wp2_with (first
    | (go_at_call 209; refine (rsize_ok _ X _ _ _ (RsQ.st (by first | assumption | exact hrD _ | exact hrA _)) (by decide)).mono ?_; rintro e wn ⟨rfl, rfl⟩)
    | (go_at_call 203; refine (eg_f _ X σ f 187 (RsQ.st (by first | assumption | exact hrD _ | exact hrA _)) Hfl.out _ _).mono ?_; rintro e wn ⟨rfl, hd⟩; have hrn := RsQ.call (by first | assumption | exact hrD _ | exact hrA _) hd; have ptn := hrn.put Hv.out))
  exact bodyPost_ret (v := _) (res1 rfl _ _ w.heap.size _ rfl (RsQ.got Hv.out (by assumption) _)) rfl ⟨rfl, RsQ.fin (by assumption) _⟩
end Go.Proofs.YtbfccfhjgopnbaaGreat
