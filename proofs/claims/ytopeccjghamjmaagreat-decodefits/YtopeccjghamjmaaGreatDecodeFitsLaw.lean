/- DecodeFits: the walk. -/
import Derived.Test.YtopeccjghamjmaaGreatDecFrame
import Derived.Test.YtopeccjghamjmaaGreatDecFit
import Derived.LoopTactic
import Derived.Deep.Cut
import Derived.Deep.CutRange
namespace Go.Proofs.YtopeccjghamjmaaGreat
open Go.ChangeShapes Go.WideShapes Go.ChangeAt Go.RowKit
set_option linter.unusedVariables false
set_option maxRecDepth 20000

theorem tab_fine : ∀ e ∈ tab, e.2.fine = true := by decide +kernel

theorem preS_iv {X : Cx} (b : Int) (σ : Sg) (h : Iv X σ) : Iv X (preS b σ) := by
  unfold preS
  repeat' split
  all_goals exact ⟨h.le, h.fl, by first | exact h.sg | (refine ⟨?_, ?_⟩ <;> (dsimp only; omega)), by first | exact h.vv | exact Or.inl rfl⟩

theorem preS_rep (b : Int) (σ : Sg) (h : RepOk σ) : RepOk (preS b σ) := by
  unfold preS
  repeat' split
  all_goals first | exact h | exact Or.inr (Or.inl rfl) | exact Or.inr (Or.inr rfl)

theorem preS_ins (b : Int) (σ : Sg) : (preS b σ).ins = σ.ins ∧ (preS b σ).fl = σ.fl := by
  unfold preS
  repeat' split
  all_goals exact ⟨rfl, rfl⟩

structure Rdy (X : Cx) (σ : Sg) : Prop where
  iv : Iv X σ
  em : Emp σ.ins
  rp : RepOk σ

theorem take_rdy {X : Cx} (hb : Byt X) {σ : Sg} (h : Rdy X σ) : Rdy X (take X σ).2 := by
  have t := take_iv hb σ h.iv
  have f := take_fr X σ
  exact ⟨t.2, h.em.fr f, by have := h.rp; unfold RepOk at this ⊢; rw [f.rep]; exact this⟩

theorem preS_rdy {X : Cx} {σ : Sg} (b : Int) (h : Rdy X σ) : Rdy X (preS b σ) := ⟨preS_iv b σ h.iv, by rw [(preS_ins b σ).1]; exact h.em, preS_rep b σ h.rp⟩

theorem preL_rdy {X : Cx} (hb : Byt X) : ∀ (n : Nat) (b : Int) (σ : Sg), Rdy X σ → Rdy X (preL X n b σ).2
  | 0, b, σ, h => h
  | n + 1, b, σ, h => by
    unfold preL
    split
    · exact preL_rdy hb n _ _ (take_rdy hb (preS_rdy b h))
    · exact h

theorem opM_rdy {X : Cx} (hb : Byt X) (b : Int) (σ : Sg) (h : Rdy X σ) : Rdy X (opM X b σ).2 := by
  unfold opM
  split
  · exact take_rdy hb h
  · exact h

theorem full_fit {L : Nat} {bt : Nat → Int} (hb : ∀ j, j < L → 0 ≤ bt j ∧ bt j < 256) (h : (decM ruleOf L bt).2 = 0) : FitI (decM ruleOf L bt).1 := by
  have e := decM_ok h
  rw [decM_err] at h
  have hB : Byt (bx L bt) := hb
  have r0 : Rdy (bx L bt) sg0 := ⟨⟨Nat.zero_le _, (fun _ _ _ h => by cases h), (by decide), Or.inr rfl⟩, ⟨rfl, rfl, rfl, rfl⟩, Or.inl rfl⟩
  have r1 := take_rdy hB r0
  have r2 := preL_rdy hB 16 (take (bx L bt) sg0).1 _ r1
  have r3 := opM_rdy hB (preL (bx L bt) 16 (take (bx L bt) sg0).1 (take (bx L bt) sg0).2).1 _ r2
  obtain ⟨b, hbq⟩ : ∃ b, b = (opM (bx L bt) (preL (bx L bt) 16 (take (bx L bt) sg0).1 (take (bx L bt) sg0).2).1 (preL (bx L bt) 16 (take (bx L bt) sg0).1 (take (bx L bt) sg0).2).2).1 := ⟨_, rfl⟩
  obtain ⟨σ, hσ⟩ : ∃ σ, σ = (opM (bx L bt) (preL (bx L bt) 16 (take (bx L bt) sg0).1 (take (bx L bt) sg0).2).1 (preL (bx L bt) 16 (take (bx L bt) sg0).1 (take (bx L bt) sg0).2).2).2 := ⟨_, rfl⟩
  have hf : fullM ruleOf (bx L bt) sg0 = behM ruleOf b (bx L bt) σ := by rw [hbq, hσ]; rfl
  rw [← hσ] at r3
  rw [e]
  rw [hf] at h ⊢
  clear e hf
  have key : FitI (behM ruleOf b (bx L bt) σ).ins := by
    unfold behM at h ⊢
    cases hr : ruleOf b with
    | none => rw [hr] at h; exact absurd h (refuse_no _)
    | some r =>
      rw [hr] at h
      obtain ⟨n, hn⟩ := ruleOf_in hr
      exact rule_fit hB r (tab_fine _ hn) (opS b σ) ⟨r3.iv.le, r3.iv.fl, r3.iv.sg, r3.iv.vv⟩ r3.em r3.rp h
  exact ⟨key.size, key.op, key.rep, key.a, key.b, key.c⟩

def opsV (x : Ins) : Array Value := #[.int .i64 x.a.kind, .int .i64 x.a.reg, .int .i64 x.a.size, .int .i64 x.a.seg, .int .i64 x.a.base, .int .i64 x.a.index, .int .i64 x.a.scale, .int .u32 x.a.disp, .int .u32 x.a.imm, .int .i64 x.b.kind, .int .i64 x.b.reg, .int .i64 x.b.size, .int .i64 x.b.seg, .int .i64 x.b.base, .int .i64 x.b.index, .int .i64 x.b.scale, .int .u32 x.b.disp, .int .u32 x.b.imm, .int .i64 x.c.kind, .int .i64 x.c.reg, .int .i64 x.c.size, .int .i64 x.c.seg, .int .i64 x.c.base, .int .i64 x.c.index, .int .i64 x.c.scale, .int .u32 x.c.disp, .int .u32 x.c.imm]

def opOf (x : Ins) (i : Nat) : Opd := if i = 0 then x.a else if i = 1 then x.b else x.c

theorem opsV_at (x : Ins) (i : Nat) (hi : i < 3) : (opsV x)[i * 9]? = some (.int .i64 (opOf x i).kind) ∧ (opsV x)[i * 9 + 1]? = some (.int .i64 (opOf x i).reg) ∧ (opsV x)[i * 9 + 2]? = some (.int .i64 (opOf x i).size) ∧ (opsV x)[i * 9 + 3]? = some (.int .i64 (opOf x i).seg) ∧ (opsV x)[i * 9 + 4]? = some (.int .i64 (opOf x i).base) ∧ (opsV x)[i * 9 + 5]? = some (.int .i64 (opOf x i).index) ∧ (opsV x)[i * 9 + 6]? = some (.int .i64 (opOf x i).scale) ∧ (opsV x)[i * 9 + 7]? = some (.int .u32 (opOf x i).disp) ∧ (opsV x)[i * 9 + 8]? = some (.int .u32 (opOf x i).imm) := by
  rcases (by omega : i = 0 ∨ i = 1 ∨ i = 2) with rfl | rfl | rfl <;> exact ⟨rfl, rfl, rfl, rfl, rfl, rfl, rfl, rfl, rfl⟩

theorem opOf_fit {x : Ins} (h : FitI x) (i : Nat) : fitO x.op x.size (opOf x i) := by
  unfold opOf
  split
  · exact h.a
  · split
    · exact h.b
    · exact h.c

def bR (r : Int) : Bool := decide (0 ≤ r) && decide (r < 8)
def bS (s : Int) : Bool := s == 1 || s == 2 || s == 4

theorem BytIn.kp {w w' : World} {a : Option Addr} {L : Nat} {bt : Nat → Int} (h : BytIn w a L bt) (k : Kp noB w w') : BytIn w' a L bt :=
  ⟨fun j hj => by
    obtain ⟨b, o, e, hb, hc⟩ := h.at' j hj
    exact ⟨b, o, e, Nat.lt_of_lt_of_le hb k.size, cell_kept hc k id⟩, h.bd, h.le⟩

theorem dec_in {w : World} {a : Option Addr} {L : Nat} {bt : Nat → Int} (cap : Nat) (h : BytIn w a L bt) : Calls Tryz.prog 10 #[.slice a L cap] w fun e w' => e = .returned (.tuple #[.agg (insV (decM ruleOf L bt).1), .int .i64 (decM ruleOf L bt).2]) ∧ Kp noB w w' :=
  decode_ok ruleOf tabOk w a cap L bt (by have := h.le; omega) h.at' h.bd

set_option maxHeartbeats 4000000 in
theorem DecodeFits_walk (w : World) (a0 : Option Addr) (L cap : Nat) (bt : Nat → Int) (hB : BytIn w a0 L bt) :
    Calls Tryz.prog 7 #[.slice a0 L cap] w fun e w' => e = .returned (.bool true) ∧ Below w.heap.size w w' := by
  obtain ⟨T, nI, Z, fsI, psI, h⟩ := vlF
  have H : Hid _ := h
  obtain ⟨vl, vs, vb, va, ve⟩ := h.ops
  have v1 := h.agg
  have v2 := h.size
  have v3 := h.zero
  have v7 := h.zs
  have v8 := h.zn
  obtain ⟨x, hx⟩ : ∃ x, x = (decM ruleOf L bt).1 := ⟨_, rfl⟩
  obtain ⟨er, her⟩ : ∃ er, er = (decM ruleOf L bt).2 := ⟨_, rfl⟩
  have hfit : er = 0 → FitI x := fun h => by rw [hx]; exact full_fit hB.bd (by rw [← her]; exact h)
  have HF : Hid _ := hfit
  have s1 := h.v.cells x
  have n1 := h.new x
  have cA := awake_ok tabOk w
  have HB : Hid _ := hB
  have HD : Hid (∀ w1, Kp noB w w1 → Calls Tryz.prog 10 #[.slice a0 L cap] w1 fun e w' => e = .returned (.tuple #[.agg (insV x), .int .i64 er]) ∧ Kp noB w1 w') := fun w1 k => by rw [hx, her]; exact dec_in cap (hB.kp k)
  clear h hB hx her hfit vl vb ve
  go_enter Tryz.func7, Tryz.ntmps7
  simp only [vs, va]
  clear vs va
  go_wp2_with fail
  refine cA.mono ?_; rintro e w1 ⟨rfl, k1⟩
  have cD := HD.out w1 k1
  clear cA
  go_wp2_with fail
  refine cD.mono ?_; rintro e w2 ⟨rfl, k2⟩
  have K2 : Hid _ := (k1.trans k2).trans (Kp.alloc noB w2 (.cells (insV x) T))
  have hq := (MapKept.heap_alloc w2 (.cells (insV x) T)).1
  clear cD k1 k2 HD HB
  by_cases he : er = 0
  · subst he
    have c : ∀ k, (w2.alloc (.cells (insV x) T)).cell? ⟨w2.heap.size, k, none⟩ = (insV x)[k]? := fun k => cell_of_row _ _ _ _ _ _ hq
    have c0 : (w2.alloc (.cells (insV x) T)).cell? ⟨w2.heap.size, 0, none⟩ = some (.int .i64 x.op) := c 0
    have c2 : (w2.alloc (.cells (insV x) T)).cell? ⟨w2.heap.size, 2, none⟩ = some (.int .i64 x.size) := c 2
    have c30 : (w2.alloc (.cells (insV x) T)).cell? ⟨w2.heap.size, 30, none⟩ = some (.int .i64 x.rep) := c 30
    have HC : Hid _ := c
    have fit := HF.out rfl
    have HFit : Hid _ := fit
    obtain ⟨f1, ⟨f2, f3⟩, f4, fa, fb, fc⟩ := fit
    have Hs : Hid _ := f1
    have Hr : Hid _ := f4
    clear c f1 f4 fa fb fc HF hq
    go_upto_region 5 with fail
    go_cut [53] from 12 (fun s53 wq => s53 = .bool false ∧ wq = w2.alloc (.cells (insV x) T))
    case first =>
      have g1 : decide (x.op < 1) = false := by simp; omega
      have g2 : decide (x.op > 47) = false := by simp; omega
      have g2' : decide (47 < x.op) = false := by simp; omega
      rcases Hs.out with hs | hs | hs <;> rcases Hr.out with hr | ⟨ho, hr | hr⟩ <;> rw [hs] at c2 <;> rw [hr] at c30 <;> (try rw [ho] at c0)
      all_goals
        go_wp2
        go_meet
        case rel => exact ⟨rfl, rfl⟩
    case rest =>
      obtain ⟨rfl, rfl⟩ := hcut
      have c := HC.out
      have c3 : (w2.alloc (.cells (insV x) T)).cell? ⟨w2.heap.size, 3, none⟩ = some (.int .i64 x.a.kind) := c 3
      have c4 : (w2.alloc (.cells (insV x) T)).cell? ⟨w2.heap.size, 4, none⟩ = some (.int .i64 x.a.reg) := c 4
      have c5 : (w2.alloc (.cells (insV x) T)).cell? ⟨w2.heap.size, 5, none⟩ = some (.int .i64 x.a.size) := c 5
      have c6 : (w2.alloc (.cells (insV x) T)).cell? ⟨w2.heap.size, 6, none⟩ = some (.int .i64 x.a.seg) := c 6
      have c7 : (w2.alloc (.cells (insV x) T)).cell? ⟨w2.heap.size, 7, none⟩ = some (.int .i64 x.a.base) := c 7
      have c8 : (w2.alloc (.cells (insV x) T)).cell? ⟨w2.heap.size, 8, none⟩ = some (.int .i64 x.a.index) := c 8
      have c9 : (w2.alloc (.cells (insV x) T)).cell? ⟨w2.heap.size, 9, none⟩ = some (.int .i64 x.a.scale) := c 9
      have c10 : (w2.alloc (.cells (insV x) T)).cell? ⟨w2.heap.size, 10, none⟩ = some (.int .u32 x.a.disp) := c 10
      have c11 : (w2.alloc (.cells (insV x) T)).cell? ⟨w2.heap.size, 11, none⟩ = some (.int .u32 x.a.imm) := c 11
      have c12 : (w2.alloc (.cells (insV x) T)).cell? ⟨w2.heap.size, 12, none⟩ = some (.int .i64 x.b.kind) := c 12
      have c13 : (w2.alloc (.cells (insV x) T)).cell? ⟨w2.heap.size, 13, none⟩ = some (.int .i64 x.b.reg) := c 13
      have c14 : (w2.alloc (.cells (insV x) T)).cell? ⟨w2.heap.size, 14, none⟩ = some (.int .i64 x.b.size) := c 14
      have c15 : (w2.alloc (.cells (insV x) T)).cell? ⟨w2.heap.size, 15, none⟩ = some (.int .i64 x.b.seg) := c 15
      have c16 : (w2.alloc (.cells (insV x) T)).cell? ⟨w2.heap.size, 16, none⟩ = some (.int .i64 x.b.base) := c 16
      have c17 : (w2.alloc (.cells (insV x) T)).cell? ⟨w2.heap.size, 17, none⟩ = some (.int .i64 x.b.index) := c 17
      have c18 : (w2.alloc (.cells (insV x) T)).cell? ⟨w2.heap.size, 18, none⟩ = some (.int .i64 x.b.scale) := c 18
      have c19 : (w2.alloc (.cells (insV x) T)).cell? ⟨w2.heap.size, 19, none⟩ = some (.int .u32 x.b.disp) := c 19
      have c20 : (w2.alloc (.cells (insV x) T)).cell? ⟨w2.heap.size, 20, none⟩ = some (.int .u32 x.b.imm) := c 20
      have c21 : (w2.alloc (.cells (insV x) T)).cell? ⟨w2.heap.size, 21, none⟩ = some (.int .i64 x.c.kind) := c 21
      have c22 : (w2.alloc (.cells (insV x) T)).cell? ⟨w2.heap.size, 22, none⟩ = some (.int .i64 x.c.reg) := c 22
      have c23 : (w2.alloc (.cells (insV x) T)).cell? ⟨w2.heap.size, 23, none⟩ = some (.int .i64 x.c.size) := c 23
      have c24 : (w2.alloc (.cells (insV x) T)).cell? ⟨w2.heap.size, 24, none⟩ = some (.int .i64 x.c.seg) := c 24
      have c25 : (w2.alloc (.cells (insV x) T)).cell? ⟨w2.heap.size, 25, none⟩ = some (.int .i64 x.c.base) := c 25
      have c26 : (w2.alloc (.cells (insV x) T)).cell? ⟨w2.heap.size, 26, none⟩ = some (.int .i64 x.c.index) := c 26
      have c27 : (w2.alloc (.cells (insV x) T)).cell? ⟨w2.heap.size, 27, none⟩ = some (.int .i64 x.c.scale) := c 27
      have c28 : (w2.alloc (.cells (insV x) T)).cell? ⟨w2.heap.size, 28, none⟩ = some (.int .u32 x.c.disp) := c 28
      have c29 : (w2.alloc (.cells (insV x) T)).cell? ⟨w2.heap.size, 29, none⟩ = some (.int .u32 x.c.imm) := c 29
      clear c
      go_upto_region 7 with fail
      go_cut [6] from 12 (fun s6 wq => s6 = .slice (some ⟨w2.heap.size + 1, 0, none⟩) 3 3 ∧ Kp noB (w2.alloc (.cells (insV x) T)) wq ∧ wq.heap[w2.heap.size + 1]? = some (.cells (opsV x) 26 (0, 0)))
      case first =>
        go_wp2
        go_meet
        case rel => exact ⟨rfl, Kp.alloc _ _ _, by rw [show w2.heap.size + 1 = (w2.alloc (.cells (insV x) T)).heap.size by simp]; exact (MapKept.heap_alloc _ _).1⟩
      case rest =>
        obtain ⟨rfl, kq, hl⟩ := hcut
        have HK : Hid _ := K2.out.trans kq
        have Hl : Hid _ := hl
        have c0' := cell_kept c0 kq id
        have c2' := cell_kept c2 kq id
        clear kq hl K2 c0 c2 c30 c3 c4 c5 c6 c7 c8 c9 c10 c11 c12 c13 c14 c15 c16 c17 c18 c19 c20 c21 c22 c23 c24 c25 c26 c27 c28 c29
        go_wp2_with fail
        go_loopw [7] (fun s7 wr => ∃ i : Nat, s7 = .int .i64 i ∧ i ≤ 3 ∧ Hid (Kp noB wc wr)) (fun s7 _ => (3 - intOf s7).toNat)
        case atStart => exact ⟨0, rfl, by omega, Kp.refl _ _⟩
        case round =>
          obtain ⟨i, rfl, hi3, hk⟩ := hrel
          by_cases hlt : (i : Int) < 3
          · have hrow := opsV_at x i (by omega)
            have hfo := opOf_fit HFit.out i
            have hh := heap_kept Hl.out hk.out id
            have hc : ∀ k, wr.cell? ⟨w2.heap.size + 1, k, none⟩ = (opsV x)[k]? := fun k => cell_of_row _ _ _ _ _ _ hh
            have e0 := cell_kept c0' hk.out id
            have e2 := cell_kept c2' hk.out id
            generalize opOf x i = o at hrow hfo
            obtain ⟨kd, rg, sz, sg, bs, ix, sc, dp, im⟩ := o
            simp only [← hc] at hrow
            obtain ⟨d0, d1, d2, d3, d4, d5, d6, d7, d8⟩ := hrow
            have i0 : (0 : Int) ≤ (i : Int) := by omega
            have Hfo : Hid _ := hfo
            have Hkw : Hid _ := hk.out.trans (Kp.alloc noB wr (.cells #[.int .i64 kd, .int .i64 rg, .int .i64 sz, .int .i64 sg, .int .i64 bs, .int .i64 ix, .int .i64 sc, .int .u32 dp, .int .u32 im] 26))
            clear hh hc hfo hk c0' c2'
            go_upto_region 12 with fail
            go_cut [9] from 61 to 204 (fun s9 wq => s9 = .bool (bR rg) ∧ wq = wr.alloc (.cells #[.int .i64 kd, .int .i64 rg, .int .i64 sz, .int .i64 sg, .int .i64 bs, .int .i64 ix, .int .i64 sc, .int .u32 dp, .int .u32 im] 26))
            case first =>
              by_cases r0 : 0 ≤ rg
              · have R0 : Hid _ := r0
                by_cases r1 : rg < 8
                · have R1 : Hid _ := r1
                  go_wp2
                  go_meet
                  case rel => exact ⟨by unfold bR; rw [decide_eq_true R0.out, decide_eq_true R1.out]; rfl, rfl⟩
                · have R1 : Hid _ := r1
                  go_wp2
                  go_meet
                  case rel => exact ⟨by unfold bR; rw [decide_eq_false R1.out, Bool.and_false], rfl⟩
              · have R0 : Hid _ := r0
                go_wp2
                go_meet
                case rel => exact ⟨by unfold bR; rw [decide_eq_false R0.out, Bool.false_and], rfl⟩
            case rest =>
              obtain ⟨rfl, rfl⟩ := hcut
              go_upto_region 13 with fail
              go_cut [10] from 61 to 204 (fun s10 wq => s10 = .bool (bS sz) ∧ wq = wr.alloc (.cells #[.int .i64 kd, .int .i64 rg, .int .i64 sz, .int .i64 sg, .int .i64 bs, .int .i64 ix, .int .i64 sc, .int .u32 dp, .int .u32 im] 26))
              case first =>
                by_cases z1 : sz = 1
                · subst z1
                  go_wp2
                  go_meet
                  case rel => exact ⟨rfl, rfl⟩
                · have z1' : (sz == 1) = false := by simpa using z1
                  by_cases z2 : sz = 2
                  · subst z2
                    go_wp2
                    go_meet
                    case rel => exact ⟨rfl, rfl⟩
                  · have z2' : (sz == 2) = false := by simpa using z2
                    go_wp2
                    go_meet
                    case rel => exact ⟨by simp [bS, z1, z2], rfl⟩
              case rest =>
                obtain ⟨rfl, rfl⟩ := hcut
                have e0' := cell_kept e0 (Kp.alloc noB wr (.cells #[.int .i64 kd, .int .i64 rg, .int .i64 sz, .int .i64 sg, .int .i64 bs, .int .i64 ix, .int .i64 sc, .int .u32 dp, .int .u32 im] 26)) id
                have e2' := cell_kept e2 (Kp.alloc noB wr (.cells #[.int .i64 kd, .int .i64 rg, .int .i64 sz, .int .i64 sg, .int .i64 bs, .int .i64 ix, .int .i64 sc, .int .u32 dp, .int .u32 im] 26)) id
                have hfo := Hfo.out
                simp only [Opd.zero, Opd.mk.injEq] at hfo
                have hwi : IntKind.i64.wrap ((i : Int) + 1) = (i : Int) + 1 := IntWalk.i64_in _ ⟨by omega, by omega⟩
                clear Hfo
                rcases hfo with ⟨_, h0, h1, h2, h3, h4, h5, h6, h7, h8⟩ | ⟨hk, hr, hz⟩ | ⟨hk, hz, hb, hi, hg, hs⟩ | ⟨hk, hm0, hm⟩ | ⟨hk, hr⟩ | ⟨hk, hr⟩ | ⟨hk, hr⟩
                · as_aux_lemma =>
                    subst h0 h1 h2 h3 h4 h5 h6 h7 h8
                    go_wp2
                    go_roundw
                    case rel => exact ⟨i + 1, rfl, by omega, Hkw⟩
                    case measure => simp [intOf]; omega
                · as_aux_lemma =>
                    subst hk
                    have hR : bR rg = true := by simp [bR, hr]
                    have hS : bS sz = true := by rcases hz with rfl | rfl | rfl <;> rfl
                    go_wp2
                    go_roundw
                    case rel => exact ⟨i + 1, rfl, by omega, Hkw⟩
                    case measure => simp [intOf]; omega
                · as_aux_lemma =>
                    subst hk
                    have hS : bS sz = true := by rcases hz with rfl | rfl | rfl <;> rfl
                    obtain ⟨b0, b1⟩ := hb
                    obtain ⟨x0, x1, x2⟩ := hi
                    obtain ⟨y0, y1⟩ := hg
                    have x2' : (ix != 4) = true := by simpa using x2
                    clear hz
                    rcases hs with rfl | rfl | rfl | rfl
                    all_goals
                      go_wp2
                      go_roundw
                      case rel => exact ⟨i + 1, rfl, by omega, Hkw⟩
                      case measure => simp [intOf]; omega
                · as_aux_lemma =>
                    subst hk
                    have hm32 : im < 4294967296 := by
                      rcases hm with hm | ⟨_, hm⟩
                      · rcases Hs.out with e | e | e <;> rw [e] at hm <;> simp at hm <;> omega
                      · exact hm
                    rcases Hs.out with e | e | e
                    · rw [e] at hm e2'
                      simp at hm
                      rcases hm with hm | ⟨ho, _⟩
                      · have hm' : decide (im < 256) = true := by simpa using hm
                        go_wp2
                        go_roundw
                        case rel => exact ⟨i + 1, rfl, by omega, Hkw⟩
                        case measure => simp [intOf]; omega
                      · rw [ho] at e0'
                        by_cases hm : im < 256
                        all_goals
                          go_wp2
                          go_roundw
                          case rel => exact ⟨i + 1, rfl, by omega, Hkw⟩
                          case measure => simp [intOf]; omega
                    · rw [e] at hm e2'
                      simp at hm
                      rcases hm with hm | ⟨ho, _⟩
                      · have hm' : decide (im < 65536) = true := by simpa using hm
                        go_wp2
                        go_roundw
                        case rel => exact ⟨i + 1, rfl, by omega, Hkw⟩
                        case measure => simp [intOf]; omega
                      · rw [ho] at e0'
                        by_cases hm : im < 65536
                        all_goals
                          go_wp2
                          go_roundw
                          case rel => exact ⟨i + 1, rfl, by omega, Hkw⟩
                          case measure => simp [intOf]; omega
                    · rw [e] at hm e2'
                      simp at hm
                      rcases hm with hm | ⟨ho, _⟩
                      · have hm' : decide (im < 4294967296) = true := by simpa using hm
                        go_wp2
                        go_roundw
                        case rel => exact ⟨i + 1, rfl, by omega, Hkw⟩
                        case measure => simp [intOf]; omega
                      · have hm' : decide (im < 4294967296) = true := by simpa using hm32
                        go_wp2
                        go_roundw
                        case rel => exact ⟨i + 1, rfl, by omega, Hkw⟩
                        case measure => simp [intOf]; omega
                · as_aux_lemma =>
                    subst hk
                    obtain ⟨r0, r1⟩ := hr
                    go_wp2
                    go_roundw
                    case rel => exact ⟨i + 1, rfl, by omega, Hkw⟩
                    case measure => simp [intOf]; omega
                · as_aux_lemma =>
                    subst hk
                    rcases hr with rfl | rfl | rfl
                    all_goals
                      go_wp2
                      go_roundw
                      case rel => exact ⟨i + 1, rfl, by omega, Hkw⟩
                      case measure => simp [intOf]; omega
                · as_aux_lemma =>
                    rcases hk with rfl | rfl
                    all_goals
                      subst hr
                      have hR : bR 0 = true := rfl
                      go_wp2
                      go_roundw
                      case rel => exact ⟨i + 1, rfl, by omega, Hkw⟩
                      case measure => simp [intOf]; omega
          · have hi : i = 3 := by omega
            subst hi
            have HB : Hid _ := HK.out.trans hk.out
            clear hk
            go_wp2
            go_ret
            exact ⟨rfl, HB.out.below⟩
  · have he' : (er != 0) = true := by simpa using he
    go_wp2
    go_ret
    exact ⟨rfl, K2.out.below⟩

end Go.Proofs.YtopeccjghamjmaaGreat
