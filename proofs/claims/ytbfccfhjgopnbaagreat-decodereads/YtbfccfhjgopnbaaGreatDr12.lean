/- The document's reader, and the code's (RfKeep, RfRe, RfImul). -/
import Derived.Test.YtbfccfhjgopnbaaGreatDr09
import Derived.Test.YtbfccfhjgopnbaaGreatDr05
set_option linter.unusedSimpArgs false
namespace Go.Proofs.YtbfccfhjgopnbaaGreat
open Go.ChangeShapes Go.WideShapes Go.ChangeAt Go.RowKit
set_option linter.unusedVariables false
structure Kept (σ σ' : Sg) : Prop where
  op : σ'.op = σ.op
  v : σ'.v = σ.v
  seg : σ'.seg = σ.seg
  rep : σ'.rep = σ.rep
  ins : σ'.ins = σ.ins
theorem Kept.refl (σ : Sg) : Kept σ σ := ⟨rfl, rfl, rfl, rfl, rfl⟩
theorem Kept.trans {a b c : Sg} (h : Kept a b) (k : Kept b c) : Kept a c := ⟨k.op.trans h.op, k.v.trans h.v, k.seg.trans h.seg, k.rep.trans h.rep, k.ins.trans h.ins⟩
theorem kept_take (X : Cx) (σ : Sg) : Kept σ (take X σ).2 := by
  unfold take
  repeat' split
  all_goals exact ⟨rfl, rfl, rfl, rfl, rfl⟩
theorem kept_refuse (σ : Sg) : Kept σ (refuse σ) := by
  unfold refuse
  split <;> exact ⟨rfl, rfl, rfl, rfl, rfl⟩
theorem kept_num (X : Cx) : ∀ (k i : Nat) (n : Int) (σ : Sg), Kept σ (numM X k i n σ).2
  | 0, i, n, σ => Kept.refl σ
  | k + 1, i, n, σ => (kept_take X σ).trans (kept_num X k (i + 1) _ (take X σ).2)
theorem kept_bytes (X : Cx) (s : Int) (σ : Sg) : Kept σ (bytesM X s σ).2 := kept_num X _ _ _ σ
theorem kept_modrm (X : Cx) (σ : Sg) : Kept σ (modrm X σ).2 := by
  unfold modrm
  split
  · exact Kept.refl σ
  · have := kept_take X σ
    exact ⟨this.op, this.v, this.seg, this.rep, this.ins⟩
theorem kept_sib (X : Cx) (r : Int) (σ : Sg) : Kept σ (sibP X r σ).2 := by
  unfold sibP
  split
  · unfold sibM
    exact kept_take X σ
  · exact Kept.refl σ
theorem kept_disp (X : Cx) (m b : Int) (σ : Sg) : Kept σ (dispP X m b σ).2 := by
  unfold dispP
  repeat' split
  · exact kept_bytes X 4 σ
  · exact kept_bytes X 1 σ
  · exact kept_bytes X 4 σ
  · exact Kept.refl σ
theorem kept_E (X : Cx) (s : Int) (σ : Sg) : Kept σ (pE X s σ).2 := by
  unfold pE
  split
  · exact kept_modrm X σ
  · exact ((kept_modrm X σ).trans (kept_sib X _ _)).trans (kept_disp X _ _ _)
theorem kept_eg (X : Cx) (s : Int) (t : Bool) (x : Ins) (σ : Sg) : Kept σ (egM X s t x σ).2.1 := by
  have h := (kept_modrm X σ).trans (kept_E X s (modrm X σ).2)
  cases t <;> exact h
end Go.Proofs.YtbfccfhjgopnbaaGreat
namespace Go.Proofs.YtbfccfhjgopnbaaGreat
open Go.ChangeShapes Go.WideShapes Go.ChangeAt Go.RowKit
set_option linter.unusedVariables false
/-- The same reader, with another code and another instruction. -/
def Sg.re (σ : Sg) (o : Int) (i : Ins) : Sg := { σ with op := o, ins := i }
section
variable (X : Cx) (σ : Sg) (o : Int) (i : Ins)
theorem re_at : (σ.re o i).at' = σ.at' := rfl
theorem re_err : (σ.re o i).err = σ.err := rfl
theorem re_op : (σ.re o i).op = o := rfl
theorem re_v : (σ.re o i).v = σ.v := rfl
theorem re_seg : (σ.re o i).seg = σ.seg := rfl
theorem re_rep : (σ.re o i).rep = σ.rep := rfl
theorem re_fl : (σ.re o i).fl = σ.fl := rfl
theorem re_ins : (σ.re o i).ins = i := rfl
theorem re_re (o' : Int) (i' : Ins) : (σ.re o i).re o' i' = σ.re o' i' := rfl
theorem opS_re (c : Int) : opS c σ = σ.re c σ.ins := rfl
theorem hdS_re (a b s : Int) : hdS a b s (σ.re o i) = σ.re o { i with op := a, sub := b, size := s } := rfl
theorem setA_re (p : Opd) : setA (p, σ.re o i) = σ.re o { i with a := p } := rfl
theorem setB_re (p : Opd) : setB (p, σ.re o i) = σ.re o { i with b := p } := rfl
theorem setC_re (p : Opd) : setC (p, σ.re o i) = σ.re o { i with c := p } := rfl
theorem take_re : take X (σ.re o i) = ((take X σ).1, (take X σ).2.re o i) := by
  unfold take
  rw [re_err, re_at]
  repeat' split
  all_goals rfl
theorem refuse_re : refuse (σ.re o i) = (refuse σ).re o i := by
  unfold refuse
  rw [re_err]
  split <;> rfl
end
theorem num_re (X : Cx) (o : Int) (i : Ins) : ∀ (k j : Nat) (n : Int) (σ : Sg), numM X k j n (σ.re o i) = ((numM X k j n σ).1, (numM X k j n σ).2.re o i)
  | 0, j, n, σ => rfl
  | k + 1, j, n, σ => by
    show numM X k (j + 1) (n + (take X (σ.re o i)).1 * 256 ^ j) (take X (σ.re o i)).2 = _
    rw [take_re]
    exact num_re X o i k (j + 1) _ _
section
variable (X : Cx) (σ : Sg) (o : Int) (i : Ins)
theorem bytes_re (s : Int) : bytesM X s (σ.re o i) = ((bytesM X s σ).1, (bytesM X s σ).2.re o i) := num_re X o i _ _ _ _
theorem modrm_re : modrm X (σ.re o i) = ((modrm X σ).1, (modrm X σ).2.re o i) := by
  unfold modrm
  rw [re_fl, take_re]
  split <;> rfl
theorem sib_re (r : Int) : sibP X r (σ.re o i) = ((sibP X r σ).1, (sibP X r σ).2.re o i) := by
  unfold sibP sibM
  rw [take_re]
  split <;> rfl
theorem disp_re (m b : Int) : dispP X m b (σ.re o i) = ((dispP X m b σ).1, (dispP X m b σ).2.re o i) := by
  unfold dispP
  rw [bytes_re, bytes_re]
  repeat' split
  all_goals rfl
theorem fin_re (s g m b x c : Int) : finE X s g m b x c (σ.re o i) = ((finE X s g m b x c σ).1, (finE X s g m b x c σ).2.re o i) := by
  unfold finE
  rw [disp_re]
theorem E_re (s : Int) : pE X s (σ.re o i) = ((pE X s σ).1, (pE X s σ).2.re o i) := by
  unfold pE
  rw [modrm_re]
  simp only [re_seg, sib_re, fin_re]
  split <;> rfl
theorem O_re (s : Int) : pO X s (σ.re o i) = ((pO X s σ).1, (pO X s σ).2.re o i) := by
  unfold pO
  rw [bytes_re]
  rfl
/-! ### ModRM is taken once -/
theorem modrm_fls : (modrm X σ).2.fl = some (modrm X σ).1 := by
  unfold modrm
  split
  · rename_i x hx
    exact hx
  · rfl
theorem modrm_of {τ : Sg} {x : Int × Int × Int} (h : τ.fl = some x) : modrm X τ = (x, τ) := by
  unfold modrm
  rw [h]
theorem modrm_twice : modrm X (modrm X σ).2 = ((modrm X σ).1, (modrm X σ).2) := modrm_of X (modrm_fls X σ)
theorem num_fl (X : Cx) : ∀ (k j : Nat) (n : Int) (σ : Sg), (numM X k j n σ).2.fl = σ.fl
  | 0, j, n, σ => rfl
  | k + 1, j, n, σ => (num_fl X k (j + 1) _ (take X σ).2).trans (take_fl X σ)
theorem bytes_fl (s : Int) : (bytesM X s σ).2.fl = σ.fl := num_fl X _ _ _ _
theorem E_fl (s : Int) : (pE X s σ).2.fl = some (modrm X σ).1 := by
  unfold pE
  split
  · exact modrm_fls X σ
  · unfold finE dispP sibP sibM
    repeat' split
    all_goals simp only [bytes_fl, take_fl, modrm_fls]
theorem modrm_E (s : Int) : modrm X (pE X s σ).2 = ((modrm X σ).1, (pE X s σ).2) := modrm_of X (E_fl X σ s)
theorem E_again (s : Int) : pE X s (modrm X σ).2 = pE X s σ := by
  unfold pE
  rw [modrm_twice]
theorem refuse_fl : (refuse σ).fl = σ.fl := by
  unfold refuse
  split <;> rfl
theorem modrm_refuse : modrm X (refuse (modrm X σ).2) = ((modrm X σ).1, refuse (modrm X σ).2) := modrm_of X ((refuse_fl _).trans (modrm_fls X σ))
end
end Go.Proofs.YtbfccfhjgopnbaaGreat
namespace Go.Proofs.YtbfccfhjgopnbaaGreat
open Go.ChangeShapes Go.WideShapes Go.ChangeAt Go.RowKit
set_option linter.unusedVariables false
set_option linter.unusedSimpArgs false
set_option maxHeartbeats 4000000
set_option maxRecDepth 20000
theorem middle_105 (w : World) (X : Cx) (σ : Sg) (f : Int × Int × Int) (h : RSt X w σ f 105) (hf : σ.fl = none) :
    Calls Tryz.prog 24 #[.pointer (some ⟨X.S, 0, none⟩)] w fun e w' => e = .returned (.agg (insV { (egM X σ.v true { Ins.zero with op := 5 } σ).1 with c := numO (bytesM X σ.v (egM X σ.v true { Ins.zero with op := 5 } σ).2.1).1 })) ∧ RDn X w (bytesM X σ.v (egM X σ.v true { Ins.zero with op := 5 } σ).2.1).2 (egM X σ.v true { Ins.zero with op := 5 } σ).2.2 105 w' := by
  obtain ⟨T, nI, fsI, psI, hv, Hv, ⟨vl, vs, vb, va, vx⟩, v1, v2, v3, v4, v5, v6, p0, p1, p2, p3, p4, p5, p6, p7, sz, ne⟩ := vlP
  obtain ⟨U, mU, ho, Ho, ⟨ol, os, oa⟩, o1, o2, o3, o6, so⟩ := vlOP
  have hr := RsQ.start (T := T) h
  have hS := h.ltS
  have c4 := h.c4
  have c9 := h.c9
  have Hvs : Hid (σ.v = 1 ∨ σ.v = 2 ∨ σ.v = 4) := Or.inr h.vv
  have eU : ({ Ins.zero with op := 5 } : Ins) = (Ins.zero.up 0 5) := rfl
  rw [eU]
  have HE : Hid (∀ W, RSt X W σ f 105 → Calls Tryz.prog 203 #[.pointer (some ⟨X.S, 0, none⟩), .agg (insV (Ins.zero.up 0 5)), .int .i64 σ.v, .bool true] W fun e w' => e = .returned (.agg (insV (egM X σ.v true (Ins.zero.up 0 5) σ).1)) ∧ RDn X W (egM X σ.v true (Ins.zero.up 0 5) σ).2.1 (egM X σ.v true (Ins.zero.up 0 5) σ).2.2 105 w') := fun W hW => eg_t W X σ f 105 hW hf _ σ.v
  clear eU
  have hkv := (kept_eg X σ.v true (Ins.zero.up 0 5) σ).v
  generalize (egM X σ.v true (Ins.zero.up 0 5) σ) = V at *
  obtain ⟨xI, σ1, f1⟩ := V
  simp only at HE hkv ⊢
  have HKV : Hid (σ1.v = σ.v) := hkv
  clear hkv
  obtain ⟨d, σ3, hB⟩ : ∃ d σ3, bytesM X σ.v σ1 = (d, σ3) := ⟨_, _, rfl⟩
  rw [hB]
  simp only
  have HB : Hid _ := hB
  clear hB
  obtain ⟨nO, hn⟩ : ∃ nO, numO d = nO := ⟨_, rfl⟩
  rw [hn]
  have HN : Hid _ := hn
  clear hn
  have new1 := Hv.out.newQ
  have HR : Hid _ := hr
  clear h hv ho hr hf
  go_enter Tryz.func24, Tryz.ntmps24
  try simp only [vl, vs, va, vb, vx, ol, os, oa]
  clear vl vs va vb vx ol os oa
  have u0 := insUp0
  have u1 := insUp1
  have u2 := insUp2
  go_wp2_with fail
  have cG := rReg_ok (w.alloc (.cells (insV Ins.zero) T)) 1 σ.v
  obtain ⟨gO, hg⟩ : ∃ gO, regO 1 σ.v = gO := ⟨_, rfl⟩
  rw [hg] at cG
  clear hg
  refine cG.mono ?_; rintro e w1 ⟨rfl, k1⟩
  have newO : ∀ (W : World) (o : Opd), (storeCells ⟨W.heap.size, 0, none⟩ o.vals.toList).run Tryz.prog (W.alloc (.cells Opd.zero.vals U)) = .ok () (W.alloc (.cells o.vals U)) := fun W o => Ho.out.new W _ rfl o
  have hr1 := HR.out.no k1
  have d4 := hr1.st.c4
  have hS1 := hr1.st.ltS
  have hre := hr1.no (Kp.alloc noB w1 (.cells gO.vals U))
  have HRe : Hid _ := hre
  have f4 := hre.st.c4
  clear cG k1 hr1 HR hre
  go_wp2_with fail
  refine (HE.out _ HRe.out.st).mono ?_; rintro e w2 ⟨rfl, hd2⟩
  have hr2 := HRe.out.call hd2
  have hI1 := hr2.own xI
  have HI1 : Hid _ := hI1
  have e4 := hI1.r.st.c4
  rw [HKV.out] at e4
  have e9 := hI1.r.st.c9
  clear hr2 hd2 hI1 HE HRe
  go_wp2_with fail
  have cB := num_okR _ X σ1 f1 105 HI1.out.r.st σ.v (Hvs.out)
  rw [HB.out] at cB
  refine cB.mono ?_; rintro e w6 ⟨rfl, hd6⟩
  have hI6 := HI1.out.call hd6
  have HI6 : Hid _ := hI6
  have e4 := hI6.r.st.c4
  have e9 := hI6.r.st.c9
  clear hI6 cB hd6
  go_wp2_with fail
  have cN := rImm_ok w6 d
  rw [HN.out] at cN
  refine cN.mono ?_; rintro e w7 ⟨rfl, k7⟩
  have hI7 := HI6.out.no k7
  clear cN k7 HI6 e4 e9
  have t7 := hI7.putC nO
  have hI8 := hI7.row { xI with c := nO }
  have g8 := Hv.out.get hI8.op
  have p8 := hI8.r.put Hv.out
  have HI8 : Hid _ := hI8
  clear hI8
  go_wp2
  exact bodyPost_ret (v := _) (res1 rfl _ _ w.heap.size _ rfl (HI8.out.r.got Hv.out _)) rfl ⟨rfl, HI8.out.r.fin _⟩
theorem middle_107 (w : World) (X : Cx) (σ : Sg) (f : Int × Int × Int) (h : RSt X w σ f 107) (hf : σ.fl = none) :
    Calls Tryz.prog 24 #[.pointer (some ⟨X.S, 0, none⟩)] w fun e w' => e = .returned (.agg (insV { (egM X σ.v true { Ins.zero with op := 5 } σ).1 with c := numO (cutM (bytesM X 1 (egM X σ.v true { Ins.zero with op := 5 } σ).2.1).2.v (sgnM 1 (bytesM X 1 (egM X σ.v true { Ins.zero with op := 5 } σ).2.1).1)) })) ∧ RDn X w (bytesM X 1 (egM X σ.v true { Ins.zero with op := 5 } σ).2.1).2 (egM X σ.v true { Ins.zero with op := 5 } σ).2.2 107 w' := by
  obtain ⟨T, nI, fsI, psI, hv, Hv, ⟨vl, vs, vb, va, vx⟩, v1, v2, v3, v4, v5, v6, p0, p1, p2, p3, p4, p5, p6, p7, sz, ne⟩ := vlP
  obtain ⟨U, mU, ho, Ho, ⟨ol, os, oa⟩, o1, o2, o3, o6, so⟩ := vlOP
  have hr := RsQ.start (T := T) h
  have hS := h.ltS
  have c4 := h.c4
  have c9 := h.c9
  have Hvs : Hid (σ.v = 1 ∨ σ.v = 2 ∨ σ.v = 4) := Or.inr h.vv
  have eU : ({ Ins.zero with op := 5 } : Ins) = (Ins.zero.up 0 5) := rfl
  rw [eU]
  have HE : Hid (∀ W, RSt X W σ f 107 → Calls Tryz.prog 203 #[.pointer (some ⟨X.S, 0, none⟩), .agg (insV (Ins.zero.up 0 5)), .int .i64 σ.v, .bool true] W fun e w' => e = .returned (.agg (insV (egM X σ.v true (Ins.zero.up 0 5) σ).1)) ∧ RDn X W (egM X σ.v true (Ins.zero.up 0 5) σ).2.1 (egM X σ.v true (Ins.zero.up 0 5) σ).2.2 107 w') := fun W hW => eg_t W X σ f 107 hW hf _ σ.v
  clear eU
  have hkv := (kept_eg X σ.v true (Ins.zero.up 0 5) σ).v
  generalize (egM X σ.v true (Ins.zero.up 0 5) σ) = V at *
  obtain ⟨xI, σ1, f1⟩ := V
  simp only at HE hkv ⊢
  have HKV : Hid (σ1.v = σ.v) := hkv
  clear hkv
  obtain ⟨d, σ3, hB⟩ : ∃ d σ3, bytesM X 1 σ1 = (d, σ3) := ⟨_, _, rfl⟩
  rw [hB]
  simp only
  have HB : Hid _ := hB
  clear hB
  obtain ⟨nO, hn⟩ : ∃ nO, numO (cutM σ3.v (sgnM 1 d)) = nO := ⟨_, rfl⟩
  rw [hn]
  have HN : Hid _ := hn
  clear hn
  have new1 := Hv.out.newQ
  have HR : Hid _ := hr
  clear h hv ho hr hf
  go_enter Tryz.func24, Tryz.ntmps24
  try simp only [vl, vs, va, vb, vx, ol, os, oa]
  clear vl vs va vb vx ol os oa
  have u0 := insUp0
  have u1 := insUp1
  have u2 := insUp2
  go_wp2_with fail
  have cG := rReg_ok (w.alloc (.cells (insV Ins.zero) T)) 3 σ.v
  obtain ⟨gO, hg⟩ : ∃ gO, regO 3 σ.v = gO := ⟨_, rfl⟩
  rw [hg] at cG
  clear hg
  refine cG.mono ?_; rintro e w1 ⟨rfl, k1⟩
  have newO : ∀ (W : World) (o : Opd), (storeCells ⟨W.heap.size, 0, none⟩ o.vals.toList).run Tryz.prog (W.alloc (.cells Opd.zero.vals U)) = .ok () (W.alloc (.cells o.vals U)) := fun W o => Ho.out.new W _ rfl o
  have hr1 := HR.out.no k1
  have d4 := hr1.st.c4
  have hS1 := hr1.st.ltS
  have hre := hr1.no (Kp.alloc noB w1 (.cells gO.vals U))
  have HRe : Hid _ := hre
  have f4 := hre.st.c4
  clear cG k1 hr1 HR hre
  go_wp2_with fail
  refine (HE.out _ HRe.out.st).mono ?_; rintro e w2 ⟨rfl, hd2⟩
  have hr2 := HRe.out.call hd2
  have hI1 := hr2.own xI
  have HI1 : Hid _ := hI1
  have e4 := hI1.r.st.c4
  rw [HKV.out] at e4
  have e9 := hI1.r.st.c9
  clear hr2 hd2 hI1 HE HRe
  go_wp2_with fail
  have cB := signed_okR _ X σ1 f1 107 HI1.out.r.st 1 (by decide)
  rw [HB.out] at cB
  simp only at cB
  refine cB.mono ?_; rintro e w6 ⟨rfl, hd6⟩
  have hI6 := HI1.out.call hd6
  have HI6 : Hid _ := hI6
  have e4 := hI6.r.st.c4
  have e9 := hI6.r.st.c9
  have hsg := sgn_bd HI1.out.r.st
  rw [HB.out] at hsg
  clear hI6 cB hd6
  go_wp2_with fail
  have cC := rcut_ok w6 X σ3 f1 107 HI6.out.r.st (sgnM 1 d) hsg.1 hsg.2
  clear hsg
  refine cC.mono ?_; rintro e w6' ⟨rfl, hw6⟩
  replace hw6 := hw6.symm
  subst hw6
  clear cC
  go_wp2_with fail
  have cN := rImm_ok w6 (cutM σ3.v (sgnM 1 d))
  rw [HN.out] at cN
  refine cN.mono ?_; rintro e w7 ⟨rfl, k7⟩
  have hI7 := HI6.out.no k7
  clear cN k7 HI6 e4 e9
  have t7 := hI7.putC nO
  have hI8 := hI7.row { xI with c := nO }
  have g8 := Hv.out.get hI8.op
  have p8 := hI8.r.put Hv.out
  have HI8 : Hid _ := hI8
  clear hI8
  go_wp2
  exact bodyPost_ret (v := _) (res1 rfl _ _ w.heap.size _ rfl (HI8.out.r.got Hv.out _)) rfl ⟨rfl, HI8.out.r.fin _⟩
end Go.Proofs.YtbfccfhjgopnbaaGreat
