/- The contract of write: a sector is laid, its place is noted. -/
import Derived.Test.YtddalplpmgmplaaIdCmd
import Derived.Laws.AppendOwnNone
namespace Go.Proofs.Ytddalplpmgmplaa
open Go.ChangeShapes Go.WideShapes Go.ChangeAt Go.RowKit
set_option linter.unusedVariables false

/-- The block of the slice. -/
def isO (v : Value) (k : Nat) : Prop := v.ownBlock = some k

theorem kp_grown {w w' : World} {v : Value} (g : w.grownBy w' v.ownBlock) : Kp (isO v) w w' :=
  ⟨g.os, g.tape, g.output, g.size, fun k hk hs => g.block k hk (fun e => hs e.symm)⟩

/-- One int in a block of its own. -/
def wI (w : World) (v : Int) : World := w.alloc (.cells #[.int .i64 v] 3)

theorem appI {w : World} {sv : Value} {l : List Int} (h : OwnI w sv l) (v : Int) (hs : l.length < 17592186044416) :
    ∃ v' w', (Builtin.append_ #[39, 39] 39 #[sv, .slice (some ⟨w.heap.size, 0, none⟩) 1 1]).run Try.prog (wI w v) = .ok v' w' ∧ OwnI w' v' (l ++ [v]) ∧ Kp (isO sv) w w' ∧ (∀ g, v'.ownBlock = some g → sv.ownBlock = some g ∨ w.heap.size ≤ g) := by
  have h' : OwnI (wI w v) sv l := h.kept (Kp.alloc noB _ _) (fun _ _ => id)
  have hc : (wI w v).cell? ⟨w.heap.size, 0, none⟩ = some (.int .i64 v) := by
    have := heap_new w (.cells #[.int .i64 v] 3)
    unfold wI World.cell?
    simp only [this]
    rfl
  obtain ⟨v', w', hr, h2, h3, h4, h5⟩ := run_append_own_at (P := Try.prog) (wI w v) 0 39 39 3 _ (.int .i64 0) 1 8 Try.underlying39 (show Try.prog.info? 3 = some _ from Try.type3) (by kernel_rfl) (by kernel_rfl) (by kernel_rfl) (by kernel_rfl) (by decide)
    sv l.length (l.map (Value.int .i64)) h' ⟨w.heap.size, 0, none⟩ 1 1 [.int .i64 v] (by simp) (by
      intro j u hu
      cases j with
      | zero => simp only [List.getElem?_cons_zero, Option.some.injEq] at hu; subst hu; exact hc
      | succ j => simp at hu) (by simp [Value.oneCell']) (by unfold maxLen; omega) (by omega) (Nat.zero_le _)
  refine ⟨v', w', hr, ?_, (Kp.alloc _ _ _).trans (kp_grown h3), fun g e => ?_⟩
  · unfold OwnI
    rw [List.length_append, List.map_append]
    exact h2
  · rcases h5 with e5 | e5
    · exact .inl (e5 ▸ e)
    · rw [e5] at e
      simp only [Option.some.injEq] at e
      right
      subst e
      simp [wI]

/-- A call of a Go function, as one step of a region that draws. -/
theorem step_enter {ops : Array Oper} {o : Oper} {a : Act} {w : World} {K : Act → World → Prop} {Q : Exit → Act → World → Prop} {E : Prop} {n : Nat} {args : Array Value} {R : Ending → World → Prop} (hgd : o.guard = none)
    (he : (execOp a.eval o).run Try.prog w = .ok (.enter n args) w) (hc : Calls Try.prog n args w R) (hK : ∀ e w', R e w' → ∃ u, e = .returned u ∧ K (a.put o.dst u) w') :
    if Region.wanted o (yielded ops a.tmps) = true then Oper.wp Try.prog o a w K Q else E := by
  have hw : Region.wanted o (yielded ops a.tmps) = true := by simp [Region.wanted, hgd]
  rw [if_pos hw]
  unfold Oper.wp
  rw [he]
  refine Calls.mono hc fun e w' hr => ?_
  obtain ⟨u, rfl, hk⟩ := hK e w' hr
  exact hk

/-- An append whose answer is known, likewise. -/
theorem step_appI {ops : Array Oper} {o : Oper} {a : Act} {w w' : World} {K : Act → World → Prop} {Q : Exit → Act → World → Prop} {E : Prop} {v x u : Value} (hgd : o.guard = none) (s y : Operand)
    (ho : o.op = .call { callee := .builtin .append, args := #[s, y], argTypes := #[39, 39] }) (hty : o.type = 39) (hs : a.eval s = v) (hx : a.eval y = x)
    (hr : (Builtin.append_ #[39, 39] 39 #[v, x]).run Try.prog w = .ok u w') (hK : K (a.put o.dst u) w') :
    if Region.wanted o (yielded ops a.tmps) = true then Oper.wp Try.prog o a w K Q else E := by
  have hw : Region.wanted o (yielded ops a.tmps) = true := by simp [Region.wanted, hgd]
  rw [if_pos hw]
  unfold Oper.wp execOp
  simp only [ho, hty, resolve, invoke, builtin, Sem.run_bind, Sem.run_pure, Result.andThen_ok, List.map_toArray, List.map_cons, List.map_nil, hs, hx, hr]
  exact hK

/-- Behind a call that may have made blocks. -/
def DOut (w : World) (B : Nat) (sv : Value) (d : Id) (w' : World) : Prop :=
  ∃ dn' sv', IAt w' B dn' sv' d ∧ Dn d dn' ∧ (∀ k, foot B sv' k → foot B sv k ∨ w.heap.size ≤ k) ∧ Kp (foot B sv) w w'

section
variable {w : World} {B : Nat} {dn : Int} {sv : Value} {d : Id}

theorem Kp.foot {w' : World} (h : Kp (isB B) w w') : Kp (foot B sv) w w' := h.mono fun k _ e => .inl e
theorem DOk.out {w' : World} (h : DOk w B sv d w') : DOut w B sv d w' := by
  obtain ⟨dn', h1, hd, h2⟩ := h
  exact ⟨dn', sv, h1, hd, fun _ g => .inl g, h2.foot⟩

theorem DOut.then {w1 w2 : World} {sv1 : Value} {d' : Id} (hf : ∀ k, foot B sv1 k → foot B sv k ∨ w.heap.size ≤ k) (k1 : Kp (foot B sv) w w1) (h : DOut w1 B sv1 d' w2) : DOut w B sv d' w2 := by
  obtain ⟨dn', sv', h1, hd, h2, h3⟩ := h
  refine ⟨dn', sv', h1, hd, fun k g => ?_, k1.over h3 fun j hj g => ?_⟩
  · rcases h2 k g with e | e
    · exact hf k e
    · exact .inr (Nat.le_trans k1.size e)
  · rcases hf j g with e | e
    · exact e
    · omega

/-- The note of a place that was written. -/
theorem note_ok (h : IAt w B dn sv d) (hs : d.log.length < 17592186044416) (p : Int) :
    ∃ p' n' c' w', (Builtin.append_ #[39, 39] 39 #[sv, .slice (some ⟨w.heap.size, 0, none⟩) 1 1]).run Try.prog (wI w p) = .ok (.slice p' n' c') w' ∧ w'.cell? ⟨B, 33293, none⟩ = some sv ∧ w'.frozen? ⟨B, 33293, none⟩ = false ∧
      IAt (w'.setCell ⟨B, 33293, none⟩ (.slice p' n' c')) B dn (.slice p' n' c') { d with log := d.log ++ [p] } ∧ (∀ k, foot B (.slice p' n' c') k → foot B sv k ∨ w.heap.size ≤ k) ∧ Kp (foot B sv) w (w'.setCell ⟨B, 33293, none⟩ (.slice p' n' c')) := by
  obtain ⟨v', w', hr, h2, h3, h4⟩ := appI h.log p hs
  obtain ⟨pa, ca, ev⟩ := h2.sl
  subst ev
  have hb := h.blk.kept h3 (fun e => h.notB e rfl)
  refine ⟨pa, _, ca, w', hr, hb.cell 33293 (by decide), hb.fz _, ?_, fun k g => ?_, ?_⟩
  · refine ⟨(hb.set 33293 (by decide) _).of (fun i hi => cC_setsv _ i hi), h2.kept (kpB B _ _ _) (fun g e => ?_), h.fl⟩
    rintro (rfl : g = B)
    obtain ⟨cur, g1⟩ := h2.lt e
    obtain ⟨c, g2, _⟩ := hb
    rw [g1] at g2
    simp at g2
  · rcases g with g | g
    · exact .inl (.inl g)
    · rcases h4 k g with e | e
      · exact .inl (.inr e)
      · exact .inr e
  · exact (h3.mono fun k _ e => .inr e).trans (kpB B _ _ _).foot

theorem lay_buf (k : d.Ok) : layB d.D d.at 512 d.buf = d.lay.D := by
  funext i
  rfl

set_option maxHeartbeats 1000000 in
theorem write_ok (h : IAt w B dn sv d) (k : d.Ok) (ht : d.there = true) (hm : d.mode = 2) (hs : d.log.length < 17592186044416) : Calls Try.prog 30 #[.pointer (some ⟨B, 0, none⟩)] w fun e w' => e = .returned (.tuple #[]) ∧ DOut w B sv { d.lay.one with mark := true } w' := by
  have HS : Hid _ := sector_some h k ht
  have hC : Hid (IAt w B dn sv d) := h
  have hK : Hid d.Ok := k
  have a2 : Hid (d.at + 512 ≤ 32768) := (at_lt k ht).2.1
  have hL : Hid (d.log.length < 17592186044416) := hs
  have hT : Hid (d.there = true) := ht
  have hM : Hid (d.mode = 2) := hm
  obtain ⟨A, hA⟩ : ∃ A, A = d.at := ⟨_, rfl⟩
  have hA' : Hid (A = d.at) := hA
  rw [← hA] at HS a2
  clear h k ht hA hs hm
  go_enter Try.func30, Try.ntmps30
  go_wp2_with fail
  refine Calls.mono HS.out ?_; rintro e w1 ⟨rfl, k1⟩
  have h1 := hC.out.keep k1
  have hn := nil_no w1 ⟨B, A, none⟩ 512 512
  obtain ⟨cur, hb, hs, hc⟩ := h1.blk
  have a2' := a2.out
  obtain ⟨w2, hcp, ⟨cur2, hh2, hl2⟩, hk2⟩ := copy_any w1 B A 512 512 B 32778 512 512 512 rfl cur _ hb (by omega) d.buf (fun j hj => h1.cb j hj)
  have r2 := h1.raw.laydisk hb hh2 (by omega) hl2 hk2
  have h2 : IAt w2 B dn sv { d with D := d.lay.D } := r2.id _ rfl (by rw [hA'.out]; rfl) rfl rfl rfl rfl rfl h1.fl
  have K2 : Hid (Kp (isB B) w w2) := k1.any.trans hk2
  have H2 : Hid (IAt w2.drew B dn sv { d with D := d.lay.D }) := h2.keep (Kp.refl _ _).drew
  have hk' : Id.Ok { d with D := d.lay.D } := { hK.out with D := (hK.out.lay hT.out).D }
  obtain ⟨P, hP⟩ : ∃ P, P = d.place := ⟨_, rfl⟩
  have HP : Hid (Calls Try.prog 41 #[.pointer (some ⟨B, 0, none⟩)] w2.drew fun e w' => e = .returned (.int .i64 P) ∧ Kp noB w2.drew w') := by
    have := place_any H2.out hk'
    rw [hP]
    exact this
  have HN : Hid (∀ W, Kp noB w2.drew W → _) := fun W kW => note_ok (H2.out.keep kW) hL.out P
  have hP' : Hid (P = d.place) := hP
  clear hP
  have c1 : w2.drew.cell? ⟨B, 33293, none⟩ = some sv := H2.out.csv
  clear h1 hb hs hc a2' hh2 hl2 hk2 r2 h2 k1 hk'
  have HG : Hid (∀ W dn' sv', IAt W B dn' sv' d.lay → _) := fun W dn' sv' hW => goOn_ok hW (hK.out.lay hT.out) (.inr hM.out)
  go_wp2
  go_region_law (first
    | (refine step_enter rfl (by kernel_rfl) HP.out ?_
       rintro e w3 ⟨rfl, k3⟩
       refine ⟨_, rfl, ?_⟩
       have c3 : w3.cell? ⟨B, 33293, none⟩ = some sv := (H2.out.keep k3).csv
       have c4 : ∀ o, (w3.alloc o).cell? ⟨B, 33293, none⟩ = some sv := fun o => (H2.out.keep (k3.trans (Kp.alloc noB _ _))).csv
       have K3 : Hid (Kp noB w2.drew w3) := k3
       clear k3)
    | (obtain ⟨p', n', c', w5, hr, q1, q2, q3, q4, q5⟩ := HN.out _ (Hid.out (by assumption : Hid (Kp noB w2.drew _)))
       have Q3 : Hid _ := And.intro q3 (And.intro q4 q5)
       refine step_appI rfl _ _ rfl rfl rfl rfl hr ?_
       clear hr q3 q4 q5))
  all_goals
    obtain ⟨q3, q4, q5⟩ := Q3.out
    clear Q3
    generalize (w5.setCell ⟨B, 33293, none⟩ (.slice p' n' c')) = w6 at q3 q5 ⊢
    have h6 : IAt w6 B dn (.slice p' n' c') d.lay := by
      have e : ({ d with D := d.lay.D, log := d.log ++ [P] } : Id) = d.lay := by rw [hP'.out]; rfl
      rw [← e]
      exact q3
    have k3 : Kp (foot B sv) w w3 := (K2.out.foot.drew).trans (K3.out.any)
    have k6 : Kp (foot B sv) w w6 := k3.trans q5
    have f6 : ∀ k, foot B (.slice p' n' c') k → foot B sv k ∨ w.heap.size ≤ k := fun k g => by
      rcases q4 k g with e | e
      · exact .inl e
      · exact .inr (Nat.le_trans k3.size e)
    have HG' : Hid _ := HG.out _ _ _ h6
    have F6 : Hid ((∀ k, foot B (.slice p' n' c') k → foot B sv k ∨ w.heap.size ≤ k) ∧ Kp (foot B sv) w w6) := ⟨f6, k6⟩
    clear q3 q4 q5 h6 k3 k6 f6 HG HN HP H2 q1 q2 c3 c4 K3 K2 hP' c1 hcp hn hC hK hL hT hM a2 hA' HS
    go_wp2_with fail
    refine Calls.mono HG'.out ?_; rintro e w7 ⟨rfl, dn7, h7, d7, k7⟩
    have cm := h7.cmk
    have z7 := h7.fz 33292
    have H : Hid (DOut w B sv { d.lay.one with mark := true } (w7.setCell ⟨B, 33292, none⟩ (.bool true))) :=
      DOut.then F6.out.1 F6.out.2 ⟨dn7, _, (h7.raw.setmk true).id _ rfl rfl rfl rfl rfl rfl rfl h7.fl, d7, fun _ g => .inl g, (k7.trans (kpB B _ _ _)).foot⟩
    clear h7 k7 d7 HG' F6
    go_wp2
    go_end0
    exact ⟨rfl, H.out⟩

theorem write_no (h : IAt w B dn sv d) (k : d.Ok) (ht : d.there = false) : Calls Try.prog 30 #[.pointer (some ⟨B, 0, none⟩)] w fun e w' => e = .returned (.tuple #[]) ∧ DOut w B sv (d.fail 16) w' := by
  have HS : Hid _ := sector_none h k ht
  have hC : Hid (IAt w B dn sv d) := h
  clear h k ht
  go_enter Try.func30, Try.ntmps30
  go_wp2_with fail
  refine Calls.mono HS.out ?_; rintro e w1 ⟨rfl, k1⟩
  have HF : Hid _ := fail_ok (hC.out.keep k1) 16 (.inr rfl)
  have hn := nil_yes w1
  have K : Hid (Kp noB w w1) := k1
  clear k1
  go_wp2_with fail
  refine Calls.mono HF.out ?_; rintro e w2 ⟨rfl, h2⟩
  have H2 : Hid (DOut w B sv (d.fail 16) w2) := (h2.over K.out).out
  clear h2 HF
  go_wp2
  refine bodyPost_ret (results_none rfl _ _ _) rfl ?_
  exact ⟨rfl, H2.out⟩
end
end Go.Proofs.Ytddalplpmgmplaa
