/- The document's reader, and the code's (RfAgAll, RfDec). -/
import Derived.Test.YtbfccfhjgopnbaaGreatDr19
import Derived.Test.YtbfccfhjgopnbaaGreatDr32
import Derived.Test.YtbfccfhjgopnbaaGreatDr36
import Derived.Test.YtbfccfhjgopnbaaGreatDr42
import Derived.Test.YtbfccfhjgopnbaaGreatDr08
set_option linter.unusedSimpArgs false
namespace Go.Proofs.YtbfccfhjgopnbaaGreat
open Go.ChangeShapes Go.WideShapes Go.ChangeAt Go.RowKit
set_option linter.unusedVariables false
/-- No instruction of two bytes stands there. -/
def noTwo (d : Int) : Bool := (([0, 1, 6, 32, 34, 175, 188, 189, 182, 183, 190, 191] ++ [160, 161, 163, 164, 165, 168, 169, 171, 172, 173, 179, 186, 187] : List Int).all fun k => d != k) && d / 16 != 4 && d / 16 != 8 && d / 16 != 9 && (decide (d < 200) || decide (208 ≤ d))
theorem noTwo_rule : ∀ k : Fin 256, noTwo ((k : Nat) : Int) = true → ruleOf (3840 + ((k : Nat) : Int)) = none := by decide +kernel
theorem two_cases : ∀ k : Fin 256, noTwo ((k : Nat) : Int) = true ∨ ((k : Nat) : Int) ∈ ([0, 1, 6] : List Int) ∨ ((k : Nat) : Int) ∈ ([32, 34] : List Int) ∨ ((k : Nat) : Int) ∈ ([64, 65, 66, 67, 68, 69, 70, 71, 72, 73, 74, 75, 76, 77, 78, 79] : List Int) ∨ ((k : Nat) : Int) ∈ ([128, 129, 130, 131, 132, 133, 134, 135, 136, 137, 138, 139, 140, 141, 142, 143] : List Int) ∨ ((k : Nat) : Int) ∈ ([144, 145, 146, 147, 148, 149, 150, 151, 152, 153, 154, 155, 156, 157, 158, 159] : List Int) ∨ ((k : Nat) : Int) ∈ ([160, 161, 163, 164, 165, 168, 169, 171, 172, 173, 175] : List Int) ∨ ((k : Nat) : Int) ∈ ([179, 182, 183, 186, 187, 188, 189, 190, 191] : List Int) ∨ ((k : Nat) : Int) ∈ ([200, 201, 202, 203, 204, 205, 206, 207] : List Int) := by decide +kernel
theorem ag_15 (X : Cx) (σ : Sg) (hf : σ.fl = none) (hi : σ.ins = Ins.zero) (hg : -1 ≤ σ.seg) (h0 : 0 ≤ (take X σ).1) (h1 : (take X σ).1 < 256) : Ag X σ 15 := by
  by_cases he : (take X σ).2.err = 0
  · have hf1 := (take_fl X σ).trans hf
    have hi1 := (kept_take X σ).ins.trans hi
    have hg1 := seg_take X hg
    obtain ⟨k, hk⟩ : ∃ k : Fin 256, (take X σ).1 = ((k : Nat) : Int) := ⟨⟨(take X σ).1.toNat, by omega⟩, by show _ = (((take X σ).1.toNat : Nat) : Int); omega⟩
    have hc := two_cases k
    have hr := noTwo_rule k
    rw [← hk] at hc hr
    rcases hc with hn | hs | hs | hs | hs | hs | hs | hs | hs
    · have hr := hr hn
      unfold noTwo at hn
      simp only [Bool.and_eq_true, List.all_eq_true, bne_iff_ne, Bool.or_eq_true, decide_eq_true_eq] at hn
      obtain ⟨⟨⟨⟨n1, n2⟩, n3⟩, n4⟩, n5⟩ := hn
      exact ag2_u X σ hf hf1 hi1 hg1 he _ rfl h0 h1 n1 ⟨n2, n3, n4⟩ n5 hr
    · simp only [List.mem_cons, List.not_mem_nil, or_false] at hs
      exact ag2_c0 X σ hf hf1 hi1 hg1 he hs
    · simp only [List.mem_cons, List.not_mem_nil, or_false] at hs
      exact ag2_c2 X σ hf hf1 hi1 hg1 he hs
    · simp only [List.mem_cons, List.not_mem_nil, or_false] at hs
      exact ag2_c4 X σ hf hf1 hi1 hg1 he hs
    · simp only [List.mem_cons, List.not_mem_nil, or_false] at hs
      exact ag2_c8 X σ hf hf1 hi1 hg1 he hs
    · simp only [List.mem_cons, List.not_mem_nil, or_false] at hs
      exact ag2_c9 X σ hf hf1 hi1 hg1 he hs
    · simp only [List.mem_cons, List.not_mem_nil, or_false] at hs
      exact ag2_c10 X σ hf hf1 hi1 hg1 he hs
    · simp only [List.mem_cons, List.not_mem_nil, or_false] at hs
      exact ag2_c11 X σ hf hf1 hi1 hg1 he hs
    · simp only [List.mem_cons, List.not_mem_nil, or_false] at hs
      exact ag2_c12 X σ hf hf1 hi1 hg1 he hs
  · refine ⟨_, _, fun w f h => ag_call (one_two w X σ f h _ _ _ _ (fun W hW => two_err W X σ f hW hf he)), ?_⟩
    have h := ((rdBehM ruleOf (opM X 15 σ).1).stuck X (take X σ).2 he).1
    exact ⟨h, fun k => absurd (h.symm.trans k) he⟩
theorem ag_all (X : Cx) (σ : Sg) (hf : σ.fl = none) (hi : σ.ins = Ins.zero) (hg : -1 ≤ σ.seg) (h2 : 0 ≤ (take X σ).1) (h3 : (take X σ).1 < 256) (b : Int) (hp : isPre b = false) (h0 : 0 ≤ b) (h1 : b < 256) : Ag X σ b := by
  by_cases c0 : b < 16
  · exact ag_c0 X σ hf hi hg (ag_15 X σ hf hi hg h2 h3) b hp (by omega) (by omega)
  by_cases c1 : b < 32
  · exact ag_c1 X σ hf hi hg b hp (by omega) (by omega)
  by_cases c2 : b < 48
  · exact ag_c2 X σ hf hi hg b hp (by omega) (by omega)
  by_cases c3 : b < 64
  · exact ag_c3 X σ hf hi hg b hp (by omega) (by omega)
  by_cases c4 : b < 80
  · exact ag_c4 X σ hf hi hg b hp (by omega) (by omega)
  by_cases c5 : b < 96
  · exact ag_c5 X σ hf hi hg b hp (by omega) (by omega)
  by_cases c6 : b < 112
  · exact ag_c6 X σ hf hi hg b hp (by omega) (by omega)
  by_cases c7 : b < 128
  · exact ag_c7 X σ hf hi hg b hp (by omega) (by omega)
  by_cases c8 : b < 144
  · exact ag_c8 X σ hf hi hg b hp (by omega) (by omega)
  by_cases c9 : b < 160
  · exact ag_c9 X σ hf hi hg b hp (by omega) (by omega)
  by_cases c10 : b < 176
  · exact ag_c10 X σ hf hi hg b hp (by omega) (by omega)
  by_cases c11 : b < 192
  · exact ag_c11 X σ hf hi hg b hp (by omega) (by omega)
  by_cases c12 : b < 208
  · exact ag_c12 X σ hf hi hg b hp (by omega) (by omega)
  by_cases c13 : b < 224
  · exact ag_c13 X σ hf hi hg b hp (by omega) (by omega)
  by_cases c14 : b < 240
  · exact ag_c14 X σ hf hi hg b hp (by omega) (by omega)
  exact ag_c15 X σ hf hi hg b hp (by omega) (by omega)
end Go.Proofs.YtbfccfhjgopnbaaGreat
namespace Go.Proofs.YtbfccfhjgopnbaaGreat
open Go.ChangeShapes Go.WideShapes Go.ChangeAt Go.RowKit
set_option linter.unusedVariables false
set_option linter.unusedSimpArgs false
set_option maxRecDepth 20000
structure RsD (T : TypeId) (X : Cx) (w : World) (σ : Sg) (f : Int × Int × Int) (c : Int) (wr : World) : Prop where
  st : RSt X wr σ f c
  rs : wr.heap[w.heap.size]? = some (.cells (insV Ins.zero) T (0, 0))
  kp : Kp noB w wr
  eS : X.S = w.heap.size + 1
section
variable {T : TypeId} {n : Nat} {fs : Array Field} {ps : Array (Nat × Nat)} {X : Cx} {w wr w' : World} {σ σ' : Sg} {f f' : Int × Int × Int} {c c' : Int}
theorem RsD.own (h : RsD T X w σ f c wr) (k : Kp (rOwn X) wr w') : Kp noB w w' :=
  ⟨k.os.trans h.kp.os, k.tape.trans h.kp.tape, k.output.trans h.kp.output, Nat.le_trans h.kp.size k.size, fun i hi hs => (k.block i (Nat.lt_of_lt_of_le hi h.kp.size) (by show ¬ i = X.S; have := h.eS; omega)).trans (h.kp.block i hi hs)⟩
theorem RsD.call (h : RsD T X w σ f c wr) (d : RDn X wr σ' f' c' w') : RsD T X w σ' f' c' w' :=
  ⟨d.1, heap_kept h.rs d.2 (by show ¬ w.heap.size = X.S; have := h.eS; omega), h.own d.2, h.eS⟩
theorem RsD.no (h : RsD T X w σ f c wr) (k : Kp noB wr w') : RsD T X w σ f c w' := ⟨h.st.kp k, heap_kept h.rs k id, h.kp.trans k, h.eS⟩
theorem RsD.code (h : RsD T X w σ f c wr) (d : Int) : RsD T X w σ f d (wr.setCell ⟨X.S, 9, none⟩ (.int .i64 d)) :=
  h.call ⟨h.st.set 9 (.int .i64 d) rfl h.st.le h.st.lL ⟨h.st.vv, h.st.sg⟩, kpS X wr 9 _⟩
theorem RsD.seg (h : RsD T X w σ f c wr) (d : Int) (hd : -1 ≤ d) : RsD T X w { σ with seg := d } f c (wr.setCell ⟨X.S, 3, none⟩ (.int .i64 d)) :=
  h.call ⟨h.st.set 3 (.int .i64 d) rfl h.st.le h.st.lL ⟨h.st.vv, hd⟩, kpS X wr 3 _⟩
theorem RsD.wid (h : RsD T X w σ f c wr) : RsD T X w { σ with v := 2 } f c (wr.setCell ⟨X.S, 4, none⟩ (.int .i64 2)) :=
  h.call ⟨h.st.set 4 (.int .i64 2) rfl h.st.le h.st.lL ⟨Or.inl rfl, h.st.sg⟩, kpS X wr 4 _⟩
theorem RsD.rep (h : RsD T X w σ f c wr) (d : Int) : RsD T X w { σ with rep := d } f c (wr.setCell ⟨X.S, 5, none⟩ (.int .i64 d)) :=
  h.call ⟨h.st.set 5 (.int .i64 d) rfl h.st.le h.st.lL ⟨h.st.vv, h.st.sg⟩, kpS X wr 5 _⟩
theorem RsD.put (hv : VlG T n fs ps) (h : RsD T X w σ f c wr) (y : Ins) : (storeCells ⟨w.heap.size, 0, none⟩ (insV y).toList).run Tryz.prog wr = .ok () (wr.setRow w.heap.size (insV y)) := by
  have e := h.rs
  rw [hv.v.t] at e
  exact put_ins e rfl y
theorem RsD.got (hv : VlG T n fs ps) (h : RsD T X w σ f c wr) (y : Ins) : (loadVar 28 ⟨w.heap.size, 0, none⟩).run Tryz.prog (wr.setRow w.heap.size (insV y)) = .ok (.agg (insV y)) (wr.setRow w.heap.size (insV y)) := by
  have e := h.rs
  rw [hv.v.t] at e
  exact load_ins (got_ins e y) rfl
theorem RsD.fin (h : RsD T X w σ f c wr) (y : Ins) : Kp noB w (wr.setRow w.heap.size (insV y)) := h.kp.setRowNo (Nat.le_refl _) _
theorem RsD.cE (h : RsD T X w σ f c wr) (y : Ins) : (wr.setRow w.heap.size (insV y)).cell? ⟨X.S, 2, none⟩ = some (.int .i64 σ.err) :=
  cell_kept (S := fun b => b = w.heap.size) h.st.c2 (Kp.setRow (S := fun b => b = w.heap.size) wr rfl _) (by show ¬ X.S = w.heap.size; have := h.eS; omega)
theorem RsD.oth {q : Nat} (h : RsD T X w σ f c wr) (k : Kp (fun b => b = q) wr w') (hq : w.heap.size + 1 < q) : RsD T X w σ f c w' :=
  ⟨h.st.other k (by have := h.eS; omega), heap_kept h.rs k (by show ¬ w.heap.size = q; omega), ⟨k.os.trans h.kp.os, k.tape.trans h.kp.tape, k.output.trans h.kp.output, Nat.le_trans h.kp.size k.size, fun i hi hs => (k.block i (Nat.lt_of_lt_of_le hi h.kp.size) (by show ¬ i = q; omega)).trans (h.kp.block i hi hs)⟩, h.eS⟩
theorem RsD.drew (h : RsD T X w σ f c wr) : RsD T X w σ f c wr.drew := h.no ((Kp.refl noB wr).drewN 1)
theorem RsD.start (p : Option Addr) (cap L : Nat) (bt : Nat → Int) (hL : L ≤ 4611686018427387904) (hb : BytAt w p L bt) (hbd : ∀ j, j < L → 0 ≤ bt j ∧ bt j < 256) :
    RsD T ⟨w.heap.size + 1, w.heap.size + 2, p, cap, L, bt, w.heap.size⟩ w sg0 (0, 0, 0) 0 ((w.alloc (.cells (insV Ins.zero) T)).alloc (.cells #[.slice p L cap, .int .i64 0, .int .i64 0, .int .i64 (-1), .int .i64 4, .int .i64 0, .int .i64 0, .int .i64 0, .int .i64 0, .int .i64 0] 46)) := by
  have e1 := (MapKept.heap_alloc w (.cells (insV Ins.zero) T)).1
  have e2 := (MapKept.heap_alloc (w.alloc (.cells (insV Ins.zero) T)) (.cells #[.slice p L cap, .int .i64 0, .int .i64 0, .int .i64 (-1), .int .i64 4, .int .i64 0, .int .i64 0, .int .i64 0, .int .i64 0, .int .i64 0] 46)).1
  rw [show (w.alloc (.cells (insV Ins.zero) T)).heap.size = w.heap.size + 1 by simp] at e2
  have k1 : Kp noB w (w.alloc (.cells (insV Ins.zero) T)) := Kp.alloc _ _ _
  have k2 := k1.trans (Kp.alloc _ _ (.cells #[.slice p L cap, .int .i64 0, .int .i64 0, .int .i64 (-1), .int .i64 4, .int .i64 0, .int .i64 0, .int .i64 0, .int .i64 0, .int .i64 0] 46))
  refine ⟨⟨e2, fun j hj => ?_, hbd, hL, Nat.zero_le _, Nat.zero_le _, Nat.le_succ _, Or.inr rfl, Int.le_refl _⟩, heap_kept e1 (Kp.alloc noB _ _) id, k2, rfl⟩
  obtain ⟨b, o, e, hlt, hc⟩ := hb j hj
  exact ⟨b, o, e, hlt, cell_kept hc k2 id⟩
end
theorem preS_keep (b : Int) (σ : Sg) : (preS b σ).fl = σ.fl ∧ (preS b σ).ins = σ.ins := by
  unfold preS
  repeat' split
  all_goals exact ⟨rfl, rfl⟩
theorem preL_go (X : Cx) (n : Nat) {b : Int} (σ : Sg) (h : isPre b = true) : preL X (n + 1) b σ = preL X n (take X (preS b σ)).1 (take X (preS b σ)).2 := by
  show (if isPre b = true then _ else _) = _
  rw [if_pos h]
theorem preL_end (X : Cx) (n : Nat) {b : Int} (σ : Sg) (h : isPre b = false) : preL X n b σ = (b, σ) := by
  cases n with
  | zero => rfl
  | succ n =>
    show (if isPre b = true then _ else _) = _
    rw [h]
    rfl
/-- The loop: the reader's state, and what is left to be read. -/
def LpR (T : TypeId) (X : Cx) (w : World) (V : Int × Sg) (vb : Value) (wr : World) : Prop :=
  ∃ (m : Bool) (n : Nat) (σ : Sg) (c : Int), vb = .bool m ∧ RsD T X w σ (0, 0, 0) c wr ∧ σ.fl = none ∧ σ.ins = Ins.zero ∧ (m = true → σ.err = 0 ∧ 16 ≤ σ.at' + n ∧ V = preL X n (take X σ).1 (take X σ).2) ∧ (m = false → V = (c, σ) ∧ isPre c = false ∧ 0 ≤ c ∧ c < 256)
def lfR (X : Cx) (vb : Value) (w : World) : Nat := (match w.cell? ⟨X.S, 1, none⟩ with | some (.int _ a) => 2 * (16 - a.toNat) | _ => 0) + match vb with | .bool true => 1 | _ => 0
theorem lfR_eq {X : Cx} {w : World} {σ : Sg} {f : Int × Int × Int} {c : Int} (h : RSt X w σ f c) (m : Bool) : lfR X (.bool m) w = 2 * (16 - σ.at') + if m = true then 1 else 0 := by
  unfold lfR
  rw [h.c1]
  cases m <;> rfl
/-- A prefix: on with the loop. -/
theorem lp_on {T : TypeId} {X : Cx} {w wr wn : World} {V : Int × Sg} {n : Nat} {σ : Sg} {c b : Int} (hV : V = preL X n (take X σ).1 (take X σ).2) (hn : 16 ≤ σ.at' + n) (hf : σ.fl = none) (hi : σ.ins = Ins.zero) (hb : (take X σ).1 = b) (hp : isPre b = true) (hs : RSt X wr σ (0, 0, 0) c) (h : RsD T X w (preS b (take X σ).2) (0, 0, 0) b wn) :
    LpR T X w V (.bool true) wn ∧ lfR X (.bool true) wn < lfR X (.bool true) wr := by
  subst hb
  obtain ⟨t1, t2⟩ := take_pre X σ hp
  obtain ⟨p1, p2⟩ := preS_at (take X σ).1 (take X σ).2
  obtain ⟨p3, p4⟩ := preS_keep (take X σ).1 (take X σ).2
  have hle := h.st.le
  rw [p1, t1] at hle
  obtain ⟨m, rfl⟩ : ∃ m, n = m + 1 := ⟨n - 1, by omega⟩
  refine ⟨⟨true, m, _, _, rfl, h, p3.trans ((take_fl X σ).trans hf), p4.trans ((kept_take X σ).ins.trans hi), fun _ => ⟨p2.trans t2, by rw [p1, t1]; omega, hV.trans (preL_go X m _ hp)⟩, fun k => by cases k⟩, ?_⟩
  rw [lfR_eq h.st, lfR_eq hs, p1, t1]
  omega
/-- No prefix: the loop ends. -/
theorem lp_end {T : TypeId} {X : Cx} {w wr wn : World} {V : Int × Sg} {n : Nat} {σ : Sg} {c b : Int} (hV : V = preL X n (take X σ).1 (take X σ).2) (hf : σ.fl = none) (hi : σ.ins = Ins.zero) (hb : (take X σ).1 = b) (h0 : 0 ≤ b) (h1 : b < 256) (hp : isPre b = false) (hs : RSt X wr σ (0, 0, 0) c) (h : RsD T X w (take X σ).2 (0, 0, 0) b wn) :
    LpR T X w V (.bool false) wn ∧ lfR X (.bool false) wn < lfR X (.bool true) wr := by
  subst hb
  refine ⟨⟨false, 0, _, _, rfl, h, (take_fl X σ).trans hf, (kept_take X σ).ins.trans hi, fun k => (by cases k), fun _ => ⟨hV.trans (preL_end X n _ hp), hp, h0, h1⟩⟩, ?_⟩
  have ha : σ.at' ≤ (take X σ).2.at' := by
    unfold take
    repeat' split
    all_goals first | exact Nat.le_refl _ | exact Nat.le_succ _
  rw [lfR_eq h.st, lfR_eq hs]
  simp
  omega
theorem dec_stuck {X : Cx} {c : Int} {σ : Sg} (h : σ.err ≠ 0) : decR (behM ruleOf (opM X c σ).1 X (opM X c σ).2) = (Ins.zero, σ.err) := by
  have s := (RdS.stuck (g := fun X σ => behM ruleOf (opM X c σ).1 X (opM X c σ).2) (Rd.bindS (f := fun X σ => opM X c σ) (g := fun b X σ => behM ruleOf b X σ) (rdOpM c) (fun b => rdBehM ruleOf b)) X σ h).1
  unfold decR
  rw [if_neg (by rw [s]; exact h), s]
set_option maxHeartbeats 8000000 in
theorem rdecode_ok (w : World) (p : Option Addr) (cap L : Nat) (bt : Nat → Int) (hL : L ≤ 4611686018427387904) (hb : BytAt w p L bt) (hbd : ∀ j, j < L → 0 ≤ bt j ∧ bt j < 256) :
    Calls Tryz.prog 6 #[.slice p L cap] w fun e w' => e = .returned (.tuple #[.agg (insV (decM ruleOf L bt).1), .int .i64 (decM ruleOf L bt).2]) ∧ Kp noB w w' := by
  obtain ⟨T, nI, fsI, psI, hv⟩ := vlG
  have hst := RsD.start (T := T) p cap L bt hL hb hbd
  have hfull := decM_any ruleOf ⟨w.heap.size + 1, w.heap.size + 2, p, cap, L, bt, w.heap.size⟩
  obtain ⟨X, hX⟩ : ∃ X : Cx, X = ⟨w.heap.size + 1, w.heap.size + 2, p, cap, L, bt, w.heap.size⟩ := ⟨_, rfl⟩
  have hS : w.heap.size + 1 = X.S := by rw [hX]
  simp only [← hX] at hst hfull
  obtain ⟨V, hV⟩ : ∃ V, V = preL X 16 (take X sg0).1 (take X sg0).2 := ⟨_, rfl⟩
  obtain ⟨Z, hZ⟩ : ∃ Z, Z = decM ruleOf L bt := ⟨_, rfl⟩
  have hZ2 : Z = decR (behM ruleOf (opM X V.1 V.2).1 X (opM X V.1 V.2).2) := by rw [hZ, hfull, hV]; rfl
  rw [← hZ]
  have HZ : Hid (Z = decR (behM ruleOf (opM X V.1 V.2).1 X (opM X V.1 V.2).2)) := hZ2
  have Hstart : Hid (LpR T X w V (.bool true) _) := ⟨true, 16, sg0, 0, rfl, hst, rfl, rfl, fun _ => ⟨rfl, Nat.le_refl _, hV⟩, fun k => by cases k⟩
  have HS : Hid (w.heap.size + 1 = X.S) := hS
  clear hst hfull hX hS hV hZ hZ2 hb hbd
  obtain ⟨vl, vs, vb, va, vx⟩ := hv.ops
  have v1 := hv.agg
  have v2 := hv.size
  have v3 := hv.zero
  have v4 := hv.under
  have v5 := hv.map
  have v6 := hv.lit
  have Hv : Hid _ := hv
  have sz := insV_size
  have ne := insNe
  clear hv
  go_enter Tryz.func6, Tryz.ntmps6
  try simp only [vl, vs, va, vb, vx]
  clear vl vs va vb vx
  go_wp2_with fail
  rw [HS.out]
  go_loopw [5] (LpR T X w V) (fun vb wr => lfR X vb wr)
  case atStart => exact Hstart.out
  case round =>
    clear Hstart HS
    obtain ⟨m, n, σ, c, rfl, hd, hf, hi, hT, hF⟩ := hrel
    cases m
    · obtain ⟨hV, hp, c0, c1⟩ := hF rfl
      have x2 := hd.st.c2
      have hZ3 : Z = decR (behM ruleOf (opM X c σ).1 X (opM X c σ).2) := by rw [HZ.out, hV]
      by_cases he : σ.err = 0
      · rw [he] at x2
        have hbd := rtake_bd hd.st
        obtain ⟨y, σ', hcall, hsame⟩ := ag_all X σ hf hi hd.st.sg hbd.1 hbd.2 c hp c0 c1
        have hZ4 : Z = if σ'.err = 0 then ({ y with len := (σ'.at' : Int) }, 0) else (Ins.zero, σ'.err) := by
          rw [hZ3]
          unfold decR
          obtain ⟨s1, s2⟩ := hsame
          rw [← s1]
          split
          · rename_i q
            obtain ⟨a, b⟩ := s2 q
            rw [a, b]
          · rfl
        have HZ4 : Hid _ := hZ4
        have cO := hcall wr (0, 0, 0) hd.st
        have HD : Hid _ := hd
        clear hZ3 hZ4 hcall hsame hbd hd hV hp c0 c1 hT hF hf hi he HZ
        go_wp2_with fail
        refine cO.mono ?_; rintro e w5 ⟨rfl, f', c', hd5⟩
        have h5 := HD.out.call hd5
        have pn := Hv.out.new w5 w5.heap.size rfl y Ins.zero
        have h6 : RsD T X w σ' f' c' (w5.alloc (.cells (insV y) T)) := h5.no (Kp.alloc _ _ _)
        have op6 : (w5.alloc (.cells (insV y) T)).heap[w5.heap.size]? = some (.cells (insV y) T (0, 0)) := (MapKept.heap_alloc w5 _).1
        have hq : w.heap.size + 1 < w5.heap.size := by have a := h5.st.ltS; have b := h5.eS; omega
        generalize w5.alloc (.cells (insV y) T) = w6 at *
        have x6 := h6.st.c2
        by_cases he : σ'.err = 0
        · rw [he] at x6
          have x1 := h6.st.c1
          have c31 : w6.cell? ⟨w5.heap.size, 31, none⟩ = some (.int .i64 y.len) := by simp [World.cell?, op6, insV]
          have z31 : w6.frozen? ⟨w5.heap.size, 31, none⟩ = false := by simp [World.frozen?, op6]
          have k7 : Kp (fun b => b = w5.heap.size) w6 (w6.setCell ⟨w5.heap.size, 31, none⟩ (.int .i64 (σ'.at' : Int))) := Kp.setCell (S := fun b => b = w5.heap.size) w6 (p := ⟨w5.heap.size, 31, none⟩) rfl _
          have h7 := h6.oth k7 hq
          have op7 : (w6.setCell ⟨w5.heap.size, 31, none⟩ (.int .i64 (σ'.at' : Int))).heap[w5.heap.size]? = some (.cells (insV { y with len := (σ'.at' : Int) }) T (0, 0)) := by rw [heap_set op6]; rfl
          have ld7 := Hv.out.get op7
          have pt7 := h7.put Hv.out { y with len := (σ'.at' : Int) }
          have gt7 := h7.got Hv.out { y with len := (σ'.at' : Int) }
          have kf7 := h7.fin { y with len := (σ'.at' : Int) }
          have hZ5 : Z = ({ y with len := (σ'.at' : Int) }, 0) := by rw [HZ4.out, if_pos he]
          obtain ⟨A, hA⟩ : ∃ A : Ins, A = { y with len := (σ'.at' : Int) } := ⟨_, rfl⟩
          rw [← hA] at ld7 pt7 gt7 kf7 hZ5
          have HG : Hid _ := gt7
          have HK : Hid _ := kf7
          have HZ5 : Hid _ := hZ5
          clear h7 op7 k7 hA gt7 kf7 hZ5 HZ4 h6 op6 h5 hd5 cO HD
          go_wp2
          refine bodyPost_ret (v := .tuple #[.agg (insV A), .int .i64 0]) ?_ rfl ⟨by rw [HZ5.out], HK.out⟩
          exact res2 rfl _ _ w.heap.size _ _ rfl rfl HG.out
        · have he' : (σ'.err != 0) = true := by simpa using he
          have hZ5 : Z = (Ins.zero, σ'.err) := by rw [HZ4.out, if_neg he]
          have pt7 := h6.drew.put Hv.out Ins.zero
          have e7 := h6.drew.cE Ins.zero
          have HG : Hid _ := h6.drew.got Hv.out Ins.zero
          have HK : Hid _ := h6.drew.fin Ins.zero
          have HZ5 : Hid _ := hZ5
          generalize σ'.err = E at *
          clear hZ5 HZ4 h6 op6 h5 hd5 cO HD
          go_wp2
          go_region
          all_goals
            go_wp2
            refine bodyPost_ret (v := .tuple #[.agg (insV Ins.zero), .int .i64 E]) ?_ rfl ⟨by rw [HZ5.out], HK.out⟩
            exact res2 rfl _ _ w.heap.size _ _ rfl rfl HG.out
      · have he' : (σ.err != 0) = true := by simpa using he
        have hZ5 : Z = (Ins.zero, σ.err) := hZ3.trans (dec_stuck he)
        have pt7 := hd.drew.put Hv.out Ins.zero
        have e7 := hd.drew.cE Ins.zero
        have HG : Hid _ := hd.drew.got Hv.out Ins.zero
        have HK : Hid _ := hd.drew.fin Ins.zero
        have HZ5 : Hid _ := hZ5
        obtain ⟨E, hE⟩ : ∃ E, E = σ.err := ⟨_, rfl⟩
        rw [← hE] at x2 he he' e7
        have HE : Hid (E = σ.err) := hE
        clear hZ5 hZ3 hd hV hp c0 c1 hT hF hf hi HZ hE
        go_wp2
        go_region
        all_goals
          go_wp2
          refine bodyPost_ret (v := .tuple #[.agg (insV Ins.zero), .int .i64 E]) ?_ rfl ⟨by rw [HZ5.out, HE.out], HK.out⟩
          exact res2 rfl _ _ w.heap.size _ _ rfl rfl HG.out
    · obtain ⟨he, hn, hV⟩ := hT rfl
      have cN := next_ok wr X σ (0, 0, 0) c hd.st
      have hbd := rtake_bd hd.st
      have HD : Hid _ := hd
      have Hn : Hid _ := hn
      have HV : Hid _ := hV
      have Hf : Hid _ := hf
      have Hi : Hid _ := hi
      clear hd hT hF hn hV hf hi he
      obtain ⟨b, hb⟩ : ∃ b, b = (take X σ).1 := ⟨_, rfl⟩
      rw [← hb] at cN hbd
      have Hb : Hid ((take X σ).1 = b) := hb.symm
      obtain ⟨b0, b1⟩ := hbd
      clear hb
      go_wp2_with fail
      refine cN.mono ?_; rintro e w1 ⟨rfl, hd1⟩
      have h1 := HD.out.call hd1
      have y9 := h1.st.c9
      have z9 := h1.st.fz 9
      have h2 := h1.code b
      have x9 := h2.st.c9
      have H2 : Hid _ := h2
      clear hd1 cN h1
      by_cases q38 : b = 38
      · subst q38
        have h3 := h2.seg 0 (by decide)
        have e2 := (take_pre X σ (by rw [Hb.out]; rfl)).2
        have x2 := h3.st.c2
        have yk := h2.st.c3
        have zk := h2.st.fz 3
        have HE := lp_on (T := T) (V := V) HV.out Hn.out Hf.out Hi.out Hb.out rfl HD.out.st h3
        rw [show ({ (take X σ).2 with seg := 0 } : Sg).err = 0 from e2] at x2
        have HR : Hid _ := HE
        clear h2 h3 HE H2 HD e2
        go_wp2
        go_roundw
        case rel => exact HR.out.1
        case measure => exact HR.out.2
      by_cases q46 : b = 46
      · subst q46
        have h3 := h2.seg 1 (by decide)
        have e2 := (take_pre X σ (by rw [Hb.out]; rfl)).2
        have x2 := h3.st.c2
        have yk := h2.st.c3
        have zk := h2.st.fz 3
        have HE := lp_on (T := T) (V := V) HV.out Hn.out Hf.out Hi.out Hb.out rfl HD.out.st h3
        rw [show ({ (take X σ).2 with seg := 1 } : Sg).err = 0 from e2] at x2
        have HR : Hid _ := HE
        clear h2 h3 HE H2 HD e2
        go_wp2
        go_roundw
        case rel => exact HR.out.1
        case measure => exact HR.out.2
      by_cases q54 : b = 54
      · subst q54
        have h3 := h2.seg 2 (by decide)
        have e2 := (take_pre X σ (by rw [Hb.out]; rfl)).2
        have x2 := h3.st.c2
        have yk := h2.st.c3
        have zk := h2.st.fz 3
        have HE := lp_on (T := T) (V := V) HV.out Hn.out Hf.out Hi.out Hb.out rfl HD.out.st h3
        rw [show ({ (take X σ).2 with seg := 2 } : Sg).err = 0 from e2] at x2
        have HR : Hid _ := HE
        clear h2 h3 HE H2 HD e2
        go_wp2
        go_roundw
        case rel => exact HR.out.1
        case measure => exact HR.out.2
      by_cases q62 : b = 62
      · subst q62
        have h3 := h2.seg 3 (by decide)
        have e2 := (take_pre X σ (by rw [Hb.out]; rfl)).2
        have x2 := h3.st.c2
        have yk := h2.st.c3
        have zk := h2.st.fz 3
        have HE := lp_on (T := T) (V := V) HV.out Hn.out Hf.out Hi.out Hb.out rfl HD.out.st h3
        rw [show ({ (take X σ).2 with seg := 3 } : Sg).err = 0 from e2] at x2
        have HR : Hid _ := HE
        clear h2 h3 HE H2 HD e2
        go_wp2
        go_roundw
        case rel => exact HR.out.1
        case measure => exact HR.out.2
      by_cases q100 : b = 100
      · subst q100
        have h3 := h2.seg 4 (by decide)
        have e2 := (take_pre X σ (by rw [Hb.out]; rfl)).2
        have x2 := h3.st.c2
        have yk := h2.st.c3
        have zk := h2.st.fz 3
        have HE := lp_on (T := T) (V := V) HV.out Hn.out Hf.out Hi.out Hb.out rfl HD.out.st h3
        rw [show ({ (take X σ).2 with seg := 4 } : Sg).err = 0 from e2] at x2
        have HR : Hid _ := HE
        clear h2 h3 HE H2 HD e2
        go_wp2
        go_roundw
        case rel => exact HR.out.1
        case measure => exact HR.out.2
      by_cases q101 : b = 101
      · subst q101
        have h3 := h2.seg 5 (by decide)
        have e2 := (take_pre X σ (by rw [Hb.out]; rfl)).2
        have x2 := h3.st.c2
        have yk := h2.st.c3
        have zk := h2.st.fz 3
        have HE := lp_on (T := T) (V := V) HV.out Hn.out Hf.out Hi.out Hb.out rfl HD.out.st h3
        rw [show ({ (take X σ).2 with seg := 5 } : Sg).err = 0 from e2] at x2
        have HR : Hid _ := HE
        clear h2 h3 HE H2 HD e2
        go_wp2
        go_roundw
        case rel => exact HR.out.1
        case measure => exact HR.out.2
      by_cases q102 : b = 102
      · subst q102
        have h3 := h2.wid
        have e2 := (take_pre X σ (by rw [Hb.out]; rfl)).2
        have x2 := h3.st.c2
        have yk := h2.st.c4
        have zk := h2.st.fz 4
        have HE := lp_on (T := T) (V := V) HV.out Hn.out Hf.out Hi.out Hb.out rfl HD.out.st h3
        rw [show ({ (take X σ).2 with v := 2 } : Sg).err = 0 from e2] at x2
        have HR : Hid _ := HE
        clear h2 h3 HE H2 HD e2
        go_wp2
        go_roundw
        case rel => exact HR.out.1
        case measure => exact HR.out.2
      by_cases q242 : b = 242
      · subst q242
        have h3 := h2.rep 2
        have e2 := (take_pre X σ (by rw [Hb.out]; rfl)).2
        have x2 := h3.st.c2
        have yk := h2.st.c5
        have zk := h2.st.fz 5
        have HE := lp_on (T := T) (V := V) HV.out Hn.out Hf.out Hi.out Hb.out rfl HD.out.st h3
        rw [show ({ (take X σ).2 with rep := 2 } : Sg).err = 0 from e2] at x2
        have HR : Hid _ := HE
        clear h2 h3 HE H2 HD e2
        go_wp2
        go_roundw
        case rel => exact HR.out.1
        case measure => exact HR.out.2
      by_cases q243 : b = 243
      · subst q243
        have h3 := h2.rep 1
        have e2 := (take_pre X σ (by rw [Hb.out]; rfl)).2
        have x2 := h3.st.c2
        have yk := h2.st.c5
        have zk := h2.st.fz 5
        have HE := lp_on (T := T) (V := V) HV.out Hn.out Hf.out Hi.out Hb.out rfl HD.out.st h3
        rw [show ({ (take X σ).2 with rep := 1 } : Sg).err = 0 from e2] at x2
        have HR : Hid _ := HE
        clear h2 h3 HE H2 HD e2
        go_wp2
        go_roundw
        case rel => exact HR.out.1
        case measure => exact HR.out.2
      have hp : isPre b = false := by simp [isPre, q38, q46, q54, q62, q100, q101, q102, q242, q243]
      have HE := lp_end (T := T) (V := V) HV.out Hf.out Hi.out Hb.out b0 b1 hp HD.out.st h2
      have x2 := h2.st.c2
      have HR : Hid _ := HE
      clear h2 HE H2 HD hp
      obtain ⟨E, hE⟩ : ∃ E, E = (take X σ).2.err := ⟨_, rfl⟩
      rw [← hE] at x2
      clear hE
      by_cases qe : E = 0
      · subst qe
        go_wp2
        go_roundw
        case rel => exact HR.out.1
        case measure => exact HR.out.2
      · have qe' : (E != 0) = true := by simpa using qe
        go_wp2
        go_roundw
        case rel => exact HR.out.1
        case measure => exact HR.out.2
end Go.Proofs.YtbfccfhjgopnbaaGreat
