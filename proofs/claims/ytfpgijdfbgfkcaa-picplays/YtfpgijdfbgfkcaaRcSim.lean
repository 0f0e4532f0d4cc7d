/- The document's command and data, held against the plain model. -/
import Derived.Test.YtfpgijdfbgfkcaaRcBegin
namespace Go.Proofs.Ytfpgijdfbgfkcaa
open Go.ChangeShapes Go.WideShapes Go.ChangeAt Go.RowKit
set_option linter.unusedVariables false

def wantsOf (d : Int) : List Int := if d = 1 then [1] else if d = 2 then [2] else if d = 3 then [1, 2] else if d = 4 then [3] else if d = 5 then [1, 3] else if d = 6 then [2, 3] else if d = 7 then [1, 2, 3] else []

theorem wants_len (d : Int) : (wantsOf d).length ≤ 3 := by
  unfold wantsOf
  repeat (split; · decide)
  decide

theorem bt_lit {v : Int} (hv : By v) : bt v 16 = tb v 4 ∧ bt v 8 = tb v 3 ∧ bt v 2 = tb v 1 ∧ bt v 1 = tb v 0 :=
  ⟨bt_pw hv (n := 4) (by decide), bt_pw hv (n := 3) (by decide), bt_pw hv (n := 1) (by decide), bt_pw hv (n := 0) (by decide)⟩

theorem low_clear : ∀ n : Fin 256, ∀ j : Fin 8, tb (bits .and .u8 (n.val : Int) (((n.val : Int) - 1) % 256)) j.val = (tb (n.val : Int) j.val && !decide (j.val = Lib.trailingZeros8 n.val)) := by decide +kernel

theorem low_bit {x : Int} (h : By x) {i : Nat} (hi : i < 8) (e : tb x i = true) (f : ∀ j, j < i → tb x j = false) {j : Nat} (hj : j < 8) : tb (bits .and .u8 x ((x - 1) % 256)) j = (tb x j && !decide (j = i)) := by
  have a := low_clear ⟨x.toNat, by have := h.1; have := h.2; omega⟩ ⟨j, hj⟩
  simp only [Int.toNat_of_nonneg h.1] at a
  have t := tz_is h hi e f
  unfold tz at t
  have t' : Lib.trailingZeros8 x.toNat = i := by omega
  rw [t'] at a
  exact a

/-- What is wanted is as it was, or lies in a new block. -/
def Wd (w : World) (r : RC) (l : List Int) (w' : World) (r' : RC) (l' : List Int) : Prop := (r'.wp = r.wp ∧ r'.wl = r.wl ∧ r'.wc = r.wc ∧ l' = l) ∨ Wn w' w.heap.size r'.wp r'.wl r'.wc l'

def cmdPost (w : World) (r : RC) (c c' : Ch) (s : Bool) (e : Ending) (w' : World) : Prop := ∃ r' : RC, e = .returned (.agg (chV r')) ∧ Rel r' c' s ∧ Wd w r (wantsOf c.due) w' r' (wantsOf c'.due) ∧ Kp noB w w'

theorem simCmd (w : World) (base : Nat) (r : RC) (c : Ch) (s : Bool) (v : Int) (hr : Rel r c s) (k : c.Ok) (hv : By v) (hb : base ≤ w.heap.size) (hw : Wn w base r.wp r.wl r.wc (wantsOf c.due)) : Calls Try.prog 26 #[.agg (chV r), .int .u8 v] w (cmdPost w r c (c.cmd v) s) := by
  obtain ⟨t4, t3, t1, t0⟩ := bt_lit hv
  cases b4 : tb v 4
  · rw [b4] at t4
    cases b3 : tb v 3
    · rw [b3] at t3
      by_cases n1 : v / 32 = 1
      · have hX : c.cmd v = { c with srv := bits .and .u8 c.srv ((c.srv - 1) % 256) } := by simp [Ch.cmd, t4, t3, n1]
        refine (rcmd_l w r v hv b4 b3 n1).mono fun e w' ⟨⟨r', h1, h2⟩, h3⟩ => ⟨r', h1, ?_, ?_, h3⟩
        · rw [hX]
          rcases h2 with ⟨i, hi, e1, e2, rfl⟩ | ⟨e1, rfl⟩
          · refine ⟨hr.asks, fun j hj => ?_, hr.msk, hr.up, hr.base, hr.told, hr.ends⟩
            show upd r.srv i false j = _
            rw [low_bit k.srv hi ((hr.srv i hi).symm.trans e1) (fun j hj => (hr.srv j (by omega)).symm.trans (e2 j hj)) hj]
            unfold upd
            by_cases q : j = i
            · simp [q]
            · simp [q, hr.srv j hj]
          · refine ⟨hr.asks, fun j hj => ?_, hr.msk, hr.up, hr.base, hr.told, hr.ends⟩
            have z : c.srv = 0 := by_ext k.srv ⟨by decide, by decide⟩ fun i hi => by rw [← hr.srv i hi, e1 i hi, zero_tb]
            show r'.srv j = tb (bits .and .u8 c.srv ((c.srv - 1) % 256)) j
            rw [e1 j hj, z]
            have : bits .and .u8 (0 : Int) ((0 - 1) % 256) = 0 := by decide
            rw [this, zero_tb]
        · rw [hX]
          rcases h2 with ⟨i, hi, e1, e2, rfl⟩ | ⟨e1, rfl⟩ <;> exact .inl ⟨rfl, rfl, rfl, rfl⟩
      · by_cases n3 : v / 32 = 3
        · obtain ⟨N, hN⟩ := Int.eq_ofNat_of_zero_le (show 0 ≤ v % 8 by omega)
          have hN' : v % 8 = (N : Int) := hN
          have N8 : N < 8 := by omega
          have hX : c.cmd v = { c with srv := bits .andNot .u8 c.srv (pw (N : Int)) } := by rw [← hN']; simp [Ch.cmd, t4, t3, n3]
          refine (rcmd_d w r v hv b4 b3 n3 N hN').mono fun e w' ⟨h1, h3⟩ => ⟨_, h1, ?_, ?_, h3⟩
          · rw [hX]
            refine ⟨hr.asks, fun j hj => ?_, hr.msk, hr.up, hr.base, hr.told, hr.ends⟩
            show upd r.srv N false j = tb (bits .andNot .u8 c.srv (pw (N : Int))) j
            rw [tb8_andNot k.srv (by_pw (by omega) (by omega)), tb_pw]
            unfold upd
            by_cases q : j = N
            · simp [q]
            · simp [q, hr.srv j hj]
          · rw [hX]; exact .inl ⟨rfl, rfl, rfl, rfl⟩
        · have hX : c.cmd v = c := by simp [Ch.cmd, t4, t3, n1, n3]
          refine (rcmd_o w r v hv b4 b3 n1 n3).mono fun e w' ⟨h1, h3⟩ => ⟨_, h1, ?_, ?_, h3⟩
          · rw [hX]; exact hr
          · rw [hX]; exact .inl ⟨rfl, rfl, rfl, rfl⟩
    · rw [b3] at t3
      cases b1 : tb v 1
      · rw [b1] at t1
        have hX : c.cmd v = c := by simp [Ch.cmd, t4, t3, t1]
        refine (rcmd_n w r v hv b4 b3 b1).mono fun e w' ⟨h1, h3⟩ => ⟨_, h1, ?_, ?_, h3⟩
        · rw [hX]; exact hr
        · rw [hX]; exact .inl ⟨rfl, rfl, rfl, rfl⟩
      · rw [b1] at t1
        have hX : c.cmd v = { c with sh := tb v 0 } := by simp [Ch.cmd, t4, t3, t1, t0]
        refine (rcmd_t w r v hv b4 b3 b1).mono fun e w' ⟨h1, h3⟩ => ⟨_, h1, ?_, ?_, h3⟩
        · rw [hX]; exact ⟨hr.asks, hr.srv, hr.msk, hr.up, hr.base, rfl, hr.ends⟩
        · rw [hX]; exact .inl ⟨rfl, rfl, rfl, rfl⟩
  · rw [b4] at t4
    have hX : c.cmd v = { up := c.up, asks := 0, srv := 0, msk := 0, base := c.base, due := setUpD v, sh := false, ends := false } := by simp [Ch.cmd, t4]
    have go : ∀ (d : Int) (n : Nat) (l : List Int), setUpD v = d → wantsOf d = l → n = l.length → ∀ (e : Ending) (w' : World), (∃ f0 f1 f2 p c', e = .returned (.agg (chV ⟨f0, f1, f2, r.up, r.base, false, false, p, n, c'⟩)) ∧ (∀ k, k < 8 → f0 k = false ∧ f1 k = false ∧ f2 k = false) ∧ Wn w' w.heap.size p n c' l ∧ Kp noB w w') → cmdPost w r c (c.cmd v) s e w' := by
      rintro d n l hd hl hn e w' ⟨f0, f1, f2, p, c', h1, h2, h3, h4⟩
      refine ⟨_, h1, ?_, ?_, h4⟩
      · rw [hX]
        exact ⟨fun j hj _ => (h2 j hj).1.trans (zero_tb j).symm, fun j hj => (h2 j hj).2.1.trans (zero_tb j).symm, fun j hj => (h2 j hj).2.2.trans (zero_tb j).symm, hr.up, hr.base, rfl, rfl⟩
      · rw [hX]
        right
        show Wn w' w.heap.size p n c' (wantsOf (setUpD v))
        rw [hd, hl]
        exact h3
    cases b1 : tb v 1 <;> cases b0 : tb v 0
    · exact (rbeg_00 w r v hv b4 b1 b0).mono (go 3 2 [1, 2] (by unfold setUpD; rw [t1, t0, b1, b0]; rfl) (by decide) rfl)
    · exact (rbeg_01 w r v hv b4 b1 b0).mono (go 7 3 [1, 2, 3] (by unfold setUpD; rw [t1, t0, b1, b0]; rfl) (by decide) rfl)
    · exact (rbeg_10 w r v hv b4 b1 b0).mono (go 1 1 [1] (by unfold setUpD; rw [t1, t0, b1, b0]; rfl) (by decide) rfl)
    · exact (rbeg_11 w r v hv b4 b1 b0).mono (go 5 2 [1, 3] (by unfold setUpD; rw [t1, t0, b1, b0]; rfl) (by decide) rfl)

theorem wants_next : ∀ d : Fin 8, d.val ≠ 0 → (lowB (d.val : Int) = 1 ∧ wantsOf (d.val : Int) = 1 :: wantsOf (bits .and .u8 (d.val : Int) (((d.val : Int) - 1) % 256))) ∨ (lowB (d.val : Int) = 2 ∧ wantsOf (d.val : Int) = 2 :: wantsOf (bits .and .u8 (d.val : Int) (((d.val : Int) - 1) % 256))) ∨ (lowB (d.val : Int) = 4 ∧ wantsOf (d.val : Int) = 3 :: wantsOf (bits .and .u8 (d.val : Int) (((d.val : Int) - 1) % 256))) := by decide +kernel

theorem rdataX (x : Nat) (w : World) (r : RC) (v : Int) (hv : By v) (base : Nat) (l : List Int) (hl : l.length ≤ 10) (hb : base ≤ w.heap.size) (hx : x = 1 ∨ x = 2 ∨ x = 3) (h : Wn w base r.wp r.wl r.wc ((x : Int) :: l)) : Calls Try.prog 27 #[.agg (chV r), .int .u8 v] w fun e w' => ∃ p c, e = .returned (.agg (chV ⟨r.asks, r.srv, r.msk, r.up, if x = 1 then v - v % 8 else r.base, r.told, if x = 3 then tb v 1 else r.ends, p, l.length, c⟩)) ∧ Wn w' w.heap.size p l.length c l ∧ Kp noB w w' := by
  have hc : r.wc = 1 ∨ 1 < r.wc := by have := h.1; have := h.2.1; simp at *; omega
  rcases hx with rfl | rfl | rfl <;> rcases hc with hc | hc
  · exact rdata_1A w r v hv base l hl hb hc h
  · exact rdata_1B w r v hv base l hl hb hc h
  · exact rdata_2A w r v hv base l hl hb hc h
  · exact rdata_2B w r v hv base l hl hb hc h
  · exact rdata_3A w r v hv base l hl hb hc h
  · exact rdata_3B w r v hv base l hl hb hc h

theorem simDat (w : World) (base : Nat) (r : RC) (c : Ch) (s : Bool) (v : Int) (hr : Rel r c s) (k : c.Ok) (hv : By v) (hb : base ≤ w.heap.size) (hw : Wn w base r.wp r.wl r.wc (wantsOf c.due)) : Calls Try.prog 27 #[.agg (chV r), .int .u8 v] w (cmdPost w r c (c.dat v) s) := by
  obtain ⟨t4, t3, t1, t0⟩ := bt_lit hv
  by_cases h0 : c.due = 0
  · have hl : r.wl = 0 := by rw [hw.1, h0]; rfl
    refine (rdata0 w r v hv hl).mono fun e w' ⟨h1, h3⟩ => ⟨_, h1, ?_, ?_, h3⟩
    · rw [dat0 v h0]
      exact ⟨hr.asks, hr.srv, fun j hj => by show (if j < 8 then tb v j else r.msk j) = tb v j; rw [if_pos hj], hr.up, hr.base, hr.told, hr.ends⟩
    · rw [dat0 v h0]; exact .inl ⟨rfl, rfl, rfl, rfl⟩
  · have kd := k.due
    have wn := wants_next ⟨c.due.toNat, by omega⟩ (by simp only; omega)
    simp only [Int.toNat_of_nonneg kd.1] at wn
    have ln : (wantsOf (bits .and .u8 c.due ((c.due - 1) % 256))).length ≤ 10 := by have := wants_len (bits .and .u8 c.due ((c.due - 1) % 256)); omega
    have hd : (c.dat v).due = bits .and .u8 c.due ((c.due - 1) % 256) := rfl
    rcases wn with ⟨e1, e2⟩ | ⟨e1, e2⟩ | ⟨e1, e2⟩
    · rw [e2] at hw
      refine (rdataX 1 w r v hv base _ ln hb (.inl rfl) hw).mono fun e w' ⟨p, c', h1, h2, h3⟩ => ⟨_, h1, ?_, ?_, h3⟩
      · have hX : c.dat1 v = { c with base := v - v % 8 } := by unfold Ch.dat1; rw [if_neg (by omega), if_pos e1]
        unfold Ch.dat
        rw [hX]
        exact ⟨hr.asks, hr.srv, hr.msk, hr.up, rfl, hr.told, hr.ends⟩
      · rw [hd]; exact .inr h2
    · rw [e2] at hw
      refine (rdataX 2 w r v hv base _ ln hb (.inr (.inl rfl)) hw).mono fun e w' ⟨p, c', h1, h2, h3⟩ => ⟨_, h1, ?_, ?_, h3⟩
      · have hX : c.dat1 v = c := by unfold Ch.dat1; rw [if_neg (by omega), if_neg (by omega), if_neg (by omega)]
        unfold Ch.dat
        rw [hX]
        exact ⟨hr.asks, hr.srv, hr.msk, hr.up, hr.base, hr.told, hr.ends⟩
      · rw [hd]; exact .inr h2
    · rw [e2] at hw
      refine (rdataX 3 w r v hv base _ ln hb (.inr (.inr rfl)) hw).mono fun e w' ⟨p, c', h1, h2, h3⟩ => ⟨_, h1, ?_, ?_, h3⟩
      · have hX : c.dat1 v = { c with ends := bt v 2 } := by unfold Ch.dat1; rw [if_neg (by omega), if_neg (by omega), if_pos e1]
        unfold Ch.dat
        rw [hX]
        exact ⟨hr.asks, hr.srv, hr.msk, hr.up, hr.base, hr.told, t1.symm⟩
      · rw [hd]; exact .inr h2
end Go.Proofs.Ytfpgijdfbgfkcaa
