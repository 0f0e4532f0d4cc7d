/- The bus and its devices: RcSim, RcOut, RcIn, RcAll, RcS. -/
import Derived.Test.YtonfjhbfkichkaaGreatBz24
namespace Go.Proofs.YtonfjhbfkichkaaGreat.Pc
open Go.ChangeShapes Go.WideShapes Go.ChangeAt Go.RowKit
set_option linter.unusedVariables false
set_option maxRecDepth 20000
def wantsOf (d : Int) : List Int := if d = 1 then [1] else if d = 2 then [2] else if d = 3 then [1, 2] else if d = 4 then [3] else if d = 5 then [1, 3] else if d = 6 then [2, 3] else if d = 7 then [1, 2, 3] else []
theorem wants_len (d : Int) : (wantsOf d).length ≤ 3 := by
 unfold wantsOf
 repeat (split; · decide)
 decide
theorem bt_lit {v : Int} (hv : By v) : bt v 16 = tb v 4 ∧ bt v 8 = tb v 3 ∧ bt v 2 = tb v 1 ∧ bt v 1 = tb v 0 :=
 ⟨bt_pw hv (n := 4) (by decide), bt_pw hv (n := 3) (by decide), bt_pw hv (n := 1) (by decide), bt_pw hv (n := 0) (by decide)⟩
theorem low_clear : ∀ n : Fin 256, ∀ j : Fin 8, tb (bits .and .u8 (n.val : Int) (((n.val : Int) - 1) % 256)) j.val = (tb (n.val : Int) j.val && !decide (j.val = Lib.trailingZeros8 n.val)) := by decide +kernel
theorem low_bit {x : Int} (h : By x) {i : Nat} (hi : i < 8) (e : tb x i = true) (f : ∀ j, j < i → tb x j = false) {j : Nat} (hj : j < 8) : tb (bits .and .u8 x ((x - 1) % 256)) j = (tb x j && !decide (j = i)) := by
 have a := low_clear ⟨x.toNat, by have := h.1; have := h.2; omega⟩ ⟨j, hj⟩
 simp only [Int.toNat_of_nonneg h.1] at a
 have t := tz_is h hi e f
 unfold tz at t
 have t' : Lib.trailingZeros8 x.toNat = i := by omega
 rw [t'] at a
 exact a
def Wd (w : World) (r : RC) (l : List Int) (w' : World) (r' : RC) (l' : List Int) : Prop := (r'.wp = r.wp ∧ r'.wl = r.wl ∧ r'.wc = r.wc ∧ l' = l) ∨ Wn w' w.heap.size r'.wp r'.wl r'.wc l'
def cmdPost (w : World) (r : RC) (c c' : Ch) (s : Bool) (e : Ending) (w' : World) : Prop := ∃ r' : RC, e = .returned (.agg (chV r')) ∧ Rel r' c' s ∧ Wd w r (wantsOf c.due) w' r' (wantsOf c'.due) ∧ Kp noB w w'
theorem simCmd (w : World) (base : Nat) (r : RC) (c : Ch) (s : Bool) (v : Int) (hr : Rel r c s) (k : c.Ok) (hv : By v) (hb : base ≤ w.heap.size) (hw : Wn w base r.wp r.wl r.wc (wantsOf c.due)) : Calls Tryz.prog 158 #[.agg (chV r), .int .u8 v] w (cmdPost w r c (c.cmd v) s) := by
 obtain ⟨t4, t3, t1, t0⟩ := bt_lit hv
 cases b4 : tb v 4
 ·rw [b4] at t4
  cases b3 : tb v 3
  ·rw [b3] at t3
   by_cases n1 : v / 32 = 1
   ·have hX : c.cmd v = { c with srv := bits .and .u8 c.srv ((c.srv - 1) % 256) } := by simp [Ch.cmd, t4, t3, n1]
    refine (rcmd_l w r v hv b4 b3 n1).mono fun e w' ⟨⟨r', h1, h2⟩, h3⟩ => ⟨r', h1, ?_, ?_, h3⟩
    ·rw [hX]
     rcases h2 with ⟨i, hi, e1, e2, rfl⟩ | ⟨e1, rfl⟩
     ·refine ⟨hr.asks, fun j hj => ?_, hr.msk, hr.up, hr.base, hr.told, hr.ends⟩
      show upd r.srv i false j = _
      rw [low_bit k.srv hi ((hr.srv i hi).symm.trans e1) (fun j hj => (hr.srv j (by omega)).symm.trans (e2 j hj)) hj]
      unfold upd
      by_cases q : j = i
      ·simp [q]
      ·simp [q, hr.srv j hj]
     ·refine ⟨hr.asks, fun j hj => ?_, hr.msk, hr.up, hr.base, hr.told, hr.ends⟩
      have z : c.srv = 0 := by_ext k.srv ⟨by decide, by decide⟩ fun i hi => by rw [← hr.srv i hi, e1 i hi, zero_tb]
      show r'.srv j = tb (bits .and .u8 c.srv ((c.srv - 1) % 256)) j
      rw [e1 j hj, z]
      have : bits .and .u8 (0 : Int) ((0 - 1) % 256) = 0 := by decide
      rw [this, zero_tb]
    ·rw [hX]
     rcases h2 with ⟨i, hi, e1, e2, rfl⟩ | ⟨e1, rfl⟩ <;> exact .inl ⟨rfl, rfl, rfl, rfl⟩
   ·by_cases n3 : v / 32 = 3
    ·obtain ⟨N, hN⟩ := Int.eq_ofNat_of_zero_le (show 0 ≤ v % 8 by omega)
     have hN' : v % 8 = (N : Int) := hN
     have N8 : N < 8 := by omega
     have hX : c.cmd v = { c with srv := bits .andNot .u8 c.srv (pw (N : Int)) } := by rw [← hN']; simp [Ch.cmd, t4, t3, n3]
     refine (rcmd_d w r v hv b4 b3 n3 N hN').mono fun e w' ⟨h1, h3⟩ => ⟨_, h1, ?_, ?_, h3⟩
     ·rw [hX]
      refine ⟨hr.asks, fun j hj => ?_, hr.msk, hr.up, hr.base, hr.told, hr.ends⟩
      show upd r.srv N false j = tb (bits .andNot .u8 c.srv (pw (N : Int))) j
      rw [tb8_andNot k.srv (by_pw (by omega) (by omega)), tb_pw]
      unfold upd
      by_cases q : j = N
      ·simp [q]
      ·simp [q, hr.srv j hj]
     ·rw [hX]; exact .inl ⟨rfl, rfl, rfl, rfl⟩
    ·have hX : c.cmd v = c := by simp [Ch.cmd, t4, t3, n1, n3]
     refine (rcmd_o w r v hv b4 b3 n1 n3).mono fun e w' ⟨h1, h3⟩ => ⟨_, h1, ?_, ?_, h3⟩
     ·rw [hX]; exact hr
     ·rw [hX]; exact .inl ⟨rfl, rfl, rfl, rfl⟩
  ·rw [b3] at t3
   cases b1 : tb v 1
   ·rw [b1] at t1
    have hX : c.cmd v = c := by simp [Ch.cmd, t4, t3, t1]
    refine (rcmd_n w r v hv b4 b3 b1).mono fun e w' ⟨h1, h3⟩ => ⟨_, h1, ?_, ?_, h3⟩
    ·rw [hX]; exact hr
    ·rw [hX]; exact .inl ⟨rfl, rfl, rfl, rfl⟩
   ·rw [b1] at t1
    have hX : c.cmd v = { c with sh := tb v 0 } := by simp [Ch.cmd, t4, t3, t1, t0]
    refine (rcmd_t w r v hv b4 b3 b1).mono fun e w' ⟨h1, h3⟩ => ⟨_, h1, ?_, ?_, h3⟩
    ·rw [hX]; exact ⟨hr.asks, hr.srv, hr.msk, hr.up, hr.base, rfl, hr.ends⟩
    ·rw [hX]; exact .inl ⟨rfl, rfl, rfl, rfl⟩
 ·rw [b4] at t4
  have hX : c.cmd v = { up := c.up, asks := 0, srv := 0, msk := 0, base := c.base, due := setUpD v, sh := false, ends := false } := by simp [Ch.cmd, t4]
  have go : ∀ (d : Int) (n : Nat) (l : List Int), setUpD v = d → wantsOf d = l → n = l.length → ∀ (e : Ending) (w' : World), (∃ f0 f1 f2 p c', e = .returned (.agg (chV ⟨f0, f1, f2, r.up, r.base, false, false, p, n, c'⟩)) ∧ (∀ k, k < 8 → f0 k = false ∧ f1 k = false ∧ f2 k = false) ∧ Wn w' w.heap.size p n c' l ∧ Kp noB w w') → cmdPost w r c (c.cmd v) s e w' := by
   rintro d n l hd hl hn e w' ⟨f0, f1, f2, p, c', h1, h2, h3, h4⟩
   refine ⟨_, h1, ?_, ?_, h4⟩
   ·rw [hX]
    exact ⟨fun j hj _ => (h2 j hj).1.trans (zero_tb j).symm, fun j hj => (h2 j hj).2.1.trans (zero_tb j).symm, fun j hj => (h2 j hj).2.2.trans (zero_tb j).symm, hr.up, hr.base, rfl, rfl⟩
   ·rw [hX]
    right
    show Wn w' w.heap.size p n c' (wantsOf (setUpD v))
    rw [hd, hl]
    exact h3
  cases b1 : tb v 1 <;> cases b0 : tb v 0
  ·exact (rbeg_00 w r v hv b4 b1 b0).mono (go 3 2 [1, 2] (by unfold setUpD; rw [t1, t0, b1, b0]; rfl) (by decide) rfl)
  ·exact (rbeg_01 w r v hv b4 b1 b0).mono (go 7 3 [1, 2, 3] (by unfold setUpD; rw [t1, t0, b1, b0]; rfl) (by decide) rfl)
  ·exact (rbeg_10 w r v hv b4 b1 b0).mono (go 1 1 [1] (by unfold setUpD; rw [t1, t0, b1, b0]; rfl) (by decide) rfl)
  ·exact (rbeg_11 w r v hv b4 b1 b0).mono (go 5 2 [1, 3] (by unfold setUpD; rw [t1, t0, b1, b0]; rfl) (by decide) rfl)
theorem wants_next : ∀ d : Fin 8, d.val ≠ 0 → (lowB (d.val : Int) = 1 ∧ wantsOf (d.val : Int) = 1 :: wantsOf (bits .and .u8 (d.val : Int) (((d.val : Int) - 1) % 256))) ∨ (lowB (d.val : Int) = 2 ∧ wantsOf (d.val : Int) = 2 :: wantsOf (bits .and .u8 (d.val : Int) (((d.val : Int) - 1) % 256))) ∨ (lowB (d.val : Int) = 4 ∧ wantsOf (d.val : Int) = 3 :: wantsOf (bits .and .u8 (d.val : Int) (((d.val : Int) - 1) % 256))) := by decide +kernel
theorem rdataX (x : Nat) (w : World) (r : RC) (v : Int) (hv : By v) (base : Nat) (l : List Int) (hl : l.length ≤ 10) (hb : base ≤ w.heap.size) (hx : x = 1 ∨ x = 2 ∨ x = 3) (h : Wn w base r.wp r.wl r.wc ((x : Int) :: l)) : Calls Tryz.prog 159 #[.agg (chV r), .int .u8 v] w fun e w' => ∃ p c, e = .returned (.agg (chV ⟨r.asks, r.srv, r.msk, r.up, if x = 1 then v - v % 8 else r.base, r.told, if x = 3 then tb v 1 else r.ends, p, l.length, c⟩)) ∧ Wn w' w.heap.size p l.length c l ∧ Kp noB w w' := by
 have hc : r.wc = 1 ∨ 1 < r.wc := by have := h.1; have := h.2.1; simp at *; omega
 rcases hx with rfl | rfl | rfl <;> rcases hc with hc | hc
 ·exact rdata_1A w r v hv base l hl hb hc h
 ·exact rdata_1B w r v hv base l hl hb hc h
 ·exact rdata_2A w r v hv base l hl hb hc h
 ·exact rdata_2B w r v hv base l hl hb hc h
 ·exact rdata_3A w r v hv base l hl hb hc h
 ·exact rdata_3B w r v hv base l hl hb hc h
theorem simDat (w : World) (base : Nat) (r : RC) (c : Ch) (s : Bool) (v : Int) (hr : Rel r c s) (k : c.Ok) (hv : By v) (hb : base ≤ w.heap.size) (hw : Wn w base r.wp r.wl r.wc (wantsOf c.due)) : Calls Tryz.prog 159 #[.agg (chV r), .int .u8 v] w (cmdPost w r c (c.dat v) s) := by
 obtain ⟨t4, t3, t1, t0⟩ := bt_lit hv
 by_cases h0 : c.due = 0
 ·have hl : r.wl = 0 := by rw [hw.1, h0]; rfl
  refine (rdata0 w r v hv hl).mono fun e w' ⟨h1, h3⟩ => ⟨_, h1, ?_, ?_, h3⟩
  ·rw [dat0 v h0]
   exact ⟨hr.asks, hr.srv, fun j hj => by show (if j < 8 then tb v j else r.msk j) = tb v j; rw [if_pos hj], hr.up, hr.base, hr.told, hr.ends⟩
  ·rw [dat0 v h0]; exact .inl ⟨rfl, rfl, rfl, rfl⟩
 ·have kd := k.due
  have wn := wants_next ⟨c.due.toNat, by omega⟩ (by simp only; omega)
  simp only [Int.toNat_of_nonneg kd.1] at wn
  have ln : (wantsOf (bits .and .u8 c.due ((c.due - 1) % 256))).length ≤ 10 := by have := wants_len (bits .and .u8 c.due ((c.due - 1) % 256)); omega
  have hd : (c.dat v).due = bits .and .u8 c.due ((c.due - 1) % 256) := rfl
  rcases wn with ⟨e1, e2⟩ | ⟨e1, e2⟩ | ⟨e1, e2⟩
  ·rw [e2] at hw
   refine (rdataX 1 w r v hv base _ ln hb (.inl rfl) hw).mono fun e w' ⟨p, c', h1, h2, h3⟩ => ⟨_, h1, ?_, ?_, h3⟩
   ·have hX : c.dat1 v = { c with base := v - v % 8 } := by unfold Ch.dat1; rw [if_neg (by omega), if_pos e1]
    unfold Ch.dat
    rw [hX]
    exact ⟨hr.asks, hr.srv, hr.msk, hr.up, rfl, hr.told, hr.ends⟩
   ·rw [hd]; exact .inr h2
  ·rw [e2] at hw
   refine (rdataX 2 w r v hv base _ ln hb (.inr (.inl rfl)) hw).mono fun e w' ⟨p, c', h1, h2, h3⟩ => ⟨_, h1, ?_, ?_, h3⟩
   ·have hX : c.dat1 v = c := by unfold Ch.dat1; rw [if_neg (by omega), if_neg (by omega), if_neg (by omega)]
    unfold Ch.dat
    rw [hX]
    exact ⟨hr.asks, hr.srv, hr.msk, hr.up, hr.base, hr.told, hr.ends⟩
   ·rw [hd]; exact .inr h2
  ·rw [e2] at hw
   refine (rdataX 3 w r v hv base _ ln hb (.inr (.inr rfl)) hw).mono fun e w' ⟨p, c', h1, h2, h3⟩ => ⟨_, h1, ?_, ?_, h3⟩
   ·have hX : c.dat1 v = { c with ends := bt v 2 } := by unfold Ch.dat1; rw [if_neg (by omega), if_neg (by omega), if_pos e1]
    unfold Ch.dat
    rw [hX]
    exact ⟨hr.asks, hr.srv, hr.msk, hr.up, hr.base, hr.told, t1.symm⟩
   ·rw [hd]; exact .inr h2
theorem Wn.kept2 {S : Nat → Prop} {w w' : World} {base : Nat} {p : Option Addr} {n c : Nat} {l : List Int} (h : Wn w base p n c l) (k : Kp S w w') (hS : ∀ g, base ≤ g → g < w.heap.size → ¬ S g) : Wn w' base p n c l :=
 ⟨h.1, h.2.1, fun j hj => by
  obtain ⟨g, e, hb, hl, hc⟩ := h.2.2 j hj
  exact ⟨g, e, hb, Nat.lt_of_lt_of_le hl k.size, cell_kept hc k (hS g hb hl)⟩⟩
set_option maxRecDepth 20000 in
set_option maxHeartbeats 1000000 in
theorem rout_0 (w : World) (R : Nat) (a b : RC) (h : RAt w R a b) (v : Int) (P : RC → World → Prop)
  (HC : ∀ w1, Kp noB w w1 → w1.heap.size = w.heap.size + 1 → Calls Tryz.prog 158 #[.agg (chV a), .int .u8 v] w1 fun e w2 => ∃ r', e = .returned (.agg (chV r')) ∧ P r' w2 ∧ Kp noB w1 w2) : Calls Tryz.prog 126 #[.pointer (some ⟨R, 0, none⟩), .int .i64 0, .int .u8 v] w fun e w' => e = .returned (.int .i64 0) ∧ (∃ r' w2, P r' w2 ∧ RAt w' R r' b ∧ Kp (fun k => k = R ∨ k = w.heap.size) w2 w') ∧ Kp (isB R) w w' := by
 obtain ⟨T, nI, Z, fs, ps, V⟩ := vlC
 obtain ⟨vl, vs, va, vb⟩ := V.ops
 have v1 := V.agg
 have v2 := V.size
 have v3 := V.zero
 have v4 := V.under
 have v5 := V.map
 have v6 := V.zs
 have vG := V.getNew
 have vN := V.new
 have L := V.getA h
 have lR := h.lt
 have HR : Hid (RAt w R a b) := h
 have cs : ∀ r : RC, (chV r).size = nI := fun r => by rw [V.s]; rfl
 have HV : Hid (VlC T nI Z fs ps) := V
 have HCC : Hid _ := HC
 clear h V HC
 go_enter Tryz.func126, Tryz.ntmps126
 simp only [vl, vs, va]
 clear vl vs va vb
 go_wp2_with fail
 have h1 : Hid (RAt (w.alloc (.cells (chV a) T)) R a b) := HR.out.kept (Kp.alloc noB _ _) id
 have h2 : Hid (CAt (w.alloc (.cells (chV a) T)) w.heap.size a) := HV.out.at _ w
 have k1 : Hid (Kp noB w (w.alloc (.cells (chV a) T))) := Kp.alloc _ _ _
 have sz0 : (w.alloc (.cells (chV a) T)).heap.size = w.heap.size + 1 := by simp
 have sz : Hid ((w.alloc (.cells (chV a) T)).heap.size = w.heap.size + 1) := sz0
 clear sz0
 clear vG vN L
 generalize w.alloc (.cells (chV a) T) = w1 at h1 h2 k1 sz ⊢
 refine Calls.mono (HCC.out w1 k1.out sz.out) ?_; rintro e w2 ⟨r', rfl, hP, k2⟩
 have h3 := h1.out.kept k2 id
 have h4 := h2.out.kept k2 id
 have S0 := put_ch h4 rfl r'
 have h5 : Hid (RAt (w2.setRow w.heap.size (chV r')) R a b) := h3.kept (Kp.setRow (S := isB w.heap.size) w2 rfl _) (by show ¬ R = w.heap.size; omega)
 have h6 : Hid (CAt (w2.setRow w.heap.size (chV r')) w.heap.size r') := h4.put r'
 have k5 : Hid (Kp (isB R) w (w2.setRow w.heap.size (chV r'))) := ((k1.out.trans k2).any (S := isB R)).newRow (Nat.le_refl _) _
 have k6 : Hid (Kp (fun k => k = R ∨ k = w.heap.size) w2 (w2.setRow w.heap.size (chV r'))) := Kp.setRow w2 (Or.inr rfl) _
 have HP : Hid _ := hP
 clear h3 h4 k2 hP h1 h2 k1 HCC HR
 go_wp2
 generalize w2.setRow w.heap.size (chV r') = w3 at h5 h6 k5 k6 ⊢
 clear S0
 have L1 := HV.out.get h6.out
 have L2 := HV.out.get (h6.out.kept (Kp.refl noB w3).drew id)
 have S1 := put_A h5.out r'
 have S2 := put_A (h5.out.kept (Kp.refl noB w3).drew id) r'
 have E2 : Hid (RAt (w3.drew.setRow R (chV r' ++ chV b)) R r' b) := (h5.out.kept (Kp.refl noB w3).drew id).putA _
 go_region
 all_goals
  go_wp2
  go_ret
  exact ⟨rfl, ⟨r', w2, HP.out, E2.out, k6.out.drew.trans (Kp.setRow _ (Or.inl rfl) _)⟩, k5.out.drew.trans (Kp.setRow (S := isB R) _ rfl _)⟩
set_option maxRecDepth 20000 in
set_option maxHeartbeats 1000000 in
theorem rout_1 (w : World) (R : Nat) (a b : RC) (h : RAt w R a b) (v : Int) (P : RC → World → Prop)
  (HC : ∀ w1, Kp noB w w1 → w1.heap.size = w.heap.size + 1 → Calls Tryz.prog 159 #[.agg (chV a), .int .u8 v] w1 fun e w2 => ∃ r', e = .returned (.agg (chV r')) ∧ P r' w2 ∧ Kp noB w1 w2) : Calls Tryz.prog 126 #[.pointer (some ⟨R, 0, none⟩), .int .i64 1, .int .u8 v] w fun e w' => e = .returned (.int .i64 0) ∧ (∃ r' w2, P r' w2 ∧ RAt w' R r' b ∧ Kp (fun k => k = R ∨ k = w.heap.size) w2 w') ∧ Kp (isB R) w w' := by
 obtain ⟨T, nI, Z, fs, ps, V⟩ := vlC
 obtain ⟨vl, vs, va, vb⟩ := V.ops
 have v1 := V.agg
 have v2 := V.size
 have v3 := V.zero
 have v4 := V.under
 have v5 := V.map
 have v6 := V.zs
 have vG := V.getNew
 have vN := V.new
 have L := V.getA h
 have lR := h.lt
 have HR : Hid (RAt w R a b) := h
 have cs : ∀ r : RC, (chV r).size = nI := fun r => by rw [V.s]; rfl
 have HV : Hid (VlC T nI Z fs ps) := V
 have HCC : Hid _ := HC
 clear h V HC
 go_enter Tryz.func126, Tryz.ntmps126
 simp only [vl, vs, va]
 clear vl vs va vb
 go_wp2_with fail
 have h1 : Hid (RAt (w.alloc (.cells (chV a) T)) R a b) := HR.out.kept (Kp.alloc noB _ _) id
 have h2 : Hid (CAt (w.alloc (.cells (chV a) T)) w.heap.size a) := HV.out.at _ w
 have k1 : Hid (Kp noB w (w.alloc (.cells (chV a) T))) := Kp.alloc _ _ _
 have sz0 : (w.alloc (.cells (chV a) T)).heap.size = w.heap.size + 1 := by simp
 have sz : Hid ((w.alloc (.cells (chV a) T)).heap.size = w.heap.size + 1) := sz0
 clear sz0
 clear vG vN L
 generalize w.alloc (.cells (chV a) T) = w1 at h1 h2 k1 sz ⊢
 refine Calls.mono (HCC.out w1 k1.out sz.out) ?_; rintro e w2 ⟨r', rfl, hP, k2⟩
 have h3 := h1.out.kept k2 id
 have h4 := h2.out.kept k2 id
 have S0 := put_ch h4 rfl r'
 have h5 : Hid (RAt (w2.setRow w.heap.size (chV r')) R a b) := h3.kept (Kp.setRow (S := isB w.heap.size) w2 rfl _) (by show ¬ R = w.heap.size; omega)
 have h6 : Hid (CAt (w2.setRow w.heap.size (chV r')) w.heap.size r') := h4.put r'
 have k5 : Hid (Kp (isB R) w (w2.setRow w.heap.size (chV r'))) := ((k1.out.trans k2).any (S := isB R)).newRow (Nat.le_refl _) _
 have k6 : Hid (Kp (fun k => k = R ∨ k = w.heap.size) w2 (w2.setRow w.heap.size (chV r'))) := Kp.setRow w2 (Or.inr rfl) _
 have HP : Hid _ := hP
 clear h3 h4 k2 hP h1 h2 k1 HCC HR
 go_wp2
 generalize w2.setRow w.heap.size (chV r') = w3 at h5 h6 k5 k6 ⊢
 clear S0
 have L1 := HV.out.get h6.out
 have L2 := HV.out.get (h6.out.kept (Kp.refl noB w3).drew id)
 have S1 := put_A h5.out r'
 have S2 := put_A (h5.out.kept (Kp.refl noB w3).drew id) r'
 have E2 : Hid (RAt (w3.drew.setRow R (chV r' ++ chV b)) R r' b) := (h5.out.kept (Kp.refl noB w3).drew id).putA _
 go_region
 all_goals
  go_wp2
  go_ret
  exact ⟨rfl, ⟨r', w2, HP.out, E2.out, k6.out.drew.trans (Kp.setRow _ (Or.inl rfl) _)⟩, k5.out.drew.trans (Kp.setRow (S := isB R) _ rfl _)⟩
set_option maxRecDepth 20000 in
set_option maxHeartbeats 1000000 in
theorem rout_2 (w : World) (R : Nat) (a b : RC) (h : RAt w R a b) (v : Int) (P : RC → World → Prop)
  (HC : ∀ w1, Kp noB w w1 → w1.heap.size = w.heap.size + 1 → Calls Tryz.prog 158 #[.agg (chV b), .int .u8 v] w1 fun e w2 => ∃ r', e = .returned (.agg (chV r')) ∧ P r' w2 ∧ Kp noB w1 w2) : Calls Tryz.prog 126 #[.pointer (some ⟨R, 0, none⟩), .int .i64 2, .int .u8 v] w fun e w' => e = .returned (.int .i64 0) ∧ (∃ r' w2, P r' w2 ∧ RAt w' R a r' ∧ Kp (fun k => k = R ∨ k = w.heap.size) w2 w') ∧ Kp (isB R) w w' := by
 obtain ⟨T, nI, Z, fs, ps, V⟩ := vlC
 obtain ⟨vl, vs, va, vb⟩ := V.ops
 have v1 := V.agg
 have v2 := V.size
 have v3 := V.zero
 have v4 := V.under
 have v5 := V.map
 have v6 := V.zs
 have vG := V.getNew
 have vN := V.new
 have L := V.getB h
 have lR := h.lt
 have HR : Hid (RAt w R a b) := h
 have cs : ∀ r : RC, (chV r).size = nI := fun r => by rw [V.s]; rfl
 have HV : Hid (VlC T nI Z fs ps) := V
 have HCC : Hid _ := HC
 clear h V HC
 go_enter Tryz.func126, Tryz.ntmps126
 simp only [vl, vs, va]
 clear vl vs va vb
 go_wp2_with fail
 have h1 : Hid (RAt (w.alloc (.cells (chV b) T)) R a b) := HR.out.kept (Kp.alloc noB _ _) id
 have h2 : Hid (CAt (w.alloc (.cells (chV b) T)) w.heap.size b) := HV.out.at _ w
 have k1 : Hid (Kp noB w (w.alloc (.cells (chV b) T))) := Kp.alloc _ _ _
 have sz0 : (w.alloc (.cells (chV b) T)).heap.size = w.heap.size + 1 := by simp
 have sz : Hid ((w.alloc (.cells (chV b) T)).heap.size = w.heap.size + 1) := sz0
 clear sz0
 clear vG vN L
 generalize w.alloc (.cells (chV b) T) = w1 at h1 h2 k1 sz ⊢
 refine Calls.mono (HCC.out w1 k1.out sz.out) ?_; rintro e w2 ⟨r', rfl, hP, k2⟩
 have h3 := h1.out.kept k2 id
 have h4 := h2.out.kept k2 id
 have S0 := put_ch h4 rfl r'
 have h5 : Hid (RAt (w2.setRow w.heap.size (chV r')) R a b) := h3.kept (Kp.setRow (S := isB w.heap.size) w2 rfl _) (by show ¬ R = w.heap.size; omega)
 have h6 : Hid (CAt (w2.setRow w.heap.size (chV r')) w.heap.size r') := h4.put r'
 have k5 : Hid (Kp (isB R) w (w2.setRow w.heap.size (chV r'))) := ((k1.out.trans k2).any (S := isB R)).newRow (Nat.le_refl _) _
 have k6 : Hid (Kp (fun k => k = R ∨ k = w.heap.size) w2 (w2.setRow w.heap.size (chV r'))) := Kp.setRow w2 (Or.inr rfl) _
 have HP : Hid _ := hP
 clear h3 h4 k2 hP h1 h2 k1 HCC HR
 go_wp2
 generalize w2.setRow w.heap.size (chV r') = w3 at h5 h6 k5 k6 ⊢
 clear S0
 have L1 := HV.out.get h6.out
 have L2 := HV.out.get (h6.out.kept (Kp.refl noB w3).drew id)
 have S1 := put_B h5.out r'
 have S2 := put_B (h5.out.kept (Kp.refl noB w3).drew id) r'
 have E2 : Hid (RAt (w3.drew.setRow R (chV a ++ chV r')) R a r') := (h5.out.kept (Kp.refl noB w3).drew id).putB _
 go_region
 all_goals
  go_wp2
  go_ret
  exact ⟨rfl, ⟨r', w2, HP.out, E2.out, k6.out.drew.trans (Kp.setRow _ (Or.inl rfl) _)⟩, k5.out.drew.trans (Kp.setRow (S := isB R) _ rfl _)⟩
set_option maxRecDepth 20000 in
set_option maxHeartbeats 1000000 in
theorem rout_3 (w : World) (R : Nat) (a b : RC) (h : RAt w R a b) (v : Int) (P : RC → World → Prop)
  (HC : ∀ w1, Kp noB w w1 → w1.heap.size = w.heap.size + 1 → Calls Tryz.prog 159 #[.agg (chV b), .int .u8 v] w1 fun e w2 => ∃ r', e = .returned (.agg (chV r')) ∧ P r' w2 ∧ Kp noB w1 w2) : Calls Tryz.prog 126 #[.pointer (some ⟨R, 0, none⟩), .int .i64 3, .int .u8 v] w fun e w' => e = .returned (.int .i64 0) ∧ (∃ r' w2, P r' w2 ∧ RAt w' R a r' ∧ Kp (fun k => k = R ∨ k = w.heap.size) w2 w') ∧ Kp (isB R) w w' := by
 obtain ⟨T, nI, Z, fs, ps, V⟩ := vlC
 obtain ⟨vl, vs, va, vb⟩ := V.ops
 have v1 := V.agg
 have v2 := V.size
 have v3 := V.zero
 have v4 := V.under
 have v5 := V.map
 have v6 := V.zs
 have vG := V.getNew
 have vN := V.new
 have L := V.getB h
 have lR := h.lt
 have HR : Hid (RAt w R a b) := h
 have cs : ∀ r : RC, (chV r).size = nI := fun r => by rw [V.s]; rfl
 have HV : Hid (VlC T nI Z fs ps) := V
 have HCC : Hid _ := HC
 clear h V HC
 go_enter Tryz.func126, Tryz.ntmps126
 simp only [vl, vs, va]
 clear vl vs va vb
 go_wp2_with fail
 have h1 : Hid (RAt (w.alloc (.cells (chV b) T)) R a b) := HR.out.kept (Kp.alloc noB _ _) id
 have h2 : Hid (CAt (w.alloc (.cells (chV b) T)) w.heap.size b) := HV.out.at _ w
 have k1 : Hid (Kp noB w (w.alloc (.cells (chV b) T))) := Kp.alloc _ _ _
 have sz0 : (w.alloc (.cells (chV b) T)).heap.size = w.heap.size + 1 := by simp
 have sz : Hid ((w.alloc (.cells (chV b) T)).heap.size = w.heap.size + 1) := sz0
 clear sz0
 clear vG vN L
 generalize w.alloc (.cells (chV b) T) = w1 at h1 h2 k1 sz ⊢
 refine Calls.mono (HCC.out w1 k1.out sz.out) ?_; rintro e w2 ⟨r', rfl, hP, k2⟩
 have h3 := h1.out.kept k2 id
 have h4 := h2.out.kept k2 id
 have S0 := put_ch h4 rfl r'
 have h5 : Hid (RAt (w2.setRow w.heap.size (chV r')) R a b) := h3.kept (Kp.setRow (S := isB w.heap.size) w2 rfl _) (by show ¬ R = w.heap.size; omega)
 have h6 : Hid (CAt (w2.setRow w.heap.size (chV r')) w.heap.size r') := h4.put r'
 have k5 : Hid (Kp (isB R) w (w2.setRow w.heap.size (chV r'))) := ((k1.out.trans k2).any (S := isB R)).newRow (Nat.le_refl _) _
 have k6 : Hid (Kp (fun k => k = R ∨ k = w.heap.size) w2 (w2.setRow w.heap.size (chV r'))) := Kp.setRow w2 (Or.inr rfl) _
 have HP : Hid _ := hP
 clear h3 h4 k2 hP h1 h2 k1 HCC HR
 go_wp2
 generalize w2.setRow w.heap.size (chV r') = w3 at h5 h6 k5 k6 ⊢
 clear S0
 have L1 := HV.out.get h6.out
 have L2 := HV.out.get (h6.out.kept (Kp.refl noB w3).drew id)
 have S1 := put_B h5.out r'
 have S2 := put_B (h5.out.kept (Kp.refl noB w3).drew id) r'
 have E2 : Hid (RAt (w3.drew.setRow R (chV a ++ chV r')) R a r') := (h5.out.kept (Kp.refl noB w3).drew id).putB _
 go_region
 all_goals
  go_wp2
  go_ret
  exact ⟨rfl, ⟨r', w2, HP.out, E2.out, k6.out.drew.trans (Kp.setRow _ (Or.inl rfl) _)⟩, k5.out.drew.trans (Kp.setRow (S := isB R) _ rfl _)⟩
set_option maxRecDepth 20000 in
set_option maxHeartbeats 400000 in
theorem rin_ma (w : World) (R : Nat) (a b : RC) (h : RAt w R a b) (x : Int) (hx : By x) (hf : ∀ k, k < 8 → a.msk k = tb x k) : Calls Tryz.prog 130 #[.pointer (some ⟨R, 0, none⟩), .int .i64 1] w fun e w' => e = .returned (.tuple #[.int .u8 x, .int .i64 0]) ∧ Kp noB w w' := by
 obtain ⟨T, nI, Z, fs, ps, V⟩ := vlC
 obtain ⟨vl, vs, va, vb⟩ := V.ops
 have v1 := V.agg
 have v2 := V.size
 have v3 := V.zero
 have v4 := V.under
 have v5 := V.map
 have v6 := V.zs
 have vG := V.getNew
 have vN := V.new
 have L := V.getA h
 have lR := h.lt
 have cs : ∀ r : RC, (chV r).size = nI := fun r => by rw [V.s]; rfl
 have KA : Hid (Kp noB w (w.alloc (.cells (chV a) T))) := Kp.alloc _ _ _
 have RA : Hid (RAt (w.alloc (.cells (chV a) T)) R a b) := h.kept (Kp.alloc noB _ _) id
 have c16 : ∀ r : RC, (chV r)[16]? = some (.bool (r.msk 0)) := fun r => rfl
 have c17 : ∀ r : RC, (chV r)[17]? = some (.bool (r.msk 1)) := fun r => rfl
 have c18 : ∀ r : RC, (chV r)[18]? = some (.bool (r.msk 2)) := fun r => rfl
 have c19 : ∀ r : RC, (chV r)[19]? = some (.bool (r.msk 3)) := fun r => rfl
 have c20 : ∀ r : RC, (chV r)[20]? = some (.bool (r.msk 4)) := fun r => rfl
 have c21 : ∀ r : RC, (chV r)[21]? = some (.bool (r.msk 5)) := fun r => rfl
 have c22 : ∀ r : RC, (chV r)[22]? = some (.bool (r.msk 6)) := fun r => rfl
 have c23 : ∀ r : RC, (chV r)[23]? = some (.bool (r.msk 7)) := fun r => rfl
 have HBy : Hid (∀ w, _) := fun w => byteOf_ok w a.msk x hx hf
 unfold row8 at HBy
 clear h V hf hx
 go_enter Tryz.func130, Tryz.ntmps130
 simp only [vl, vs, va]
 clear vl vs va vb
 go_wp2_with fail
 refine Calls.mono (HBy.out _) ?_; rintro e w2 ⟨rfl, k2⟩
 go_wp2
 go_ret2
 exact ⟨rfl, KA.out.trans k2⟩
set_option maxRecDepth 20000 in
set_option maxHeartbeats 400000 in
theorem rin_sa (w : World) (R : Nat) (a b : RC) (h : RAt w R a b) (x : Int) (hx : By x) (ht : a.told = true) (hf : ∀ k, k < 8 → a.srv k = tb x k) : Calls Tryz.prog 130 #[.pointer (some ⟨R, 0, none⟩), .int .i64 0] w fun e w' => e = .returned (.tuple #[.int .u8 x, .int .i64 0]) ∧ Kp noB w w' := by
 obtain ⟨T, nI, Z, fs, ps, V⟩ := vlC
 obtain ⟨vl, vs, va, vb⟩ := V.ops
 have v1 := V.agg
 have v2 := V.size
 have v3 := V.zero
 have v4 := V.under
 have v5 := V.map
 have v6 := V.zs
 have vG := V.getNew
 have vN := V.new
 have L := V.getA h
 have lR := h.lt
 have cs : ∀ r : RC, (chV r).size = nI := fun r => by rw [V.s]; rfl
 have KA : Hid (Kp noB w (w.alloc (.cells (chV a) T))) := Kp.alloc _ _ _
 have RA : Hid (RAt (w.alloc (.cells (chV a) T)) R a b) := h.kept (Kp.alloc noB _ _) id
 have c8 : ∀ r : RC, (chV r)[8]? = some (.bool (r.srv 0)) := fun r => rfl
 have c9 : ∀ r : RC, (chV r)[9]? = some (.bool (r.srv 1)) := fun r => rfl
 have c10 : ∀ r : RC, (chV r)[10]? = some (.bool (r.srv 2)) := fun r => rfl
 have c11 : ∀ r : RC, (chV r)[11]? = some (.bool (r.srv 3)) := fun r => rfl
 have c12 : ∀ r : RC, (chV r)[12]? = some (.bool (r.srv 4)) := fun r => rfl
 have c13 : ∀ r : RC, (chV r)[13]? = some (.bool (r.srv 5)) := fun r => rfl
 have c14 : ∀ r : RC, (chV r)[14]? = some (.bool (r.srv 6)) := fun r => rfl
 have c15 : ∀ r : RC, (chV r)[15]? = some (.bool (r.srv 7)) := fun r => rfl
 have c33 : ∀ r : RC, (chV r)[33]? = some (.bool r.told) := fun r => rfl
 have HBy : Hid (∀ w, _) := fun w => byteOf_ok w a.srv x hx hf
 unfold row8 at HBy
 clear h V hf hx
 go_enter Tryz.func130, Tryz.ntmps130
 simp only [vl, vs, va]
 clear vl vs va vb
 go_wp2_with fail
 refine Calls.mono (HBy.out _) ?_; rintro e w2 ⟨rfl, k2⟩
 go_wp2
 go_ret2
 exact ⟨rfl, KA.out.trans k2⟩
set_option maxRecDepth 20000 in
set_option maxHeartbeats 400000 in
theorem rin_qa (w : World) (R : Nat) (a b : RC) (h : RAt w R a b) (x : Int) (hx : By x) (ht : a.told = false) (l : Nat → Bool) (hf : ∀ k, k < 8 → l k = tb x k) (HA : ∀ w, RAt w R a b → Calls Tryz.prog 87 #[.pointer (some ⟨R, 0, none⟩), .int .i64 0] w fun e w' => e = .returned (.agg (row8 l)) ∧ Kp noB w w') : Calls Tryz.prog 130 #[.pointer (some ⟨R, 0, none⟩), .int .i64 0] w fun e w' => e = .returned (.tuple #[.int .u8 x, .int .i64 0]) ∧ Kp noB w w' := by
 obtain ⟨T, nI, Z, fs, ps, V⟩ := vlC
 obtain ⟨vl, vs, va, vb⟩ := V.ops
 have v1 := V.agg
 have v2 := V.size
 have v3 := V.zero
 have v4 := V.under
 have v5 := V.map
 have v6 := V.zs
 have vG := V.getNew
 have vN := V.new
 have L := V.getA h
 have lR := h.lt
 have cs : ∀ r : RC, (chV r).size = nI := fun r => by rw [V.s]; rfl
 have KA : Hid (Kp noB w (w.alloc (.cells (chV a) T))) := Kp.alloc _ _ _
 have RA : Hid (RAt (w.alloc (.cells (chV a) T)) R a b) := h.kept (Kp.alloc noB _ _) id
 have c33 : ∀ r : RC, (chV r)[33]? = some (.bool r.told) := fun r => rfl
 have HBy : Hid (∀ w, _) := fun w => byteOf_ok w l x hx hf
 have HAs : Hid _ := HA
 clear HA
 unfold row8 at HBy HAs
 clear h V hf hx
 go_enter Tryz.func130, Tryz.ntmps130
 simp only [vl, vs, va]
 clear vl vs va vb
 go_wp2_with fail
 refine Calls.mono (HAs.out _ RA.out) ?_; rintro e w1 ⟨rfl, k1⟩
 go_wp2_with fail
 refine Calls.mono (HBy.out _) ?_; rintro e w2 ⟨rfl, k2⟩
 go_wp2
 go_ret2
 exact ⟨rfl, KA.out.trans (k1.trans k2)⟩
set_option maxRecDepth 20000 in
set_option maxHeartbeats 400000 in
theorem rin_mb (w : World) (R : Nat) (a b : RC) (h : RAt w R a b) (x : Int) (hx : By x) (hf : ∀ k, k < 8 → b.msk k = tb x k) : Calls Tryz.prog 130 #[.pointer (some ⟨R, 0, none⟩), .int .i64 3] w fun e w' => e = .returned (.tuple #[.int .u8 x, .int .i64 0]) ∧ Kp noB w w' := by
 obtain ⟨T, nI, Z, fs, ps, V⟩ := vlC
 obtain ⟨vl, vs, va, vb⟩ := V.ops
 have v1 := V.agg
 have v2 := V.size
 have v3 := V.zero
 have v4 := V.under
 have v5 := V.map
 have v6 := V.zs
 have vG := V.getNew
 have vN := V.new
 have L := V.getB h
 have lR := h.lt
 have cs : ∀ r : RC, (chV r).size = nI := fun r => by rw [V.s]; rfl
 have KA : Hid (Kp noB w (w.alloc (.cells (chV b) T))) := Kp.alloc _ _ _
 have RA : Hid (RAt (w.alloc (.cells (chV b) T)) R a b) := h.kept (Kp.alloc noB _ _) id
 have c16 : ∀ r : RC, (chV r)[16]? = some (.bool (r.msk 0)) := fun r => rfl
 have c17 : ∀ r : RC, (chV r)[17]? = some (.bool (r.msk 1)) := fun r => rfl
 have c18 : ∀ r : RC, (chV r)[18]? = some (.bool (r.msk 2)) := fun r => rfl
 have c19 : ∀ r : RC, (chV r)[19]? = some (.bool (r.msk 3)) := fun r => rfl
 have c20 : ∀ r : RC, (chV r)[20]? = some (.bool (r.msk 4)) := fun r => rfl
 have c21 : ∀ r : RC, (chV r)[21]? = some (.bool (r.msk 5)) := fun r => rfl
 have c22 : ∀ r : RC, (chV r)[22]? = some (.bool (r.msk 6)) := fun r => rfl
 have c23 : ∀ r : RC, (chV r)[23]? = some (.bool (r.msk 7)) := fun r => rfl
 have HBy : Hid (∀ w, _) := fun w => byteOf_ok w b.msk x hx hf
 unfold row8 at HBy
 clear h V hf hx
 go_enter Tryz.func130, Tryz.ntmps130
 simp only [vl, vs, va]
 clear vl vs va vb
 go_wp2_with fail
 refine Calls.mono (HBy.out _) ?_; rintro e w2 ⟨rfl, k2⟩
 go_wp2
 go_ret2
 exact ⟨rfl, KA.out.trans k2⟩
set_option maxRecDepth 20000 in
set_option maxHeartbeats 400000 in
theorem rin_sb (w : World) (R : Nat) (a b : RC) (h : RAt w R a b) (x : Int) (hx : By x) (ht : b.told = true) (hf : ∀ k, k < 8 → b.srv k = tb x k) : Calls Tryz.prog 130 #[.pointer (some ⟨R, 0, none⟩), .int .i64 2] w fun e w' => e = .returned (.tuple #[.int .u8 x, .int .i64 0]) ∧ Kp noB w w' := by
 obtain ⟨T, nI, Z, fs, ps, V⟩ := vlC
 obtain ⟨vl, vs, va, vb⟩ := V.ops
 have v1 := V.agg
 have v2 := V.size
 have v3 := V.zero
 have v4 := V.under
 have v5 := V.map
 have v6 := V.zs
 have vG := V.getNew
 have vN := V.new
 have L := V.getB h
 have lR := h.lt
 have cs : ∀ r : RC, (chV r).size = nI := fun r => by rw [V.s]; rfl
 have KA : Hid (Kp noB w (w.alloc (.cells (chV b) T))) := Kp.alloc _ _ _
 have RA : Hid (RAt (w.alloc (.cells (chV b) T)) R a b) := h.kept (Kp.alloc noB _ _) id
 have c8 : ∀ r : RC, (chV r)[8]? = some (.bool (r.srv 0)) := fun r => rfl
 have c9 : ∀ r : RC, (chV r)[9]? = some (.bool (r.srv 1)) := fun r => rfl
 have c10 : ∀ r : RC, (chV r)[10]? = some (.bool (r.srv 2)) := fun r => rfl
 have c11 : ∀ r : RC, (chV r)[11]? = some (.bool (r.srv 3)) := fun r => rfl
 have c12 : ∀ r : RC, (chV r)[12]? = some (.bool (r.srv 4)) := fun r => rfl
 have c13 : ∀ r : RC, (chV r)[13]? = some (.bool (r.srv 5)) := fun r => rfl
 have c14 : ∀ r : RC, (chV r)[14]? = some (.bool (r.srv 6)) := fun r => rfl
 have c15 : ∀ r : RC, (chV r)[15]? = some (.bool (r.srv 7)) := fun r => rfl
 have c33 : ∀ r : RC, (chV r)[33]? = some (.bool r.told) := fun r => rfl
 have HBy : Hid (∀ w, _) := fun w => byteOf_ok w b.srv x hx hf
 unfold row8 at HBy
 clear h V hf hx
 go_enter Tryz.func130, Tryz.ntmps130
 simp only [vl, vs, va]
 clear vl vs va vb
 go_wp2_with fail
 refine Calls.mono (HBy.out _) ?_; rintro e w2 ⟨rfl, k2⟩
 go_wp2
 go_ret2
 exact ⟨rfl, KA.out.trans k2⟩
set_option maxRecDepth 20000 in
set_option maxHeartbeats 400000 in
theorem rin_qb (w : World) (R : Nat) (a b : RC) (h : RAt w R a b) (x : Int) (hx : By x) (ht : b.told = false) (l : Nat → Bool) (hf : ∀ k, k < 8 → l k = tb x k) (HA : ∀ w, RAt w R a b → Calls Tryz.prog 87 #[.pointer (some ⟨R, 0, none⟩), .int .i64 1] w fun e w' => e = .returned (.agg (row8 l)) ∧ Kp noB w w') : Calls Tryz.prog 130 #[.pointer (some ⟨R, 0, none⟩), .int .i64 2] w fun e w' => e = .returned (.tuple #[.int .u8 x, .int .i64 0]) ∧ Kp noB w w' := by
 obtain ⟨T, nI, Z, fs, ps, V⟩ := vlC
 obtain ⟨vl, vs, va, vb⟩ := V.ops
 have v1 := V.agg
 have v2 := V.size
 have v3 := V.zero
 have v4 := V.under
 have v5 := V.map
 have v6 := V.zs
 have vG := V.getNew
 have vN := V.new
 have L := V.getB h
 have lR := h.lt
 have cs : ∀ r : RC, (chV r).size = nI := fun r => by rw [V.s]; rfl
 have KA : Hid (Kp noB w (w.alloc (.cells (chV b) T))) := Kp.alloc _ _ _
 have RA : Hid (RAt (w.alloc (.cells (chV b) T)) R a b) := h.kept (Kp.alloc noB _ _) id
 have c33 : ∀ r : RC, (chV r)[33]? = some (.bool r.told) := fun r => rfl
 have HBy : Hid (∀ w, _) := fun w => byteOf_ok w l x hx hf
 have HAs : Hid _ := HA
 clear HA
 unfold row8 at HBy HAs
 clear h V hf hx
 go_enter Tryz.func130, Tryz.ntmps130
 simp only [vl, vs, va]
 clear vl vs va vb
 go_wp2_with fail
 refine Calls.mono (HAs.out _ RA.out) ?_; rintro e w1 ⟨rfl, k1⟩
 go_wp2_with fail
 refine Calls.mono (HBy.out _) ?_; rintro e w2 ⟨rfl, k2⟩
 go_wp2
 go_ret2
 exact ⟨rfl, KA.out.trans (k1.trans k2)⟩
theorem settle_st2 {m : M2} (h : m.Ok) : St2 m.settle := by
 unfold St2
 rw [settle_asks h, if_pos rfl]; rfl
theorem settle_id {m : M2} (k : m.Ok) (h : St2 m) : m.settle = m := by
 have e : m.settle.a.asks = m.a.asks := by_ext k.settle.a.asks k.a.asks fun j hj => by
  rw [settle_asks k]
  by_cases q : j = 2
  ·subst q; rw [if_pos rfl]; exact h.symm
  ·rw [if_neg q]
 have e2 : m.settle = ⟨{ m.a with asks := m.settle.a.asks }, m.b⟩ := rfl
 rw [e2, e]
theorem line_due (c : Ch) (k : Int) (u : Bool) : (c.line k u).due = c.due := (line_keep c k u).2.2.2.1
theorem told_due (c : Ch) (k : Int) : (c.told k).due = c.due := by unfold Ch.told; split; rfl; split <;> rfl
theorem acks_due (m : M2) : m.acks.a.due = m.a.due ∧ m.acks.b.due = m.b.due := by
 unfold M2.acks
 split
 ·exact ⟨told_due _ _, told_due _ _⟩
 ·exact ⟨told_due _ _, rfl⟩
theorem zero_rel (s : Bool) : Rel RC.zero ch0 s := ⟨fun j _ _ => (zero_tb j).symm, fun j _ => (zero_tb j).symm, fun j _ => (zero_tb j).symm, fun j _ _ => (zero_tb j).symm, rfl, rfl, rfl⟩
theorem st0 : St2 m00 := by unfold St2; kernel_rfl
def WnS (w : World) (S : Nat → Prop) (R : Nat) (p : Option Addr) (n c : Nat) (l : List Int) : Prop := n = l.length ∧ n ≤ c ∧ ∀ j, j < l.length → ∃ g, p = some ⟨g, 0, none⟩ ∧ (S g ∧ g ≠ R) ∧ g < w.heap.size ∧ w.cell? ⟨g, j, none⟩ = some (.int .i64 (l.getD j 0))
def nS (S : Nat → Prop) (w w' : World) : Nat → Prop := fun k => k < w'.heap.size ∧ (S k ∨ w.heap.size ≤ k)
section
variable {w w' : World} {S : Nat → Prop} {R : Nat} {p : Option Addr} {n c : Nat} {l : List Int}
theorem WnS.wn (h : WnS w S R p n c l) : Wn w 0 p n c l := ⟨h.1, h.2.1, fun j hj => by
 obtain ⟨g, e, hb, hl, hc⟩ := h.2.2 j hj
 exact ⟨g, e, Nat.zero_le _, hl, hc⟩⟩
theorem WnS.next (h : WnS w S R p n c l) (k : Kp (isB R) w w') : WnS w' (nS S w w') R p n c l := ⟨h.1, h.2.1, fun j hj => by
 obtain ⟨g, e, hb, hl, hc⟩ := h.2.2 j hj
 have hl' := Nat.lt_of_lt_of_le hl k.size
 exact ⟨g, e, ⟨⟨hl', .inl hb.1⟩, hb.2⟩, hl', cell_kept hc k hb.2⟩⟩
theorem WnS.kept {T : Nat → Prop} (h : WnS w S R p n c l) (k : Kp T w w') (hS : ∀ k, S k → ¬ T k) : WnS w' S R p n c l := ⟨h.1, h.2.1, fun j hj => by
 obtain ⟨g, e, hb, hl, hc⟩ := h.2.2 j hj
 exact ⟨g, e, hb, Nat.lt_of_lt_of_le hl k.size, cell_kept hc k (hS g hb.1)⟩⟩
theorem WnS.same (h : WnS w S R p n c l) : WnS w (nS S w w) R p n c l := h.next (Kp.refl _ _)
end
theorem WnS.fin {w w1 w2 w' : World} {S : Nat → Prop} {R : Nat} {r r' : RC} {l l' : List Int} (hw : WnS w S R r.wp r.wl r.wc l) (k1 : Kp (isB R) w w') (hs : w1.heap.size = w.heap.size + 1) (hd : Wd w1 r l w2 r' l') (k2 : Kp (fun k => k = R ∨ k = w.heap.size) w2 w') (hR : R < w.heap.size) : WnS w' (nS S w w') R r'.wp r'.wl r'.wc l' := by
 rcases hd with ⟨e1, e2, e3, e4⟩ | hd
 ·rw [e1, e2, e3, e4]
  exact hw.next k1
 ·exact ⟨hd.1, hd.2.1, fun j hj => by
   obtain ⟨g, e, hb, hl, hc⟩ := hd.2.2 j hj
   have hl' := Nat.lt_of_lt_of_le hl k2.size
   exact ⟨g, e, ⟨⟨hl', .inr (by omega)⟩, by omega⟩, hl', cell_kept hc k2 (fun f => by rcases f with f | f <;> omega)⟩⟩
structure RXS (w : World) (S : Nat → Prop) (R : Nat) (m : M2) (a b : RC) : Prop where
 rm : RM w R m a b
 wa : WnS w S R a.wp a.wl a.wc (wantsOf m.a.due)
 wb : WnS w S R b.wp b.wl b.wc (wantsOf m.b.due)
def RWS (w : World) (S : Nat → Prop) (R : Nat) (m : M2) : Prop := ∃ a b, RXS w S R m a b
theorem RXS.same {w : World} {S : Nat → Prop} {R : Nat} {m : M2} {a b : RC} (h : RXS w S R m a b) : RXS w (nS S w w) R m a b := ⟨h.rm, h.wa.same, h.wb.same⟩
theorem RWS.lt {w : World} {S : Nat → Prop} {R : Nat} {m : M2} (h : RWS w S R m) : R < w.heap.size := by obtain ⟨a, b, h⟩ := h; exact h.rm.at_.lt
theorem RWS.kept {T : Nat → Prop} {w w' : World} {S : Nat → Prop} {R : Nat} {m : M2} (h : RWS w S R m) (sR : S R) (k : Kp T w w') (hS : ∀ k, S k → ¬ T k) : RWS w' S R m := by
 obtain ⟨a, b, h⟩ := h
 exact ⟨a, b, ⟨h.rm.at_.kept k (hS R sR), h.rm.ra, h.rm.rb, h.rm.ok, h.rm.st⟩, h.wa.kept k hS, h.wb.kept k hS⟩
theorem sOut (w : World) (R : Nat) (m : M2) (S : Nat → Prop) (h : RWS w S R m) (p v : Int) (p0 : 0 ≤ p) (p1 : p < 4) (hv : By v) : Calls Tryz.prog 126 #[.pointer (some ⟨R, 0, none⟩), .int .i64 p, .int .u8 v] w fun e w' => e = .returned (.int .i64 0) ∧ RWS w' (nS S w w') R (m.out p v) ∧ Kp (isB R) w w' := by
 obtain ⟨a, b, h⟩ := h
 have lR := h.rm.at_.lt
 have ok' := h.rm.ok.out (p := p) hv
 rcases (by omega : p = 0 ∨ p = 1 ∨ p = 2 ∨ p = 3) with rfl | rfl | rfl | rfl
 ·have o1 : (m.set false (m.a.cmd v)).Ok := h.rm.ok.set false (h.rm.ok.a.cmd hv)
  refine (rout_0 w R a b h.rm.at_ v (fun r' w2 => ∃ w1, w1.heap.size = w.heap.size + 1 ∧ Rel r' (m.a.cmd v) true ∧ Wd w1 a (wantsOf m.a.due) w2 r' (wantsOf (m.a.cmd v).due)) (fun w1 k1 s1 => (simCmd w1 0 a m.a true v h.rm.ra h.rm.ok.a hv (Nat.zero_le _) (h.wa.wn.kept2 k1 (fun _ _ _ f => f))).mono fun e w2 ⟨r', q1, q2, q3, q4⟩ => ⟨r', q1, ⟨w1, s1, q2, q3⟩, q4⟩)).mono fun e w' ⟨z1, ⟨r', w2, ⟨w1, s1, q2, q3⟩, z2, z3⟩, z4⟩ => ⟨z1, ⟨r', b, ⟨z2, q2.settle o1, h.rm.rb, ok', settle_st2 o1⟩, WnS.fin h.wa z4 s1 q3 z3 lR, h.wb.next z4⟩, z4⟩
 ·have o1 : (m.set false (m.a.dat v)).Ok := h.rm.ok.set false (h.rm.ok.a.dat hv)
  refine (rout_1 w R a b h.rm.at_ v (fun r' w2 => ∃ w1, w1.heap.size = w.heap.size + 1 ∧ Rel r' (m.a.dat v) true ∧ Wd w1 a (wantsOf m.a.due) w2 r' (wantsOf (m.a.dat v).due)) (fun w1 k1 s1 => (simDat w1 0 a m.a true v h.rm.ra h.rm.ok.a hv (Nat.zero_le _) (h.wa.wn.kept2 k1 (fun _ _ _ f => f))).mono fun e w2 ⟨r', q1, q2, q3, q4⟩ => ⟨r', q1, ⟨w1, s1, q2, q3⟩, q4⟩)).mono fun e w' ⟨z1, ⟨r', w2, ⟨w1, s1, q2, q3⟩, z2, z3⟩, z4⟩ => ⟨z1, ⟨r', b, ⟨z2, q2.settle o1, h.rm.rb, ok', settle_st2 o1⟩, WnS.fin h.wa z4 s1 q3 z3 lR, h.wb.next z4⟩, z4⟩
 ·have o1 : (m.set true (m.b.cmd v)).Ok := h.rm.ok.set true (h.rm.ok.b.cmd hv)
  refine (rout_2 w R a b h.rm.at_ v (fun r' w2 => ∃ w1, w1.heap.size = w.heap.size + 1 ∧ Rel r' (m.b.cmd v) false ∧ Wd w1 b (wantsOf m.b.due) w2 r' (wantsOf (m.b.cmd v).due)) (fun w1 k1 s1 => (simCmd w1 0 b m.b false v h.rm.rb h.rm.ok.b hv (Nat.zero_le _) (h.wb.wn.kept2 k1 (fun _ _ _ f => f))).mono fun e w2 ⟨r', q1, q2, q3, q4⟩ => ⟨r', q1, ⟨w1, s1, q2, q3⟩, q4⟩)).mono fun e w' ⟨z1, ⟨r', w2, ⟨w1, s1, q2, q3⟩, z2, z3⟩, z4⟩ => ⟨z1, ⟨a, r', ⟨z2, Rel.settle (m := m.set true (m.b.cmd v)) h.rm.ra o1, q2, ok', settle_st2 o1⟩, h.wa.next z4, WnS.fin h.wb z4 s1 q3 z3 lR⟩, z4⟩
 ·have o1 : (m.set true (m.b.dat v)).Ok := h.rm.ok.set true (h.rm.ok.b.dat hv)
  refine (rout_3 w R a b h.rm.at_ v (fun r' w2 => ∃ w1, w1.heap.size = w.heap.size + 1 ∧ Rel r' (m.b.dat v) false ∧ Wd w1 b (wantsOf m.b.due) w2 r' (wantsOf (m.b.dat v).due)) (fun w1 k1 s1 => (simDat w1 0 b m.b false v h.rm.rb h.rm.ok.b hv (Nat.zero_le _) (h.wb.wn.kept2 k1 (fun _ _ _ f => f))).mono fun e w2 ⟨r', q1, q2, q3, q4⟩ => ⟨r', q1, ⟨w1, s1, q2, q3⟩, q4⟩)).mono fun e w' ⟨z1, ⟨r', w2, ⟨w1, s1, q2, q3⟩, z2, z3⟩, z4⟩ => ⟨z1, ⟨a, r', ⟨z2, Rel.settle (m := m.set true (m.b.dat v)) h.rm.ra o1, q2, ok', settle_st2 o1⟩, h.wa.next z4, WnS.fin h.wb z4 s1 q3 z3 lR⟩, z4⟩
theorem sIn (w : World) (R : Nat) (m : M2) (S : Nat → Prop) (h : RWS w S R m) (p : Int) (p0 : 0 ≤ p) (p1 : p < 4) : Calls Tryz.prog 130 #[.pointer (some ⟨R, 0, none⟩), .int .i64 p] w fun e w' => e = .returned (.tuple #[.int .u8 (m.inn p), .int .i64 0]) ∧ Kp noB w w' := by
 obtain ⟨a, b, h⟩ := h
 have st := h.rm.st
 rcases (by omega : p = 0 ∨ p = 1 ∨ p = 2 ∨ p = 3) with rfl | rfl | rfl | rfl
 ·show Calls _ _ _ _ fun e w' => e = .returned (.tuple #[.int .u8 m.a.shown, .int .i64 0]) ∧ Kp noB w w'
  cases e : m.a.sh
  ·have hs : m.a.shown = m.a.asks := by unfold Ch.shown; rw [e]; rfl
   rw [hs]
   exact rin_qa w R a b h.rm.at_ _ h.rm.ok.a.asks (h.rm.ra.told.trans e) (upd a.asks 2 (m.b.next != -1)) (fun j hj => by
    unfold upd
    by_cases q : j = 2
    ·subst q; rw [if_pos rfl]; exact st.symm
    ·rw [if_neg q]; exact h.rm.ra.asks j hj (fun _ => q)) (fun w hw => asking_a w R a b m hw h.rm.rb h.rm.ok)
  ·have hs : m.a.shown = m.a.srv := by unfold Ch.shown; rw [e]; rfl
   rw [hs]
   exact rin_sa w R a b h.rm.at_ _ h.rm.ok.a.srv (h.rm.ra.told.trans e) h.rm.ra.srv
 ·exact rin_ma w R a b h.rm.at_ _ h.rm.ok.a.msk h.rm.ra.msk
 ·show Calls _ _ _ _ fun e w' => e = .returned (.tuple #[.int .u8 m.b.shown, .int .i64 0]) ∧ Kp noB w w'
  cases e : m.b.sh
  ·have hs : m.b.shown = m.b.asks := by unfold Ch.shown; rw [e]; rfl
   rw [hs]
   exact rin_qb w R a b h.rm.at_ _ h.rm.ok.b.asks (h.rm.rb.told.trans e) b.asks (fun j hj => h.rm.rb.asks j hj (fun f => by cases f)) (fun w hw => asking_b w R a b hw)
  ·have hs : m.b.shown = m.b.srv := by unfold Ch.shown; rw [e]; rfl
   rw [hs]
   exact rin_sb w R a b h.rm.at_ _ h.rm.ok.b.srv (h.rm.rb.told.trans e) h.rm.rb.srv
 ·exact rin_mb w R a b h.rm.at_ _ h.rm.ok.b.msk h.rm.rb.msk
theorem sLine (w : World) (R : Nat) (m : M2) (S : Nat → Prop) (h : RWS w S R m) (n : Int) (u : Bool) (n0 : 0 ≤ n) (n1 : n < 16) : Calls Tryz.prog 75 #[.pointer (some ⟨R, 0, none⟩), .int .i64 n, .bool u] w fun e w' => e = .returned (.int .i64 0) ∧ RWS w' (nS S w w') R (m.line n u) ∧ Kp (isB R) w w' := by
 obtain ⟨a, b, h⟩ := h
 have ok' := h.rm.ok.line n0 n1 u
 have hs := settle_id h.rm.ok h.rm.st
 by_cases e2 : n = 2
 ·subst e2
  have hX : m.line 2 u = m := by unfold M2.line; rw [if_pos rfl]; exact hs
  rw [hX]
  exact (rline_2 w R u).mono fun e w' ⟨z1, z2⟩ => ⟨z1, by subst z2; exact ⟨a, b, h.same⟩, z2 ▸ Kp.refl _ _⟩
 ·by_cases e8 : n < 8
  ·obtain ⟨k, rfl⟩ := Int.eq_ofNat_of_zero_le n0
   have k8 : k < 8 := by omega
   have k2 : k ≠ 2 := by omega
   have hX : m.line (k : Int) u = (m.set false (m.a.line (k : Int) u)).settle := by unfold M2.line; rw [if_neg e2, if_pos e8]
   have o1 : (m.set false (m.a.line (k : Int) u)).Ok := h.rm.ok.set false (h.rm.ok.a.line n0 e8 u)
   refine (rlineA w R a b h.rm.at_ k k8 k2 u).mono fun e w' ⟨z1, z2, z3⟩ => ⟨z1, ⟨a.line k u, b, ⟨z2, ?_, ?_, ok', ?_⟩, ?_, ?_⟩, z3⟩
   ·rw [hX]; exact Rel.settle (h.rm.ra.line h.rm.ok.a k8 (fun _ => k2) u) o1
   ·rw [hX]; exact h.rm.rb
   ·rw [hX]; exact settle_st2 o1
   ·rw [hX]
    show WnS w' (nS S w w') R a.wp a.wl a.wc (wantsOf (m.a.line (k : Int) u).due)
    rw [line_due]
    exact h.wa.next z3
   ·rw [hX]
    exact h.wb.next z3
  ·obtain ⟨k, hk⟩ := Int.eq_ofNat_of_zero_le (show 0 ≤ n - 8 by omega)
   have k8 : k < 8 := by omega
   have hX : m.line n u = (m.set true (m.b.line (k : Int) u)).settle := by unfold M2.line; rw [if_neg e2, if_neg e8, hk]
   have o1 : (m.set true (m.b.line (k : Int) u)).Ok := h.rm.ok.set true (h.rm.ok.b.line (n := (k : Int)) (by omega) (by omega) u)
   refine (rlineB w R a b h.rm.at_ k k8 u n (by omega)).mono fun e w' ⟨z1, z2, z3⟩ => ⟨z1, ⟨a, b.line k u, ⟨z2, ?_, ?_, ok', ?_⟩, ?_, ?_⟩, z3⟩
   ·rw [hX]; exact Rel.settle (m := m.set true (m.b.line (k : Int) u)) h.rm.ra o1
   ·rw [hX]; exact h.rm.rb.line h.rm.ok.b k8 (fun f => by cases f) u
   ·rw [hX]; exact settle_st2 o1
   ·rw [hX]
    exact h.wa.next z3
   ·rw [hX]
    show WnS w' (nS S w w') R b.wp b.wl b.wc (wantsOf (m.b.line (k : Int) u).due)
    rw [line_due]
    exact h.wb.next z3
theorem sAck (w : World) (R : Nat) (m : M2) (S : Nat → Prop) (h : RWS w S R m) : Calls Tryz.prog 85 #[.pointer (some ⟨R, 0, none⟩)] w fun e w' => e = .returned (.int .i64 m.vec) ∧ RWS w' (nS S w w') R m.ack ∧ Kp (isB R) w w' := by
 obtain ⟨a, b, h⟩ := h
 obtain ⟨d1, d2⟩ := acks_due m
 refine (rack_ok w R m a b h.rm).mono fun e w' ⟨z1, ⟨a', b', z2, ⟨p1, p2, p3⟩, q1, q2, q3⟩, z3⟩ => ⟨z1, ⟨a', b', z2, ?_, ?_⟩, z3⟩
 ·show WnS w' (nS S w w') R a'.wp a'.wl a'.wc (wantsOf m.acks.a.due)
  rw [p1, p2, p3, d1]
  exact h.wa.next z3
 ·show WnS w' (nS S w w') R b'.wp b'.wl b'.wc (wantsOf m.acks.b.due)
  rw [q1, q2, q3, d2]
  exact h.wb.next z3
theorem sPend (w : World) (R : Nat) (m : M2) (S : Nat → Prop) (h : RWS w S R m) : Calls Tryz.prog 12 #[.pointer (some ⟨R, 0, none⟩)] w fun e w' => e = .returned (.bool (m.a.next != -1)) ∧ Kp noB w w' := by
 obtain ⟨a, b, h⟩ := h
 exact rpend_ok w R a b m h.rm.at_ h.rm.ra h.rm.rb h.rm.ok h.rm.st
theorem sNew (w : World) : Calls Tryz.prog 31 #[] w fun e w' => e = .returned (.pointer (some ⟨w.heap.size, 0, none⟩)) ∧ RWS w' (isB w.heap.size) w.heap.size m00 ∧ Kp noB w w' := by
 have hR : Hid (∀ w' : World, w'.heap[w.heap.size]? = some (.cells (chV RC.zero ++ chV RC.zero) 142 (0, 0)) → RWS w' (isB w.heap.size) w.heap.size m00) := fun w' h => ⟨RC.zero, RC.zero, ⟨⟨h⟩, zero_rel _, zero_rel _, m00_ok, st0⟩, ⟨rfl, Nat.le_refl _, fun j hj => absurd hj (by show ¬ j < 0; omega)⟩, ⟨rfl, Nat.le_refl _, fun j hj => absurd hj (by show ¬ j < 0; omega)⟩⟩
 have hz0 : ∀ w, (zeroValue 142).run Tryz.prog w = .ok (.agg (chV RC.zero ++ chV RC.zero)) w := fun w => by kernel_rfl
 obtain ⟨Y, hY⟩ : ∃ Y, Y = chV RC.zero ++ chV RC.zero := ⟨_, rfl⟩
 rw [← hY] at hz0 hR
 clear hY
 go_enter Tryz.func31, Tryz.ntmps31
 go_wp2
 go_ret
 exact ⟨rfl, hR.out _ (heap_new w _), Kp.alloc _ _ _⟩
end Go.Proofs.YtonfjhbfkichkaaGreat.Pc
