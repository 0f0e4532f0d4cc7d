/- The bus and its devices: RcData2, RcCmd. -/
import Derived.Test.YtonfjhbfkichkaaGreatBz22
namespace Go.Proofs.YtonfjhbfkichkaaGreat.Pc
open Go.ChangeShapes Go.WideShapes Go.ChangeAt Go.RowKit
set_option linter.unusedVariables false
set_option maxRecDepth 20000
theorem set_base (r : RC) (x : Int) : (chV r).setIfInBounds 32 (.int .i64 x) = chV { r with base := x } := rfl
theorem set_told (r : RC) (b : Bool) : (chV r).setIfInBounds 33 (.bool b) = chV { r with told := b } := rfl
theorem set_ends (r : RC) (b : Bool) : (chV r).setIfInBounds 34 (.bool b) = chV { r with ends := b } := rfl
theorem set_want (r : RC) (p : Option Addr) (n c : Nat) : (chV r).setIfInBounds 35 (.slice p n c) = chV { r with wp := p, wl := n, wc := c } := rfl
theorem rng_self (l : List Int) : rngN l.length (fun j => l.getD j 0) = l := by
 unfold rngN
 apply List.ext_getElem?
 intro i
 rw [List.getElem?_map]
 by_cases h : i < l.length
 ·rw [List.getElem?_range h, List.getElem?_eq_getElem h]
  simp [List.getD_eq_getElem?_getD, List.getElem?_eq_getElem h]
 ·rw [List.getElem?_eq_none (by simp; omega), List.getElem?_eq_none (by omega)]; rfl
set_option maxRecDepth 20000 in
set_option maxHeartbeats 2000000 in
theorem rdata_1A (w : World) (r : RC) (v : Int) (hv : By v) (base : Nat) (l : List Int) (hl : l.length ≤ 10) (hb : base ≤ w.heap.size) (h1 : r.wc = 1) (h : Wn w base r.wp r.wl r.wc (1 :: l)) : Calls Tryz.prog 159 #[.agg (chV r), .int .u8 v] w fun e w' => ∃ p c, e = .returned (.agg (chV ⟨r.asks, r.srv, r.msk, r.up, (v - v % 8), r.told, r.ends, p, l.length, c⟩)) ∧ Wn w' w.heap.size p l.length c l ∧ Kp noB w w' := by
 obtain ⟨T, nI, Z, fs, ps, V⟩ := vlC
 obtain ⟨vl, vs, va, vb⟩ := V.ops
 have v1 := V.agg
 have v2 := V.size
 have v3 := V.zero
 have v4 := V.under
 have v5 := V.map
 have v6 := V.zs
 have cs : ∀ r : RC, (chV r).size = nI := fun r => by rw [V.s]; rfl
 obtain ⟨asks, srv, msk, up, bs, told, ends, wp, wl, wc⟩ := r
 obtain ⟨hn, hc, hcell⟩ := h
 obtain ⟨g, e1, e2, e3, c0⟩ := hcell 0 (by simp)
 simp only at e1 hn hc
 subst e1
 obtain ⟨n, hnn⟩ : ∃ n, n = l.length := ⟨_, rfl⟩
 have hn' : wl = n + 1 := by rw [hnn]; exact hn
 subst hn'
 simp only at h1
 subst h1
 obtain rfl : n = 0 := by omega
 have hG : NumAt w (some ⟨g, 0, none⟩) 0 (fun j => l.getD j 0) := fun j hj => by
  omega
 have c0' : w.cell? ⟨g, 0, none⟩ = some (.int .i64 1) := c0
 have HV : Hid (VlC T nI Z fs ps) := V
 obtain ⟨q, hq⟩ : ∃ q, q = w.heap.size := ⟨_, rfl⟩
 obtain ⟨W1, hW1⟩ : ∃ W1, W1 = (w.alloc (.cells (chV (⟨asks, srv, msk, up, (v - v % 8), told, ends, (some ⟨g, 0, none⟩), 1, 1⟩ : RC)) T)).alloc (.cells Z T) := ⟨_, rfl⟩
 have sW : W1.heap.size = w.heap.size + 1 + 1 := by rw [hW1]; simp
 have kW : Kp noB w W1 := by rw [hW1]; exact (Kp.alloc _ _ _).trans (Kp.alloc _ _ _)
 have hCW : CAt W1 w.heap.size (⟨asks, srv, msk, up, (v - v % 8), told, ends, (some ⟨g, 0, none⟩), 1, 1⟩ : RC) := by rw [hW1]; exact (V.at _ w).kept (Kp.alloc noB _ _) id
 have hZW : ZAt W1 (w.heap.size + 1) := by rw [hW1]; exact V.zat _ w
 have hGW : NumAt (W1.alloc (.cells #[] 3)) (some ⟨g, 0, none⟩) 0 (fun j => l.getD j 0) := fun j hj => by
  obtain ⟨b, o, f1, f2, f3⟩ := hG j hj
  exact ⟨b, o, f1, Nat.lt_of_lt_of_le f2 (kW.trans (Kp.alloc _ _ _)).size, cell_kept (cell_kept f3 kW id) (Kp.alloc noB _ _) id⟩
 obtain ⟨v', w', hr, hown, hk⟩ := appN_ok (w0 := W1) (Kp.alloc noB W1 _) (OwnN.new W1 _ (Nat.le_refl _) [] (by decide)) 0 hGW (by simp <;> omega)
 rw [List.nil_append] at hown
 obtain ⟨p, c, hv', hwn⟩ := hown.wn
 have el : rngN 0 (fun j => l.getD j 0) = l := by rw [hnn]; exact rng_self l
 rw [el, ← hnn] at hv' hwn
 subst hv'
 rw [sW] at hr hwn
 have hC2 := hCW.kept hk id
 have hZ2 := hZW.kept hk id
 have k2 : Kp noB w w' := kW.trans hk
 have d35 : w'.cell? ⟨w.heap.size, 35, none⟩ = some (.slice (some ⟨g, 0, none⟩) 1 1) := hC2.cell rfl
 have z35 := hC2.fz 35
 have hC3 : CAt (w'.setCell ⟨w.heap.size, 35, none⟩ (.slice p 0 c)) w.heap.size (⟨asks, srv, msk, up, (v - v % 8), told, ends, p, 0, c⟩ : RC) := hC2.set (set_want _ p 0 c)
 have hZ3 : ZAt (w'.setCell ⟨w.heap.size, 35, none⟩ (.slice p 0 c)) (w.heap.size + 1) := hZ2.kept (kpB w.heap.size _ _ _) (by show ¬ w.heap.size + 1 = w.heap.size; omega)
 have L3 := V.get hC3
 have S3 := hZ3.put (⟨asks, srv, msk, up, (v - v % 8), told, ends, p, 0, c⟩ : RC)
 have E4 : Hid _ := hZ3.got (⟨asks, srv, msk, up, (v - v % 8), told, ends, p, 0, c⟩ : RC)
 have K3 : Kp noB w (w'.setCell ⟨w.heap.size, 35, none⟩ (.slice p 0 c)) := k2.new (Nat.le_refl _) _
 have K4 : Hid (Kp noB w ((w'.setCell ⟨w.heap.size, 35, none⟩ (.slice p 0 c)).setRow (w.heap.size + 1) (chV (⟨asks, srv, msk, up, (v - v % 8), told, ends, p, 0, c⟩ : RC)))) := K3.newRow (by omega) _
 have kk : Kp (fun j => j = w.heap.size ∨ j = w.heap.size + 1) w' ((w'.setCell ⟨w.heap.size, 35, none⟩ (.slice p 0 c)).setRow (w.heap.size + 1) (chV (⟨asks, srv, msk, up, (v - v % 8), told, ends, p, 0, c⟩ : RC))) := (Kp.setCell (S := fun j => j = w.heap.size ∨ j = w.heap.size + 1) w' (p := ⟨w.heap.size, 35, none⟩) (Or.inl rfl) _).trans (Kp.setRow _ (Or.inr rfl) _)
 have W4 : Hid (Wn ((w'.setCell ⟨w.heap.size, 35, none⟩ (.slice p 0 c)).setRow (w.heap.size + 1) (chV (⟨asks, srv, msk, up, (v - v % 8), told, ends, p, 0, c⟩ : RC))) w.heap.size p 0 c l) := (hwn.kept kk (fun j hj f => by rcases f with f | f <;> omega)).mono (by omega)
 have HR : Hid _ := hr
 rw [hW1] at HR
 have HBt : Hid (∀ (w : World), _) := fun w => bit_any w v hv 1 (by decide)
 have v8 : Int.tmod v 8 = v % 8 := Int.tmod_eq_emod_of_nonneg hv.1
 obtain ⟨w0, w1⟩ := hv
 have c35 : ∀ r : RC, (chV r)[35]? = some (.slice r.wp r.wl r.wc) := fun r => rfl
 have s32 := set_base
 have s34 := set_ends
 rw [← hnn]
 clear V c0 hn hcell hnn hG hGW hCW hZW hW1 kW sW hr hk hown el hC2 hZ2 hC3 hZ3 K3 kk hwn k2 hb
 go_enter Tryz.func159, Tryz.ntmps159
 simp only [vl, vs, va, vb]
 clear vl vs va vb
 go_wp2_with (at_builtin; refine wpList_appN rfl _ _ rfl rfl rfl rfl HR.out ?_)
 exact bodyPost_ret (v := .agg (chV (⟨asks, srv, msk, up, (v - v % 8), told, ends, p, 0, c⟩ : RC))) (ch_res Tryz.results159 _ _ (w.heap.size + 1) _ rfl E4.out) rfl ⟨p, c, rfl, W4.out, K4.out⟩
set_option maxRecDepth 20000 in
set_option maxHeartbeats 2000000 in
theorem rdata_1B (w : World) (r : RC) (v : Int) (hv : By v) (base : Nat) (l : List Int) (hl : l.length ≤ 10) (hb : base ≤ w.heap.size) (h1 : 1 < r.wc) (h : Wn w base r.wp r.wl r.wc (1 :: l)) : Calls Tryz.prog 159 #[.agg (chV r), .int .u8 v] w fun e w' => ∃ p c, e = .returned (.agg (chV ⟨r.asks, r.srv, r.msk, r.up, (v - v % 8), r.told, r.ends, p, l.length, c⟩)) ∧ Wn w' w.heap.size p l.length c l ∧ Kp noB w w' := by
 obtain ⟨T, nI, Z, fs, ps, V⟩ := vlC
 obtain ⟨vl, vs, va, vb⟩ := V.ops
 have v1 := V.agg
 have v2 := V.size
 have v3 := V.zero
 have v4 := V.under
 have v5 := V.map
 have v6 := V.zs
 have cs : ∀ r : RC, (chV r).size = nI := fun r => by rw [V.s]; rfl
 obtain ⟨asks, srv, msk, up, bs, told, ends, wp, wl, wc⟩ := r
 obtain ⟨hn, hc, hcell⟩ := h
 obtain ⟨g, e1, e2, e3, c0⟩ := hcell 0 (by simp)
 simp only at e1 hn hc
 subst e1
 obtain ⟨n, hnn⟩ : ∃ n, n = l.length := ⟨_, rfl⟩
 have hn' : wl = n + 1 := by rw [hnn]; exact hn
 subst hn'
 simp only at h1
 have hG : NumAt w (some ⟨g, 1, none⟩) n (fun j => l.getD j 0) := fun j hj => by
  obtain ⟨g', f1, f2, f3, f4⟩ := hcell (j + 1) (by simp; omega)
  injection f1 with f1
  injection f1 with f1
  subst f1
  exact ⟨g, 1, rfl, f3, by rw [Nat.add_comm]; exact f4⟩
 have c0' : w.cell? ⟨g, 0, none⟩ = some (.int .i64 1) := c0
 have HV : Hid (VlC T nI Z fs ps) := V
 obtain ⟨q, hq⟩ : ∃ q, q = w.heap.size := ⟨_, rfl⟩
 obtain ⟨W1, hW1⟩ : ∃ W1, W1 = (w.alloc (.cells (chV (⟨asks, srv, msk, up, (v - v % 8), told, ends, (some ⟨g, 0, none⟩), (n + 1), wc⟩ : RC)) T)).alloc (.cells Z T) := ⟨_, rfl⟩
 have sW : W1.heap.size = w.heap.size + 1 + 1 := by rw [hW1]; simp
 have kW : Kp noB w W1 := by rw [hW1]; exact (Kp.alloc _ _ _).trans (Kp.alloc _ _ _)
 have hCW : CAt W1 w.heap.size (⟨asks, srv, msk, up, (v - v % 8), told, ends, (some ⟨g, 0, none⟩), (n + 1), wc⟩ : RC) := by rw [hW1]; exact (V.at _ w).kept (Kp.alloc noB _ _) id
 have hZW : ZAt W1 (w.heap.size + 1) := by rw [hW1]; exact V.zat _ w
 have hGW : NumAt (W1.alloc (.cells #[] 3)) (some ⟨g, 1, none⟩) n (fun j => l.getD j 0) := fun j hj => by
  obtain ⟨b, o, f1, f2, f3⟩ := hG j hj
  exact ⟨b, o, f1, Nat.lt_of_lt_of_le f2 (kW.trans (Kp.alloc _ _ _)).size, cell_kept (cell_kept f3 kW id) (Kp.alloc noB _ _) id⟩
 obtain ⟨v', w', hr, hown, hk⟩ := appN_ok (w0 := W1) (Kp.alloc noB W1 _) (OwnN.new W1 _ (Nat.le_refl _) [] (by decide)) (wc - 1) hGW (by simp <;> omega)
 rw [List.nil_append] at hown
 obtain ⟨p, c, hv', hwn⟩ := hown.wn
 have el : rngN n (fun j => l.getD j 0) = l := by rw [hnn]; exact rng_self l
 rw [el, ← hnn] at hv' hwn
 subst hv'
 rw [sW] at hr hwn
 have hC2 := hCW.kept hk id
 have hZ2 := hZW.kept hk id
 have k2 : Kp noB w w' := kW.trans hk
 have d35 : w'.cell? ⟨w.heap.size, 35, none⟩ = some (.slice (some ⟨g, 0, none⟩) (n + 1) wc) := hC2.cell rfl
 have z35 := hC2.fz 35
 have hC3 : CAt (w'.setCell ⟨w.heap.size, 35, none⟩ (.slice p n c)) w.heap.size (⟨asks, srv, msk, up, (v - v % 8), told, ends, p, n, c⟩ : RC) := hC2.set (set_want _ p n c)
 have hZ3 : ZAt (w'.setCell ⟨w.heap.size, 35, none⟩ (.slice p n c)) (w.heap.size + 1) := hZ2.kept (kpB w.heap.size _ _ _) (by show ¬ w.heap.size + 1 = w.heap.size; omega)
 have L3 := V.get hC3
 have S3 := hZ3.put (⟨asks, srv, msk, up, (v - v % 8), told, ends, p, n, c⟩ : RC)
 have E4 : Hid _ := hZ3.got (⟨asks, srv, msk, up, (v - v % 8), told, ends, p, n, c⟩ : RC)
 have K3 : Kp noB w (w'.setCell ⟨w.heap.size, 35, none⟩ (.slice p n c)) := k2.new (Nat.le_refl _) _
 have K4 : Hid (Kp noB w ((w'.setCell ⟨w.heap.size, 35, none⟩ (.slice p n c)).setRow (w.heap.size + 1) (chV (⟨asks, srv, msk, up, (v - v % 8), told, ends, p, n, c⟩ : RC)))) := K3.newRow (by omega) _
 have kk : Kp (fun j => j = w.heap.size ∨ j = w.heap.size + 1) w' ((w'.setCell ⟨w.heap.size, 35, none⟩ (.slice p n c)).setRow (w.heap.size + 1) (chV (⟨asks, srv, msk, up, (v - v % 8), told, ends, p, n, c⟩ : RC))) := (Kp.setCell (S := fun j => j = w.heap.size ∨ j = w.heap.size + 1) w' (p := ⟨w.heap.size, 35, none⟩) (Or.inl rfl) _).trans (Kp.setRow _ (Or.inr rfl) _)
 have W4 : Hid (Wn ((w'.setCell ⟨w.heap.size, 35, none⟩ (.slice p n c)).setRow (w.heap.size + 1) (chV (⟨asks, srv, msk, up, (v - v % 8), told, ends, p, n, c⟩ : RC))) w.heap.size p n c l) := (hwn.kept kk (fun j hj f => by rcases f with f | f <;> omega)).mono (by omega)
 have HR : Hid _ := hr
 rw [hW1] at HR
 have HBt : Hid (∀ (w : World), _) := fun w => bit_any w v hv 1 (by decide)
 have v8 : Int.tmod v 8 = v % 8 := Int.tmod_eq_emod_of_nonneg hv.1
 obtain ⟨w0, w1⟩ := hv
 have c35 : ∀ r : RC, (chV r)[35]? = some (.slice r.wp r.wl r.wc) := fun r => rfl
 have s32 := set_base
 have s34 := set_ends
 rw [← hnn]
 have h1b : ¬ wc - 1 = 0 := by omega
 clear V c0 hn hcell hnn hG hGW hCW hZW hW1 kW sW hr hk hown el hC2 hZ2 hC3 hZ3 K3 kk hwn k2 hb
 go_enter Tryz.func159, Tryz.ntmps159
 simp only [vl, vs, va, vb]
 clear vl vs va vb
 go_wp2_with (at_builtin; refine wpList_appN rfl _ _ rfl rfl rfl rfl HR.out ?_)
 exact bodyPost_ret (v := .agg (chV (⟨asks, srv, msk, up, (v - v % 8), told, ends, p, n, c⟩ : RC))) (ch_res Tryz.results159 _ _ (w.heap.size + 1) _ rfl E4.out) rfl ⟨p, c, rfl, W4.out, K4.out⟩
set_option maxRecDepth 20000 in
set_option maxHeartbeats 2000000 in
theorem rdata_2A (w : World) (r : RC) (v : Int) (hv : By v) (base : Nat) (l : List Int) (hl : l.length ≤ 10) (hb : base ≤ w.heap.size) (h1 : r.wc = 1) (h : Wn w base r.wp r.wl r.wc (2 :: l)) : Calls Tryz.prog 159 #[.agg (chV r), .int .u8 v] w fun e w' => ∃ p c, e = .returned (.agg (chV ⟨r.asks, r.srv, r.msk, r.up, r.base, r.told, r.ends, p, l.length, c⟩)) ∧ Wn w' w.heap.size p l.length c l ∧ Kp noB w w' := by
 obtain ⟨T, nI, Z, fs, ps, V⟩ := vlC
 obtain ⟨vl, vs, va, vb⟩ := V.ops
 have v1 := V.agg
 have v2 := V.size
 have v3 := V.zero
 have v4 := V.under
 have v5 := V.map
 have v6 := V.zs
 have cs : ∀ r : RC, (chV r).size = nI := fun r => by rw [V.s]; rfl
 obtain ⟨asks, srv, msk, up, bs, told, ends, wp, wl, wc⟩ := r
 obtain ⟨hn, hc, hcell⟩ := h
 obtain ⟨g, e1, e2, e3, c0⟩ := hcell 0 (by simp)
 simp only at e1 hn hc
 subst e1
 obtain ⟨n, hnn⟩ : ∃ n, n = l.length := ⟨_, rfl⟩
 have hn' : wl = n + 1 := by rw [hnn]; exact hn
 subst hn'
 simp only at h1
 subst h1
 obtain rfl : n = 0 := by omega
 have hG : NumAt w (some ⟨g, 0, none⟩) 0 (fun j => l.getD j 0) := fun j hj => by
  omega
 have c0' : w.cell? ⟨g, 0, none⟩ = some (.int .i64 2) := c0
 have HV : Hid (VlC T nI Z fs ps) := V
 obtain ⟨q, hq⟩ : ∃ q, q = w.heap.size := ⟨_, rfl⟩
 obtain ⟨W1, hW1⟩ : ∃ W1, W1 = (w.alloc (.cells (chV (⟨asks, srv, msk, up, bs, told, ends, (some ⟨g, 0, none⟩), 1, 1⟩ : RC)) T)).alloc (.cells Z T) := ⟨_, rfl⟩
 have sW : W1.heap.size = w.heap.size + 1 + 1 := by rw [hW1]; simp
 have kW : Kp noB w W1 := by rw [hW1]; exact (Kp.alloc _ _ _).trans (Kp.alloc _ _ _)
 have hCW : CAt W1 w.heap.size (⟨asks, srv, msk, up, bs, told, ends, (some ⟨g, 0, none⟩), 1, 1⟩ : RC) := by rw [hW1]; exact (V.at _ w).kept (Kp.alloc noB _ _) id
 have hZW : ZAt W1 (w.heap.size + 1) := by rw [hW1]; exact V.zat _ w
 have hGW : NumAt (W1.alloc (.cells #[] 3)) (some ⟨g, 0, none⟩) 0 (fun j => l.getD j 0) := fun j hj => by
  obtain ⟨b, o, f1, f2, f3⟩ := hG j hj
  exact ⟨b, o, f1, Nat.lt_of_lt_of_le f2 (kW.trans (Kp.alloc _ _ _)).size, cell_kept (cell_kept f3 kW id) (Kp.alloc noB _ _) id⟩
 obtain ⟨v', w', hr, hown, hk⟩ := appN_ok (w0 := W1) (Kp.alloc noB W1 _) (OwnN.new W1 _ (Nat.le_refl _) [] (by decide)) 0 hGW (by simp <;> omega)
 rw [List.nil_append] at hown
 obtain ⟨p, c, hv', hwn⟩ := hown.wn
 have el : rngN 0 (fun j => l.getD j 0) = l := by rw [hnn]; exact rng_self l
 rw [el, ← hnn] at hv' hwn
 subst hv'
 rw [sW] at hr hwn
 have hC2 := hCW.kept hk id
 have hZ2 := hZW.kept hk id
 have k2 : Kp noB w w' := kW.trans hk
 have d35 : w'.cell? ⟨w.heap.size, 35, none⟩ = some (.slice (some ⟨g, 0, none⟩) 1 1) := hC2.cell rfl
 have z35 := hC2.fz 35
 have hC3 : CAt (w'.setCell ⟨w.heap.size, 35, none⟩ (.slice p 0 c)) w.heap.size (⟨asks, srv, msk, up, bs, told, ends, p, 0, c⟩ : RC) := hC2.set (set_want _ p 0 c)
 have hZ3 : ZAt (w'.setCell ⟨w.heap.size, 35, none⟩ (.slice p 0 c)) (w.heap.size + 1) := hZ2.kept (kpB w.heap.size _ _ _) (by show ¬ w.heap.size + 1 = w.heap.size; omega)
 have L3 := V.get hC3
 have S3 := hZ3.put (⟨asks, srv, msk, up, bs, told, ends, p, 0, c⟩ : RC)
 have E4 : Hid _ := hZ3.got (⟨asks, srv, msk, up, bs, told, ends, p, 0, c⟩ : RC)
 have K3 : Kp noB w (w'.setCell ⟨w.heap.size, 35, none⟩ (.slice p 0 c)) := k2.new (Nat.le_refl _) _
 have K4 : Hid (Kp noB w ((w'.setCell ⟨w.heap.size, 35, none⟩ (.slice p 0 c)).setRow (w.heap.size + 1) (chV (⟨asks, srv, msk, up, bs, told, ends, p, 0, c⟩ : RC)))) := K3.newRow (by omega) _
 have kk : Kp (fun j => j = w.heap.size ∨ j = w.heap.size + 1) w' ((w'.setCell ⟨w.heap.size, 35, none⟩ (.slice p 0 c)).setRow (w.heap.size + 1) (chV (⟨asks, srv, msk, up, bs, told, ends, p, 0, c⟩ : RC))) := (Kp.setCell (S := fun j => j = w.heap.size ∨ j = w.heap.size + 1) w' (p := ⟨w.heap.size, 35, none⟩) (Or.inl rfl) _).trans (Kp.setRow _ (Or.inr rfl) _)
 have W4 : Hid (Wn ((w'.setCell ⟨w.heap.size, 35, none⟩ (.slice p 0 c)).setRow (w.heap.size + 1) (chV (⟨asks, srv, msk, up, bs, told, ends, p, 0, c⟩ : RC))) w.heap.size p 0 c l) := (hwn.kept kk (fun j hj f => by rcases f with f | f <;> omega)).mono (by omega)
 have HR : Hid _ := hr
 rw [hW1] at HR
 have HBt : Hid (∀ (w : World), _) := fun w => bit_any w v hv 1 (by decide)
 have v8 : Int.tmod v 8 = v % 8 := Int.tmod_eq_emod_of_nonneg hv.1
 obtain ⟨w0, w1⟩ := hv
 have c35 : ∀ r : RC, (chV r)[35]? = some (.slice r.wp r.wl r.wc) := fun r => rfl
 have s32 := set_base
 have s34 := set_ends
 rw [← hnn]
 clear V c0 hn hcell hnn hG hGW hCW hZW hW1 kW sW hr hk hown el hC2 hZ2 hC3 hZ3 K3 kk hwn k2 hb
 go_enter Tryz.func159, Tryz.ntmps159
 simp only [vl, vs, va, vb]
 clear vl vs va vb
 go_wp2_with (at_builtin; refine wpList_appN rfl _ _ rfl rfl rfl rfl HR.out ?_)
 exact bodyPost_ret (v := .agg (chV (⟨asks, srv, msk, up, bs, told, ends, p, 0, c⟩ : RC))) (ch_res Tryz.results159 _ _ (w.heap.size + 1) _ rfl E4.out) rfl ⟨p, c, rfl, W4.out, K4.out⟩
set_option maxRecDepth 20000 in
set_option maxHeartbeats 2000000 in
theorem rdata_2B (w : World) (r : RC) (v : Int) (hv : By v) (base : Nat) (l : List Int) (hl : l.length ≤ 10) (hb : base ≤ w.heap.size) (h1 : 1 < r.wc) (h : Wn w base r.wp r.wl r.wc (2 :: l)) : Calls Tryz.prog 159 #[.agg (chV r), .int .u8 v] w fun e w' => ∃ p c, e = .returned (.agg (chV ⟨r.asks, r.srv, r.msk, r.up, r.base, r.told, r.ends, p, l.length, c⟩)) ∧ Wn w' w.heap.size p l.length c l ∧ Kp noB w w' := by
 obtain ⟨T, nI, Z, fs, ps, V⟩ := vlC
 obtain ⟨vl, vs, va, vb⟩ := V.ops
 have v1 := V.agg
 have v2 := V.size
 have v3 := V.zero
 have v4 := V.under
 have v5 := V.map
 have v6 := V.zs
 have cs : ∀ r : RC, (chV r).size = nI := fun r => by rw [V.s]; rfl
 obtain ⟨asks, srv, msk, up, bs, told, ends, wp, wl, wc⟩ := r
 obtain ⟨hn, hc, hcell⟩ := h
 obtain ⟨g, e1, e2, e3, c0⟩ := hcell 0 (by simp)
 simp only at e1 hn hc
 subst e1
 obtain ⟨n, hnn⟩ : ∃ n, n = l.length := ⟨_, rfl⟩
 have hn' : wl = n + 1 := by rw [hnn]; exact hn
 subst hn'
 simp only at h1
 have hG : NumAt w (some ⟨g, 1, none⟩) n (fun j => l.getD j 0) := fun j hj => by
  obtain ⟨g', f1, f2, f3, f4⟩ := hcell (j + 1) (by simp; omega)
  injection f1 with f1
  injection f1 with f1
  subst f1
  exact ⟨g, 1, rfl, f3, by rw [Nat.add_comm]; exact f4⟩
 have c0' : w.cell? ⟨g, 0, none⟩ = some (.int .i64 2) := c0
 have HV : Hid (VlC T nI Z fs ps) := V
 obtain ⟨q, hq⟩ : ∃ q, q = w.heap.size := ⟨_, rfl⟩
 obtain ⟨W1, hW1⟩ : ∃ W1, W1 = (w.alloc (.cells (chV (⟨asks, srv, msk, up, bs, told, ends, (some ⟨g, 0, none⟩), (n + 1), wc⟩ : RC)) T)).alloc (.cells Z T) := ⟨_, rfl⟩
 have sW : W1.heap.size = w.heap.size + 1 + 1 := by rw [hW1]; simp
 have kW : Kp noB w W1 := by rw [hW1]; exact (Kp.alloc _ _ _).trans (Kp.alloc _ _ _)
 have hCW : CAt W1 w.heap.size (⟨asks, srv, msk, up, bs, told, ends, (some ⟨g, 0, none⟩), (n + 1), wc⟩ : RC) := by rw [hW1]; exact (V.at _ w).kept (Kp.alloc noB _ _) id
 have hZW : ZAt W1 (w.heap.size + 1) := by rw [hW1]; exact V.zat _ w
 have hGW : NumAt (W1.alloc (.cells #[] 3)) (some ⟨g, 1, none⟩) n (fun j => l.getD j 0) := fun j hj => by
  obtain ⟨b, o, f1, f2, f3⟩ := hG j hj
  exact ⟨b, o, f1, Nat.lt_of_lt_of_le f2 (kW.trans (Kp.alloc _ _ _)).size, cell_kept (cell_kept f3 kW id) (Kp.alloc noB _ _) id⟩
 obtain ⟨v', w', hr, hown, hk⟩ := appN_ok (w0 := W1) (Kp.alloc noB W1 _) (OwnN.new W1 _ (Nat.le_refl _) [] (by decide)) (wc - 1) hGW (by simp <;> omega)
 rw [List.nil_append] at hown
 obtain ⟨p, c, hv', hwn⟩ := hown.wn
 have el : rngN n (fun j => l.getD j 0) = l := by rw [hnn]; exact rng_self l
 rw [el, ← hnn] at hv' hwn
 subst hv'
 rw [sW] at hr hwn
 have hC2 := hCW.kept hk id
 have hZ2 := hZW.kept hk id
 have k2 : Kp noB w w' := kW.trans hk
 have d35 : w'.cell? ⟨w.heap.size, 35, none⟩ = some (.slice (some ⟨g, 0, none⟩) (n + 1) wc) := hC2.cell rfl
 have z35 := hC2.fz 35
 have hC3 : CAt (w'.setCell ⟨w.heap.size, 35, none⟩ (.slice p n c)) w.heap.size (⟨asks, srv, msk, up, bs, told, ends, p, n, c⟩ : RC) := hC2.set (set_want _ p n c)
 have hZ3 : ZAt (w'.setCell ⟨w.heap.size, 35, none⟩ (.slice p n c)) (w.heap.size + 1) := hZ2.kept (kpB w.heap.size _ _ _) (by show ¬ w.heap.size + 1 = w.heap.size; omega)
 have L3 := V.get hC3
 have S3 := hZ3.put (⟨asks, srv, msk, up, bs, told, ends, p, n, c⟩ : RC)
 have E4 : Hid _ := hZ3.got (⟨asks, srv, msk, up, bs, told, ends, p, n, c⟩ : RC)
 have K3 : Kp noB w (w'.setCell ⟨w.heap.size, 35, none⟩ (.slice p n c)) := k2.new (Nat.le_refl _) _
 have K4 : Hid (Kp noB w ((w'.setCell ⟨w.heap.size, 35, none⟩ (.slice p n c)).setRow (w.heap.size + 1) (chV (⟨asks, srv, msk, up, bs, told, ends, p, n, c⟩ : RC)))) := K3.newRow (by omega) _
 have kk : Kp (fun j => j = w.heap.size ∨ j = w.heap.size + 1) w' ((w'.setCell ⟨w.heap.size, 35, none⟩ (.slice p n c)).setRow (w.heap.size + 1) (chV (⟨asks, srv, msk, up, bs, told, ends, p, n, c⟩ : RC))) := (Kp.setCell (S := fun j => j = w.heap.size ∨ j = w.heap.size + 1) w' (p := ⟨w.heap.size, 35, none⟩) (Or.inl rfl) _).trans (Kp.setRow _ (Or.inr rfl) _)
 have W4 : Hid (Wn ((w'.setCell ⟨w.heap.size, 35, none⟩ (.slice p n c)).setRow (w.heap.size + 1) (chV (⟨asks, srv, msk, up, bs, told, ends, p, n, c⟩ : RC))) w.heap.size p n c l) := (hwn.kept kk (fun j hj f => by rcases f with f | f <;> omega)).mono (by omega)
 have HR : Hid _ := hr
 rw [hW1] at HR
 have HBt : Hid (∀ (w : World), _) := fun w => bit_any w v hv 1 (by decide)
 have v8 : Int.tmod v 8 = v % 8 := Int.tmod_eq_emod_of_nonneg hv.1
 obtain ⟨w0, w1⟩ := hv
 have c35 : ∀ r : RC, (chV r)[35]? = some (.slice r.wp r.wl r.wc) := fun r => rfl
 have s32 := set_base
 have s34 := set_ends
 rw [← hnn]
 have h1b : ¬ wc - 1 = 0 := by omega
 clear V c0 hn hcell hnn hG hGW hCW hZW hW1 kW sW hr hk hown el hC2 hZ2 hC3 hZ3 K3 kk hwn k2 hb
 go_enter Tryz.func159, Tryz.ntmps159
 simp only [vl, vs, va, vb]
 clear vl vs va vb
 go_wp2_with (at_builtin; refine wpList_appN rfl _ _ rfl rfl rfl rfl HR.out ?_)
 exact bodyPost_ret (v := .agg (chV (⟨asks, srv, msk, up, bs, told, ends, p, n, c⟩ : RC))) (ch_res Tryz.results159 _ _ (w.heap.size + 1) _ rfl E4.out) rfl ⟨p, c, rfl, W4.out, K4.out⟩
set_option maxRecDepth 20000 in
set_option maxHeartbeats 2000000 in
theorem rdata_3A (w : World) (r : RC) (v : Int) (hv : By v) (base : Nat) (l : List Int) (hl : l.length ≤ 10) (hb : base ≤ w.heap.size) (h1 : r.wc = 1) (h : Wn w base r.wp r.wl r.wc (3 :: l)) : Calls Tryz.prog 159 #[.agg (chV r), .int .u8 v] w fun e w' => ∃ p c, e = .returned (.agg (chV ⟨r.asks, r.srv, r.msk, r.up, r.base, r.told, (tb v 1), p, l.length, c⟩)) ∧ Wn w' w.heap.size p l.length c l ∧ Kp noB w w' := by
 obtain ⟨T, nI, Z, fs, ps, V⟩ := vlC
 obtain ⟨vl, vs, va, vb⟩ := V.ops
 have v1 := V.agg
 have v2 := V.size
 have v3 := V.zero
 have v4 := V.under
 have v5 := V.map
 have v6 := V.zs
 have cs : ∀ r : RC, (chV r).size = nI := fun r => by rw [V.s]; rfl
 obtain ⟨asks, srv, msk, up, bs, told, ends, wp, wl, wc⟩ := r
 obtain ⟨hn, hc, hcell⟩ := h
 obtain ⟨g, e1, e2, e3, c0⟩ := hcell 0 (by simp)
 simp only at e1 hn hc
 subst e1
 obtain ⟨n, hnn⟩ : ∃ n, n = l.length := ⟨_, rfl⟩
 have hn' : wl = n + 1 := by rw [hnn]; exact hn
 subst hn'
 simp only at h1
 subst h1
 obtain rfl : n = 0 := by omega
 have hG : NumAt w (some ⟨g, 0, none⟩) 0 (fun j => l.getD j 0) := fun j hj => by
  omega
 have c0' : w.cell? ⟨g, 0, none⟩ = some (.int .i64 3) := c0
 have HV : Hid (VlC T nI Z fs ps) := V
 obtain ⟨q, hq⟩ : ∃ q, q = w.heap.size := ⟨_, rfl⟩
 obtain ⟨W1, hW1⟩ : ∃ W1, W1 = (w.alloc (.cells (chV (⟨asks, srv, msk, up, bs, told, (tb v 1), (some ⟨g, 0, none⟩), 1, 1⟩ : RC)) T)).alloc (.cells Z T) := ⟨_, rfl⟩
 have sW : W1.heap.size = w.heap.size + 1 + 1 := by rw [hW1]; simp
 have kW : Kp noB w W1 := by rw [hW1]; exact (Kp.alloc _ _ _).trans (Kp.alloc _ _ _)
 have hCW : CAt W1 w.heap.size (⟨asks, srv, msk, up, bs, told, (tb v 1), (some ⟨g, 0, none⟩), 1, 1⟩ : RC) := by rw [hW1]; exact (V.at _ w).kept (Kp.alloc noB _ _) id
 have hZW : ZAt W1 (w.heap.size + 1) := by rw [hW1]; exact V.zat _ w
 have hGW : NumAt (W1.alloc (.cells #[] 3)) (some ⟨g, 0, none⟩) 0 (fun j => l.getD j 0) := fun j hj => by
  obtain ⟨b, o, f1, f2, f3⟩ := hG j hj
  exact ⟨b, o, f1, Nat.lt_of_lt_of_le f2 (kW.trans (Kp.alloc _ _ _)).size, cell_kept (cell_kept f3 kW id) (Kp.alloc noB _ _) id⟩
 obtain ⟨v', w', hr, hown, hk⟩ := appN_ok (w0 := W1) (Kp.alloc noB W1 _) (OwnN.new W1 _ (Nat.le_refl _) [] (by decide)) 0 hGW (by simp <;> omega)
 rw [List.nil_append] at hown
 obtain ⟨p, c, hv', hwn⟩ := hown.wn
 have el : rngN 0 (fun j => l.getD j 0) = l := by rw [hnn]; exact rng_self l
 rw [el, ← hnn] at hv' hwn
 subst hv'
 rw [sW] at hr hwn
 have hC2 := hCW.kept hk id
 have hZ2 := hZW.kept hk id
 have k2 : Kp noB w w' := kW.trans hk
 have d35 : w'.cell? ⟨w.heap.size, 35, none⟩ = some (.slice (some ⟨g, 0, none⟩) 1 1) := hC2.cell rfl
 have z35 := hC2.fz 35
 have hC3 : CAt (w'.setCell ⟨w.heap.size, 35, none⟩ (.slice p 0 c)) w.heap.size (⟨asks, srv, msk, up, bs, told, (tb v 1), p, 0, c⟩ : RC) := hC2.set (set_want _ p 0 c)
 have hZ3 : ZAt (w'.setCell ⟨w.heap.size, 35, none⟩ (.slice p 0 c)) (w.heap.size + 1) := hZ2.kept (kpB w.heap.size _ _ _) (by show ¬ w.heap.size + 1 = w.heap.size; omega)
 have L3 := V.get hC3
 have S3 := hZ3.put (⟨asks, srv, msk, up, bs, told, (tb v 1), p, 0, c⟩ : RC)
 have E4 : Hid _ := hZ3.got (⟨asks, srv, msk, up, bs, told, (tb v 1), p, 0, c⟩ : RC)
 have K3 : Kp noB w (w'.setCell ⟨w.heap.size, 35, none⟩ (.slice p 0 c)) := k2.new (Nat.le_refl _) _
 have K4 : Hid (Kp noB w ((w'.setCell ⟨w.heap.size, 35, none⟩ (.slice p 0 c)).setRow (w.heap.size + 1) (chV (⟨asks, srv, msk, up, bs, told, (tb v 1), p, 0, c⟩ : RC)))) := K3.newRow (by omega) _
 have kk : Kp (fun j => j = w.heap.size ∨ j = w.heap.size + 1) w' ((w'.setCell ⟨w.heap.size, 35, none⟩ (.slice p 0 c)).setRow (w.heap.size + 1) (chV (⟨asks, srv, msk, up, bs, told, (tb v 1), p, 0, c⟩ : RC))) := (Kp.setCell (S := fun j => j = w.heap.size ∨ j = w.heap.size + 1) w' (p := ⟨w.heap.size, 35, none⟩) (Or.inl rfl) _).trans (Kp.setRow _ (Or.inr rfl) _)
 have W4 : Hid (Wn ((w'.setCell ⟨w.heap.size, 35, none⟩ (.slice p 0 c)).setRow (w.heap.size + 1) (chV (⟨asks, srv, msk, up, bs, told, (tb v 1), p, 0, c⟩ : RC))) w.heap.size p 0 c l) := (hwn.kept kk (fun j hj f => by rcases f with f | f <;> omega)).mono (by omega)
 have HR : Hid _ := hr
 rw [hW1] at HR
 have HBt : Hid (∀ (w : World), _) := fun w => bit_any w v hv 1 (by decide)
 have v8 : Int.tmod v 8 = v % 8 := Int.tmod_eq_emod_of_nonneg hv.1
 obtain ⟨w0, w1⟩ := hv
 have c35 : ∀ r : RC, (chV r)[35]? = some (.slice r.wp r.wl r.wc) := fun r => rfl
 have s32 := set_base
 have s34 := set_ends
 rw [← hnn]
 clear V c0 hn hcell hnn hG hGW hCW hZW hW1 kW sW hr hk hown el hC2 hZ2 hC3 hZ3 K3 kk hwn k2 hb
 go_enter Tryz.func159, Tryz.ntmps159
 simp only [vl, vs, va, vb]
 clear vl vs va vb
 go_wp2_with fail
 refine Calls.mono (HBt.out _) ?_; rintro e v1 ⟨rfl, hw⟩; replace hw := hw.symm; subst hw
 go_wp2_with (at_builtin; refine wpList_appN rfl _ _ rfl rfl rfl rfl HR.out ?_)
 exact bodyPost_ret (v := .agg (chV (⟨asks, srv, msk, up, bs, told, (tb v 1), p, 0, c⟩ : RC))) (ch_res Tryz.results159 _ _ (w.heap.size + 1) _ rfl E4.out) rfl ⟨p, c, rfl, W4.out, K4.out⟩
set_option maxRecDepth 20000 in
set_option maxHeartbeats 2000000 in
theorem rdata_3B (w : World) (r : RC) (v : Int) (hv : By v) (base : Nat) (l : List Int) (hl : l.length ≤ 10) (hb : base ≤ w.heap.size) (h1 : 1 < r.wc) (h : Wn w base r.wp r.wl r.wc (3 :: l)) : Calls Tryz.prog 159 #[.agg (chV r), .int .u8 v] w fun e w' => ∃ p c, e = .returned (.agg (chV ⟨r.asks, r.srv, r.msk, r.up, r.base, r.told, (tb v 1), p, l.length, c⟩)) ∧ Wn w' w.heap.size p l.length c l ∧ Kp noB w w' := by
 obtain ⟨T, nI, Z, fs, ps, V⟩ := vlC
 obtain ⟨vl, vs, va, vb⟩ := V.ops
 have v1 := V.agg
 have v2 := V.size
 have v3 := V.zero
 have v4 := V.under
 have v5 := V.map
 have v6 := V.zs
 have cs : ∀ r : RC, (chV r).size = nI := fun r => by rw [V.s]; rfl
 obtain ⟨asks, srv, msk, up, bs, told, ends, wp, wl, wc⟩ := r
 obtain ⟨hn, hc, hcell⟩ := h
 obtain ⟨g, e1, e2, e3, c0⟩ := hcell 0 (by simp)
 simp only at e1 hn hc
 subst e1
 obtain ⟨n, hnn⟩ : ∃ n, n = l.length := ⟨_, rfl⟩
 have hn' : wl = n + 1 := by rw [hnn]; exact hn
 subst hn'
 simp only at h1
 have hG : NumAt w (some ⟨g, 1, none⟩) n (fun j => l.getD j 0) := fun j hj => by
  obtain ⟨g', f1, f2, f3, f4⟩ := hcell (j + 1) (by simp; omega)
  injection f1 with f1
  injection f1 with f1
  subst f1
  exact ⟨g, 1, rfl, f3, by rw [Nat.add_comm]; exact f4⟩
 have c0' : w.cell? ⟨g, 0, none⟩ = some (.int .i64 3) := c0
 have HV : Hid (VlC T nI Z fs ps) := V
 obtain ⟨q, hq⟩ : ∃ q, q = w.heap.size := ⟨_, rfl⟩
 obtain ⟨W1, hW1⟩ : ∃ W1, W1 = (w.alloc (.cells (chV (⟨asks, srv, msk, up, bs, told, (tb v 1), (some ⟨g, 0, none⟩), (n + 1), wc⟩ : RC)) T)).alloc (.cells Z T) := ⟨_, rfl⟩
 have sW : W1.heap.size = w.heap.size + 1 + 1 := by rw [hW1]; simp
 have kW : Kp noB w W1 := by rw [hW1]; exact (Kp.alloc _ _ _).trans (Kp.alloc _ _ _)
 have hCW : CAt W1 w.heap.size (⟨asks, srv, msk, up, bs, told, (tb v 1), (some ⟨g, 0, none⟩), (n + 1), wc⟩ : RC) := by rw [hW1]; exact (V.at _ w).kept (Kp.alloc noB _ _) id
 have hZW : ZAt W1 (w.heap.size + 1) := by rw [hW1]; exact V.zat _ w
 have hGW : NumAt (W1.alloc (.cells #[] 3)) (some ⟨g, 1, none⟩) n (fun j => l.getD j 0) := fun j hj => by
  obtain ⟨b, o, f1, f2, f3⟩ := hG j hj
  exact ⟨b, o, f1, Nat.lt_of_lt_of_le f2 (kW.trans (Kp.alloc _ _ _)).size, cell_kept (cell_kept f3 kW id) (Kp.alloc noB _ _) id⟩
 obtain ⟨v', w', hr, hown, hk⟩ := appN_ok (w0 := W1) (Kp.alloc noB W1 _) (OwnN.new W1 _ (Nat.le_refl _) [] (by decide)) (wc - 1) hGW (by simp <;> omega)
 rw [List.nil_append] at hown
 obtain ⟨p, c, hv', hwn⟩ := hown.wn
 have el : rngN n (fun j => l.getD j 0) = l := by rw [hnn]; exact rng_self l
 rw [el, ← hnn] at hv' hwn
 subst hv'
 rw [sW] at hr hwn
 have hC2 := hCW.kept hk id
 have hZ2 := hZW.kept hk id
 have k2 : Kp noB w w' := kW.trans hk
 have d35 : w'.cell? ⟨w.heap.size, 35, none⟩ = some (.slice (some ⟨g, 0, none⟩) (n + 1) wc) := hC2.cell rfl
 have z35 := hC2.fz 35
 have hC3 : CAt (w'.setCell ⟨w.heap.size, 35, none⟩ (.slice p n c)) w.heap.size (⟨asks, srv, msk, up, bs, told, (tb v 1), p, n, c⟩ : RC) := hC2.set (set_want _ p n c)
 have hZ3 : ZAt (w'.setCell ⟨w.heap.size, 35, none⟩ (.slice p n c)) (w.heap.size + 1) := hZ2.kept (kpB w.heap.size _ _ _) (by show ¬ w.heap.size + 1 = w.heap.size; omega)
 have L3 := V.get hC3
 have S3 := hZ3.put (⟨asks, srv, msk, up, bs, told, (tb v 1), p, n, c⟩ : RC)
 have E4 : Hid _ := hZ3.got (⟨asks, srv, msk, up, bs, told, (tb v 1), p, n, c⟩ : RC)
 have K3 : Kp noB w (w'.setCell ⟨w.heap.size, 35, none⟩ (.slice p n c)) := k2.new (Nat.le_refl _) _
 have K4 : Hid (Kp noB w ((w'.setCell ⟨w.heap.size, 35, none⟩ (.slice p n c)).setRow (w.heap.size + 1) (chV (⟨asks, srv, msk, up, bs, told, (tb v 1), p, n, c⟩ : RC)))) := K3.newRow (by omega) _
 have kk : Kp (fun j => j = w.heap.size ∨ j = w.heap.size + 1) w' ((w'.setCell ⟨w.heap.size, 35, none⟩ (.slice p n c)).setRow (w.heap.size + 1) (chV (⟨asks, srv, msk, up, bs, told, (tb v 1), p, n, c⟩ : RC))) := (Kp.setCell (S := fun j => j = w.heap.size ∨ j = w.heap.size + 1) w' (p := ⟨w.heap.size, 35, none⟩) (Or.inl rfl) _).trans (Kp.setRow _ (Or.inr rfl) _)
 have W4 : Hid (Wn ((w'.setCell ⟨w.heap.size, 35, none⟩ (.slice p n c)).setRow (w.heap.size + 1) (chV (⟨asks, srv, msk, up, bs, told, (tb v 1), p, n, c⟩ : RC))) w.heap.size p n c l) := (hwn.kept kk (fun j hj f => by rcases f with f | f <;> omega)).mono (by omega)
 have HR : Hid _ := hr
 rw [hW1] at HR
 have HBt : Hid (∀ (w : World), _) := fun w => bit_any w v hv 1 (by decide)
 have v8 : Int.tmod v 8 = v % 8 := Int.tmod_eq_emod_of_nonneg hv.1
 obtain ⟨w0, w1⟩ := hv
 have c35 : ∀ r : RC, (chV r)[35]? = some (.slice r.wp r.wl r.wc) := fun r => rfl
 have s32 := set_base
 have s34 := set_ends
 rw [← hnn]
 have h1b : ¬ wc - 1 = 0 := by omega
 clear V c0 hn hcell hnn hG hGW hCW hZW hW1 kW sW hr hk hown el hC2 hZ2 hC3 hZ3 K3 kk hwn k2 hb
 go_enter Tryz.func159, Tryz.ntmps159
 simp only [vl, vs, va, vb]
 clear vl vs va vb
 go_wp2_with fail
 refine Calls.mono (HBt.out _) ?_; rintro e v1 ⟨rfl, hw⟩; replace hw := hw.symm; subst hw
 go_wp2_with (at_builtin; refine wpList_appN rfl _ _ rfl rfl rfl rfl HR.out ?_)
 exact bodyPost_ret (v := .agg (chV (⟨asks, srv, msk, up, bs, told, (tb v 1), p, n, c⟩ : RC))) (ch_res Tryz.results159 _ _ (w.heap.size + 1) _ rfl E4.out) rfl ⟨p, c, rfl, W4.out, K4.out⟩
set_option maxRecDepth 20000 in
set_option maxHeartbeats 1000000 in
theorem rcmd_n (w : World) (r : RC) (v : Int) (hv : By v) (b4 : tb v 4 = false) (b3 : tb v 3 = true) (b1 : tb v 1 = false) : Calls Tryz.prog 158 #[.agg (chV r), .int .u8 v] w fun e w' => e = .returned (.agg (chV r)) ∧ Kp noB w w' := by
 obtain ⟨T, nI, Z, fs, ps, V⟩ := vlC
 obtain ⟨vl, vs, va, vb⟩ := V.ops
 have v1 := V.agg
 have v2 := V.size
 have v3 := V.zero
 have v4 := V.under
 have v5 := V.map
 have v6 := V.zs
 have cs : ∀ r : RC, (chV r).size = nI := fun r => by rw [V.s]; rfl
 have HV : Hid (VlC T nI Z fs ps) := V
 have HBt : Hid (∀ (w : World) (n : Nat), n < 8 → _) := fun w n hn => bit_any w v hv n hn
 have v32 : Int.tdiv v 32 = v / 32 := Int.tdiv_eq_ediv_of_nonneg hv.1
 have v8 : Int.tmod v 8 = v % 8 := Int.tmod_eq_emod_of_nonneg hv.1
 obtain ⟨u0, u1⟩ := hv
 obtain ⟨q, hq⟩ : ∃ q, q = w.heap.size := ⟨_, rfl⟩
 have lq : Hid (w.heap.size ≤ q) := Nat.le_of_eq hq.symm
 have hC : Hid (CAt (((w.alloc (.cells (chV r) T)).alloc (.cells Z T)).alloc (.cells (row8 (fun _ => false)) 137)) q r) := by rw [hq]; exact ((V.at r w).kept (Kp.alloc noB _ _) id).kept (Kp.alloc noB _ _) id
 have hZ : Hid (ZAt (((w.alloc (.cells (chV r) T)).alloc (.cells Z T)).alloc (.cells (row8 (fun _ => false)) 137)) (q + 1)) := by rw [hq]; exact (V.zat _ w).kept (Kp.alloc noB _ _) id
 have hK : Hid (Kp noB w (((w.alloc (.cells (chV r) T)).alloc (.cells Z T)).alloc (.cells (row8 (fun _ => false)) 137))) := ((Kp.alloc _ _ _).trans (Kp.alloc _ _ _)).trans (Kp.alloc _ _ _)
 clear V
 unfold row8 at *
 go_enter Tryz.func158, Tryz.ntmps158
 simp only [vl, vs, va, vb]
 clear vl vs va vb
 go_wp2_with fail
 rw [← hq]
 generalize ((w.alloc (.cells (chV r) T)).alloc (.cells Z T)).alloc (.cells #[.bool false, .bool false, .bool false, .bool false, .bool false, .bool false, .bool false, .bool false] 137) = w0 at hC hZ hK ⊢
 clear hq
 refine Calls.mono (HBt.out _ 4 (by decide)) ?_; rintro e x1 ⟨he, hw⟩; replace hw := hw.symm; subst hw
 rw [b4] at he; subst he
 go_wp2_with fail
 refine Calls.mono (HBt.out _ 3 (by decide)) ?_; rintro e x1 ⟨he, hw⟩; replace hw := hw.symm; subst hw
 rw [b3] at he; subst he
 go_wp2_with fail
 refine Calls.mono (HBt.out _ 1 (by decide)) ?_; rintro e x1 ⟨he, hw⟩; replace hw := hw.symm; subst hw
 rw [b1] at he; subst he
 have L := HV.out.get hC.out
 have S := hZ.out.put r
 have E : Hid (CAt (w0.setRow (q + 1) (chV r)) (q + 1) r) := hZ.out.got _
 have K : Hid (Kp noB w (w0.setRow (q + 1) (chV r))) := hK.out.newRow (by have := lq.out; omega) _
 go_wp2
 exact bodyPost_ret (v := .agg (chV r)) (ch_res Tryz.results158 _ _ (q + 1) _ rfl E.out) rfl ⟨rfl, K.out⟩
set_option maxRecDepth 20000 in
set_option maxHeartbeats 1000000 in
theorem rcmd_t (w : World) (r : RC) (v : Int) (hv : By v) (b4 : tb v 4 = false) (b3 : tb v 3 = true) (b1 : tb v 1 = true) : Calls Tryz.prog 158 #[.agg (chV r), .int .u8 v] w fun e w' => e = .returned (.agg (chV { r with told := tb v 0 })) ∧ Kp noB w w' := by
 obtain ⟨T, nI, Z, fs, ps, V⟩ := vlC
 obtain ⟨vl, vs, va, vb⟩ := V.ops
 have v1 := V.agg
 have v2 := V.size
 have v3 := V.zero
 have v4 := V.under
 have v5 := V.map
 have v6 := V.zs
 have cs : ∀ r : RC, (chV r).size = nI := fun r => by rw [V.s]; rfl
 have HV : Hid (VlC T nI Z fs ps) := V
 have HBt : Hid (∀ (w : World) (n : Nat), n < 8 → _) := fun w n hn => bit_any w v hv n hn
 have v32 : Int.tdiv v 32 = v / 32 := Int.tdiv_eq_ediv_of_nonneg hv.1
 have v8 : Int.tmod v 8 = v % 8 := Int.tmod_eq_emod_of_nonneg hv.1
 obtain ⟨u0, u1⟩ := hv
 obtain ⟨q, hq⟩ : ∃ q, q = w.heap.size := ⟨_, rfl⟩
 have lq : Hid (w.heap.size ≤ q) := Nat.le_of_eq hq.symm
 have hC : Hid (CAt (((w.alloc (.cells (chV r) T)).alloc (.cells Z T)).alloc (.cells (row8 (fun _ => false)) 137)) q r) := by rw [hq]; exact ((V.at r w).kept (Kp.alloc noB _ _) id).kept (Kp.alloc noB _ _) id
 have hZ : Hid (ZAt (((w.alloc (.cells (chV r) T)).alloc (.cells Z T)).alloc (.cells (row8 (fun _ => false)) 137)) (q + 1)) := by rw [hq]; exact (V.zat _ w).kept (Kp.alloc noB _ _) id
 have hK : Hid (Kp noB w (((w.alloc (.cells (chV r) T)).alloc (.cells Z T)).alloc (.cells (row8 (fun _ => false)) 137))) := ((Kp.alloc _ _ _).trans (Kp.alloc _ _ _)).trans (Kp.alloc _ _ _)
 clear V
 unfold row8 at *
 go_enter Tryz.func158, Tryz.ntmps158
 simp only [vl, vs, va, vb]
 clear vl vs va vb
 go_wp2_with fail
 rw [← hq]
 generalize ((w.alloc (.cells (chV r) T)).alloc (.cells Z T)).alloc (.cells #[.bool false, .bool false, .bool false, .bool false, .bool false, .bool false, .bool false, .bool false] 137) = w0 at hC hZ hK ⊢
 clear hq
 refine Calls.mono (HBt.out _ 4 (by decide)) ?_; rintro e x1 ⟨he, hw⟩; replace hw := hw.symm; subst hw
 rw [b4] at he; subst he
 go_wp2_with fail
 refine Calls.mono (HBt.out _ 3 (by decide)) ?_; rintro e x1 ⟨he, hw⟩; replace hw := hw.symm; subst hw
 rw [b3] at he; subst he
 go_wp2_with fail
 refine Calls.mono (HBt.out _ 1 (by decide)) ?_; rintro e x1 ⟨he, hw⟩; replace hw := hw.symm; subst hw
 rw [b1] at he; subst he
 have c33 : w0.cell? ⟨q, 33, none⟩ = some (.bool r.told) := hC.out.cell rfl
 have z33 := hC.out.fz 33
 have hC1 : CAt (w0.setCell ⟨q, 33, none⟩ (.bool (tb v 0))) q { r with told := tb v 0 } := hC.out.set (set_told r _)
 have hZ1 : ZAt (w0.setCell ⟨q, 33, none⟩ (.bool (tb v 0))) (q + 1) := hZ.out.kept (kpB q _ _ _) (by show ¬ q + 1 = q; omega)
 have L := HV.out.get hC1
 have S := hZ1.put { r with told := tb v 0 }
 have E : Hid (CAt ((w0.setCell ⟨q, 33, none⟩ (.bool (tb v 0))).setRow (q + 1) (chV { r with told := tb v 0 })) (q + 1) { r with told := tb v 0 }) := hZ1.got _
 have K : Hid (Kp noB w ((w0.setCell ⟨q, 33, none⟩ (.bool (tb v 0))).setRow (q + 1) (chV { r with told := tb v 0 }))) := (hK.out.new lq.out _).newRow (by have := lq.out; omega) _
 clear hC1 hZ1
 go_wp2_with fail
 refine Calls.mono (HBt.out _ 0 (by decide)) ?_; rintro e x1 ⟨rfl, hw⟩; replace hw := hw.symm; subst hw
 go_wp2
 exact bodyPost_ret (v := .agg (chV { r with told := tb v 0 })) (ch_res Tryz.results158 _ _ (q + 1) _ rfl E.out) rfl ⟨rfl, K.out⟩
set_option maxRecDepth 20000 in
set_option maxHeartbeats 1000000 in
theorem rcmd_o (w : World) (r : RC) (v : Int) (hv : By v) (b4 : tb v 4 = false) (b3 : tb v 3 = false) (n1 : ¬ v / 32 = 1) (n3 : ¬ v / 32 = 3) : Calls Tryz.prog 158 #[.agg (chV r), .int .u8 v] w fun e w' => e = .returned (.agg (chV r)) ∧ Kp noB w w' := by
 obtain ⟨T, nI, Z, fs, ps, V⟩ := vlC
 obtain ⟨vl, vs, va, vb⟩ := V.ops
 have v1 := V.agg
 have v2 := V.size
 have v3 := V.zero
 have v4 := V.under
 have v5 := V.map
 have v6 := V.zs
 have cs : ∀ r : RC, (chV r).size = nI := fun r => by rw [V.s]; rfl
 have HV : Hid (VlC T nI Z fs ps) := V
 have HBt : Hid (∀ (w : World) (n : Nat), n < 8 → _) := fun w n hn => bit_any w v hv n hn
 have v32 : Int.tdiv v 32 = v / 32 := Int.tdiv_eq_ediv_of_nonneg hv.1
 have v8 : Int.tmod v 8 = v % 8 := Int.tmod_eq_emod_of_nonneg hv.1
 obtain ⟨u0, u1⟩ := hv
 obtain ⟨q, hq⟩ : ∃ q, q = w.heap.size := ⟨_, rfl⟩
 have lq : Hid (w.heap.size ≤ q) := Nat.le_of_eq hq.symm
 have hC : Hid (CAt (((w.alloc (.cells (chV r) T)).alloc (.cells Z T)).alloc (.cells (row8 (fun _ => false)) 137)) q r) := by rw [hq]; exact ((V.at r w).kept (Kp.alloc noB _ _) id).kept (Kp.alloc noB _ _) id
 have hZ : Hid (ZAt (((w.alloc (.cells (chV r) T)).alloc (.cells Z T)).alloc (.cells (row8 (fun _ => false)) 137)) (q + 1)) := by rw [hq]; exact (V.zat _ w).kept (Kp.alloc noB _ _) id
 have hK : Hid (Kp noB w (((w.alloc (.cells (chV r) T)).alloc (.cells Z T)).alloc (.cells (row8 (fun _ => false)) 137))) := ((Kp.alloc _ _ _).trans (Kp.alloc _ _ _)).trans (Kp.alloc _ _ _)
 clear V
 unfold row8 at *
 go_enter Tryz.func158, Tryz.ntmps158
 simp only [vl, vs, va, vb]
 clear vl vs va vb
 go_wp2_with fail
 rw [← hq]
 generalize ((w.alloc (.cells (chV r) T)).alloc (.cells Z T)).alloc (.cells #[.bool false, .bool false, .bool false, .bool false, .bool false, .bool false, .bool false, .bool false] 137) = w0 at hC hZ hK ⊢
 clear hq
 refine Calls.mono (HBt.out _ 4 (by decide)) ?_; rintro e x1 ⟨he, hw⟩; replace hw := hw.symm; subst hw
 rw [b4] at he; subst he
 go_wp2_with fail
 refine Calls.mono (HBt.out _ 3 (by decide)) ?_; rintro e x1 ⟨he, hw⟩; replace hw := hw.symm; subst hw
 rw [b3] at he; subst he
 have L := HV.out.get hC.out
 have S := hZ.out.put r
 have E : Hid (CAt (w0.setRow (q + 1) (chV r)) (q + 1) r) := hZ.out.got _
 have K : Hid (Kp noB w (w0.setRow (q + 1) (chV r))) := hK.out.newRow (by have := lq.out; omega) _
 have m1 : (v / 32 == 1) = false := by simpa using n1
 have m3 : (v / 32 == 3) = false := by simpa using n3
 go_wp2
 exact bodyPost_ret (v := .agg (chV r)) (ch_res Tryz.results158 _ _ (q + 1) _ rfl E.out) rfl ⟨rfl, K.out⟩
set_option maxRecDepth 20000 in
set_option maxHeartbeats 1000000 in
theorem rcmd_d (w : World) (r : RC) (v : Int) (hv : By v) (b4 : tb v 4 = false) (b3 : tb v 3 = false) (n3 : v / 32 = 3) (N : Nat) (hN : v % 8 = N) : Calls Tryz.prog 158 #[.agg (chV r), .int .u8 v] w fun e w' => e = .returned (.agg (chV { r with srv := upd r.srv N false })) ∧ Kp noB w w' := by
 obtain ⟨T, nI, Z, fs, ps, V⟩ := vlC
 obtain ⟨vl, vs, va, vb⟩ := V.ops
 have v1 := V.agg
 have v2 := V.size
 have v3 := V.zero
 have v4 := V.under
 have v5 := V.map
 have v6 := V.zs
 have cs : ∀ r : RC, (chV r).size = nI := fun r => by rw [V.s]; rfl
 have HV : Hid (VlC T nI Z fs ps) := V
 have HBt : Hid (∀ (w : World) (n : Nat), n < 8 → _) := fun w n hn => bit_any w v hv n hn
 have v32 : Int.tdiv v 32 = v / 32 := Int.tdiv_eq_ediv_of_nonneg hv.1
 have v8 : Int.tmod v 8 = v % 8 := Int.tmod_eq_emod_of_nonneg hv.1
 obtain ⟨u0, u1⟩ := hv
 obtain ⟨q, hq⟩ : ∃ q, q = w.heap.size := ⟨_, rfl⟩
 have lq : Hid (w.heap.size ≤ q) := Nat.le_of_eq hq.symm
 have hC : Hid (CAt (((w.alloc (.cells (chV r) T)).alloc (.cells Z T)).alloc (.cells (row8 (fun _ => false)) 137)) q r) := by rw [hq]; exact ((V.at r w).kept (Kp.alloc noB _ _) id).kept (Kp.alloc noB _ _) id
 have hZ : Hid (ZAt (((w.alloc (.cells (chV r) T)).alloc (.cells Z T)).alloc (.cells (row8 (fun _ => false)) 137)) (q + 1)) := by rw [hq]; exact (V.zat _ w).kept (Kp.alloc noB _ _) id
 have hK : Hid (Kp noB w (((w.alloc (.cells (chV r) T)).alloc (.cells Z T)).alloc (.cells (row8 (fun _ => false)) 137))) := ((Kp.alloc _ _ _).trans (Kp.alloc _ _ _)).trans (Kp.alloc _ _ _)
 clear V
 unfold row8 at *
 go_enter Tryz.func158, Tryz.ntmps158
 simp only [vl, vs, va, vb]
 clear vl vs va vb
 go_wp2_with fail
 rw [← hq]
 generalize ((w.alloc (.cells (chV r) T)).alloc (.cells Z T)).alloc (.cells #[.bool false, .bool false, .bool false, .bool false, .bool false, .bool false, .bool false, .bool false] 137) = w0 at hC hZ hK ⊢
 clear hq
 refine Calls.mono (HBt.out _ 4 (by decide)) ?_; rintro e x1 ⟨he, hw⟩; replace hw := hw.symm; subst hw
 rw [b4] at he; subst he
 go_wp2_with fail
 refine Calls.mono (HBt.out _ 3 (by decide)) ?_; rintro e x1 ⟨he, hw⟩; replace hw := hw.symm; subst hw
 rw [b3] at he; subst he
 have N8 : N < 8 := by omega
 have cN := hC.out.cell (ch_srv r N8)
 have zN := hC.out.fz (8 + N)
 have hC1 : CAt (w0.setCell ⟨q, 8 + N, none⟩ (.bool false)) q { r with srv := upd r.srv N false } := hC.out.set (set_srv r N8 false)
 have hZ1 : ZAt (w0.setCell ⟨q, 8 + N, none⟩ (.bool false)) (q + 1) := hZ.out.kept (kpB q _ _ _) (by show ¬ q + 1 = q; omega)
 have L := HV.out.get hC1
 have S := hZ1.put { r with srv := upd r.srv N false }
 have E : Hid (CAt ((w0.setCell ⟨q, 8 + N, none⟩ (.bool false)).setRow (q + 1) (chV { r with srv := upd r.srv N false })) (q + 1) { r with srv := upd r.srv N false }) := hZ1.got _
 have K : Hid (Kp noB w ((w0.setCell ⟨q, 8 + N, none⟩ (.bool false)).setRow (q + 1) (chV { r with srv := upd r.srv N false }))) := (hK.out.new lq.out _).newRow (by have := lq.out; omega) _
 clear hC1 hZ1
 rw [hN] at v8
 rw [n3] at v32
 go_wp2
 exact bodyPost_ret (v := .agg (chV { r with srv := upd r.srv N false })) (ch_res Tryz.results158 _ _ (q + 1) _ rfl E.out) rfl ⟨rfl, K.out⟩
set_option maxRecDepth 20000 in
set_option maxHeartbeats 1000000 in
theorem rcmd_l (w : World) (r : RC) (v : Int) (hv : By v) (b4 : tb v 4 = false) (b3 : tb v 3 = false) (n1 : v / 32 = 1) : Calls Tryz.prog 158 #[.agg (chV r), .int .u8 v] w fun e w' => (∃ r', e = .returned (.agg (chV r')) ∧ ((∃ i, i < 8 ∧ r.srv i = true ∧ (∀ j, j < i → r.srv j = false) ∧ r' = { r with srv := upd r.srv i false }) ∨ ((∀ j, j < 8 → r.srv j = false) ∧ r' = r))) ∧ Kp noB w w' := by
 obtain ⟨T, nI, Z, fs, ps, V⟩ := vlC
 obtain ⟨vl, vs, va, vb⟩ := V.ops
 have v1 := V.agg
 have v2 := V.size
 have v3 := V.zero
 have v4 := V.under
 have v5 := V.map
 have v6 := V.zs
 have cs : ∀ r : RC, (chV r).size = nI := fun r => by rw [V.s]; rfl
 have HV : Hid (VlC T nI Z fs ps) := V
 have HBt : Hid (∀ (w : World) (n : Nat), n < 8 → _) := fun w n hn => bit_any w v hv n hn
 have v32 : Int.tdiv v 32 = v / 32 := Int.tdiv_eq_ediv_of_nonneg hv.1
 have v8 : Int.tmod v 8 = v % 8 := Int.tmod_eq_emod_of_nonneg hv.1
 obtain ⟨u0, u1⟩ := hv
 obtain ⟨q, hq⟩ : ∃ q, q = w.heap.size := ⟨_, rfl⟩
 have lq : Hid (w.heap.size ≤ q) := Nat.le_of_eq hq.symm
 have hC : Hid (CAt (((w.alloc (.cells (chV r) T)).alloc (.cells Z T)).alloc (.cells (row8 (fun _ => false)) 137)) q r) := by rw [hq]; exact ((V.at r w).kept (Kp.alloc noB _ _) id).kept (Kp.alloc noB _ _) id
 have hZ : Hid (ZAt (((w.alloc (.cells (chV r) T)).alloc (.cells Z T)).alloc (.cells (row8 (fun _ => false)) 137)) (q + 1)) := by rw [hq]; exact (V.zat _ w).kept (Kp.alloc noB _ _) id
 have hK : Hid (Kp noB w (((w.alloc (.cells (chV r) T)).alloc (.cells Z T)).alloc (.cells (row8 (fun _ => false)) 137))) := ((Kp.alloc _ _ _).trans (Kp.alloc _ _ _)).trans (Kp.alloc _ _ _)
 clear V
 unfold row8 at *
 go_enter Tryz.func158, Tryz.ntmps158
 simp only [vl, vs, va, vb]
 clear vl vs va vb
 go_wp2_with fail
 rw [← hq]
 generalize ((w.alloc (.cells (chV r) T)).alloc (.cells Z T)).alloc (.cells #[.bool false, .bool false, .bool false, .bool false, .bool false, .bool false, .bool false, .bool false] 137) = w0 at hC hZ hK ⊢
 clear hq
 refine Calls.mono (HBt.out _ 4 (by decide)) ?_; rintro e x1 ⟨he, hw⟩; replace hw := hw.symm; subst hw
 rw [b4] at he; subst he
 go_wp2_with fail
 refine Calls.mono (HBt.out _ 3 (by decide)) ?_; rintro e x1 ⟨he, hw⟩; replace hw := hw.symm; subst hw
 rw [b3] at he; subst he
 rw [n1] at v32
 clear v8 HBt
 go_wp2
 go_loop [6] (fun i => ∃ k : Nat, k ≤ 8 ∧ i = .int .i64 k ∧ Hid (∀ j, j < k → r.srv j = false)) (fun i => 8 - (intOf i).toNat)
 case atStart => exact ⟨0, by omega, rfl, fun j hj => absurd hj (by omega)⟩
 case round =>
  obtain ⟨i, hi, rfl, hI⟩ := hrel
  by_cases hlt : i < 8
  ·have c1 := hC.out.cell (ch_srv r hlt)
   cases es : r.srv i
   ·rw [es] at c1
    have hI' : Hid (∀ j, j < i + 1 → r.srv j = false) := fun j hj => by
     by_cases g : j < i
     ·exact hI.out j g
     ·obtain rfl : j = i := by omega
      exact es
    go_wp2
    go_round
    case rel => exact ⟨i + 1, by omega, by go_num, hI'⟩
    case measure => simp [intOf]; omega
   ·rw [es] at c1
    have zN := hC.out.fz (8 + i)
    have hC1 : CAt (w0.setCell ⟨q, 8 + i, none⟩ (.bool false)) q { r with srv := upd r.srv i false } := hC.out.set (set_srv r hlt false)
    have hZ1 : ZAt (w0.setCell ⟨q, 8 + i, none⟩ (.bool false)) (q + 1) := hZ.out.kept (kpB q _ _ _) (by show ¬ q + 1 = q; omega)
    have L := HV.out.get hC1
    have S := hZ1.put { r with srv := upd r.srv i false }
    have E : Hid (CAt ((w0.setCell ⟨q, 8 + i, none⟩ (.bool false)).setRow (q + 1) (chV { r with srv := upd r.srv i false })) (q + 1) { r with srv := upd r.srv i false }) := hZ1.got _
    have K : Hid (Kp noB w ((w0.setCell ⟨q, 8 + i, none⟩ (.bool false)).setRow (q + 1) (chV { r with srv := upd r.srv i false }))) := (hK.out.new lq.out _).newRow (by have := lq.out; omega) _
    have D : Hid (∃ i, i < 8 ∧ r.srv i = true ∧ (∀ j, j < i → r.srv j = false) ∧ { r with srv := upd r.srv i false } = { r with srv := upd r.srv i false }) := ⟨i, hlt, es, hI.out, rfl⟩
    have ES : Hid _ := es
    clear hC1 hZ1 es
    go_wp2
    exact bodyPost_ret (v := .agg (chV { r with srv := upd r.srv i false })) (ch_res Tryz.results158 _ _ (q + 1) _ rfl E.out) rfl ⟨⟨_, rfl, .inl ⟨i, hlt, ES.out, hI.out, rfl⟩⟩, K.out⟩
  ·obtain rfl : i = 8 := by omega
   have L := HV.out.get hC.out
   have S := hZ.out.put r
   have E : Hid (CAt (w0.setRow (q + 1) (chV r)) (q + 1) r) := hZ.out.got _
   have K : Hid (Kp noB w (w0.setRow (q + 1) (chV r))) := hK.out.newRow (by have := lq.out; omega) _
   go_wp2
   exact bodyPost_ret (v := .agg (chV r)) (ch_res Tryz.results158 _ _ (q + 1) _ rfl E.out) rfl ⟨⟨_, rfl, .inr ⟨hI.out, rfl⟩⟩, K.out⟩
end Go.Proofs.YtonfjhbfkichkaaGreat.Pc
