/- The bus and its devices: BsRd. -/
import Derived.Test.YtonfjhbfkichkaaGreatBz36
namespace Go.Proofs.YtonfjhbfkichkaaGreat.Bs
open Go.ChangeShapes Go.WideShapes Go.ChangeAt Go.RowKit
open Go.Proofs.YtonfjhbfkichkaaGreat.Ut (Kp heap_lt heap_kept heap_set heap_new noB isB kpB)
set_option linter.unusedVariables false
set_option maxRecDepth 20000
theorem inN_succ (n : Nat) (x : Bm) (p : Int) : Bm.inN (n + 1) x p = Bm.inN n (x.inD (portOf p)) (nxt p) := rfl
theorem inVN_succ (n : Nat) (x : Bm) (p : Int) : Bm.inVN (n + 1) x p = x.inDV (portOf p) + 256 * Bm.inVN n (x.inD (portOf p)) (nxt p) := rfl
def pw (i : Nat) : Int := if i = 0 then 1 else if i = 1 then 256 else if i = 2 then 65536 else if i = 3 then 16777216 else 4294967296
theorem rd0 {o : Int} (h : Byt o) : bits .or .u32 0 o = o := by
 have := Rm.or_add (a := 0) (b := o) 0 (by decide) h.1 (by decide) (by decide) (by have := h.2; simp; omega)
 simpa using this
theorem rd1 {v o : Int} (h : Byt o) (v0 : 0 ≤ v) (v1 : v < 256) : bits .or .u32 v (o * 256) = v + o * 256 := by
 have := Rm.or_add (a := v) (b := o) 8 v0 h.1 (by simpa using v1) (by omega) (by have := h.2; simp; omega)
 simpa using this
theorem rd2 {v o : Int} (h : Byt o) (v0 : 0 ≤ v) (v1 : v < 65536) : bits .or .u32 v (o * 65536) = v + o * 65536 := by
 have := Rm.or_add (a := v) (b := o) 16 v0 h.1 (by simpa using v1) (by omega) (by have := h.2; simp; omega)
 simpa using this
theorem rd3 {v o : Int} (h : Byt o) (v0 : 0 ≤ v) (v1 : v < 16777216) : bits .or .u32 v (o * 16777216) = v + o * 16777216 := by
 have := Rm.or_add (a := v) (b := o) 24 v0 h.1 (by simpa using v1) (by omega) (by have := h.2; simp; omega)
 simpa using this
theorem rd_acc {i j : Nat} {v o r X : Int} (hi : i < 4) (ho : Byt o) (v0 : 0 ≤ v) (v1 : v < pw i) (e : v + pw i * (o + 256 * r) = X) : (0 ≤ v + o * pw i ∧ v + o * pw i < pw (i + 1)) ∧ v + o * pw i + pw (i + 1) * r = X := by
 have := ho.1
 have := ho.2
 have : i = 0 ∨ i = 1 ∨ i = 2 ∨ i = 3 := by omega
 rcases this with rfl | rfl | rfl | rfl <;> simp only [pw] at * <;> simp at * <;> omega
set_option maxHeartbeats 4000000 in
theorem read_ok {w : World} {S : Nat → Prop} {L : Loc} {x : Bm} (h : BW w S L x) (k : x.Ok) (p : Int) (n : Nat) (p0 : 0 ≤ p) (p1 : p < 65536) (n4 : n ≤ 4) : Calls Tryz.prog 56 #[.pointer (some ⟨L.B, 0, none⟩), .int .u16 p, .int .i64 n] w fun e w' => e = .returned (.int .u32 (Bm.inVN n x p)) ∧ BNx w S L (Bm.inN n x p) w' := by
 obtain ⟨X, hX⟩ : ∃ X, X = Bm.inN n x p := ⟨_, rfl⟩
 obtain ⟨Y, hY⟩ : ∃ Y, Y = Bm.inVN n x p := ⟨_, rfl⟩
 rw [← hX, ← hY]
 have P0 : Hid (BW w S L x ∧ x.Ok) := ⟨h, k⟩
 have N0 : Hid (Nx w S w S) := Nx.refl _ _
 have E0 : Hid (Bm.inN (n - 0) x p = X ∧ 0 + pw 0 * Bm.inVN (n - 0) x p = Y) := ⟨hX.symm, by rw [hY]; simp [pw]⟩
 clear h k hX hY
 go_enter Tryz.func56, Tryz.ntmps56
 go_wp2
 go_loopw [1, 7, 13] (fun s1 s7 s13 wr => ∃ (i : Nat) (p' v' : Int) (x' : Bm) (S' : Nat → Prop), s1 = .int .u16 p' ∧ s7 = .int .u32 v' ∧ s13 = .int .i64 i ∧ i ≤ n ∧ 0 ≤ p' ∧ p' < 65536 ∧ 0 ≤ v' ∧ v' < pw i ∧ (BW wr S' L x' ∧ x'.Ok) ∧ Nx w S wr S' ∧ Bm.inN (n - i) x' p' = X ∧ v' + pw i * Bm.inVN (n - i) x' p' = Y) (fun s1 s7 s13 _ => ((n : Int) - intOf s13).toNat)
 case atStart => exact ⟨0, p, 0, x, S, rfl, rfl, rfl, by omega, p0, p1, by decide, by decide, P0.out, N0.out, E0.out.1, E0.out.2⟩
 case round =>
  clear P0 N0 E0 p0 p1
  clear p x
  obtain ⟨i, p, v, x, S1, rfl, rfl, rfl, hi, p0, p1, v0, v1, ⟨h, k⟩, n1, e, ev⟩ := hrel
  by_cases hlt : i < n
  ·obtain ⟨j, hj⟩ : ∃ j, n - i = j + 1 := ⟨n - i - 1, by omega⟩
   have hj' : n - (i + 1) = j := by omega
   rw [hj, inN_succ] at e
   rw [hj, inVN_succ] at ev
   have ob := inV1_byt k (portOf p)
   obtain ⟨ac, ev⟩ := rd_acc (j := j) (by omega) ob v0 v1 ev
   have AC : Hid _ := ac
   have K1 : Hid ((x.inD (portOf p)).Ok) := k.inD _
   have hl := look_port h.map p
   have c7 := h.c7
   have f3 : (p + 1) % 65536 = nxt p := rfl
   have f4 : IntKind.u16.wrap (p + 1) = nxt p := by rw [IntKind.wrap_u16]; rfl
   have np : 0 ≤ nxt p ∧ nxt p < 65536 := by unfold nxt; omega
   clear ac
   generalize nxt p = p2 at *
   cases hp : portOf p with
   | none =>
    rw [hp] at hl e ev K1 AC ob
    have o255 : x.inDV none = 255 := rfl
    rw [o255] at ev AC ob
    have ex : x.inD none = x := rfl
    rw [ex] at e ev
    unfold portRow at hl
    have Q : Hid (∀ W, Kp noB wr W → BW W S1 L x) := fun W q => h.keep q
    have NQ : Hid (Nx w S wr S1) := n1
    have EQ : Hid (_ ∧ _) := ⟨e, ev⟩
    clear e ev h n1 k hp
    have i4 : i = 0 ∨ i = 1 ∨ i = 2 ∨ i = 3 := by omega
    rcases i4 with rfl | rfl | rfl | rfl
    ·have a0 : v = 0 := by simp [pw] at v1; omega
     subst a0
     have o1 := rd0 ob
     clear ob v1 v0
     go_wp2
     go_roundw
     case rel => exact ⟨1, p2, _, x, S1, rfl, rfl, by go_num, by omega, np.1, np.2, (by have := AC.out.1; simp [pw] at this ⊢ <;> omega), (by have := AC.out.2; simp [pw] at this ⊢ <;> omega), ⟨Q.out _ (Kp.alloc _ _ _), K1.out⟩, NQ.out.trans (Nx.keep (Kp.alloc _ _ _)), by rw [hj']; exact EQ.out.1, (by rw [hj']; have := EQ.out.2; simp [pw] at this ⊢ <;> omega)⟩
     case measure => simp [intOf]; omega
    ·have o1 : bits .or .u32 v 65280 = v + 65280 := by simpa using rd1 ob v0 v1
     clear ob v1 v0
     go_wp2
     go_roundw
     case rel => exact ⟨2, p2, _, x, S1, rfl, rfl, by go_num, by omega, np.1, np.2, (by have := AC.out.1; simp [pw] at this ⊢ <;> omega), (by have := AC.out.2; simp [pw] at this ⊢ <;> omega), ⟨Q.out _ (Kp.alloc _ _ _), K1.out⟩, NQ.out.trans (Nx.keep (Kp.alloc _ _ _)), by rw [hj']; exact EQ.out.1, (by rw [hj']; have := EQ.out.2; simp [pw] at this ⊢ <;> omega)⟩
     case measure => simp [intOf]; omega
    ·have o1 : bits .or .u32 v 16711680 = v + 16711680 := by simpa using rd2 ob v0 v1
     clear ob v1 v0
     go_wp2
     go_roundw
     case rel => exact ⟨3, p2, _, x, S1, rfl, rfl, by go_num, by omega, np.1, np.2, (by have := AC.out.1; simp [pw] at this ⊢ <;> omega), (by have := AC.out.2; simp [pw] at this ⊢ <;> omega), ⟨Q.out _ (Kp.alloc _ _ _), K1.out⟩, NQ.out.trans (Nx.keep (Kp.alloc _ _ _)), by rw [hj']; exact EQ.out.1, (by rw [hj']; have := EQ.out.2; simp [pw] at this ⊢ <;> omega)⟩
     case measure => simp [intOf]; omega
    ·have o1 : bits .or .u32 v 4278190080 = v + 4278190080 := by simpa using rd3 ob v0 v1
     clear ob v1 v0
     go_wp2
     go_roundw
     case rel => exact ⟨4, p2, _, x, S1, rfl, rfl, by go_num, by omega, np.1, np.2, (by have := AC.out.1; simp [pw] at this ⊢ <;> omega), (by have := AC.out.2; simp [pw] at this ⊢ <;> omega), ⟨Q.out _ (Kp.alloc _ _ _), K1.out⟩, NQ.out.trans (Nx.keep (Kp.alloc _ _ _)), by rw [hj']; exact EQ.out.1, (by rw [hj']; have := EQ.out.2; simp [pw] at this ⊢ <;> omega)⟩
     case measure => simp [intOf]; omega
   | some q =>
    obtain ⟨dv, a⟩ := q
    rw [hp] at hl e ev K1 AC ob
    unfold portRow at hl
    have hb := port_bd hp
    have NQ : Hid (Nx w S wr S1) := n1
    have EQ : Hid (_ ∧ _) := ⟨e, ev⟩
    cases dv with
    | pic =>
     unfold portV entV ptr at hl
     dsimp only at hb
     have HO : Hid (∀ W S, BW W S L x → Calls Tryz.prog 61 #[.pointer (some ⟨L.P, 0, none⟩), .int .i64 a] W fun e w' => (∃ y, e = .returned (.tuple #[.int .u8 (x.inDV (some (.pic, a))), .int .i64 y])) ∧ BNx W S L (x.inD (some (.pic, a))) w') := fun W S h => pic_in h k hb
     generalize x.inDV (some (.pic, a)) = o at *
     have Q : Hid (BW (wr.alloc (.cells #[.int .i64 a, .func (.func 60) #[.pointer (some ⟨L.P, 0, none⟩)] #[], .func (.func 61) #[.pointer (some ⟨L.P, 0, none⟩)] #[]] 134)) S1 L x) := h.keep (Kp.alloc _ _ _)
     clear e ev h n1 k hp hb
     have i4 : i = 0 ∨ i = 1 ∨ i = 2 ∨ i = 3 := by omega
     have OB : Hid (Byt o) := ob
     have v1' : Hid (v < pw i) := v1
     have o0 := ob.1
     have o2 := ob.2
     clear ob v1
     go_wp2_with fail
     refine Calls.mono (HO.out _ _ Q.out) ?_; rintro e z1 ⟨⟨y, rfl⟩, S2, q2, n2⟩
     have Q2 : Hid (BW z1 S2 L (x.inD (some (.pic, a))) ∧ Nx w S z1 S2) := ⟨q2, (NQ.out.trans (Nx.keep (Kp.alloc _ _ _))).trans n2⟩
     clear q2 n2 Q HO NQ
     rcases i4 with rfl | rfl | rfl | rfl
     ·have a0 : v = 0 := by have := v1'.out; simp [pw] at this; omega
      subst a0
      have o1 := rd0 OB.out
      clear OB v1' v0
      go_wp2
      go_roundw
      case rel => exact ⟨1, p2, _, _, S2, rfl, rfl, by go_num, by omega, np.1, np.2, (by have := AC.out.1; simp [pw] at this ⊢ <;> omega), (by have := AC.out.2; simp [pw] at this ⊢ <;> omega), ⟨Q2.out.1, K1.out⟩, Q2.out.2, by rw [hj']; exact EQ.out.1, (by rw [hj']; have := EQ.out.2; simp [pw] at this ⊢ <;> omega)⟩
      case measure => simp [intOf]; omega
     ·have o1 := rd1 OB.out v0 v1'.out
      clear OB v1' v0
      go_wp2
      go_roundw
      case rel => exact ⟨2, p2, _, _, S2, rfl, rfl, by go_num, by omega, np.1, np.2, (by have := AC.out.1; simp [pw] at this ⊢ <;> omega), (by have := AC.out.2; simp [pw] at this ⊢ <;> omega), ⟨Q2.out.1, K1.out⟩, Q2.out.2, by rw [hj']; exact EQ.out.1, (by rw [hj']; have := EQ.out.2; simp [pw] at this ⊢ <;> omega)⟩
      case measure => simp [intOf]; omega
     ·have o1 := rd2 OB.out v0 v1'.out
      clear OB v1' v0
      go_wp2
      go_roundw
      case rel => exact ⟨3, p2, _, _, S2, rfl, rfl, by go_num, by omega, np.1, np.2, (by have := AC.out.1; simp [pw] at this ⊢ <;> omega), (by have := AC.out.2; simp [pw] at this ⊢ <;> omega), ⟨Q2.out.1, K1.out⟩, Q2.out.2, by rw [hj']; exact EQ.out.1, (by rw [hj']; have := EQ.out.2; simp [pw] at this ⊢ <;> omega)⟩
      case measure => simp [intOf]; omega
     ·have o1 := rd3 OB.out v0 v1'.out
      clear OB v1' v0
      go_wp2
      go_roundw
      case rel => exact ⟨4, p2, _, _, S2, rfl, rfl, by go_num, by omega, np.1, np.2, (by have := AC.out.1; simp [pw] at this ⊢ <;> omega), (by have := AC.out.2; simp [pw] at this ⊢ <;> omega), ⟨Q2.out.1, K1.out⟩, Q2.out.2, by rw [hj']; exact EQ.out.1, (by rw [hj']; have := EQ.out.2; simp [pw] at this ⊢ <;> omega)⟩
      case measure => simp [intOf]; omega
    | pit =>
     unfold portV entV ptr at hl
     dsimp only at hb
     have HO : Hid (∀ W S, BW W S L x → Calls Tryz.prog 63 #[.pointer (some ⟨L.B, 0, none⟩), .int .i64 a] W fun e w' => (∃ y, e = .returned (.tuple #[.int .u8 (x.inDV (some (.pit, a))), .int .i64 y])) ∧ BNx W S L (x.inD (some (.pit, a))) w') := fun W S h => pit_in h k hb
     generalize x.inDV (some (.pit, a)) = o at *
     have Q : Hid (BW (wr.alloc (.cells #[.int .i64 a, .func (.func 62) #[.pointer (some ⟨L.B, 0, none⟩)] #[], .func (.func 63) #[.pointer (some ⟨L.B, 0, none⟩)] #[]] 134)) S1 L x) := h.keep (Kp.alloc _ _ _)
     clear e ev h n1 k hp hb
     have i4 : i = 0 ∨ i = 1 ∨ i = 2 ∨ i = 3 := by omega
     have OB : Hid (Byt o) := ob
     have v1' : Hid (v < pw i) := v1
     have o0 := ob.1
     have o2 := ob.2
     clear ob v1
     go_wp2_with fail
     refine Calls.mono (HO.out _ _ Q.out) ?_; rintro e z1 ⟨⟨y, rfl⟩, S2, q2, n2⟩
     have Q2 : Hid (BW z1 S2 L (x.inD (some (.pit, a))) ∧ Nx w S z1 S2) := ⟨q2, (NQ.out.trans (Nx.keep (Kp.alloc _ _ _))).trans n2⟩
     clear q2 n2 Q HO NQ
     rcases i4 with rfl | rfl | rfl | rfl
     ·have a0 : v = 0 := by have := v1'.out; simp [pw] at this; omega
      subst a0
      have o1 := rd0 OB.out
      clear OB v1' v0
      go_wp2
      go_roundw
      case rel => exact ⟨1, p2, _, _, S2, rfl, rfl, by go_num, by omega, np.1, np.2, (by have := AC.out.1; simp [pw] at this ⊢ <;> omega), (by have := AC.out.2; simp [pw] at this ⊢ <;> omega), ⟨Q2.out.1, K1.out⟩, Q2.out.2, by rw [hj']; exact EQ.out.1, (by rw [hj']; have := EQ.out.2; simp [pw] at this ⊢ <;> omega)⟩
      case measure => simp [intOf]; omega
     ·have o1 := rd1 OB.out v0 v1'.out
      clear OB v1' v0
      go_wp2
      go_roundw
      case rel => exact ⟨2, p2, _, _, S2, rfl, rfl, by go_num, by omega, np.1, np.2, (by have := AC.out.1; simp [pw] at this ⊢ <;> omega), (by have := AC.out.2; simp [pw] at this ⊢ <;> omega), ⟨Q2.out.1, K1.out⟩, Q2.out.2, by rw [hj']; exact EQ.out.1, (by rw [hj']; have := EQ.out.2; simp [pw] at this ⊢ <;> omega)⟩
      case measure => simp [intOf]; omega
     ·have o1 := rd2 OB.out v0 v1'.out
      clear OB v1' v0
      go_wp2
      go_roundw
      case rel => exact ⟨3, p2, _, _, S2, rfl, rfl, by go_num, by omega, np.1, np.2, (by have := AC.out.1; simp [pw] at this ⊢ <;> omega), (by have := AC.out.2; simp [pw] at this ⊢ <;> omega), ⟨Q2.out.1, K1.out⟩, Q2.out.2, by rw [hj']; exact EQ.out.1, (by rw [hj']; have := EQ.out.2; simp [pw] at this ⊢ <;> omega)⟩
      case measure => simp [intOf]; omega
     ·have o1 := rd3 OB.out v0 v1'.out
      clear OB v1' v0
      go_wp2
      go_roundw
      case rel => exact ⟨4, p2, _, _, S2, rfl, rfl, by go_num, by omega, np.1, np.2, (by have := AC.out.1; simp [pw] at this ⊢ <;> omega), (by have := AC.out.2; simp [pw] at this ⊢ <;> omega), ⟨Q2.out.1, K1.out⟩, Q2.out.2, by rw [hj']; exact EQ.out.1, (by rw [hj']; have := EQ.out.2; simp [pw] at this ⊢ <;> omega)⟩
      case measure => simp [intOf]; omega
    | uart =>
     unfold portV entV ptr at hl
     dsimp only at hb
     have HO : Hid (∀ W S, BW W S L x → Calls Tryz.prog 65 #[.pointer (some ⟨L.U, 0, none⟩), .int .i64 a] W fun e w' => (∃ y, e = .returned (.tuple #[.int .u8 (x.inDV (some (.uart, a))), .int .i64 y])) ∧ BNx W S L (x.inD (some (.uart, a))) w') := fun W S h => uart_in h k hb
     generalize x.inDV (some (.uart, a)) = o at *
     have Q : Hid (BW (wr.alloc (.cells #[.int .i64 a, .func (.func 64) #[.pointer (some ⟨L.U, 0, none⟩)] #[], .func (.func 65) #[.pointer (some ⟨L.U, 0, none⟩)] #[]] 134)) S1 L x) := h.keep (Kp.alloc _ _ _)
     clear e ev h n1 k hp hb
     have i4 : i = 0 ∨ i = 1 ∨ i = 2 ∨ i = 3 := by omega
     have OB : Hid (Byt o) := ob
     have v1' : Hid (v < pw i) := v1
     have o0 := ob.1
     have o2 := ob.2
     clear ob v1
     go_wp2_with fail
     refine Calls.mono (HO.out _ _ Q.out) ?_; rintro e z1 ⟨⟨y, rfl⟩, S2, q2, n2⟩
     have Q2 : Hid (BW z1 S2 L (x.inD (some (.uart, a))) ∧ Nx w S z1 S2) := ⟨q2, (NQ.out.trans (Nx.keep (Kp.alloc _ _ _))).trans n2⟩
     clear q2 n2 Q HO NQ
     rcases i4 with rfl | rfl | rfl | rfl
     ·have a0 : v = 0 := by have := v1'.out; simp [pw] at this; omega
      subst a0
      have o1 := rd0 OB.out
      clear OB v1' v0
      go_wp2
      go_roundw
      case rel => exact ⟨1, p2, _, _, S2, rfl, rfl, by go_num, by omega, np.1, np.2, (by have := AC.out.1; simp [pw] at this ⊢ <;> omega), (by have := AC.out.2; simp [pw] at this ⊢ <;> omega), ⟨Q2.out.1, K1.out⟩, Q2.out.2, by rw [hj']; exact EQ.out.1, (by rw [hj']; have := EQ.out.2; simp [pw] at this ⊢ <;> omega)⟩
      case measure => simp [intOf]; omega
     ·have o1 := rd1 OB.out v0 v1'.out
      clear OB v1' v0
      go_wp2
      go_roundw
      case rel => exact ⟨2, p2, _, _, S2, rfl, rfl, by go_num, by omega, np.1, np.2, (by have := AC.out.1; simp [pw] at this ⊢ <;> omega), (by have := AC.out.2; simp [pw] at this ⊢ <;> omega), ⟨Q2.out.1, K1.out⟩, Q2.out.2, by rw [hj']; exact EQ.out.1, (by rw [hj']; have := EQ.out.2; simp [pw] at this ⊢ <;> omega)⟩
      case measure => simp [intOf]; omega
     ·have o1 := rd2 OB.out v0 v1'.out
      clear OB v1' v0
      go_wp2
      go_roundw
      case rel => exact ⟨3, p2, _, _, S2, rfl, rfl, by go_num, by omega, np.1, np.2, (by have := AC.out.1; simp [pw] at this ⊢ <;> omega), (by have := AC.out.2; simp [pw] at this ⊢ <;> omega), ⟨Q2.out.1, K1.out⟩, Q2.out.2, by rw [hj']; exact EQ.out.1, (by rw [hj']; have := EQ.out.2; simp [pw] at this ⊢ <;> omega)⟩
      case measure => simp [intOf]; omega
     ·have o1 := rd3 OB.out v0 v1'.out
      clear OB v1' v0
      go_wp2
      go_roundw
      case rel => exact ⟨4, p2, _, _, S2, rfl, rfl, by go_num, by omega, np.1, np.2, (by have := AC.out.1; simp [pw] at this ⊢ <;> omega), (by have := AC.out.2; simp [pw] at this ⊢ <;> omega), ⟨Q2.out.1, K1.out⟩, Q2.out.2, by rw [hj']; exact EQ.out.1, (by rw [hj']; have := EQ.out.2; simp [pw] at this ⊢ <;> omega)⟩
      case measure => simp [intOf]; omega
    | ide =>
     unfold portV entV ptr at hl
     dsimp only at hb
     have HO : Hid (∀ W S, BW W S L x → Calls Tryz.prog 67 #[.pointer (some ⟨L.B, 0, none⟩), .int .i64 a] W fun e w' => (∃ y, e = .returned (.tuple #[.int .u8 (x.inDV (some (.ide, a))), .int .i64 y])) ∧ BNx W S L (x.inD (some (.ide, a))) w') := fun W S h => ide_in h k
     generalize x.inDV (some (.ide, a)) = o at *
     have Q : Hid (BW (wr.alloc (.cells #[.int .i64 a, .func (.func 66) #[.pointer (some ⟨L.B, 0, none⟩)] #[], .func (.func 67) #[.pointer (some ⟨L.B, 0, none⟩)] #[]] 134)) S1 L x) := h.keep (Kp.alloc _ _ _)
     clear e ev h n1 k hp hb
     have i4 : i = 0 ∨ i = 1 ∨ i = 2 ∨ i = 3 := by omega
     have OB : Hid (Byt o) := ob
     have v1' : Hid (v < pw i) := v1
     have o0 := ob.1
     have o2 := ob.2
     clear ob v1
     go_wp2_with fail
     refine Calls.mono (HO.out _ _ Q.out) ?_; rintro e z1 ⟨⟨y, rfl⟩, S2, q2, n2⟩
     have Q2 : Hid (BW z1 S2 L (x.inD (some (.ide, a))) ∧ Nx w S z1 S2) := ⟨q2, (NQ.out.trans (Nx.keep (Kp.alloc _ _ _))).trans n2⟩
     clear q2 n2 Q HO NQ
     rcases i4 with rfl | rfl | rfl | rfl
     ·have a0 : v = 0 := by have := v1'.out; simp [pw] at this; omega
      subst a0
      have o1 := rd0 OB.out
      clear OB v1' v0
      go_wp2
      go_roundw
      case rel => exact ⟨1, p2, _, _, S2, rfl, rfl, by go_num, by omega, np.1, np.2, (by have := AC.out.1; simp [pw] at this ⊢ <;> omega), (by have := AC.out.2; simp [pw] at this ⊢ <;> omega), ⟨Q2.out.1, K1.out⟩, Q2.out.2, by rw [hj']; exact EQ.out.1, (by rw [hj']; have := EQ.out.2; simp [pw] at this ⊢ <;> omega)⟩
      case measure => simp [intOf]; omega
     ·have o1 := rd1 OB.out v0 v1'.out
      clear OB v1' v0
      go_wp2
      go_roundw
      case rel => exact ⟨2, p2, _, _, S2, rfl, rfl, by go_num, by omega, np.1, np.2, (by have := AC.out.1; simp [pw] at this ⊢ <;> omega), (by have := AC.out.2; simp [pw] at this ⊢ <;> omega), ⟨Q2.out.1, K1.out⟩, Q2.out.2, by rw [hj']; exact EQ.out.1, (by rw [hj']; have := EQ.out.2; simp [pw] at this ⊢ <;> omega)⟩
      case measure => simp [intOf]; omega
     ·have o1 := rd2 OB.out v0 v1'.out
      clear OB v1' v0
      go_wp2
      go_roundw
      case rel => exact ⟨3, p2, _, _, S2, rfl, rfl, by go_num, by omega, np.1, np.2, (by have := AC.out.1; simp [pw] at this ⊢ <;> omega), (by have := AC.out.2; simp [pw] at this ⊢ <;> omega), ⟨Q2.out.1, K1.out⟩, Q2.out.2, by rw [hj']; exact EQ.out.1, (by rw [hj']; have := EQ.out.2; simp [pw] at this ⊢ <;> omega)⟩
      case measure => simp [intOf]; omega
     ·have o1 := rd3 OB.out v0 v1'.out
      clear OB v1' v0
      go_wp2
      go_roundw
      case rel => exact ⟨4, p2, _, _, S2, rfl, rfl, by go_num, by omega, np.1, np.2, (by have := AC.out.1; simp [pw] at this ⊢ <;> omega), (by have := AC.out.2; simp [pw] at this ⊢ <;> omega), ⟨Q2.out.1, K1.out⟩, Q2.out.2, by rw [hj']; exact EQ.out.1, (by rw [hj']; have := EQ.out.2; simp [pw] at this ⊢ <;> omega)⟩
      case measure => simp [intOf]; omega
    | gate =>
     unfold portV entV ptr at hl
     dsimp only at hb
     have HO : Hid (∀ W S, BW W S L x → Calls Tryz.prog 69 #[.pointer (some ⟨L.B, 0, none⟩), .int .i64 a] W fun e w' => (∃ y, e = .returned (.tuple #[.int .u8 (x.inDV (some (.gate, a))), .int .i64 y])) ∧ BNx W S L (x.inD (some (.gate, a))) w') := fun W S h => gate_in h
     generalize x.inDV (some (.gate, a)) = o at *
     have Q : Hid (BW (wr.alloc (.cells #[.int .i64 a, .func (.func 68) #[.pointer (some ⟨L.B, 0, none⟩)] #[], .func (.func 69) #[.pointer (some ⟨L.B, 0, none⟩)] #[]] 134)) S1 L x) := h.keep (Kp.alloc _ _ _)
     clear e ev h n1 k hp hb
     have i4 : i = 0 ∨ i = 1 ∨ i = 2 ∨ i = 3 := by omega
     have OB : Hid (Byt o) := ob
     have v1' : Hid (v < pw i) := v1
     have o0 := ob.1
     have o2 := ob.2
     clear ob v1
     go_wp2_with fail
     refine Calls.mono (HO.out _ _ Q.out) ?_; rintro e z1 ⟨⟨y, rfl⟩, S2, q2, n2⟩
     have Q2 : Hid (BW z1 S2 L (x.inD (some (.gate, a))) ∧ Nx w S z1 S2) := ⟨q2, (NQ.out.trans (Nx.keep (Kp.alloc _ _ _))).trans n2⟩
     clear q2 n2 Q HO NQ
     rcases i4 with rfl | rfl | rfl | rfl
     ·have a0 : v = 0 := by have := v1'.out; simp [pw] at this; omega
      subst a0
      have o1 := rd0 OB.out
      clear OB v1' v0
      go_wp2
      go_roundw
      case rel => exact ⟨1, p2, _, _, S2, rfl, rfl, by go_num, by omega, np.1, np.2, (by have := AC.out.1; simp [pw] at this ⊢ <;> omega), (by have := AC.out.2; simp [pw] at this ⊢ <;> omega), ⟨Q2.out.1, K1.out⟩, Q2.out.2, by rw [hj']; exact EQ.out.1, (by rw [hj']; have := EQ.out.2; simp [pw] at this ⊢ <;> omega)⟩
      case measure => simp [intOf]; omega
     ·have o1 := rd1 OB.out v0 v1'.out
      clear OB v1' v0
      go_wp2
      go_roundw
      case rel => exact ⟨2, p2, _, _, S2, rfl, rfl, by go_num, by omega, np.1, np.2, (by have := AC.out.1; simp [pw] at this ⊢ <;> omega), (by have := AC.out.2; simp [pw] at this ⊢ <;> omega), ⟨Q2.out.1, K1.out⟩, Q2.out.2, by rw [hj']; exact EQ.out.1, (by rw [hj']; have := EQ.out.2; simp [pw] at this ⊢ <;> omega)⟩
      case measure => simp [intOf]; omega
     ·have o1 := rd2 OB.out v0 v1'.out
      clear OB v1' v0
      go_wp2
      go_roundw
      case rel => exact ⟨3, p2, _, _, S2, rfl, rfl, by go_num, by omega, np.1, np.2, (by have := AC.out.1; simp [pw] at this ⊢ <;> omega), (by have := AC.out.2; simp [pw] at this ⊢ <;> omega), ⟨Q2.out.1, K1.out⟩, Q2.out.2, by rw [hj']; exact EQ.out.1, (by rw [hj']; have := EQ.out.2; simp [pw] at this ⊢ <;> omega)⟩
      case measure => simp [intOf]; omega
     ·have o1 := rd3 OB.out v0 v1'.out
      clear OB v1' v0
      go_wp2
      go_roundw
      case rel => exact ⟨4, p2, _, _, S2, rfl, rfl, by go_num, by omega, np.1, np.2, (by have := AC.out.1; simp [pw] at this ⊢ <;> omega), (by have := AC.out.2; simp [pw] at this ⊢ <;> omega), ⟨Q2.out.1, K1.out⟩, Q2.out.2, by rw [hj']; exact EQ.out.1, (by rw [hj']; have := EQ.out.2; simp [pw] at this ⊢ <;> omega)⟩
      case measure => simp [intOf]; omega
  ·have hi' : i = n := by omega
   subst hi'
   have HZ : Hid (BNx w S L X wr) := by
    rw [Nat.sub_self] at e
    rw [← e]
    exact ⟨S1, h, n1⟩
   have hv' : v = Y := by
    rw [Nat.sub_self] at ev
    rw [← ev]
    show v = v + pw i * 0
    omega
   subst hv'
   clear e ev h n1 k v1
   go_wp2
   go_ret
   exact ⟨rfl, HZ.out⟩
end Go.Proofs.YtonfjhbfkichkaaGreat.Bs
