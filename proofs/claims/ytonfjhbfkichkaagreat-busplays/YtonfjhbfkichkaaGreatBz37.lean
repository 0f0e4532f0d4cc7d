/- The bus and its devices: BsWr. -/
import Derived.Test.YtonfjhbfkichkaaGreatBz36
namespace Go.Proofs.YtonfjhbfkichkaaGreat.Bs
open Go.ChangeShapes Go.WideShapes Go.ChangeAt Go.RowKit
open Go.Proofs.YtonfjhbfkichkaaGreat.Ut (Kp heap_lt heap_kept heap_set heap_new noB isB kpB)
set_option linter.unusedVariables false
set_option maxRecDepth 20000
theorem outN_succ (n : Nat) (x : Bm) (p v : Int) : Bm.outN (n + 1) x p v = Bm.outN n (x.outD (v % 256) (portOf p)) (nxt p) (v / 256) := rfl
set_option maxHeartbeats 4000000 in
theorem write_ok {w : World} {S : Nat → Prop} {L : Loc} {x : Bm} (h : BW w S L x) (k : x.Ok) (p v : Int) (n : Nat) (p0 : 0 ≤ p) (p1 : p < 65536) (v0 : 0 ≤ v) (v1 : v < 4294967296) (n4 : n ≤ 4) (hw : x.wk + 16 < 9007199254740) : Calls Tryz.prog 53 #[.pointer (some ⟨L.B, 0, none⟩), .int .u16 p, .int .i64 n, .int .u32 v] w fun e w' => e = .returned (.tuple #[]) ∧ BNx w S L (Bm.outN n x p v) w' := by
 obtain ⟨X, hX⟩ : ∃ X, X = Bm.outN n x p v := ⟨_, rfl⟩
 rw [← hX]
 have P0 : Hid (BW w S L x ∧ x.Ok) := ⟨h, k⟩
 have N0 : Hid (Nx w S w S) := Nx.refl _ _
 have E0 : Hid (Bm.outN (n - 0) x p v = X) := hX.symm
 have W0 : x.wk + 4 * (4 - 0) < 9007199254740 := hw
 clear h k hX hw
 go_enter Tryz.func53, Tryz.ntmps53
 go_wp2
 go_loopw [1, 3, 11] (fun s1 s3 s11 wr => ∃ (i : Nat) (p' v' : Int) (x' : Bm) (S' : Nat → Prop), s1 = .int .u16 p' ∧ s3 = .int .u32 v' ∧ s11 = .int .i64 i ∧ i ≤ n ∧ 0 ≤ p' ∧ p' < 65536 ∧ 0 ≤ v' ∧ v' < 4294967296 ∧ (BW wr S' L x' ∧ x'.Ok) ∧ Nx w S wr S' ∧ x'.wk + 4 * (4 - i) < 9007199254740 ∧ Bm.outN (n - i) x' p' v' = X) (fun s1 s3 s11 _ => ((n : Int) - intOf s11).toNat)
 case atStart => exact ⟨0, p, v, x, S, rfl, rfl, rfl, by omega, p0, p1, v0, v1, P0.out, N0.out, W0, E0.out⟩
 case round =>
  clear P0 N0 E0 W0 p0 p1 v0 v1
  clear p v x
  obtain ⟨i, p, v, x, S1, rfl, rfl, rfl, hi, p0, p1, v0, v1, ⟨h, k⟩, n1, hw, e⟩ := hrel
  by_cases hlt : i < n
  ·obtain ⟨j, hj⟩ : ∃ j, n - i = j + 1 := ⟨n - i - 1, by omega⟩
   have hj' : n - (i + 1) = j := by omega
   rw [hj, outN_succ] at e
   have hv : Byt (v % 256) := ⟨by omega, by omega⟩
   have hw4 : x.wk + 4 < 9007199254740 := by omega
   have hwk := outD_wk k (v % 256) (portOf p)
   have K1 : Hid ((x.outD (v % 256) (portOf p)).Ok ∧ (x.outD (v % 256) (portOf p)).wk + 4 * (4 - (i + 1)) < 9007199254740) := ⟨k.outD hv _, by omega⟩
   have hl := look_port h.map p
   have c7 := h.c7
   obtain ⟨u, hu⟩ : ∃ u, u = v % 256 := ⟨_, rfl⟩
   have f1 : v % 256 = u := hu.symm
   have f2 : IntKind.u8.wrap v = u := by rw [hu, IntKind.wrap_u8]
   have f3 : (p + 1) % 65536 = nxt p := rfl
   have f4 : IntKind.u16.wrap (p + 1) = nxt p := by rw [IntKind.wrap_u16]; rfl
   have np : 0 ≤ nxt p ∧ nxt p < 65536 := by unfold nxt; omega
   have nv : 0 ≤ v / 256 ∧ v / 256 < 4294967296 := by omega
   rw [← hu] at e hv K1
   clear hu hwk
   generalize nxt p = p2 at *
   cases hp : portOf p with
   | none =>
    rw [hp] at hl e K1
    unfold portRow at hl
    have Q : Hid (∀ W, Kp noB wr W → BW W S1 L x) := fun W q => h.keep q
    have NQ : Hid (Nx w S wr S1) := n1
    have EQ : Hid _ := e
    clear e h n1 k hp hv hw4 hw
    go_wp2
    go_roundw
    case rel => exact ⟨i + 1, p2, _, x, S1, rfl, rfl, by go_num, by omega, np.1, np.2, nv.1, nv.2, ⟨Q.out _ (Kp.alloc _ _ _), K1.out.1⟩, NQ.out.trans (Nx.keep (Kp.alloc _ _ _)), K1.out.2, by rw [hj']; exact EQ.out⟩
    case measure => simp [intOf]; omega
   | some q =>
    obtain ⟨dv, a⟩ := q
    rw [hp] at hl e K1
    unfold portRow at hl
    have hb := port_bd hp
    have NQ : Hid (Nx w S wr S1) := n1
    have EQ : Hid _ := e
    cases dv with
    | pic =>
     unfold portV entV ptr at hl
     dsimp only at hb
     have HO : Hid (∀ W S, BW W S L x → Calls Tryz.prog 60 #[.pointer (some ⟨L.P, 0, none⟩), .int .i64 a, .int .u8 u] W fun e w' => (∃ y, e = .returned (.int .i64 y)) ∧ BNx W S L (x.outD u (some (.pic, a))) w') := fun W S h => pic_out h k hb hv
     have Q : Hid (BW (wr.alloc (.cells #[.int .i64 a, .func (.func 60) #[.pointer (some ⟨L.P, 0, none⟩)] #[], .func (.func 61) #[.pointer (some ⟨L.P, 0, none⟩)] #[]] 134)) S1 L x) := h.keep (Kp.alloc _ _ _)
     clear e h n1 k hp hv hw4 hw hb
     go_wp2_with fail
     refine Calls.mono (HO.out _ _ Q.out) ?_; rintro e z1 ⟨⟨y, rfl⟩, S2, q2, n2⟩
     have Q2 : Hid (BW z1 S2 L (x.outD u (some (.pic, a))) ∧ Nx w S z1 S2) := ⟨q2, (NQ.out.trans (Nx.keep (Kp.alloc _ _ _))).trans n2⟩
     clear q2 n2 Q HO
     go_wp2
     go_roundw
     case rel => exact ⟨i + 1, p2, _, _, S2, rfl, rfl, by go_num, by omega, np.1, np.2, nv.1, nv.2, ⟨Q2.out.1, K1.out.1⟩, Q2.out.2, K1.out.2, by rw [hj']; exact EQ.out⟩
     case measure => simp [intOf]; omega
    | pit =>
     unfold portV entV ptr at hl
     dsimp only at hb
     have HO : Hid (∀ W S, BW W S L x → Calls Tryz.prog 62 #[.pointer (some ⟨L.B, 0, none⟩), .int .i64 a, .int .u8 u] W fun e w' => (∃ y, e = .returned (.int .i64 y)) ∧ BNx W S L (x.outD u (some (.pit, a))) w') := fun W S h => pit_out h k hb hv
     have Q : Hid (BW (wr.alloc (.cells #[.int .i64 a, .func (.func 62) #[.pointer (some ⟨L.B, 0, none⟩)] #[], .func (.func 63) #[.pointer (some ⟨L.B, 0, none⟩)] #[]] 134)) S1 L x) := h.keep (Kp.alloc _ _ _)
     clear e h n1 k hp hv hw4 hw hb
     go_wp2_with fail
     refine Calls.mono (HO.out _ _ Q.out) ?_; rintro e z1 ⟨⟨y, rfl⟩, S2, q2, n2⟩
     have Q2 : Hid (BW z1 S2 L (x.outD u (some (.pit, a))) ∧ Nx w S z1 S2) := ⟨q2, (NQ.out.trans (Nx.keep (Kp.alloc _ _ _))).trans n2⟩
     clear q2 n2 Q HO
     go_wp2
     go_roundw
     case rel => exact ⟨i + 1, p2, _, _, S2, rfl, rfl, by go_num, by omega, np.1, np.2, nv.1, nv.2, ⟨Q2.out.1, K1.out.1⟩, Q2.out.2, K1.out.2, by rw [hj']; exact EQ.out⟩
     case measure => simp [intOf]; omega
    | uart =>
     unfold portV entV ptr at hl
     dsimp only at hb
     have HO : Hid (∀ W S, BW W S L x → Calls Tryz.prog 64 #[.pointer (some ⟨L.U, 0, none⟩), .int .i64 a, .int .u8 u] W fun e w' => (∃ y, e = .returned (.int .i64 y)) ∧ BNx W S L (x.outD u (some (.uart, a))) w') := fun W S h => uart_out h k hb hv hw4
     have Q : Hid (BW (wr.alloc (.cells #[.int .i64 a, .func (.func 64) #[.pointer (some ⟨L.U, 0, none⟩)] #[], .func (.func 65) #[.pointer (some ⟨L.U, 0, none⟩)] #[]] 134)) S1 L x) := h.keep (Kp.alloc _ _ _)
     clear e h n1 k hp hv hw4 hw hb
     go_wp2_with fail
     refine Calls.mono (HO.out _ _ Q.out) ?_; rintro e z1 ⟨⟨y, rfl⟩, S2, q2, n2⟩
     have Q2 : Hid (BW z1 S2 L (x.outD u (some (.uart, a))) ∧ Nx w S z1 S2) := ⟨q2, (NQ.out.trans (Nx.keep (Kp.alloc _ _ _))).trans n2⟩
     clear q2 n2 Q HO
     go_wp2
     go_roundw
     case rel => exact ⟨i + 1, p2, _, _, S2, rfl, rfl, by go_num, by omega, np.1, np.2, nv.1, nv.2, ⟨Q2.out.1, K1.out.1⟩, Q2.out.2, K1.out.2, by rw [hj']; exact EQ.out⟩
     case measure => simp [intOf]; omega
    | ide =>
     unfold portV entV ptr at hl
     dsimp only at hb
     have HO : Hid (∀ W S, BW W S L x → Calls Tryz.prog 66 #[.pointer (some ⟨L.B, 0, none⟩), .int .i64 a, .int .u8 u] W fun e w' => (∃ y, e = .returned (.int .i64 y)) ∧ BNx W S L (x.outD u (some (.ide, a))) w') := fun W S h => ide_out h k hv hw4
     have Q : Hid (BW (wr.alloc (.cells #[.int .i64 a, .func (.func 66) #[.pointer (some ⟨L.B, 0, none⟩)] #[], .func (.func 67) #[.pointer (some ⟨L.B, 0, none⟩)] #[]] 134)) S1 L x) := h.keep (Kp.alloc _ _ _)
     clear e h n1 k hp hv hw4 hw hb
     go_wp2_with fail
     refine Calls.mono (HO.out _ _ Q.out) ?_; rintro e z1 ⟨⟨y, rfl⟩, S2, q2, n2⟩
     have Q2 : Hid (BW z1 S2 L (x.outD u (some (.ide, a))) ∧ Nx w S z1 S2) := ⟨q2, (NQ.out.trans (Nx.keep (Kp.alloc _ _ _))).trans n2⟩
     clear q2 n2 Q HO
     go_wp2
     go_roundw
     case rel => exact ⟨i + 1, p2, _, _, S2, rfl, rfl, by go_num, by omega, np.1, np.2, nv.1, nv.2, ⟨Q2.out.1, K1.out.1⟩, Q2.out.2, K1.out.2, by rw [hj']; exact EQ.out⟩
     case measure => simp [intOf]; omega
    | gate =>
     unfold portV entV ptr at hl
     dsimp only at hb
     have HO : Hid (∀ W S, BW W S L x → Calls Tryz.prog 68 #[.pointer (some ⟨L.B, 0, none⟩), .int .i64 a, .int .u8 u] W fun e w' => (∃ y, e = .returned (.int .i64 y)) ∧ BNx W S L (x.outD u (some (.gate, a))) w') := fun W S h => gate_out h hv
     have Q : Hid (BW (wr.alloc (.cells #[.int .i64 a, .func (.func 68) #[.pointer (some ⟨L.B, 0, none⟩)] #[], .func (.func 69) #[.pointer (some ⟨L.B, 0, none⟩)] #[]] 134)) S1 L x) := h.keep (Kp.alloc _ _ _)
     clear e h n1 k hp hv hw4 hw hb
     go_wp2_with fail
     refine Calls.mono (HO.out _ _ Q.out) ?_; rintro e z1 ⟨⟨y, rfl⟩, S2, q2, n2⟩
     have Q2 : Hid (BW z1 S2 L (x.outD u (some (.gate, a))) ∧ Nx w S z1 S2) := ⟨q2, (NQ.out.trans (Nx.keep (Kp.alloc _ _ _))).trans n2⟩
     clear q2 n2 Q HO
     go_wp2
     go_roundw
     case rel => exact ⟨i + 1, p2, _, _, S2, rfl, rfl, by go_num, by omega, np.1, np.2, nv.1, nv.2, ⟨Q2.out.1, K1.out.1⟩, Q2.out.2, K1.out.2, by rw [hj']; exact EQ.out⟩
     case measure => simp [intOf]; omega
  ·have hi' : i = n := by omega
   subst hi'
   have HZ : Hid (BNx w S L X wr) := by
    rw [Nat.sub_self] at e
    rw [← e]
    exact ⟨S1, h, n1⟩
   clear e h n1 k
   go_wp2
   go_end0
   exact ⟨rfl, HZ.out⟩
end Go.Proofs.YtonfjhbfkichkaaGreat.Bs
