/- The walk of BusSizes. -/
import Derived.Test.YtclejmdmbanedaaGreatBsDuo
import Derived.Test.YtclejmdmbanedaaGreatBsSizes
import Derived.Test.YtclejmdmbanedaaGreatOrdG
import Derived.Test.YtclejmdmbanedaaGreatBp32
namespace Go.Proofs.YtclejmdmbanedaaGreat.Bs
open Go.ChangeShapes Go.WideShapes Go.ChangeAt Go.RowKit
open Go.Proofs.YtclejmdmbanedaaGreat.Ut (Kp heap_lt heap_kept heap_set heap_new noB isB kpB)
set_option linter.unusedVariables false
set_option maxRecDepth 20000

/-- How far the last line is. -/
structure PhS (w1 : World) (R : Nat → Res) (Lb Lc : Loc) (x y : Bm) (l : List Int) (N : Nat) (D : Nat → Int) (t : Value × Value × Nat × Nat) (a b c e : Bool) (w : World) : Prop where
  core : if b = true then Hs w1 w (DD (updR (updR R 6 (bytR t.1 l)) 7 (bytR t.2.1 l)) Lb { x with u := x.u.hush } Lc { y with u := y.u.hush }) else if a = true then Hs w1 w (DD (updR R 6 (bytR t.1 l)) Lb { x with u := x.u.hush } Lc y) else Hs w1 w (DD R Lb x Lc y)
  r3 : c = true → Dk.RowB w t.2.2.1 N D
  r4 : e = true → Dk.RowB w t.2.2.2 N D

section
variable {w1 w : World} {R : Nat → Res} {Lb Lc : Loc} {x y : Bm} {l : List Int} {N : Nat} {D : Nat → Int} {t : Value × Value × Nat × Nat} {a b c e : Bool}
theorem PhS.kp (h : PhS w1 R Lb Lc x y l N D t a b c e w) : Kp noB w1 w := by
  have := h.core
  split at this
  · exact this.kp
  · split at this <;> exact this.kp
theorem PhS.s1 (h : PhS w1 R Lb Lc x y l N D t true b c e w) : (convert 22 9 t.1).run Tryz.prog w = .ok (.string (strOfNums l)) w := by
  have := h.core
  split at this
  · rw [upd_comm _ (by decide)] at this
    exact ddStr this (by decide) (by decide)
  · rw [if_pos rfl] at this
    exact ddStr this (by decide) (by decide)
theorem PhS.s2 (h : PhS w1 R Lb Lc x y l N D t a true c e w) : (convert 22 9 t.2.1).run Tryz.prog w = .ok (.string (strOfNums l)) w := by
  have := h.core
  rw [if_pos rfl] at this
  exact ddStr this (by decide) (by decide)
theorem row_str {g : Nat} (h : Dk.RowB w g N D) : (convert 22 9 (.slice (some ⟨g, 0, none⟩) N N)).run Tryz.prog w = .ok (.string (strOfNums (Dk.strR N D))) w := h.str
end

set_option maxHeartbeats 8000000 in
theorem BusSizes_walk (W : World) (a0 : Option Addr) (L cap : Nat) (lq : L ≤ 4398046510976) (ws : ∀ i, i < L → OpIn W a0 i) (port : Int) (p0 : 0 ≤ port) (p1' : port ≤ 65535) (wide : Bool) (vv : Int) (vv0 : 0 ≤ vv) (vv1' : vv ≤ 4294967295) : Calls Tryz.prog 5 #[.slice a0 L cap, .int .u16 port, .bool wide, .int .u32 vv] W fun e w' => e = .returned (.bool true) ∧ Below W.heap.size W w' := by
  have p1 : port < 65536 := by omega
  have vv1 : vv < 4294967296 := by omega
  clear p1' vv1'
  have HA : Hid (∀ w, _) := awake_ok
  have HB : Hid (∀ w, _) := both20
  have HS : Hid (∀ i, i < L → OpIn W a0 i) := ws
  have HE : Hid (∀ w0 w' : World, Kp noB W w0 → Kp noB w0 w' → Below W.heap.size W w') := fun w0 w' h k => kpE (h.trans k)
  clear ws
  go_enter Tryz.func5, Tryz.ntmps5
  go_wp2_with fail
  refine Calls.mono (HA.out _) ?_; rintro e w0 ⟨rfl, q0⟩
  have Q0 : Hid (Kp noB W w0) := q0
  clear q0 HA
  go_wp2_with fail
  refine Calls.mono (HB.out _) ?_; rintro e w1 ⟨rfl, q1, hb1⟩
  have Q1 : Hid (Kp noB W w1) := Q0.out.trans q1
  have HB1 : Hid _ := hb1
  clear q1 hb1 Q0
  go_wp2_with fail
  refine Calls.mono HB1.out ?_; rintro e w2 ⟨Lb, Lb', rfl, p2⟩
  have P2 : Hid _ := p2
  clear p2 HB1
  go_wp2_with fail
  refine Calls.mono (HB.out _) ?_; rintro e w3 ⟨rfl, q3, hb3⟩
  have P3 : Hid (Hs w1 w3 (two (busR Lb x20) (docR Lb' x20))) := P2.out.keep q3
  have HB3 : Hid _ := hb3
  clear q3 hb3 P2 HB
  go_wp2_with fail
  refine Calls.mono HB3.out ?_; rintro e w4 ⟨Lc, Lc', rfl, p4⟩
  have P4 : Hid (Hs w1 w4 (DD (joinR 2 (two .none (docR Lb' x20)) (two .none (docR Lc' x20))) Lb x20 Lc x20)) := by rw [← join_dd]; exact P3.out.join p4 2
  have R5 : Hid (joinR 2 (two .none (docR Lb' x20)) (two .none (docR Lc' x20)) 5 = Res.none ∧ joinR 2 (two .none (docR Lb' x20)) (two .none (docR Lc' x20)) 6 = Res.none ∧ joinR 2 (two .none (docR Lb' x20)) (two .none (docR Lc' x20)) 7 = Res.none) := ⟨join_free (by decide), join_free (by decide), join_free (by decide)⟩
  generalize joinR 2 (two .none (docR Lb' x20)) (two .none (docR Lc' x20)) = R at *
  have QX : Hid (Qt x20 ∧ x20.wk ≤ 0) := ⟨qt20, by rw [wk20]; exact Nat.le_refl 0⟩
  generalize x20 = x0 at *
  clear p4 HB3 P3
  go_wp2_with fail
  go_loopw [16] (fun s wr => ∃ (i : Nat) (x : Bm), s = .int .i64 i ∧ i ≤ L ∧ i ≤ 100 ∧ Hs w1 wr (DD R Lb x Lc x) ∧ Qt x ∧ x.wk ≤ 16 * i) (fun s _ => 100 - (intOf s).toNat)
  case atStart => exact ⟨0, x0, rfl, by omega, by omega, P4.out, QX.out.1, by have := QX.out.2; omega⟩
  case round =>
    clear P4 QX
    obtain ⟨i, x, rfl, hi, h100, hh, qt, hw⟩ := hrel
    by_cases hgo : i < L ∧ i < 100
    · obtain ⟨blk, off, kd, pt, sz, v, rfl, hblk, ⟨c0, c1, c2, c3⟩, ⟨bd0, bd1⟩, ⟨bp0, bp1⟩, ⟨bs0, bs1⟩, ⟨v0, v1⟩⟩ := (HS.out i hgo.1).kp (Q1.out.trans hh.kp)
      have hL1 : i < L := hgo.1
      have hL2 : i < 100 := hgo.2
      have P5 : Hid (Hs w1 (wr.alloc (opO kd pt sz v)) (DD (updR R 5 (.blk wr.heap.size (opO kd pt sz v))) Lb x Lc x)) := ddNew hh R5.out.1 (by decide) (by decide) _
      have CX : Hid (∀ w X x y, Hs w1 w (DD (updR R 5 (.blk X (opO kd pt sz v))) Lb x Lc y) → _) := fun w X x y h => opO_cells (ddBlk h (by decide) (by decide))
      have DX : Hid (∀ w X x y, Hs w1 w (DD (updR R 5 (.blk X (opO kd pt sz v))) Lb x Lc y) → Hs w1 w (DD R Lb x Lc y)) := fun w X x y h => ddDrop h R5.out.1 (by decide) (by decide)
      unfold opO at P5
      clear hh hblk hgo
      by_cases e1 : kd = 1
      · subst e1
        have KK : Hid (Qt (x.out pt sz v) ∧ (x.out pt sz v).wk ≤ 16 * (i + 1)) := ⟨qt.out _ _ _, by have := out_wk qt.ok pt sz v; omega⟩
        have H1 : Hid (∀ w X, Hs w1 w (DD (updR R 5 (.blk X (opO 1 pt sz v))) Lb x Lc x) → _) := fun w X h => outB h qt.ok pt sz v bp0 bp1 v0 v1 (by omega)
        have H2 : Hid (∀ w X, Hs w1 w (DD (updR R 5 (.blk X (opO 1 pt sz v))) Lb (x.out pt sz v) Lc x) → _) := fun w X h => outC h qt.ok pt sz v bp0 bp1 v0 v1 (by omega)
        generalize x.out pt sz v = x' at *
        generalize erS sz = er at *
        clear qt hw
        go_wp2_with fail
        generalize wr.alloc _ = w5 at P5 ⊢
        generalize wr.heap.size = X at P5 ⊢
        refine Calls.mono (H1.out _ _ P5.out) ?_; rintro e w6 ⟨rfl, p6⟩
        obtain ⟨o0, o1, o2, o3⟩ := CX.out _ _ _ _ p6
        have P6 : Hid _ := p6
        clear p6 P5 H1 c0 c1 c2 c3
        go_wp2_with fail
        refine Calls.mono (H2.out _ _ P6.out) ?_; rintro e w7 ⟨rfl, p7⟩
        have P7 : Hid (Hs w1 w7 (DD R Lb x' Lc x')) := DX.out _ _ _ _ p7
        clear p7 P6 H2 o0 o1 o2 o3 CX DX
        go_wp2
        go_roundw
        case rel => exact ⟨i + 1, x', by go_num, by omega, by omega, P7.out, KK.out.1, KK.out.2⟩
        case measure => simp [intOf]; omega
      · have e1' : (kd == 1) = false := by rw [beq_eq_false_iff_ne]; exact e1
        have KK : Hid (Qt x ∧ x.wk ≤ 16 * (i + 1)) := ⟨qt, by omega⟩
        clear qt hw
        go_wp2
        go_roundw
        case rel => exact ⟨i + 1, x, by go_num, by omega, by omega, DX.out _ _ _ _ P5.out, KK.out.1, KK.out.2⟩
        case measure => simp [intOf]; omega
    · have P5 : Hid (Hs w1 wr (DD R Lb x Lc x)) := hh
      have QX : Hid (Qt x ∧ x.wk ≤ 1600) := ⟨qt, by omega⟩
      have hend : i < L → ¬ i < 100 := fun a b => hgo ⟨a, b⟩
      clear hh qt hw hgo HS
      generalize wr = w5 at *
      by_cases hl : i < L
      · have hh := hend hl
        clear hend
        by_cases hp : port = 496
        · subst hp
          have KZ : Hid _ := HE.out _ _ Q1.out P5.out.kp
          clear P5 QX HE
          go_wp2
          go_ret
          exact ⟨rfl, KZ.out⟩
        · have hp' : (port == 496) = false := by rw [beq_eq_false_iff_ne]; exact hp
          cases wide
          · obtain ⟨n, hn⟩ : ∃ n : Nat, n = 2 := ⟨_, rfl⟩
            have NI : Hid ((2 : Int) = (n : Int)) := by show _ = _; rw [hn]; rfl
            have ok : okS n := by unfold okS; omega
            have n4 : n ≤ 4 := by omega
            obtain ⟨sm, ev⟩ := wide_in (x := x) p0 p1 hp n ok
            have EN : erS n = 0 := by unfold erS; rw [if_pos ok]
            have E1 : erS 1 = 0 := rfl
            obtain ⟨V, hV⟩ : ∃ V, V = x.innV port n := ⟨_, rfl⟩
            obtain ⟨x1, hx1⟩ : ∃ x1, x1 = x.inn port n := ⟨_, rfl⟩
            have k1 : x1.Ok := by rw [hx1]; exact QX.out.1.ok.inn _ _
            have w1' : x1.wk ≤ 1600 := by rw [hx1]; exact Nat.le_trans (inn_wk _ _ _) QX.out.2
            have HI : Hid (Calls Tryz.prog 24 #[.pointer (some ⟨Lb.B, 0, none⟩), .int .u16 port, .int .i64 n] w5 fun e w' => e = .returned (.tuple #[.int .u32 V, .int .i64 0]) ∧ Hs w1 w' (DD R Lb x1 Lc x)) := by
              have := inB P5.out QX.out.1.ok port n p0 p1
              rw [← hV, ← hx1, EN] at this
              exact this
            rw [← hV] at ev
            rw [← hx1] at sm
            obtain ⟨x2, hx2⟩ : ∃ x2, x2 = x1.out port n vv := ⟨_, rfl⟩
            have k2 : x2.Ok := by rw [hx2]; exact k1.out _ _ _
            have sm2 : Sim x2 (oC (cN x port n) port vv n) := by rw [hx2]; exact wide_out sm p0 p1 hp n ok vv
            have HO : Hid (∀ w, Hs w1 w (DD R Lb x1 Lc (cN x port n)) → Calls Tryz.prog 22 #[.pointer (some ⟨Lb.B, 0, none⟩), .int .u16 port, .int .i64 n, .int .u32 vv] w fun e w' => e = .returned (.int .i64 0) ∧ Hs w1 w' (DD R Lb x2 Lc (cN x port n))) := fun w h => by
              have := outB h k1 port n vv p0 p1 vv0 vv1 (by omega)
              rw [← hx2, EN] at this
              exact this
            have SM : Hid (Sim x2 (oC (cN x port n) port vv n) ∧ x2.Ok) := ⟨sm2, k2⟩
            have EV : Hid (0 + pw 0 * Bm.inVN (n - 0) (bN x port 0) (pi port 0) = V) := by rw [ev]; show 0 + pw 0 * _ = _; simp [pw]
            have n1 : 1 ≤ n := by omega
            clear sm ev hV hx1 k1 w1' hx2 k2 sm2 P5 ok EN hp hn
            go_wp2_with fail
            rw [NI.out]
            clear NI
            refine Calls.mono HI.out ?_; rintro e w6 ⟨rfl, p6⟩
            have P6 : Hid _ := p6
            clear p6 HI
            go_wp2_with fail
            go_loopw [21, 22] (fun s21 s22 wr => ∃ (i : Nat) (acc : Int), s21 = .int .u32 acc ∧ s22 = .int .i64 i ∧ i ≤ n ∧ 0 ≤ acc ∧ acc < pw i ∧ acc + pw i * Bm.inVN (n - i) (bN x port i) (pi port i) = V ∧ Hs w1 wr (DD R Lb x1 Lc (cN x port i))) (fun _ s22 _ => ((n : Int) - intOf s22).toNat)
            case atStart => exact ⟨0, 0, rfl, rfl, by omega, by decide, by decide, EV.out, P6.out⟩
            case round =>
              clear P6 EV
              obtain ⟨i, acc, rfl, rfl, hi, ac0, ac1, ev, hh⟩ := hrel
              by_cases hlt : i < n
              · obtain ⟨j, hj⟩ : ∃ j, n - i = j + 1 := ⟨n - i - 1, by omega⟩
                have hj' : n - (i + 1) = j := by omega
                rw [hj, inVN_bN] at ev
                have ob : Byt ((bN x port i).inV1 (pi port i)) := inV1_byt (bN_ok QX.out.1.ok port i) _
                obtain ⟨ac, ev⟩ := rd_acc (j := j) (by omega) ob ac0 ac1 ev
                have sb := same_byte QX.out.1.ok QX.out.1.told port (i := i) (by omega)
                have HN : Hid (Calls Tryz.prog 24 #[.pointer (some ⟨Lc.B, 0, none⟩), .int .u16 (pi port i), .int .i64 1] wr fun e w' => e = .returned (.tuple #[.int .u32 ((bN x port i).inV1 (pi port i)), .int .i64 0]) ∧ Hs w1 w' (DD R Lb x1 Lc (cN x port (i + 1)))) := by
                  have := inC hh (cN_ok QX.out.1.ok port i) (pi port i) 1 (pi_bd _ _).1 (pi_bd _ _).2
                  rw [sb, E1] at this
                  exact this
                generalize (bN x port i).inV1 (pi port i) = o at *
                have f1 : IntKind.u16.wrap (i : Int) = i := by rw [IntKind.wrap_u16]; omega
                have f2 : (i : Int) % 65536 = i := by omega
                have f3 : (port + (i : Int)) % 65536 = pi port i := rfl
                have f4 : IntKind.u16.wrap (port + (i : Int)) = pi port i := by rw [IntKind.wrap_u16]; rfl
                have EQ : Hid _ := ev
                have AC : Hid _ := ac
                have o0 := ob.1
                have o2 := ob.2
                have i4 : i = 0 ∨ i = 1 ∨ i = 2 ∨ i = 3 := by omega
                have A1 : Hid (acc < pw i) := ac1
                generalize pi port i = pp at *
                clear ev ac ob hh sb ac1
                go_wp2_with fail
                refine Calls.mono HN.out ?_; rintro e w7 ⟨rfl, p7⟩
                have P7 : Hid _ := p7
                clear p7 HN f1 f2 f3 f4
                rcases i4 with rfl | rfl | rfl | rfl
                · have a1 := A1.out
                  have a3 : acc < 1 := by simpa [pw] using a1
                  have a4 : acc = 0 := by omega
                  subst a4
                  clear a1 A1
                  go_wp2
                  go_roundw
                  case rel => exact ⟨1, _, rfl, by go_num, by omega, (by have := AC.out.1; simp [pw] at this ⊢ <;> omega), (by have := AC.out.2; simp [pw] at this ⊢ <;> omega), (by rw [hj']; have := EQ.out; simp [pw] at this ⊢ <;> omega), P7.out⟩
                  case measure => simp [intOf]; omega
                · have a1 := A1.out
                  have a3 : acc < 256 := by simpa [pw] using a1
                  clear a1 A1
                  go_wp2
                  go_roundw
                  case rel => exact ⟨2, _, rfl, by go_num, by omega, (by have := AC.out.1; simp [pw] at this ⊢ <;> omega), (by have := AC.out.2; simp [pw] at this ⊢ <;> omega), (by rw [hj']; have := EQ.out; simp [pw] at this ⊢ <;> omega), P7.out⟩
                  case measure => simp [intOf]; omega
                · have a1 := A1.out
                  have a3 : acc < 65536 := by simpa [pw] using a1
                  clear a1 A1
                  go_wp2
                  go_roundw
                  case rel => exact ⟨3, _, rfl, by go_num, by omega, (by have := AC.out.1; simp [pw] at this ⊢ <;> omega), (by have := AC.out.2; simp [pw] at this ⊢ <;> omega), (by rw [hj']; have := EQ.out; simp [pw] at this ⊢ <;> omega), P7.out⟩
                  case measure => simp [intOf]; omega
                · have a1 := A1.out
                  have a3 : acc < 16777216 := by simpa [pw] using a1
                  clear a1 A1
                  go_wp2
                  go_roundw
                  case rel => exact ⟨4, _, rfl, by go_num, by omega, (by have := AC.out.1; simp [pw] at this ⊢ <;> omega), (by have := AC.out.2; simp [pw] at this ⊢ <;> omega), (by rw [hj']; have := EQ.out; simp [pw] at this ⊢ <;> omega), P7.out⟩
                  case measure => simp [intOf]; omega
              · have hi' : i = n := by omega
                have P7 : Hid (Hs w1 wr (DD R Lb x1 Lc (cN x port n))) := by rw [← hi']; exact hh
                have ev' : acc = V := by
                  rw [show n - i = 0 by omega] at ev
                  rw [← ev]
                  show acc = acc + pw i * 0
                  omega
                subst ev'
                have K0 : Hid ((cN x port n).Ok ∧ (cN x port n).wk ≤ 1600) := ⟨cN_ok QX.out.1.ok port n, Nat.le_trans (cN_wk x port n) QX.out.2⟩
                clear hh ev ac1 QX
                generalize cN x port n = y0 at *
                have hge : ¬ (i : Int) < n := by omega
                go_wp2_with fail
                refine Calls.mono (HO.out _ P7.out) ?_; rintro e w8 ⟨rfl, p8⟩
                have P8 : Hid _ := p8
                clear p8 HO P7
                go_wp2_with fail
                go_loopw [25] (fun s25 wr => ∃ q : Nat, s25 = .int .i64 q ∧ q ≤ n ∧ Hs w1 wr (DD R Lb x2 Lc (oC y0 port vv q))) (fun s25 _ => ((n : Int) - intOf s25).toNat)
                case atStart => exact ⟨0, rfl, by omega, P8.out⟩
                case round =>
                  clear P8
                  obtain ⟨q, rfl, hq, hh⟩ := hrel
                  by_cases hlt : q < n
                  · obtain ⟨u, hu⟩ : ∃ u, u = vv / 256 ^ q % 256 := ⟨_, rfl⟩
                    have HN : Hid (Calls Tryz.prog 22 #[.pointer (some ⟨Lc.B, 0, none⟩), .int .u16 (pi port q), .int .i64 1, .int .u32 u] wr fun e w' => e = .returned (.int .i64 0) ∧ Hs w1 w' (DD R Lb x2 Lc (oC y0 port vv (q + 1)))) := by
                      have hw := oC_wk K0.out.1 port vv q
                      have := outC hh (oC_ok K0.out.1 port vv q) (pi port q) 1 u (pi_bd _ _).1 (pi_bd _ _).2 (by omega) (by omega) (by have := K0.out.2; omega)
                      rw [E1, hu] at this
                      rw [hu]
                      exact this
                    obtain ⟨pp, hpp⟩ : ∃ pp, pp = pi port q := ⟨_, rfl⟩
                    rw [← hpp] at HN
                    clear hh
                    have i4 : q = 0 ∨ q = 1 ∨ q = 2 ∨ q = 3 := by omega
                    rcases i4 with rfl | rfl | rfl | rfl
                    · have g1 : vv % 256 = u := by rw [hu, Int.pow_zero, Int.ediv_one]
                      have e0 : pp = port := by rw [hpp, pi_0 p0 p1]
                      rw [e0] at HN
                      clear e0
                      clear hu hpp
                      go_wp2_with fail
                      refine Calls.mono HN.out ?_; rintro e w9 ⟨rfl, p9⟩
                      have P9 : Hid _ := p9
                      clear p9 HN
                      go_wp2
                      go_roundw
                      case rel => exact ⟨1, by go_num, by omega, P9.out⟩
                      case measure => simp [intOf]; omega
                    · have g1 : vv / 256 % 256 = u := by rw [hu]; rfl
                      have f3 : (port + 1) % 65536 = pp := by rw [hpp]; rfl
                      have f4 : IntKind.u16.wrap (port + 1) = pp := by rw [IntKind.wrap_u16]; exact f3
                      clear hu hpp
                      go_wp2_with fail
                      refine Calls.mono HN.out ?_; rintro e w9 ⟨rfl, p9⟩
                      have P9 : Hid _ := p9
                      clear p9 HN f3 f4
                      go_wp2
                      go_roundw
                      case rel => exact ⟨2, by go_num, by omega, P9.out⟩
                      case measure => simp [intOf]; omega
                    · have g1 : vv / 65536 % 256 = u := by rw [hu]; rfl
                      have f3 : (port + 2) % 65536 = pp := by rw [hpp]; rfl
                      have f4 : IntKind.u16.wrap (port + 2) = pp := by rw [IntKind.wrap_u16]; exact f3
                      clear hu hpp
                      go_wp2_with fail
                      refine Calls.mono HN.out ?_; rintro e w9 ⟨rfl, p9⟩
                      have P9 : Hid _ := p9
                      clear p9 HN f3 f4
                      go_wp2
                      go_roundw
                      case rel => exact ⟨3, by go_num, by omega, P9.out⟩
                      case measure => simp [intOf]; omega
                    · have g1 : vv / 16777216 % 256 = u := by rw [hu]; rfl
                      have f3 : (port + 3) % 65536 = pp := by rw [hpp]; rfl
                      have f4 : IntKind.u16.wrap (port + 3) = pp := by rw [IntKind.wrap_u16]; exact f3
                      clear hu hpp
                      go_wp2_with fail
                      refine Calls.mono HN.out ?_; rintro e w9 ⟨rfl, p9⟩
                      have P9 : Hid _ := p9
                      clear p9 HN f3 f4
                      go_wp2
                      go_roundw
                      case rel => exact ⟨4, by go_num, by omega, P9.out⟩
                      case measure => simp [intOf]; omega
                  · have hq' : q = n := by omega
                    have P9 : Hid (Hs w1 wr.drew (DD R Lb x2 Lc (oC y0 port vv n))) := by rw [← hq']; exact hh.drew
                    have ky : Hid (oC y0 port vv n).Ok := oC_ok K0.out.1 port vv n
                    generalize oC y0 port vv n = y2 at *
                    obtain ⟨l, hl⟩ : ∃ l, l = x2.u.sent := ⟨_, rfl⟩
                    obtain ⟨N, hN⟩ : ∃ N, N = 512 * x2.d.n := ⟨_, rfl⟩
                    obtain ⟨D, hD⟩ : ∃ D, D = x2.d.D := ⟨_, rfl⟩
                    obtain ⟨sl, hsl⟩ : ∃ s, s = strOfNums l := ⟨_, rfl⟩
                    obtain ⟨sd, hsd⟩ : ∃ s, s = strOfNums (Dk.strR N D) := ⟨_, rfl⟩
                    have l2 : y2.u.sent = l := by rw [hl, SM.out.1.u]
                    have N2 : 512 * y2.d.n = N := by rw [hN, SM.out.1.d]
                    have D2 : y2.d.D = D := by rw [hD, SM.out.1.d]
                    have HC1 : Hid (∀ w, Hs w1 w (DD R Lb x2 Lc y2) → Calls Tryz.prog 26 #[.pointer (some ⟨Lb.B, 0, none⟩)] w fun e w' => ∃ p c, e = .returned (.slice p l.length c) ∧ Hs w1 w' (DD (updR R 6 (bytR (.slice p l.length c) l)) Lb { x2 with u := x2.u.hush } Lc y2)) := fun w h => by rw [hl]; exact sentB h R5.out.2.1 (by decide) (by decide)
                    have HC2 : Hid (∀ w r, Hs w1 w (DD (updR R 6 r) Lb { x2 with u := x2.u.hush } Lc y2) → Calls Tryz.prog 26 #[.pointer (some ⟨Lc.B, 0, none⟩)] w fun e w' => ∃ p c, e = .returned (.slice p l.length c) ∧ Hs w1 w' (DD (updR (updR R 6 r) 7 (bytR (.slice p l.length c) l)) Lb { x2 with u := x2.u.hush } Lc { y2 with u := y2.u.hush })) := fun w r h => by
                      have := sentC h (j := 7) (by rw [upd_other (by decide)]; exact R5.out.2.2) (by decide) (by decide)
                      rw [l2] at this
                      exact this
                    have HC3 : Hid (∀ w R', Hs w1 w (DD R' Lb { x2 with u := x2.u.hush } Lc { y2 with u := y2.u.hush }) → Calls Tryz.prog 27 #[.pointer (some ⟨Lb.B, 0, none⟩)] w fun e w' => e = .returned (.slice (some ⟨w.heap.size, 0, none⟩) N N) ∧ Dk.RowB w' w.heap.size N D ∧ Kp noB w w') := fun w R' h => by
                      obtain ⟨⟨S, b⟩, _⟩ := ddBw h
                      rw [hN, hD]
                      exact (disk_ok b { SM.out.2 with u := SM.out.2.u.hush }).mono fun e w' ⟨q, r⟩ => ⟨q, r.row, kDk r.2.1⟩
                    have HC4 : Hid (∀ w R', Hs w1 w (DD R' Lb { x2 with u := x2.u.hush } Lc { y2 with u := y2.u.hush }) → Calls Tryz.prog 27 #[.pointer (some ⟨Lc.B, 0, none⟩)] w fun e w' => e = .returned (.slice (some ⟨w.heap.size, 0, none⟩) N N) ∧ Dk.RowB w' w.heap.size N D ∧ Kp noB w w') := fun w R' h => by
                      obtain ⟨_, S, b⟩ := ddBw h
                      rw [← N2, ← D2]
                      exact (disk_ok b { ky.out with u := ky.out.u.hush }).mono fun e w' ⟨q, r⟩ => ⟨q, r.row, kDk r.2.1⟩
                    have HS1 : Hid (∀ t b c e w, PhS w1 R Lb Lc x2 y2 l N D t true b c e w → (convert 22 9 t.1).run Tryz.prog w = .ok (.string sl) w) := fun t b c e w h => by rw [hsl]; exact h.s1
                    have HS2 : Hid (∀ t a c e w, PhS w1 R Lb Lc x2 y2 l N D t a true c e w → (convert 22 9 t.2.1).run Tryz.prog w = .ok (.string sl) w) := fun t a c e w h => by rw [hsl]; exact h.s2
                    have HS3 : Hid (∀ w g, Dk.RowB w g N D → (convert 22 9 (.slice (some ⟨g, 0, none⟩) N N)).run Tryz.prog w = .ok (.string sd) w) := fun w g h => by rw [hsd]; exact row_str h
                    have hge2 : ¬ (q : Int) < n := by omega
                    clear hh SM ky l2 N2 D2 hl hN hD hsl hsd K0
                    go_wp2
                    refine OrdG.region_vals (τ := Value × Value × Nat × Nat) (fun t => [(.pointer (some ⟨Lb.B, 0, none⟩)), t.1, (.string sl), (.pointer (some ⟨Lc.B, 0, none⟩)), t.2.1, (.string sl), (.bool true), (.bool true), (.pointer (some ⟨Lb.B, 0, none⟩)), (.slice (some ⟨t.2.2.1, 0, none⟩) N N), (.string sd), (.pointer (some ⟨Lc.B, 0, none⟩)), (.slice (some ⟨t.2.2.2, 0, none⟩) N N), (.string sd), (.bool true), (.bool true), (.bool true)]) (fun t listed W' => PhS w1 R Lb Lc x2 y2 l N D t (listed.getD 1 false) (listed.getD 4 false) (listed.getD 9 false) (listed.getD 12 false) W') (undef, undef, 0, 0) (by kernel_rfl) (by kernel_rfl) (by kernel_rfl) (by kernel_rfl) (fun _ => rfl) (fun t => by simp only [OrdG.puts, Act.put, List.setIfInBounds_toArray, List.set_cons_zero, List.set_cons_succ]; rfl) (fun _ => by kernel_rfl) ⟨P9.out, (fun h => by cases h), (fun h => by cases h)⟩ ?_ ?_
                    · refine ⟨?_, ?_, ?_, ?_, ?_, ?_, ?_, ?_, ?_, ?_, ?_, ?_, ?_, ?_, ?_, ?_, ?_, trivial⟩
                      all_goals (intro t listed W' hz hSh hl hI hb K hK hK0; change PhS w1 R Lb Lc x2 y2 l N D t (listed.getD 1 false) (listed.getD 4 false) (listed.getD 9 false) (listed.getD 12 false) W' at hI)
                      · go_simp
                        exact hK0 _ (by show PhS w1 R Lb Lc x2 y2 l N D _ (Array.getD _ 1 false) (Array.getD _ 4 false) (Array.getD _ 9 false) (Array.getD _ 12 false) _; rw [getD_set_ne false (by decide), getD_set_ne false (by decide), getD_set_ne false (by decide), getD_set_ne false (by decide)]; exact hI)
                      · skip
                        have n2 := OrdG.shut_no (j := 2) hSh hl (by kernel_rfl)
                        have n6 := OrdG.shut_no (j := 6) hSh n2 (by kernel_rfl)
                        have n7 := OrdG.shut_no (j := 7) hSh n6 (by kernel_rfl)
                        have n9 := OrdG.shut_no (j := 9) hSh n7 (by kernel_rfl)
                        have n12 := OrdG.shut_no (j := 12) hSh n9 (by kernel_rfl)
                        have n4 := OrdG.shut_no (j := 4) hSh hl (by kernel_rfl)
                        rw [hl, n4, n9, n12] at hI
                        have h0 : Hs w1 W' (DD R Lb x2 Lc y2) := hI.core
                        clear hI
                        go_simp
                        refine Calls.mono (HC1.out _ h0) ?_; rintro e z5 ⟨p, c, rfl, h1⟩
                        refine hK _ _ ⟨(.slice p l.length c, t.2), rfl, OrdG.vals_one rfl hl, ?_⟩
                        show PhS w1 R Lb Lc x2 y2 l N D _ (Array.getD _ 1 false) (Array.getD _ 4 false) (Array.getD _ 9 false) (Array.getD _ 12 false) _
                        rw [OrdG.getD_self hz (by decide), getD_set_ne false (by decide), getD_set_ne false (by decide), getD_set_ne false (by decide), n4, n9, n12]
                        exact ⟨h1, (fun h => by cases h), (fun h => by cases h)⟩
                      · have y1 := OrdG.on_of (i := 1) hb (by kernel_rfl)
                        have s1 : (convert 22 9 t.1).run Tryz.prog W' = .ok (.string sl) W' := HS1.out _ _ _ _ _ (by rw [y1] at hI; exact hI)
                        go_simp
                        exact hK0 _ (by show PhS w1 R Lb Lc x2 y2 l N D _ (Array.getD _ 1 false) (Array.getD _ 4 false) (Array.getD _ 9 false) (Array.getD _ 12 false) _; rw [getD_set_ne false (by decide), getD_set_ne false (by decide), getD_set_ne false (by decide), getD_set_ne false (by decide)]; exact hI)
                      · go_simp
                        exact hK0 _ (by show PhS w1 R Lb Lc x2 y2 l N D _ (Array.getD _ 1 false) (Array.getD _ 4 false) (Array.getD _ 9 false) (Array.getD _ 12 false) _; rw [getD_set_ne false (by decide), getD_set_ne false (by decide), getD_set_ne false (by decide), getD_set_ne false (by decide)]; exact hI)
                      · skip
                        have n5 := OrdG.shut_no (j := 5) hSh hl (by kernel_rfl)
                        have n6 := OrdG.shut_no (j := 6) hSh n5 (by kernel_rfl)
                        have n7 := OrdG.shut_no (j := 7) hSh n6 (by kernel_rfl)
                        have n9 := OrdG.shut_no (j := 9) hSh n7 (by kernel_rfl)
                        have n12 := OrdG.shut_no (j := 12) hSh n9 (by kernel_rfl)
                        have y1 := OrdG.on_of (i := 1) hb (by kernel_rfl)
                        rw [hl, y1, n9, n12] at hI
                        have h0 : Hs w1 W' (DD (updR R 6 (bytR t.1 l)) Lb { x2 with u := x2.u.hush } Lc y2) := hI.core
                        clear hI
                        go_simp
                        refine Calls.mono (HC2.out _ _ h0) ?_; rintro e z5 ⟨p, c, rfl, h1⟩
                        refine hK _ _ ⟨(t.1, .slice p l.length c, t.2.2), rfl, OrdG.vals_one rfl hl, ?_⟩
                        show PhS w1 R Lb Lc x2 y2 l N D _ (Array.getD _ 1 false) (Array.getD _ 4 false) (Array.getD _ 9 false) (Array.getD _ 12 false) _
                        rw [OrdG.getD_self hz (by decide), getD_set_ne false (by decide), getD_set_ne false (by decide), getD_set_ne false (by decide), y1, n9, n12]
                        exact ⟨h1, (fun h => by cases h), (fun h => by cases h)⟩
                      · have y4 := OrdG.on_of (i := 4) hb (by kernel_rfl)
                        have s1 : (convert 22 9 t.2.1).run Tryz.prog W' = .ok (.string sl) W' := HS2.out _ _ _ _ _ (by rw [y4] at hI; exact hI)
                        go_simp
                        exact hK0 _ (by show PhS w1 R Lb Lc x2 y2 l N D _ (Array.getD _ 1 false) (Array.getD _ 4 false) (Array.getD _ 9 false) (Array.getD _ 12 false) _; rw [getD_set_ne false (by decide), getD_set_ne false (by decide), getD_set_ne false (by decide), getD_set_ne false (by decide)]; exact hI)
                      · go_simp
                        exact hK0 _ (by show PhS w1 R Lb Lc x2 y2 l N D _ (Array.getD _ 1 false) (Array.getD _ 4 false) (Array.getD _ 9 false) (Array.getD _ 12 false) _; rw [getD_set_ne false (by decide), getD_set_ne false (by decide), getD_set_ne false (by decide), getD_set_ne false (by decide)]; exact hI)
                      · go_simp
                        exact hK0 _ (by show PhS w1 R Lb Lc x2 y2 l N D _ (Array.getD _ 1 false) (Array.getD _ 4 false) (Array.getD _ 9 false) (Array.getD _ 12 false) _; rw [getD_set_ne false (by decide), getD_set_ne false (by decide), getD_set_ne false (by decide), getD_set_ne false (by decide)]; exact hI)
                      · go_simp
                        exact hK0 _ (by show PhS w1 R Lb Lc x2 y2 l N D _ (Array.getD _ 1 false) (Array.getD _ 4 false) (Array.getD _ 9 false) (Array.getD _ 12 false) _; rw [getD_set_ne false (by decide), getD_set_ne false (by decide), getD_set_ne false (by decide), getD_set_ne false (by decide)]; exact hI)
                      · skip
                        have n12 := OrdG.shut_no (j := 12) hSh hl (by kernel_rfl)
                        have y7 := OrdG.on_of (i := 7) hb (by kernel_rfl)
                        have y6 := OrdG.shut_yes (i := 6) hSh y7 (by kernel_rfl)
                        have y5 := OrdG.shut_yes (i := 5) hSh y6 (by kernel_rfl)
                        have y4 := OrdG.shut_yes (i := 4) hSh y5 (by kernel_rfl)
                        have y1 := OrdG.shut_yes (i := 1) hSh y4 (by kernel_rfl)
                        rw [hl, y1, y4, n12] at hI
                        have h0 : Hs w1 W' (DD (updR (updR R 6 (bytR t.1 l)) 7 (bytR t.2.1 l)) Lb { x2 with u := x2.u.hush } Lc { y2 with u := y2.u.hush }) := hI.core
                        clear hI
                        go_simp
                        refine Calls.mono (HC3.out _ _ h0) ?_; rintro e z5 ⟨rfl, r, k⟩
                        refine hK _ _ ⟨(t.1, t.2.1, W'.heap.size, t.2.2.2), rfl, OrdG.vals_one rfl hl, ?_⟩
                        show PhS w1 R Lb Lc x2 y2 l N D _ (Array.getD _ 1 false) (Array.getD _ 4 false) (Array.getD _ 9 false) (Array.getD _ 12 false) _
                        rw [OrdG.getD_self hz (by decide), getD_set_ne false (by decide), getD_set_ne false (by decide), getD_set_ne false (by decide), y1, y4, n12]
                        exact ⟨h0.keep k, (fun _ => r), (fun h => by cases h)⟩
                      · have y9 := OrdG.on_of (i := 9) hb (by kernel_rfl)
                        have s1 := HS3.out _ _ (hI.r3 y9)
                        go_simp
                        exact hK0 _ (by show PhS w1 R Lb Lc x2 y2 l N D _ (Array.getD _ 1 false) (Array.getD _ 4 false) (Array.getD _ 9 false) (Array.getD _ 12 false) _; rw [getD_set_ne false (by decide), getD_set_ne false (by decide), getD_set_ne false (by decide), getD_set_ne false (by decide)]; exact hI)
                      · go_simp
                        exact hK0 _ (by show PhS w1 R Lb Lc x2 y2 l N D _ (Array.getD _ 1 false) (Array.getD _ 4 false) (Array.getD _ 9 false) (Array.getD _ 12 false) _; rw [getD_set_ne false (by decide), getD_set_ne false (by decide), getD_set_ne false (by decide), getD_set_ne false (by decide)]; exact hI)
                      · have y9 := OrdG.on_of (i := 9) hb (by kernel_rfl)
                        have y7 := OrdG.shut_yes (i := 7) hSh y9 (by kernel_rfl)
                        have y6 := OrdG.shut_yes (i := 6) hSh y7 (by kernel_rfl)
                        have y5 := OrdG.shut_yes (i := 5) hSh y6 (by kernel_rfl)
                        have y4 := OrdG.shut_yes (i := 4) hSh y5 (by kernel_rfl)
                        have y1 := OrdG.shut_yes (i := 1) hSh y4 (by kernel_rfl)
                        rw [hl, y1, y4, y9] at hI
                        have h0 : Hs w1 W' (DD (updR (updR R 6 (bytR t.1 l)) 7 (bytR t.2.1 l)) Lb { x2 with u := x2.u.hush } Lc { y2 with u := y2.u.hush }) := hI.core
                        have r3 := hI.r3 rfl
                        clear hI
                        go_simp
                        refine Calls.mono (HC4.out _ _ h0) ?_; rintro e z5 ⟨rfl, r, k⟩
                        refine hK _ _ ⟨(t.1, t.2.1, t.2.2.1, W'.heap.size), rfl, OrdG.vals_one rfl hl, ?_⟩
                        show PhS w1 R Lb Lc x2 y2 l N D _ (Array.getD _ 1 false) (Array.getD _ 4 false) (Array.getD _ 9 false) (Array.getD _ 12 false) _
                        rw [OrdG.getD_self hz (by decide), getD_set_ne false (by decide), getD_set_ne false (by decide), getD_set_ne false (by decide), y1, y4, y9]
                        exact ⟨h0.keep k, (fun _ => r3.kept (dkK k) id), (fun _ => r)⟩
                      · have y12 := OrdG.on_of (i := 12) hb (by kernel_rfl)
                        have s1 := HS3.out _ _ (hI.r4 y12)
                        go_simp
                        exact hK0 _ (by show PhS w1 R Lb Lc x2 y2 l N D _ (Array.getD _ 1 false) (Array.getD _ 4 false) (Array.getD _ 9 false) (Array.getD _ 12 false) _; rw [getD_set_ne false (by decide), getD_set_ne false (by decide), getD_set_ne false (by decide), getD_set_ne false (by decide)]; exact hI)
                      · go_simp
                        exact hK0 _ (by show PhS w1 R Lb Lc x2 y2 l N D _ (Array.getD _ 1 false) (Array.getD _ 4 false) (Array.getD _ 9 false) (Array.getD _ 12 false) _; rw [getD_set_ne false (by decide), getD_set_ne false (by decide), getD_set_ne false (by decide), getD_set_ne false (by decide)]; exact hI)
                      · go_simp
                        exact hK0 _ (by show PhS w1 R Lb Lc x2 y2 l N D _ (Array.getD _ 1 false) (Array.getD _ 4 false) (Array.getD _ 9 false) (Array.getD _ 12 false) _; rw [getD_set_ne false (by decide), getD_set_ne false (by decide), getD_set_ne false (by decide), getD_set_ne false (by decide)]; exact hI)
                      · go_simp
                        exact hK0 _ (by show PhS w1 R Lb Lc x2 y2 l N D _ (Array.getD _ 1 false) (Array.getD _ 4 false) (Array.getD _ 9 false) (Array.getD _ 12 false) _; rw [getD_set_ne false (by decide), getD_set_ne false (by decide), getD_set_ne false (by decide), getD_set_ne false (by decide)]; exact hI)
                    · intro t listed z6 hall hI
                      have KZ : Hid _ := HE.out _ _ Q1.out (PhS.kp (show PhS w1 R Lb Lc x2 y2 l N D t (listed.getD 1 false) (listed.getD 4 false) (listed.getD 9 false) (listed.getD 12 false) z6 from hI))
                      clear hI hall HC1 HC2 HC3 HC4 HS1 HS2 HS3 P9
                      go_wp2
                      go_ret
                      exact ⟨rfl, KZ.out⟩
          · obtain ⟨n, hn⟩ : ∃ n : Nat, n = 4 := ⟨_, rfl⟩
            have NI : Hid ((4 : Int) = (n : Int)) := by show _ = _; rw [hn]; rfl
            have ok : okS n := by unfold okS; omega
            have n4 : n ≤ 4 := by omega
            obtain ⟨sm, ev⟩ := wide_in (x := x) p0 p1 hp n ok
            have EN : erS n = 0 := by unfold erS; rw [if_pos ok]
            have E1 : erS 1 = 0 := rfl
            obtain ⟨V, hV⟩ : ∃ V, V = x.innV port n := ⟨_, rfl⟩
            obtain ⟨x1, hx1⟩ : ∃ x1, x1 = x.inn port n := ⟨_, rfl⟩
            have k1 : x1.Ok := by rw [hx1]; exact QX.out.1.ok.inn _ _
            have w1' : x1.wk ≤ 1600 := by rw [hx1]; exact Nat.le_trans (inn_wk _ _ _) QX.out.2
            have HI : Hid (Calls Tryz.prog 24 #[.pointer (some ⟨Lb.B, 0, none⟩), .int .u16 port, .int .i64 n] w5 fun e w' => e = .returned (.tuple #[.int .u32 V, .int .i64 0]) ∧ Hs w1 w' (DD R Lb x1 Lc x)) := by
              have := inB P5.out QX.out.1.ok port n p0 p1
              rw [← hV, ← hx1, EN] at this
              exact this
            rw [← hV] at ev
            rw [← hx1] at sm
            obtain ⟨x2, hx2⟩ : ∃ x2, x2 = x1.out port n vv := ⟨_, rfl⟩
            have k2 : x2.Ok := by rw [hx2]; exact k1.out _ _ _
            have sm2 : Sim x2 (oC (cN x port n) port vv n) := by rw [hx2]; exact wide_out sm p0 p1 hp n ok vv
            have HO : Hid (∀ w, Hs w1 w (DD R Lb x1 Lc (cN x port n)) → Calls Tryz.prog 22 #[.pointer (some ⟨Lb.B, 0, none⟩), .int .u16 port, .int .i64 n, .int .u32 vv] w fun e w' => e = .returned (.int .i64 0) ∧ Hs w1 w' (DD R Lb x2 Lc (cN x port n))) := fun w h => by
              have := outB h k1 port n vv p0 p1 vv0 vv1 (by omega)
              rw [← hx2, EN] at this
              exact this
            have SM : Hid (Sim x2 (oC (cN x port n) port vv n) ∧ x2.Ok) := ⟨sm2, k2⟩
            have EV : Hid (0 + pw 0 * Bm.inVN (n - 0) (bN x port 0) (pi port 0) = V) := by rw [ev]; show 0 + pw 0 * _ = _; simp [pw]
            have n1 : 1 ≤ n := by omega
            clear sm ev hV hx1 k1 w1' hx2 k2 sm2 P5 ok EN hp hn
            go_wp2_with fail
            rw [NI.out]
            clear NI
            refine Calls.mono HI.out ?_; rintro e w6 ⟨rfl, p6⟩
            have P6 : Hid _ := p6
            clear p6 HI
            go_wp2_with fail
            go_loopw [21, 22] (fun s21 s22 wr => ∃ (i : Nat) (acc : Int), s21 = .int .u32 acc ∧ s22 = .int .i64 i ∧ i ≤ n ∧ 0 ≤ acc ∧ acc < pw i ∧ acc + pw i * Bm.inVN (n - i) (bN x port i) (pi port i) = V ∧ Hs w1 wr (DD R Lb x1 Lc (cN x port i))) (fun _ s22 _ => ((n : Int) - intOf s22).toNat)
            case atStart => exact ⟨0, 0, rfl, rfl, by omega, by decide, by decide, EV.out, P6.out⟩
            case round =>
              clear P6 EV
              obtain ⟨i, acc, rfl, rfl, hi, ac0, ac1, ev, hh⟩ := hrel
              by_cases hlt : i < n
              · obtain ⟨j, hj⟩ : ∃ j, n - i = j + 1 := ⟨n - i - 1, by omega⟩
                have hj' : n - (i + 1) = j := by omega
                rw [hj, inVN_bN] at ev
                have ob : Byt ((bN x port i).inV1 (pi port i)) := inV1_byt (bN_ok QX.out.1.ok port i) _
                obtain ⟨ac, ev⟩ := rd_acc (j := j) (by omega) ob ac0 ac1 ev
                have sb := same_byte QX.out.1.ok QX.out.1.told port (i := i) (by omega)
                have HN : Hid (Calls Tryz.prog 24 #[.pointer (some ⟨Lc.B, 0, none⟩), .int .u16 (pi port i), .int .i64 1] wr fun e w' => e = .returned (.tuple #[.int .u32 ((bN x port i).inV1 (pi port i)), .int .i64 0]) ∧ Hs w1 w' (DD R Lb x1 Lc (cN x port (i + 1)))) := by
                  have := inC hh (cN_ok QX.out.1.ok port i) (pi port i) 1 (pi_bd _ _).1 (pi_bd _ _).2
                  rw [sb, E1] at this
                  exact this
                generalize (bN x port i).inV1 (pi port i) = o at *
                have f1 : IntKind.u16.wrap (i : Int) = i := by rw [IntKind.wrap_u16]; omega
                have f2 : (i : Int) % 65536 = i := by omega
                have f3 : (port + (i : Int)) % 65536 = pi port i := rfl
                have f4 : IntKind.u16.wrap (port + (i : Int)) = pi port i := by rw [IntKind.wrap_u16]; rfl
                have EQ : Hid _ := ev
                have AC : Hid _ := ac
                have o0 := ob.1
                have o2 := ob.2
                have i4 : i = 0 ∨ i = 1 ∨ i = 2 ∨ i = 3 := by omega
                have A1 : Hid (acc < pw i) := ac1
                generalize pi port i = pp at *
                clear ev ac ob hh sb ac1
                go_wp2_with fail
                refine Calls.mono HN.out ?_; rintro e w7 ⟨rfl, p7⟩
                have P7 : Hid _ := p7
                clear p7 HN f1 f2 f3 f4
                rcases i4 with rfl | rfl | rfl | rfl
                · have a1 := A1.out
                  have a3 : acc < 1 := by simpa [pw] using a1
                  have a4 : acc = 0 := by omega
                  subst a4
                  clear a1 A1
                  go_wp2
                  go_roundw
                  case rel => exact ⟨1, _, rfl, by go_num, by omega, (by have := AC.out.1; simp [pw] at this ⊢ <;> omega), (by have := AC.out.2; simp [pw] at this ⊢ <;> omega), (by rw [hj']; have := EQ.out; simp [pw] at this ⊢ <;> omega), P7.out⟩
                  case measure => simp [intOf]; omega
                · have a1 := A1.out
                  have a3 : acc < 256 := by simpa [pw] using a1
                  clear a1 A1
                  go_wp2
                  go_roundw
                  case rel => exact ⟨2, _, rfl, by go_num, by omega, (by have := AC.out.1; simp [pw] at this ⊢ <;> omega), (by have := AC.out.2; simp [pw] at this ⊢ <;> omega), (by rw [hj']; have := EQ.out; simp [pw] at this ⊢ <;> omega), P7.out⟩
                  case measure => simp [intOf]; omega
                · have a1 := A1.out
                  have a3 : acc < 65536 := by simpa [pw] using a1
                  clear a1 A1
                  go_wp2
                  go_roundw
                  case rel => exact ⟨3, _, rfl, by go_num, by omega, (by have := AC.out.1; simp [pw] at this ⊢ <;> omega), (by have := AC.out.2; simp [pw] at this ⊢ <;> omega), (by rw [hj']; have := EQ.out; simp [pw] at this ⊢ <;> omega), P7.out⟩
                  case measure => simp [intOf]; omega
                · have a1 := A1.out
                  have a3 : acc < 16777216 := by simpa [pw] using a1
                  clear a1 A1
                  go_wp2
                  go_roundw
                  case rel => exact ⟨4, _, rfl, by go_num, by omega, (by have := AC.out.1; simp [pw] at this ⊢ <;> omega), (by have := AC.out.2; simp [pw] at this ⊢ <;> omega), (by rw [hj']; have := EQ.out; simp [pw] at this ⊢ <;> omega), P7.out⟩
                  case measure => simp [intOf]; omega
              · have hi' : i = n := by omega
                have P7 : Hid (Hs w1 wr (DD R Lb x1 Lc (cN x port n))) := by rw [← hi']; exact hh
                have ev' : acc = V := by
                  rw [show n - i = 0 by omega] at ev
                  rw [← ev]
                  show acc = acc + pw i * 0
                  omega
                subst ev'
                have K0 : Hid ((cN x port n).Ok ∧ (cN x port n).wk ≤ 1600) := ⟨cN_ok QX.out.1.ok port n, Nat.le_trans (cN_wk x port n) QX.out.2⟩
                clear hh ev ac1 QX
                generalize cN x port n = y0 at *
                have hge : ¬ (i : Int) < n := by omega
                go_wp2_with fail
                refine Calls.mono (HO.out _ P7.out) ?_; rintro e w8 ⟨rfl, p8⟩
                have P8 : Hid _ := p8
                clear p8 HO P7
                go_wp2_with fail
                go_loopw [25] (fun s25 wr => ∃ q : Nat, s25 = .int .i64 q ∧ q ≤ n ∧ Hs w1 wr (DD R Lb x2 Lc (oC y0 port vv q))) (fun s25 _ => ((n : Int) - intOf s25).toNat)
                case atStart => exact ⟨0, rfl, by omega, P8.out⟩
                case round =>
                  clear P8
                  obtain ⟨q, rfl, hq, hh⟩ := hrel
                  by_cases hlt : q < n
                  · obtain ⟨u, hu⟩ : ∃ u, u = vv / 256 ^ q % 256 := ⟨_, rfl⟩
                    have HN : Hid (Calls Tryz.prog 22 #[.pointer (some ⟨Lc.B, 0, none⟩), .int .u16 (pi port q), .int .i64 1, .int .u32 u] wr fun e w' => e = .returned (.int .i64 0) ∧ Hs w1 w' (DD R Lb x2 Lc (oC y0 port vv (q + 1)))) := by
                      have hw := oC_wk K0.out.1 port vv q
                      have := outC hh (oC_ok K0.out.1 port vv q) (pi port q) 1 u (pi_bd _ _).1 (pi_bd _ _).2 (by omega) (by omega) (by have := K0.out.2; omega)
                      rw [E1, hu] at this
                      rw [hu]
                      exact this
                    obtain ⟨pp, hpp⟩ : ∃ pp, pp = pi port q := ⟨_, rfl⟩
                    rw [← hpp] at HN
                    clear hh
                    have i4 : q = 0 ∨ q = 1 ∨ q = 2 ∨ q = 3 := by omega
                    rcases i4 with rfl | rfl | rfl | rfl
                    · have g1 : vv % 256 = u := by rw [hu, Int.pow_zero, Int.ediv_one]
                      have e0 : pp = port := by rw [hpp, pi_0 p0 p1]
                      rw [e0] at HN
                      clear e0
                      clear hu hpp
                      go_wp2_with fail
                      refine Calls.mono HN.out ?_; rintro e w9 ⟨rfl, p9⟩
                      have P9 : Hid _ := p9
                      clear p9 HN
                      go_wp2
                      go_roundw
                      case rel => exact ⟨1, by go_num, by omega, P9.out⟩
                      case measure => simp [intOf]; omega
                    · have g1 : vv / 256 % 256 = u := by rw [hu]; rfl
                      have f3 : (port + 1) % 65536 = pp := by rw [hpp]; rfl
                      have f4 : IntKind.u16.wrap (port + 1) = pp := by rw [IntKind.wrap_u16]; exact f3
                      clear hu hpp
                      go_wp2_with fail
                      refine Calls.mono HN.out ?_; rintro e w9 ⟨rfl, p9⟩
                      have P9 : Hid _ := p9
                      clear p9 HN f3 f4
                      go_wp2
                      go_roundw
                      case rel => exact ⟨2, by go_num, by omega, P9.out⟩
                      case measure => simp [intOf]; omega
                    · have g1 : vv / 65536 % 256 = u := by rw [hu]; rfl
                      have f3 : (port + 2) % 65536 = pp := by rw [hpp]; rfl
                      have f4 : IntKind.u16.wrap (port + 2) = pp := by rw [IntKind.wrap_u16]; exact f3
                      clear hu hpp
                      go_wp2_with fail
                      refine Calls.mono HN.out ?_; rintro e w9 ⟨rfl, p9⟩
                      have P9 : Hid _ := p9
                      clear p9 HN f3 f4
                      go_wp2
                      go_roundw
                      case rel => exact ⟨3, by go_num, by omega, P9.out⟩
                      case measure => simp [intOf]; omega
                    · have g1 : vv / 16777216 % 256 = u := by rw [hu]; rfl
                      have f3 : (port + 3) % 65536 = pp := by rw [hpp]; rfl
                      have f4 : IntKind.u16.wrap (port + 3) = pp := by rw [IntKind.wrap_u16]; exact f3
                      clear hu hpp
                      go_wp2_with fail
                      refine Calls.mono HN.out ?_; rintro e w9 ⟨rfl, p9⟩
                      have P9 : Hid _ := p9
                      clear p9 HN f3 f4
                      go_wp2
                      go_roundw
                      case rel => exact ⟨4, by go_num, by omega, P9.out⟩
                      case measure => simp [intOf]; omega
                  · have hq' : q = n := by omega
                    have P9 : Hid (Hs w1 wr.drew (DD R Lb x2 Lc (oC y0 port vv n))) := by rw [← hq']; exact hh.drew
                    have ky : Hid (oC y0 port vv n).Ok := oC_ok K0.out.1 port vv n
                    generalize oC y0 port vv n = y2 at *
                    obtain ⟨l, hl⟩ : ∃ l, l = x2.u.sent := ⟨_, rfl⟩
                    obtain ⟨N, hN⟩ : ∃ N, N = 512 * x2.d.n := ⟨_, rfl⟩
                    obtain ⟨D, hD⟩ : ∃ D, D = x2.d.D := ⟨_, rfl⟩
                    obtain ⟨sl, hsl⟩ : ∃ s, s = strOfNums l := ⟨_, rfl⟩
                    obtain ⟨sd, hsd⟩ : ∃ s, s = strOfNums (Dk.strR N D) := ⟨_, rfl⟩
                    have l2 : y2.u.sent = l := by rw [hl, SM.out.1.u]
                    have N2 : 512 * y2.d.n = N := by rw [hN, SM.out.1.d]
                    have D2 : y2.d.D = D := by rw [hD, SM.out.1.d]
                    have HC1 : Hid (∀ w, Hs w1 w (DD R Lb x2 Lc y2) → Calls Tryz.prog 26 #[.pointer (some ⟨Lb.B, 0, none⟩)] w fun e w' => ∃ p c, e = .returned (.slice p l.length c) ∧ Hs w1 w' (DD (updR R 6 (bytR (.slice p l.length c) l)) Lb { x2 with u := x2.u.hush } Lc y2)) := fun w h => by rw [hl]; exact sentB h R5.out.2.1 (by decide) (by decide)
                    have HC2 : Hid (∀ w r, Hs w1 w (DD (updR R 6 r) Lb { x2 with u := x2.u.hush } Lc y2) → Calls Tryz.prog 26 #[.pointer (some ⟨Lc.B, 0, none⟩)] w fun e w' => ∃ p c, e = .returned (.slice p l.length c) ∧ Hs w1 w' (DD (updR (updR R 6 r) 7 (bytR (.slice p l.length c) l)) Lb { x2 with u := x2.u.hush } Lc { y2 with u := y2.u.hush })) := fun w r h => by
                      have := sentC h (j := 7) (by rw [upd_other (by decide)]; exact R5.out.2.2) (by decide) (by decide)
                      rw [l2] at this
                      exact this
                    have HC3 : Hid (∀ w R', Hs w1 w (DD R' Lb { x2 with u := x2.u.hush } Lc { y2 with u := y2.u.hush }) → Calls Tryz.prog 27 #[.pointer (some ⟨Lb.B, 0, none⟩)] w fun e w' => e = .returned (.slice (some ⟨w.heap.size, 0, none⟩) N N) ∧ Dk.RowB w' w.heap.size N D ∧ Kp noB w w') := fun w R' h => by
                      obtain ⟨⟨S, b⟩, _⟩ := ddBw h
                      rw [hN, hD]
                      exact (disk_ok b { SM.out.2 with u := SM.out.2.u.hush }).mono fun e w' ⟨q, r⟩ => ⟨q, r.row, kDk r.2.1⟩
                    have HC4 : Hid (∀ w R', Hs w1 w (DD R' Lb { x2 with u := x2.u.hush } Lc { y2 with u := y2.u.hush }) → Calls Tryz.prog 27 #[.pointer (some ⟨Lc.B, 0, none⟩)] w fun e w' => e = .returned (.slice (some ⟨w.heap.size, 0, none⟩) N N) ∧ Dk.RowB w' w.heap.size N D ∧ Kp noB w w') := fun w R' h => by
                      obtain ⟨_, S, b⟩ := ddBw h
                      rw [← N2, ← D2]
                      exact (disk_ok b { ky.out with u := ky.out.u.hush }).mono fun e w' ⟨q, r⟩ => ⟨q, r.row, kDk r.2.1⟩
                    have HS1 : Hid (∀ t b c e w, PhS w1 R Lb Lc x2 y2 l N D t true b c e w → (convert 22 9 t.1).run Tryz.prog w = .ok (.string sl) w) := fun t b c e w h => by rw [hsl]; exact h.s1
                    have HS2 : Hid (∀ t a c e w, PhS w1 R Lb Lc x2 y2 l N D t a true c e w → (convert 22 9 t.2.1).run Tryz.prog w = .ok (.string sl) w) := fun t a c e w h => by rw [hsl]; exact h.s2
                    have HS3 : Hid (∀ w g, Dk.RowB w g N D → (convert 22 9 (.slice (some ⟨g, 0, none⟩) N N)).run Tryz.prog w = .ok (.string sd) w) := fun w g h => by rw [hsd]; exact row_str h
                    have hge2 : ¬ (q : Int) < n := by omega
                    clear hh SM ky l2 N2 D2 hl hN hD hsl hsd K0
                    go_wp2
                    refine OrdG.region_vals (τ := Value × Value × Nat × Nat) (fun t => [(.pointer (some ⟨Lb.B, 0, none⟩)), t.1, (.string sl), (.pointer (some ⟨Lc.B, 0, none⟩)), t.2.1, (.string sl), (.bool true), (.bool true), (.pointer (some ⟨Lb.B, 0, none⟩)), (.slice (some ⟨t.2.2.1, 0, none⟩) N N), (.string sd), (.pointer (some ⟨Lc.B, 0, none⟩)), (.slice (some ⟨t.2.2.2, 0, none⟩) N N), (.string sd), (.bool true), (.bool true), (.bool true)]) (fun t listed W' => PhS w1 R Lb Lc x2 y2 l N D t (listed.getD 1 false) (listed.getD 4 false) (listed.getD 9 false) (listed.getD 12 false) W') (undef, undef, 0, 0) (by kernel_rfl) (by kernel_rfl) (by kernel_rfl) (by kernel_rfl) (fun _ => rfl) (fun t => by simp only [OrdG.puts, Act.put, List.setIfInBounds_toArray, List.set_cons_zero, List.set_cons_succ]; rfl) (fun _ => by kernel_rfl) ⟨P9.out, (fun h => by cases h), (fun h => by cases h)⟩ ?_ ?_
                    · refine ⟨?_, ?_, ?_, ?_, ?_, ?_, ?_, ?_, ?_, ?_, ?_, ?_, ?_, ?_, ?_, ?_, ?_, trivial⟩
                      all_goals (intro t listed W' hz hSh hl hI hb K hK hK0; change PhS w1 R Lb Lc x2 y2 l N D t (listed.getD 1 false) (listed.getD 4 false) (listed.getD 9 false) (listed.getD 12 false) W' at hI)
                      · go_simp
                        exact hK0 _ (by show PhS w1 R Lb Lc x2 y2 l N D _ (Array.getD _ 1 false) (Array.getD _ 4 false) (Array.getD _ 9 false) (Array.getD _ 12 false) _; rw [getD_set_ne false (by decide), getD_set_ne false (by decide), getD_set_ne false (by decide), getD_set_ne false (by decide)]; exact hI)
                      · skip
                        have n2 := OrdG.shut_no (j := 2) hSh hl (by kernel_rfl)
                        have n6 := OrdG.shut_no (j := 6) hSh n2 (by kernel_rfl)
                        have n7 := OrdG.shut_no (j := 7) hSh n6 (by kernel_rfl)
                        have n9 := OrdG.shut_no (j := 9) hSh n7 (by kernel_rfl)
                        have n12 := OrdG.shut_no (j := 12) hSh n9 (by kernel_rfl)
                        have n4 := OrdG.shut_no (j := 4) hSh hl (by kernel_rfl)
                        rw [hl, n4, n9, n12] at hI
                        have h0 : Hs w1 W' (DD R Lb x2 Lc y2) := hI.core
                        clear hI
                        go_simp
                        refine Calls.mono (HC1.out _ h0) ?_; rintro e z5 ⟨p, c, rfl, h1⟩
                        refine hK _ _ ⟨(.slice p l.length c, t.2), rfl, OrdG.vals_one rfl hl, ?_⟩
                        show PhS w1 R Lb Lc x2 y2 l N D _ (Array.getD _ 1 false) (Array.getD _ 4 false) (Array.getD _ 9 false) (Array.getD _ 12 false) _
                        rw [OrdG.getD_self hz (by decide), getD_set_ne false (by decide), getD_set_ne false (by decide), getD_set_ne false (by decide), n4, n9, n12]
                        exact ⟨h1, (fun h => by cases h), (fun h => by cases h)⟩
                      · have y1 := OrdG.on_of (i := 1) hb (by kernel_rfl)
                        have s1 : (convert 22 9 t.1).run Tryz.prog W' = .ok (.string sl) W' := HS1.out _ _ _ _ _ (by rw [y1] at hI; exact hI)
                        go_simp
                        exact hK0 _ (by show PhS w1 R Lb Lc x2 y2 l N D _ (Array.getD _ 1 false) (Array.getD _ 4 false) (Array.getD _ 9 false) (Array.getD _ 12 false) _; rw [getD_set_ne false (by decide), getD_set_ne false (by decide), getD_set_ne false (by decide), getD_set_ne false (by decide)]; exact hI)
                      · go_simp
                        exact hK0 _ (by show PhS w1 R Lb Lc x2 y2 l N D _ (Array.getD _ 1 false) (Array.getD _ 4 false) (Array.getD _ 9 false) (Array.getD _ 12 false) _; rw [getD_set_ne false (by decide), getD_set_ne false (by decide), getD_set_ne false (by decide), getD_set_ne false (by decide)]; exact hI)
                      · skip
                        have n5 := OrdG.shut_no (j := 5) hSh hl (by kernel_rfl)
                        have n6 := OrdG.shut_no (j := 6) hSh n5 (by kernel_rfl)
                        have n7 := OrdG.shut_no (j := 7) hSh n6 (by kernel_rfl)
                        have n9 := OrdG.shut_no (j := 9) hSh n7 (by kernel_rfl)
                        have n12 := OrdG.shut_no (j := 12) hSh n9 (by kernel_rfl)
                        have y1 := OrdG.on_of (i := 1) hb (by kernel_rfl)
                        rw [hl, y1, n9, n12] at hI
                        have h0 : Hs w1 W' (DD (updR R 6 (bytR t.1 l)) Lb { x2 with u := x2.u.hush } Lc y2) := hI.core
                        clear hI
                        go_simp
                        refine Calls.mono (HC2.out _ _ h0) ?_; rintro e z5 ⟨p, c, rfl, h1⟩
                        refine hK _ _ ⟨(t.1, .slice p l.length c, t.2.2), rfl, OrdG.vals_one rfl hl, ?_⟩
                        show PhS w1 R Lb Lc x2 y2 l N D _ (Array.getD _ 1 false) (Array.getD _ 4 false) (Array.getD _ 9 false) (Array.getD _ 12 false) _
                        rw [OrdG.getD_self hz (by decide), getD_set_ne false (by decide), getD_set_ne false (by decide), getD_set_ne false (by decide), y1, n9, n12]
                        exact ⟨h1, (fun h => by cases h), (fun h => by cases h)⟩
                      · have y4 := OrdG.on_of (i := 4) hb (by kernel_rfl)
                        have s1 : (convert 22 9 t.2.1).run Tryz.prog W' = .ok (.string sl) W' := HS2.out _ _ _ _ _ (by rw [y4] at hI; exact hI)
                        go_simp
                        exact hK0 _ (by show PhS w1 R Lb Lc x2 y2 l N D _ (Array.getD _ 1 false) (Array.getD _ 4 false) (Array.getD _ 9 false) (Array.getD _ 12 false) _; rw [getD_set_ne false (by decide), getD_set_ne false (by decide), getD_set_ne false (by decide), getD_set_ne false (by decide)]; exact hI)
                      · go_simp
                        exact hK0 _ (by show PhS w1 R Lb Lc x2 y2 l N D _ (Array.getD _ 1 false) (Array.getD _ 4 false) (Array.getD _ 9 false) (Array.getD _ 12 false) _; rw [getD_set_ne false (by decide), getD_set_ne false (by decide), getD_set_ne false (by decide), getD_set_ne false (by decide)]; exact hI)
                      · go_simp
                        exact hK0 _ (by show PhS w1 R Lb Lc x2 y2 l N D _ (Array.getD _ 1 false) (Array.getD _ 4 false) (Array.getD _ 9 false) (Array.getD _ 12 false) _; rw [getD_set_ne false (by decide), getD_set_ne false (by decide), getD_set_ne false (by decide), getD_set_ne false (by decide)]; exact hI)
                      · go_simp
                        exact hK0 _ (by show PhS w1 R Lb Lc x2 y2 l N D _ (Array.getD _ 1 false) (Array.getD _ 4 false) (Array.getD _ 9 false) (Array.getD _ 12 false) _; rw [getD_set_ne false (by decide), getD_set_ne false (by decide), getD_set_ne false (by decide), getD_set_ne false (by decide)]; exact hI)
                      · skip
                        have n12 := OrdG.shut_no (j := 12) hSh hl (by kernel_rfl)
                        have y7 := OrdG.on_of (i := 7) hb (by kernel_rfl)
                        have y6 := OrdG.shut_yes (i := 6) hSh y7 (by kernel_rfl)
                        have y5 := OrdG.shut_yes (i := 5) hSh y6 (by kernel_rfl)
                        have y4 := OrdG.shut_yes (i := 4) hSh y5 (by kernel_rfl)
                        have y1 := OrdG.shut_yes (i := 1) hSh y4 (by kernel_rfl)
                        rw [hl, y1, y4, n12] at hI
                        have h0 : Hs w1 W' (DD (updR (updR R 6 (bytR t.1 l)) 7 (bytR t.2.1 l)) Lb { x2 with u := x2.u.hush } Lc { y2 with u := y2.u.hush }) := hI.core
                        clear hI
                        go_simp
                        refine Calls.mono (HC3.out _ _ h0) ?_; rintro e z5 ⟨rfl, r, k⟩
                        refine hK _ _ ⟨(t.1, t.2.1, W'.heap.size, t.2.2.2), rfl, OrdG.vals_one rfl hl, ?_⟩
                        show PhS w1 R Lb Lc x2 y2 l N D _ (Array.getD _ 1 false) (Array.getD _ 4 false) (Array.getD _ 9 false) (Array.getD _ 12 false) _
                        rw [OrdG.getD_self hz (by decide), getD_set_ne false (by decide), getD_set_ne false (by decide), getD_set_ne false (by decide), y1, y4, n12]
                        exact ⟨h0.keep k, (fun _ => r), (fun h => by cases h)⟩
                      · have y9 := OrdG.on_of (i := 9) hb (by kernel_rfl)
                        have s1 := HS3.out _ _ (hI.r3 y9)
                        go_simp
                        exact hK0 _ (by show PhS w1 R Lb Lc x2 y2 l N D _ (Array.getD _ 1 false) (Array.getD _ 4 false) (Array.getD _ 9 false) (Array.getD _ 12 false) _; rw [getD_set_ne false (by decide), getD_set_ne false (by decide), getD_set_ne false (by decide), getD_set_ne false (by decide)]; exact hI)
                      · go_simp
                        exact hK0 _ (by show PhS w1 R Lb Lc x2 y2 l N D _ (Array.getD _ 1 false) (Array.getD _ 4 false) (Array.getD _ 9 false) (Array.getD _ 12 false) _; rw [getD_set_ne false (by decide), getD_set_ne false (by decide), getD_set_ne false (by decide), getD_set_ne false (by decide)]; exact hI)
                      · have y9 := OrdG.on_of (i := 9) hb (by kernel_rfl)
                        have y7 := OrdG.shut_yes (i := 7) hSh y9 (by kernel_rfl)
                        have y6 := OrdG.shut_yes (i := 6) hSh y7 (by kernel_rfl)
                        have y5 := OrdG.shut_yes (i := 5) hSh y6 (by kernel_rfl)
                        have y4 := OrdG.shut_yes (i := 4) hSh y5 (by kernel_rfl)
                        have y1 := OrdG.shut_yes (i := 1) hSh y4 (by kernel_rfl)
                        rw [hl, y1, y4, y9] at hI
                        have h0 : Hs w1 W' (DD (updR (updR R 6 (bytR t.1 l)) 7 (bytR t.2.1 l)) Lb { x2 with u := x2.u.hush } Lc { y2 with u := y2.u.hush }) := hI.core
                        have r3 := hI.r3 rfl
                        clear hI
                        go_simp
                        refine Calls.mono (HC4.out _ _ h0) ?_; rintro e z5 ⟨rfl, r, k⟩
                        refine hK _ _ ⟨(t.1, t.2.1, t.2.2.1, W'.heap.size), rfl, OrdG.vals_one rfl hl, ?_⟩
                        show PhS w1 R Lb Lc x2 y2 l N D _ (Array.getD _ 1 false) (Array.getD _ 4 false) (Array.getD _ 9 false) (Array.getD _ 12 false) _
                        rw [OrdG.getD_self hz (by decide), getD_set_ne false (by decide), getD_set_ne false (by decide), getD_set_ne false (by decide), y1, y4, y9]
                        exact ⟨h0.keep k, (fun _ => r3.kept (dkK k) id), (fun _ => r)⟩
                      · have y12 := OrdG.on_of (i := 12) hb (by kernel_rfl)
                        have s1 := HS3.out _ _ (hI.r4 y12)
                        go_simp
                        exact hK0 _ (by show PhS w1 R Lb Lc x2 y2 l N D _ (Array.getD _ 1 false) (Array.getD _ 4 false) (Array.getD _ 9 false) (Array.getD _ 12 false) _; rw [getD_set_ne false (by decide), getD_set_ne false (by decide), getD_set_ne false (by decide), getD_set_ne false (by decide)]; exact hI)
                      · go_simp
                        exact hK0 _ (by show PhS w1 R Lb Lc x2 y2 l N D _ (Array.getD _ 1 false) (Array.getD _ 4 false) (Array.getD _ 9 false) (Array.getD _ 12 false) _; rw [getD_set_ne false (by decide), getD_set_ne false (by decide), getD_set_ne false (by decide), getD_set_ne false (by decide)]; exact hI)
                      · go_simp
                        exact hK0 _ (by show PhS w1 R Lb Lc x2 y2 l N D _ (Array.getD _ 1 false) (Array.getD _ 4 false) (Array.getD _ 9 false) (Array.getD _ 12 false) _; rw [getD_set_ne false (by decide), getD_set_ne false (by decide), getD_set_ne false (by decide), getD_set_ne false (by decide)]; exact hI)
                      · go_simp
                        exact hK0 _ (by show PhS w1 R Lb Lc x2 y2 l N D _ (Array.getD _ 1 false) (Array.getD _ 4 false) (Array.getD _ 9 false) (Array.getD _ 12 false) _; rw [getD_set_ne false (by decide), getD_set_ne false (by decide), getD_set_ne false (by decide), getD_set_ne false (by decide)]; exact hI)
                    · intro t listed z6 hall hI
                      have KZ : Hid _ := HE.out _ _ Q1.out (PhS.kp (show PhS w1 R Lb Lc x2 y2 l N D t (listed.getD 1 false) (listed.getD 4 false) (listed.getD 9 false) (listed.getD 12 false) z6 from hI))
                      clear hI hall HC1 HC2 HC3 HC4 HS1 HS2 HS3 P9
                      go_wp2
                      go_ret
                      exact ⟨rfl, KZ.out⟩
      · clear hend
        by_cases hp : port = 496
        · subst hp
          have KZ : Hid _ := HE.out _ _ Q1.out P5.out.kp
          clear P5 QX HE
          go_wp2
          go_ret
          exact ⟨rfl, KZ.out⟩
        · have hp' : (port == 496) = false := by rw [beq_eq_false_iff_ne]; exact hp
          cases wide
          · obtain ⟨n, hn⟩ : ∃ n : Nat, n = 2 := ⟨_, rfl⟩
            have NI : Hid ((2 : Int) = (n : Int)) := by show _ = _; rw [hn]; rfl
            have ok : okS n := by unfold okS; omega
            have n4 : n ≤ 4 := by omega
            obtain ⟨sm, ev⟩ := wide_in (x := x) p0 p1 hp n ok
            have EN : erS n = 0 := by unfold erS; rw [if_pos ok]
            have E1 : erS 1 = 0 := rfl
            obtain ⟨V, hV⟩ : ∃ V, V = x.innV port n := ⟨_, rfl⟩
            obtain ⟨x1, hx1⟩ : ∃ x1, x1 = x.inn port n := ⟨_, rfl⟩
            have k1 : x1.Ok := by rw [hx1]; exact QX.out.1.ok.inn _ _
            have w1' : x1.wk ≤ 1600 := by rw [hx1]; exact Nat.le_trans (inn_wk _ _ _) QX.out.2
            have HI : Hid (Calls Tryz.prog 24 #[.pointer (some ⟨Lb.B, 0, none⟩), .int .u16 port, .int .i64 n] w5 fun e w' => e = .returned (.tuple #[.int .u32 V, .int .i64 0]) ∧ Hs w1 w' (DD R Lb x1 Lc x)) := by
              have := inB P5.out QX.out.1.ok port n p0 p1
              rw [← hV, ← hx1, EN] at this
              exact this
            rw [← hV] at ev
            rw [← hx1] at sm
            obtain ⟨x2, hx2⟩ : ∃ x2, x2 = x1.out port n vv := ⟨_, rfl⟩
            have k2 : x2.Ok := by rw [hx2]; exact k1.out _ _ _
            have sm2 : Sim x2 (oC (cN x port n) port vv n) := by rw [hx2]; exact wide_out sm p0 p1 hp n ok vv
            have HO : Hid (∀ w, Hs w1 w (DD R Lb x1 Lc (cN x port n)) → Calls Tryz.prog 22 #[.pointer (some ⟨Lb.B, 0, none⟩), .int .u16 port, .int .i64 n, .int .u32 vv] w fun e w' => e = .returned (.int .i64 0) ∧ Hs w1 w' (DD R Lb x2 Lc (cN x port n))) := fun w h => by
              have := outB h k1 port n vv p0 p1 vv0 vv1 (by omega)
              rw [← hx2, EN] at this
              exact this
            have SM : Hid (Sim x2 (oC (cN x port n) port vv n) ∧ x2.Ok) := ⟨sm2, k2⟩
            have EV : Hid (0 + pw 0 * Bm.inVN (n - 0) (bN x port 0) (pi port 0) = V) := by rw [ev]; show 0 + pw 0 * _ = _; simp [pw]
            have n1 : 1 ≤ n := by omega
            clear sm ev hV hx1 k1 w1' hx2 k2 sm2 P5 ok EN hp hn
            go_wp2_with fail
            rw [NI.out]
            clear NI
            refine Calls.mono HI.out ?_; rintro e w6 ⟨rfl, p6⟩
            have P6 : Hid _ := p6
            clear p6 HI
            go_wp2_with fail
            go_loopw [21, 22] (fun s21 s22 wr => ∃ (i : Nat) (acc : Int), s21 = .int .u32 acc ∧ s22 = .int .i64 i ∧ i ≤ n ∧ 0 ≤ acc ∧ acc < pw i ∧ acc + pw i * Bm.inVN (n - i) (bN x port i) (pi port i) = V ∧ Hs w1 wr (DD R Lb x1 Lc (cN x port i))) (fun _ s22 _ => ((n : Int) - intOf s22).toNat)
            case atStart => exact ⟨0, 0, rfl, rfl, by omega, by decide, by decide, EV.out, P6.out⟩
            case round =>
              clear P6 EV
              obtain ⟨i, acc, rfl, rfl, hi, ac0, ac1, ev, hh⟩ := hrel
              by_cases hlt : i < n
              · obtain ⟨j, hj⟩ : ∃ j, n - i = j + 1 := ⟨n - i - 1, by omega⟩
                have hj' : n - (i + 1) = j := by omega
                rw [hj, inVN_bN] at ev
                have ob : Byt ((bN x port i).inV1 (pi port i)) := inV1_byt (bN_ok QX.out.1.ok port i) _
                obtain ⟨ac, ev⟩ := rd_acc (j := j) (by omega) ob ac0 ac1 ev
                have sb := same_byte QX.out.1.ok QX.out.1.told port (i := i) (by omega)
                have HN : Hid (Calls Tryz.prog 24 #[.pointer (some ⟨Lc.B, 0, none⟩), .int .u16 (pi port i), .int .i64 1] wr fun e w' => e = .returned (.tuple #[.int .u32 ((bN x port i).inV1 (pi port i)), .int .i64 0]) ∧ Hs w1 w' (DD R Lb x1 Lc (cN x port (i + 1)))) := by
                  have := inC hh (cN_ok QX.out.1.ok port i) (pi port i) 1 (pi_bd _ _).1 (pi_bd _ _).2
                  rw [sb, E1] at this
                  exact this
                generalize (bN x port i).inV1 (pi port i) = o at *
                have f1 : IntKind.u16.wrap (i : Int) = i := by rw [IntKind.wrap_u16]; omega
                have f2 : (i : Int) % 65536 = i := by omega
                have f3 : (port + (i : Int)) % 65536 = pi port i := rfl
                have f4 : IntKind.u16.wrap (port + (i : Int)) = pi port i := by rw [IntKind.wrap_u16]; rfl
                have EQ : Hid _ := ev
                have AC : Hid _ := ac
                have o0 := ob.1
                have o2 := ob.2
                have i4 : i = 0 ∨ i = 1 ∨ i = 2 ∨ i = 3 := by omega
                have A1 : Hid (acc < pw i) := ac1
                generalize pi port i = pp at *
                clear ev ac ob hh sb ac1
                go_wp2_with fail
                refine Calls.mono HN.out ?_; rintro e w7 ⟨rfl, p7⟩
                have P7 : Hid _ := p7
                clear p7 HN f1 f2 f3 f4
                rcases i4 with rfl | rfl | rfl | rfl
                · have a1 := A1.out
                  have a3 : acc < 1 := by simpa [pw] using a1
                  have a4 : acc = 0 := by omega
                  subst a4
                  clear a1 A1
                  go_wp2
                  go_roundw
                  case rel => exact ⟨1, _, rfl, by go_num, by omega, (by have := AC.out.1; simp [pw] at this ⊢ <;> omega), (by have := AC.out.2; simp [pw] at this ⊢ <;> omega), (by rw [hj']; have := EQ.out; simp [pw] at this ⊢ <;> omega), P7.out⟩
                  case measure => simp [intOf]; omega
                · have a1 := A1.out
                  have a3 : acc < 256 := by simpa [pw] using a1
                  clear a1 A1
                  go_wp2
                  go_roundw
                  case rel => exact ⟨2, _, rfl, by go_num, by omega, (by have := AC.out.1; simp [pw] at this ⊢ <;> omega), (by have := AC.out.2; simp [pw] at this ⊢ <;> omega), (by rw [hj']; have := EQ.out; simp [pw] at this ⊢ <;> omega), P7.out⟩
                  case measure => simp [intOf]; omega
                · have a1 := A1.out
                  have a3 : acc < 65536 := by simpa [pw] using a1
                  clear a1 A1
                  go_wp2
                  go_roundw
                  case rel => exact ⟨3, _, rfl, by go_num, by omega, (by have := AC.out.1; simp [pw] at this ⊢ <;> omega), (by have := AC.out.2; simp [pw] at this ⊢ <;> omega), (by rw [hj']; have := EQ.out; simp [pw] at this ⊢ <;> omega), P7.out⟩
                  case measure => simp [intOf]; omega
                · have a1 := A1.out
                  have a3 : acc < 16777216 := by simpa [pw] using a1
                  clear a1 A1
                  go_wp2
                  go_roundw
                  case rel => exact ⟨4, _, rfl, by go_num, by omega, (by have := AC.out.1; simp [pw] at this ⊢ <;> omega), (by have := AC.out.2; simp [pw] at this ⊢ <;> omega), (by rw [hj']; have := EQ.out; simp [pw] at this ⊢ <;> omega), P7.out⟩
                  case measure => simp [intOf]; omega
              · have hi' : i = n := by omega
                have P7 : Hid (Hs w1 wr (DD R Lb x1 Lc (cN x port n))) := by rw [← hi']; exact hh
                have ev' : acc = V := by
                  rw [show n - i = 0 by omega] at ev
                  rw [← ev]
                  show acc = acc + pw i * 0
                  omega
                subst ev'
                have K0 : Hid ((cN x port n).Ok ∧ (cN x port n).wk ≤ 1600) := ⟨cN_ok QX.out.1.ok port n, Nat.le_trans (cN_wk x port n) QX.out.2⟩
                clear hh ev ac1 QX
                generalize cN x port n = y0 at *
                have hge : ¬ (i : Int) < n := by omega
                go_wp2_with fail
                refine Calls.mono (HO.out _ P7.out) ?_; rintro e w8 ⟨rfl, p8⟩
                have P8 : Hid _ := p8
                clear p8 HO P7
                go_wp2_with fail
                go_loopw [25] (fun s25 wr => ∃ q : Nat, s25 = .int .i64 q ∧ q ≤ n ∧ Hs w1 wr (DD R Lb x2 Lc (oC y0 port vv q))) (fun s25 _ => ((n : Int) - intOf s25).toNat)
                case atStart => exact ⟨0, rfl, by omega, P8.out⟩
                case round =>
                  clear P8
                  obtain ⟨q, rfl, hq, hh⟩ := hrel
                  by_cases hlt : q < n
                  · obtain ⟨u, hu⟩ : ∃ u, u = vv / 256 ^ q % 256 := ⟨_, rfl⟩
                    have HN : Hid (Calls Tryz.prog 22 #[.pointer (some ⟨Lc.B, 0, none⟩), .int .u16 (pi port q), .int .i64 1, .int .u32 u] wr fun e w' => e = .returned (.int .i64 0) ∧ Hs w1 w' (DD R Lb x2 Lc (oC y0 port vv (q + 1)))) := by
                      have hw := oC_wk K0.out.1 port vv q
                      have := outC hh (oC_ok K0.out.1 port vv q) (pi port q) 1 u (pi_bd _ _).1 (pi_bd _ _).2 (by omega) (by omega) (by have := K0.out.2; omega)
                      rw [E1, hu] at this
                      rw [hu]
                      exact this
                    obtain ⟨pp, hpp⟩ : ∃ pp, pp = pi port q := ⟨_, rfl⟩
                    rw [← hpp] at HN
                    clear hh
                    have i4 : q = 0 ∨ q = 1 ∨ q = 2 ∨ q = 3 := by omega
                    rcases i4 with rfl | rfl | rfl | rfl
                    · have g1 : vv % 256 = u := by rw [hu, Int.pow_zero, Int.ediv_one]
                      have e0 : pp = port := by rw [hpp, pi_0 p0 p1]
                      rw [e0] at HN
                      clear e0
                      clear hu hpp
                      go_wp2_with fail
                      refine Calls.mono HN.out ?_; rintro e w9 ⟨rfl, p9⟩
                      have P9 : Hid _ := p9
                      clear p9 HN
                      go_wp2
                      go_roundw
                      case rel => exact ⟨1, by go_num, by omega, P9.out⟩
                      case measure => simp [intOf]; omega
                    · have g1 : vv / 256 % 256 = u := by rw [hu]; rfl
                      have f3 : (port + 1) % 65536 = pp := by rw [hpp]; rfl
                      have f4 : IntKind.u16.wrap (port + 1) = pp := by rw [IntKind.wrap_u16]; exact f3
                      clear hu hpp
                      go_wp2_with fail
                      refine Calls.mono HN.out ?_; rintro e w9 ⟨rfl, p9⟩
                      have P9 : Hid _ := p9
                      clear p9 HN f3 f4
                      go_wp2
                      go_roundw
                      case rel => exact ⟨2, by go_num, by omega, P9.out⟩
                      case measure => simp [intOf]; omega
                    · have g1 : vv / 65536 % 256 = u := by rw [hu]; rfl
                      have f3 : (port + 2) % 65536 = pp := by rw [hpp]; rfl
                      have f4 : IntKind.u16.wrap (port + 2) = pp := by rw [IntKind.wrap_u16]; exact f3
                      clear hu hpp
                      go_wp2_with fail
                      refine Calls.mono HN.out ?_; rintro e w9 ⟨rfl, p9⟩
                      have P9 : Hid _ := p9
                      clear p9 HN f3 f4
                      go_wp2
                      go_roundw
                      case rel => exact ⟨3, by go_num, by omega, P9.out⟩
                      case measure => simp [intOf]; omega
                    · have g1 : vv / 16777216 % 256 = u := by rw [hu]; rfl
                      have f3 : (port + 3) % 65536 = pp := by rw [hpp]; rfl
                      have f4 : IntKind.u16.wrap (port + 3) = pp := by rw [IntKind.wrap_u16]; exact f3
                      clear hu hpp
                      go_wp2_with fail
                      refine Calls.mono HN.out ?_; rintro e w9 ⟨rfl, p9⟩
                      have P9 : Hid _ := p9
                      clear p9 HN f3 f4
                      go_wp2
                      go_roundw
                      case rel => exact ⟨4, by go_num, by omega, P9.out⟩
                      case measure => simp [intOf]; omega
                  · have hq' : q = n := by omega
                    have P9 : Hid (Hs w1 wr.drew (DD R Lb x2 Lc (oC y0 port vv n))) := by rw [← hq']; exact hh.drew
                    have ky : Hid (oC y0 port vv n).Ok := oC_ok K0.out.1 port vv n
                    generalize oC y0 port vv n = y2 at *
                    obtain ⟨l, hl⟩ : ∃ l, l = x2.u.sent := ⟨_, rfl⟩
                    obtain ⟨N, hN⟩ : ∃ N, N = 512 * x2.d.n := ⟨_, rfl⟩
                    obtain ⟨D, hD⟩ : ∃ D, D = x2.d.D := ⟨_, rfl⟩
                    obtain ⟨sl, hsl⟩ : ∃ s, s = strOfNums l := ⟨_, rfl⟩
                    obtain ⟨sd, hsd⟩ : ∃ s, s = strOfNums (Dk.strR N D) := ⟨_, rfl⟩
                    have l2 : y2.u.sent = l := by rw [hl, SM.out.1.u]
                    have N2 : 512 * y2.d.n = N := by rw [hN, SM.out.1.d]
                    have D2 : y2.d.D = D := by rw [hD, SM.out.1.d]
                    have HC1 : Hid (∀ w, Hs w1 w (DD R Lb x2 Lc y2) → Calls Tryz.prog 26 #[.pointer (some ⟨Lb.B, 0, none⟩)] w fun e w' => ∃ p c, e = .returned (.slice p l.length c) ∧ Hs w1 w' (DD (updR R 6 (bytR (.slice p l.length c) l)) Lb { x2 with u := x2.u.hush } Lc y2)) := fun w h => by rw [hl]; exact sentB h R5.out.2.1 (by decide) (by decide)
                    have HC2 : Hid (∀ w r, Hs w1 w (DD (updR R 6 r) Lb { x2 with u := x2.u.hush } Lc y2) → Calls Tryz.prog 26 #[.pointer (some ⟨Lc.B, 0, none⟩)] w fun e w' => ∃ p c, e = .returned (.slice p l.length c) ∧ Hs w1 w' (DD (updR (updR R 6 r) 7 (bytR (.slice p l.length c) l)) Lb { x2 with u := x2.u.hush } Lc { y2 with u := y2.u.hush })) := fun w r h => by
                      have := sentC h (j := 7) (by rw [upd_other (by decide)]; exact R5.out.2.2) (by decide) (by decide)
                      rw [l2] at this
                      exact this
                    have HC3 : Hid (∀ w R', Hs w1 w (DD R' Lb { x2 with u := x2.u.hush } Lc { y2 with u := y2.u.hush }) → Calls Tryz.prog 27 #[.pointer (some ⟨Lb.B, 0, none⟩)] w fun e w' => e = .returned (.slice (some ⟨w.heap.size, 0, none⟩) N N) ∧ Dk.RowB w' w.heap.size N D ∧ Kp noB w w') := fun w R' h => by
                      obtain ⟨⟨S, b⟩, _⟩ := ddBw h
                      rw [hN, hD]
                      exact (disk_ok b { SM.out.2 with u := SM.out.2.u.hush }).mono fun e w' ⟨q, r⟩ => ⟨q, r.row, kDk r.2.1⟩
                    have HC4 : Hid (∀ w R', Hs w1 w (DD R' Lb { x2 with u := x2.u.hush } Lc { y2 with u := y2.u.hush }) → Calls Tryz.prog 27 #[.pointer (some ⟨Lc.B, 0, none⟩)] w fun e w' => e = .returned (.slice (some ⟨w.heap.size, 0, none⟩) N N) ∧ Dk.RowB w' w.heap.size N D ∧ Kp noB w w') := fun w R' h => by
                      obtain ⟨_, S, b⟩ := ddBw h
                      rw [← N2, ← D2]
                      exact (disk_ok b { ky.out with u := ky.out.u.hush }).mono fun e w' ⟨q, r⟩ => ⟨q, r.row, kDk r.2.1⟩
                    have HS1 : Hid (∀ t b c e w, PhS w1 R Lb Lc x2 y2 l N D t true b c e w → (convert 22 9 t.1).run Tryz.prog w = .ok (.string sl) w) := fun t b c e w h => by rw [hsl]; exact h.s1
                    have HS2 : Hid (∀ t a c e w, PhS w1 R Lb Lc x2 y2 l N D t a true c e w → (convert 22 9 t.2.1).run Tryz.prog w = .ok (.string sl) w) := fun t a c e w h => by rw [hsl]; exact h.s2
                    have HS3 : Hid (∀ w g, Dk.RowB w g N D → (convert 22 9 (.slice (some ⟨g, 0, none⟩) N N)).run Tryz.prog w = .ok (.string sd) w) := fun w g h => by rw [hsd]; exact row_str h
                    have hge2 : ¬ (q : Int) < n := by omega
                    clear hh SM ky l2 N2 D2 hl hN hD hsl hsd K0
                    go_wp2
                    refine OrdG.region_vals (τ := Value × Value × Nat × Nat) (fun t => [(.pointer (some ⟨Lb.B, 0, none⟩)), t.1, (.string sl), (.pointer (some ⟨Lc.B, 0, none⟩)), t.2.1, (.string sl), (.bool true), (.bool true), (.pointer (some ⟨Lb.B, 0, none⟩)), (.slice (some ⟨t.2.2.1, 0, none⟩) N N), (.string sd), (.pointer (some ⟨Lc.B, 0, none⟩)), (.slice (some ⟨t.2.2.2, 0, none⟩) N N), (.string sd), (.bool true), (.bool true), (.bool true)]) (fun t listed W' => PhS w1 R Lb Lc x2 y2 l N D t (listed.getD 1 false) (listed.getD 4 false) (listed.getD 9 false) (listed.getD 12 false) W') (undef, undef, 0, 0) (by kernel_rfl) (by kernel_rfl) (by kernel_rfl) (by kernel_rfl) (fun _ => rfl) (fun t => by simp only [OrdG.puts, Act.put, List.setIfInBounds_toArray, List.set_cons_zero, List.set_cons_succ]; rfl) (fun _ => by kernel_rfl) ⟨P9.out, (fun h => by cases h), (fun h => by cases h)⟩ ?_ ?_
                    · refine ⟨?_, ?_, ?_, ?_, ?_, ?_, ?_, ?_, ?_, ?_, ?_, ?_, ?_, ?_, ?_, ?_, ?_, trivial⟩
                      all_goals (intro t listed W' hz hSh hl hI hb K hK hK0; change PhS w1 R Lb Lc x2 y2 l N D t (listed.getD 1 false) (listed.getD 4 false) (listed.getD 9 false) (listed.getD 12 false) W' at hI)
                      · go_simp
                        exact hK0 _ (by show PhS w1 R Lb Lc x2 y2 l N D _ (Array.getD _ 1 false) (Array.getD _ 4 false) (Array.getD _ 9 false) (Array.getD _ 12 false) _; rw [getD_set_ne false (by decide), getD_set_ne false (by decide), getD_set_ne false (by decide), getD_set_ne false (by decide)]; exact hI)
                      · skip
                        have n2 := OrdG.shut_no (j := 2) hSh hl (by kernel_rfl)
                        have n6 := OrdG.shut_no (j := 6) hSh n2 (by kernel_rfl)
                        have n7 := OrdG.shut_no (j := 7) hSh n6 (by kernel_rfl)
                        have n9 := OrdG.shut_no (j := 9) hSh n7 (by kernel_rfl)
                        have n12 := OrdG.shut_no (j := 12) hSh n9 (by kernel_rfl)
                        have n4 := OrdG.shut_no (j := 4) hSh hl (by kernel_rfl)
                        rw [hl, n4, n9, n12] at hI
                        have h0 : Hs w1 W' (DD R Lb x2 Lc y2) := hI.core
                        clear hI
                        go_simp
                        refine Calls.mono (HC1.out _ h0) ?_; rintro e z5 ⟨p, c, rfl, h1⟩
                        refine hK _ _ ⟨(.slice p l.length c, t.2), rfl, OrdG.vals_one rfl hl, ?_⟩
                        show PhS w1 R Lb Lc x2 y2 l N D _ (Array.getD _ 1 false) (Array.getD _ 4 false) (Array.getD _ 9 false) (Array.getD _ 12 false) _
                        rw [OrdG.getD_self hz (by decide), getD_set_ne false (by decide), getD_set_ne false (by decide), getD_set_ne false (by decide), n4, n9, n12]
                        exact ⟨h1, (fun h => by cases h), (fun h => by cases h)⟩
                      · have y1 := OrdG.on_of (i := 1) hb (by kernel_rfl)
                        have s1 : (convert 22 9 t.1).run Tryz.prog W' = .ok (.string sl) W' := HS1.out _ _ _ _ _ (by rw [y1] at hI; exact hI)
                        go_simp
                        exact hK0 _ (by show PhS w1 R Lb Lc x2 y2 l N D _ (Array.getD _ 1 false) (Array.getD _ 4 false) (Array.getD _ 9 false) (Array.getD _ 12 false) _; rw [getD_set_ne false (by decide), getD_set_ne false (by decide), getD_set_ne false (by decide), getD_set_ne false (by decide)]; exact hI)
                      · go_simp
                        exact hK0 _ (by show PhS w1 R Lb Lc x2 y2 l N D _ (Array.getD _ 1 false) (Array.getD _ 4 false) (Array.getD _ 9 false) (Array.getD _ 12 false) _; rw [getD_set_ne false (by decide), getD_set_ne false (by decide), getD_set_ne false (by decide), getD_set_ne false (by decide)]; exact hI)
                      · skip
                        have n5 := OrdG.shut_no (j := 5) hSh hl (by kernel_rfl)
                        have n6 := OrdG.shut_no (j := 6) hSh n5 (by kernel_rfl)
                        have n7 := OrdG.shut_no (j := 7) hSh n6 (by kernel_rfl)
                        have n9 := OrdG.shut_no (j := 9) hSh n7 (by kernel_rfl)
                        have n12 := OrdG.shut_no (j := 12) hSh n9 (by kernel_rfl)
                        have y1 := OrdG.on_of (i := 1) hb (by kernel_rfl)
                        rw [hl, y1, n9, n12] at hI
                        have h0 : Hs w1 W' (DD (updR R 6 (bytR t.1 l)) Lb { x2 with u := x2.u.hush } Lc y2) := hI.core
                        clear hI
                        go_simp
                        refine Calls.mono (HC2.out _ _ h0) ?_; rintro e z5 ⟨p, c, rfl, h1⟩
                        refine hK _ _ ⟨(t.1, .slice p l.length c, t.2.2), rfl, OrdG.vals_one rfl hl, ?_⟩
                        show PhS w1 R Lb Lc x2 y2 l N D _ (Array.getD _ 1 false) (Array.getD _ 4 false) (Array.getD _ 9 false) (Array.getD _ 12 false) _
                        rw [OrdG.getD_self hz (by decide), getD_set_ne false (by decide), getD_set_ne false (by decide), getD_set_ne false (by decide), y1, n9, n12]
                        exact ⟨h1, (fun h => by cases h), (fun h => by cases h)⟩
                      · have y4 := OrdG.on_of (i := 4) hb (by kernel_rfl)
                        have s1 : (convert 22 9 t.2.1).run Tryz.prog W' = .ok (.string sl) W' := HS2.out _ _ _ _ _ (by rw [y4] at hI; exact hI)
                        go_simp
                        exact hK0 _ (by show PhS w1 R Lb Lc x2 y2 l N D _ (Array.getD _ 1 false) (Array.getD _ 4 false) (Array.getD _ 9 false) (Array.getD _ 12 false) _; rw [getD_set_ne false (by decide), getD_set_ne false (by decide), getD_set_ne false (by decide), getD_set_ne false (by decide)]; exact hI)
                      · go_simp
                        exact hK0 _ (by show PhS w1 R Lb Lc x2 y2 l N D _ (Array.getD _ 1 false) (Array.getD _ 4 false) (Array.getD _ 9 false) (Array.getD _ 12 false) _; rw [getD_set_ne false (by decide), getD_set_ne false (by decide), getD_set_ne false (by decide), getD_set_ne false (by decide)]; exact hI)
                      · go_simp
                        exact hK0 _ (by show PhS w1 R Lb Lc x2 y2 l N D _ (Array.getD _ 1 false) (Array.getD _ 4 false) (Array.getD _ 9 false) (Array.getD _ 12 false) _; rw [getD_set_ne false (by decide), getD_set_ne false (by decide), getD_set_ne false (by decide), getD_set_ne false (by decide)]; exact hI)
                      · go_simp
                        exact hK0 _ (by show PhS w1 R Lb Lc x2 y2 l N D _ (Array.getD _ 1 false) (Array.getD _ 4 false) (Array.getD _ 9 false) (Array.getD _ 12 false) _; rw [getD_set_ne false (by decide), getD_set_ne false (by decide), getD_set_ne false (by decide), getD_set_ne false (by decide)]; exact hI)
                      · skip
                        have n12 := OrdG.shut_no (j := 12) hSh hl (by kernel_rfl)
                        have y7 := OrdG.on_of (i := 7) hb (by kernel_rfl)
                        have y6 := OrdG.shut_yes (i := 6) hSh y7 (by kernel_rfl)
                        have y5 := OrdG.shut_yes (i := 5) hSh y6 (by kernel_rfl)
                        have y4 := OrdG.shut_yes (i := 4) hSh y5 (by kernel_rfl)
                        have y1 := OrdG.shut_yes (i := 1) hSh y4 (by kernel_rfl)
                        rw [hl, y1, y4, n12] at hI
                        have h0 : Hs w1 W' (DD (updR (updR R 6 (bytR t.1 l)) 7 (bytR t.2.1 l)) Lb { x2 with u := x2.u.hush } Lc { y2 with u := y2.u.hush }) := hI.core
                        clear hI
                        go_simp
                        refine Calls.mono (HC3.out _ _ h0) ?_; rintro e z5 ⟨rfl, r, k⟩
                        refine hK _ _ ⟨(t.1, t.2.1, W'.heap.size, t.2.2.2), rfl, OrdG.vals_one rfl hl, ?_⟩
                        show PhS w1 R Lb Lc x2 y2 l N D _ (Array.getD _ 1 false) (Array.getD _ 4 false) (Array.getD _ 9 false) (Array.getD _ 12 false) _
                        rw [OrdG.getD_self hz (by decide), getD_set_ne false (by decide), getD_set_ne false (by decide), getD_set_ne false (by decide), y1, y4, n12]
                        exact ⟨h0.keep k, (fun _ => r), (fun h => by cases h)⟩
                      · have y9 := OrdG.on_of (i := 9) hb (by kernel_rfl)
                        have s1 := HS3.out _ _ (hI.r3 y9)
                        go_simp
                        exact hK0 _ (by show PhS w1 R Lb Lc x2 y2 l N D _ (Array.getD _ 1 false) (Array.getD _ 4 false) (Array.getD _ 9 false) (Array.getD _ 12 false) _; rw [getD_set_ne false (by decide), getD_set_ne false (by decide), getD_set_ne false (by decide), getD_set_ne false (by decide)]; exact hI)
                      · go_simp
                        exact hK0 _ (by show PhS w1 R Lb Lc x2 y2 l N D _ (Array.getD _ 1 false) (Array.getD _ 4 false) (Array.getD _ 9 false) (Array.getD _ 12 false) _; rw [getD_set_ne false (by decide), getD_set_ne false (by decide), getD_set_ne false (by decide), getD_set_ne false (by decide)]; exact hI)
                      · have y9 := OrdG.on_of (i := 9) hb (by kernel_rfl)
                        have y7 := OrdG.shut_yes (i := 7) hSh y9 (by kernel_rfl)
                        have y6 := OrdG.shut_yes (i := 6) hSh y7 (by kernel_rfl)
                        have y5 := OrdG.shut_yes (i := 5) hSh y6 (by kernel_rfl)
                        have y4 := OrdG.shut_yes (i := 4) hSh y5 (by kernel_rfl)
                        have y1 := OrdG.shut_yes (i := 1) hSh y4 (by kernel_rfl)
                        rw [hl, y1, y4, y9] at hI
                        have h0 : Hs w1 W' (DD (updR (updR R 6 (bytR t.1 l)) 7 (bytR t.2.1 l)) Lb { x2 with u := x2.u.hush } Lc { y2 with u := y2.u.hush }) := hI.core
                        have r3 := hI.r3 rfl
                        clear hI
                        go_simp
                        refine Calls.mono (HC4.out _ _ h0) ?_; rintro e z5 ⟨rfl, r, k⟩
                        refine hK _ _ ⟨(t.1, t.2.1, t.2.2.1, W'.heap.size), rfl, OrdG.vals_one rfl hl, ?_⟩
                        show PhS w1 R Lb Lc x2 y2 l N D _ (Array.getD _ 1 false) (Array.getD _ 4 false) (Array.getD _ 9 false) (Array.getD _ 12 false) _
                        rw [OrdG.getD_self hz (by decide), getD_set_ne false (by decide), getD_set_ne false (by decide), getD_set_ne false (by decide), y1, y4, y9]
                        exact ⟨h0.keep k, (fun _ => r3.kept (dkK k) id), (fun _ => r)⟩
                      · have y12 := OrdG.on_of (i := 12) hb (by kernel_rfl)
                        have s1 := HS3.out _ _ (hI.r4 y12)
                        go_simp
                        exact hK0 _ (by show PhS w1 R Lb Lc x2 y2 l N D _ (Array.getD _ 1 false) (Array.getD _ 4 false) (Array.getD _ 9 false) (Array.getD _ 12 false) _; rw [getD_set_ne false (by decide), getD_set_ne false (by decide), getD_set_ne false (by decide), getD_set_ne false (by decide)]; exact hI)
                      · go_simp
                        exact hK0 _ (by show PhS w1 R Lb Lc x2 y2 l N D _ (Array.getD _ 1 false) (Array.getD _ 4 false) (Array.getD _ 9 false) (Array.getD _ 12 false) _; rw [getD_set_ne false (by decide), getD_set_ne false (by decide), getD_set_ne false (by decide), getD_set_ne false (by decide)]; exact hI)
                      · go_simp
                        exact hK0 _ (by show PhS w1 R Lb Lc x2 y2 l N D _ (Array.getD _ 1 false) (Array.getD _ 4 false) (Array.getD _ 9 false) (Array.getD _ 12 false) _; rw [getD_set_ne false (by decide), getD_set_ne false (by decide), getD_set_ne false (by decide), getD_set_ne false (by decide)]; exact hI)
                      · go_simp
                        exact hK0 _ (by show PhS w1 R Lb Lc x2 y2 l N D _ (Array.getD _ 1 false) (Array.getD _ 4 false) (Array.getD _ 9 false) (Array.getD _ 12 false) _; rw [getD_set_ne false (by decide), getD_set_ne false (by decide), getD_set_ne false (by decide), getD_set_ne false (by decide)]; exact hI)
                    · intro t listed z6 hall hI
                      have KZ : Hid _ := HE.out _ _ Q1.out (PhS.kp (show PhS w1 R Lb Lc x2 y2 l N D t (listed.getD 1 false) (listed.getD 4 false) (listed.getD 9 false) (listed.getD 12 false) z6 from hI))
                      clear hI hall HC1 HC2 HC3 HC4 HS1 HS2 HS3 P9
                      go_wp2
                      go_ret
                      exact ⟨rfl, KZ.out⟩
          · obtain ⟨n, hn⟩ : ∃ n : Nat, n = 4 := ⟨_, rfl⟩
            have NI : Hid ((4 : Int) = (n : Int)) := by show _ = _; rw [hn]; rfl
            have ok : okS n := by unfold okS; omega
            have n4 : n ≤ 4 := by omega
            obtain ⟨sm, ev⟩ := wide_in (x := x) p0 p1 hp n ok
            have EN : erS n = 0 := by unfold erS; rw [if_pos ok]
            have E1 : erS 1 = 0 := rfl
            obtain ⟨V, hV⟩ : ∃ V, V = x.innV port n := ⟨_, rfl⟩
            obtain ⟨x1, hx1⟩ : ∃ x1, x1 = x.inn port n := ⟨_, rfl⟩
            have k1 : x1.Ok := by rw [hx1]; exact QX.out.1.ok.inn _ _
            have w1' : x1.wk ≤ 1600 := by rw [hx1]; exact Nat.le_trans (inn_wk _ _ _) QX.out.2
            have HI : Hid (Calls Tryz.prog 24 #[.pointer (some ⟨Lb.B, 0, none⟩), .int .u16 port, .int .i64 n] w5 fun e w' => e = .returned (.tuple #[.int .u32 V, .int .i64 0]) ∧ Hs w1 w' (DD R Lb x1 Lc x)) := by
              have := inB P5.out QX.out.1.ok port n p0 p1
              rw [← hV, ← hx1, EN] at this
              exact this
            rw [← hV] at ev
            rw [← hx1] at sm
            obtain ⟨x2, hx2⟩ : ∃ x2, x2 = x1.out port n vv := ⟨_, rfl⟩
            have k2 : x2.Ok := by rw [hx2]; exact k1.out _ _ _
            have sm2 : Sim x2 (oC (cN x port n) port vv n) := by rw [hx2]; exact wide_out sm p0 p1 hp n ok vv
            have HO : Hid (∀ w, Hs w1 w (DD R Lb x1 Lc (cN x port n)) → Calls Tryz.prog 22 #[.pointer (some ⟨Lb.B, 0, none⟩), .int .u16 port, .int .i64 n, .int .u32 vv] w fun e w' => e = .returned (.int .i64 0) ∧ Hs w1 w' (DD R Lb x2 Lc (cN x port n))) := fun w h => by
              have := outB h k1 port n vv p0 p1 vv0 vv1 (by omega)
              rw [← hx2, EN] at this
              exact this
            have SM : Hid (Sim x2 (oC (cN x port n) port vv n) ∧ x2.Ok) := ⟨sm2, k2⟩
            have EV : Hid (0 + pw 0 * Bm.inVN (n - 0) (bN x port 0) (pi port 0) = V) := by rw [ev]; show 0 + pw 0 * _ = _; simp [pw]
            have n1 : 1 ≤ n := by omega
            clear sm ev hV hx1 k1 w1' hx2 k2 sm2 P5 ok EN hp hn
            go_wp2_with fail
            rw [NI.out]
            clear NI
            refine Calls.mono HI.out ?_; rintro e w6 ⟨rfl, p6⟩
            have P6 : Hid _ := p6
            clear p6 HI
            go_wp2_with fail
            go_loopw [21, 22] (fun s21 s22 wr => ∃ (i : Nat) (acc : Int), s21 = .int .u32 acc ∧ s22 = .int .i64 i ∧ i ≤ n ∧ 0 ≤ acc ∧ acc < pw i ∧ acc + pw i * Bm.inVN (n - i) (bN x port i) (pi port i) = V ∧ Hs w1 wr (DD R Lb x1 Lc (cN x port i))) (fun _ s22 _ => ((n : Int) - intOf s22).toNat)
            case atStart => exact ⟨0, 0, rfl, rfl, by omega, by decide, by decide, EV.out, P6.out⟩
            case round =>
              clear P6 EV
              obtain ⟨i, acc, rfl, rfl, hi, ac0, ac1, ev, hh⟩ := hrel
              by_cases hlt : i < n
              · obtain ⟨j, hj⟩ : ∃ j, n - i = j + 1 := ⟨n - i - 1, by omega⟩
                have hj' : n - (i + 1) = j := by omega
                rw [hj, inVN_bN] at ev
                have ob : Byt ((bN x port i).inV1 (pi port i)) := inV1_byt (bN_ok QX.out.1.ok port i) _
                obtain ⟨ac, ev⟩ := rd_acc (j := j) (by omega) ob ac0 ac1 ev
                have sb := same_byte QX.out.1.ok QX.out.1.told port (i := i) (by omega)
                have HN : Hid (Calls Tryz.prog 24 #[.pointer (some ⟨Lc.B, 0, none⟩), .int .u16 (pi port i), .int .i64 1] wr fun e w' => e = .returned (.tuple #[.int .u32 ((bN x port i).inV1 (pi port i)), .int .i64 0]) ∧ Hs w1 w' (DD R Lb x1 Lc (cN x port (i + 1)))) := by
                  have := inC hh (cN_ok QX.out.1.ok port i) (pi port i) 1 (pi_bd _ _).1 (pi_bd _ _).2
                  rw [sb, E1] at this
                  exact this
                generalize (bN x port i).inV1 (pi port i) = o at *
                have f1 : IntKind.u16.wrap (i : Int) = i := by rw [IntKind.wrap_u16]; omega
                have f2 : (i : Int) % 65536 = i := by omega
                have f3 : (port + (i : Int)) % 65536 = pi port i := rfl
                have f4 : IntKind.u16.wrap (port + (i : Int)) = pi port i := by rw [IntKind.wrap_u16]; rfl
                have EQ : Hid _ := ev
                have AC : Hid _ := ac
                have o0 := ob.1
                have o2 := ob.2
                have i4 : i = 0 ∨ i = 1 ∨ i = 2 ∨ i = 3 := by omega
                have A1 : Hid (acc < pw i) := ac1
                generalize pi port i = pp at *
                clear ev ac ob hh sb ac1
                go_wp2_with fail
                refine Calls.mono HN.out ?_; rintro e w7 ⟨rfl, p7⟩
                have P7 : Hid _ := p7
                clear p7 HN f1 f2 f3 f4
                rcases i4 with rfl | rfl | rfl | rfl
                · have a1 := A1.out
                  have a3 : acc < 1 := by simpa [pw] using a1
                  have a4 : acc = 0 := by omega
                  subst a4
                  clear a1 A1
                  go_wp2
                  go_roundw
                  case rel => exact ⟨1, _, rfl, by go_num, by omega, (by have := AC.out.1; simp [pw] at this ⊢ <;> omega), (by have := AC.out.2; simp [pw] at this ⊢ <;> omega), (by rw [hj']; have := EQ.out; simp [pw] at this ⊢ <;> omega), P7.out⟩
                  case measure => simp [intOf]; omega
                · have a1 := A1.out
                  have a3 : acc < 256 := by simpa [pw] using a1
                  clear a1 A1
                  go_wp2
                  go_roundw
                  case rel => exact ⟨2, _, rfl, by go_num, by omega, (by have := AC.out.1; simp [pw] at this ⊢ <;> omega), (by have := AC.out.2; simp [pw] at this ⊢ <;> omega), (by rw [hj']; have := EQ.out; simp [pw] at this ⊢ <;> omega), P7.out⟩
                  case measure => simp [intOf]; omega
                · have a1 := A1.out
                  have a3 : acc < 65536 := by simpa [pw] using a1
                  clear a1 A1
                  go_wp2
                  go_roundw
                  case rel => exact ⟨3, _, rfl, by go_num, by omega, (by have := AC.out.1; simp [pw] at this ⊢ <;> omega), (by have := AC.out.2; simp [pw] at this ⊢ <;> omega), (by rw [hj']; have := EQ.out; simp [pw] at this ⊢ <;> omega), P7.out⟩
                  case measure => simp [intOf]; omega
                · have a1 := A1.out
                  have a3 : acc < 16777216 := by simpa [pw] using a1
                  clear a1 A1
                  go_wp2
                  go_roundw
                  case rel => exact ⟨4, _, rfl, by go_num, by omega, (by have := AC.out.1; simp [pw] at this ⊢ <;> omega), (by have := AC.out.2; simp [pw] at this ⊢ <;> omega), (by rw [hj']; have := EQ.out; simp [pw] at this ⊢ <;> omega), P7.out⟩
                  case measure => simp [intOf]; omega
              · have hi' : i = n := by omega
                have P7 : Hid (Hs w1 wr (DD R Lb x1 Lc (cN x port n))) := by rw [← hi']; exact hh
                have ev' : acc = V := by
                  rw [show n - i = 0 by omega] at ev
                  rw [← ev]
                  show acc = acc + pw i * 0
                  omega
                subst ev'
                have K0 : Hid ((cN x port n).Ok ∧ (cN x port n).wk ≤ 1600) := ⟨cN_ok QX.out.1.ok port n, Nat.le_trans (cN_wk x port n) QX.out.2⟩
                clear hh ev ac1 QX
                generalize cN x port n = y0 at *
                have hge : ¬ (i : Int) < n := by omega
                go_wp2_with fail
                refine Calls.mono (HO.out _ P7.out) ?_; rintro e w8 ⟨rfl, p8⟩
                have P8 : Hid _ := p8
                clear p8 HO P7
                go_wp2_with fail
                go_loopw [25] (fun s25 wr => ∃ q : Nat, s25 = .int .i64 q ∧ q ≤ n ∧ Hs w1 wr (DD R Lb x2 Lc (oC y0 port vv q))) (fun s25 _ => ((n : Int) - intOf s25).toNat)
                case atStart => exact ⟨0, rfl, by omega, P8.out⟩
                case round =>
                  clear P8
                  obtain ⟨q, rfl, hq, hh⟩ := hrel
                  by_cases hlt : q < n
                  · obtain ⟨u, hu⟩ : ∃ u, u = vv / 256 ^ q % 256 := ⟨_, rfl⟩
                    have HN : Hid (Calls Tryz.prog 22 #[.pointer (some ⟨Lc.B, 0, none⟩), .int .u16 (pi port q), .int .i64 1, .int .u32 u] wr fun e w' => e = .returned (.int .i64 0) ∧ Hs w1 w' (DD R Lb x2 Lc (oC y0 port vv (q + 1)))) := by
                      have hw := oC_wk K0.out.1 port vv q
                      have := outC hh (oC_ok K0.out.1 port vv q) (pi port q) 1 u (pi_bd _ _).1 (pi_bd _ _).2 (by omega) (by omega) (by have := K0.out.2; omega)
                      rw [E1, hu] at this
                      rw [hu]
                      exact this
                    obtain ⟨pp, hpp⟩ : ∃ pp, pp = pi port q := ⟨_, rfl⟩
                    rw [← hpp] at HN
                    clear hh
                    have i4 : q = 0 ∨ q = 1 ∨ q = 2 ∨ q = 3 := by omega
                    rcases i4 with rfl | rfl | rfl | rfl
                    · have g1 : vv % 256 = u := by rw [hu, Int.pow_zero, Int.ediv_one]
                      have e0 : pp = port := by rw [hpp, pi_0 p0 p1]
                      rw [e0] at HN
                      clear e0
                      clear hu hpp
                      go_wp2_with fail
                      refine Calls.mono HN.out ?_; rintro e w9 ⟨rfl, p9⟩
                      have P9 : Hid _ := p9
                      clear p9 HN
                      go_wp2
                      go_roundw
                      case rel => exact ⟨1, by go_num, by omega, P9.out⟩
                      case measure => simp [intOf]; omega
                    · have g1 : vv / 256 % 256 = u := by rw [hu]; rfl
                      have f3 : (port + 1) % 65536 = pp := by rw [hpp]; rfl
                      have f4 : IntKind.u16.wrap (port + 1) = pp := by rw [IntKind.wrap_u16]; exact f3
                      clear hu hpp
                      go_wp2_with fail
                      refine Calls.mono HN.out ?_; rintro e w9 ⟨rfl, p9⟩
                      have P9 : Hid _ := p9
                      clear p9 HN f3 f4
                      go_wp2
                      go_roundw
                      case rel => exact ⟨2, by go_num, by omega, P9.out⟩
                      case measure => simp [intOf]; omega
                    · have g1 : vv / 65536 % 256 = u := by rw [hu]; rfl
                      have f3 : (port + 2) % 65536 = pp := by rw [hpp]; rfl
                      have f4 : IntKind.u16.wrap (port + 2) = pp := by rw [IntKind.wrap_u16]; exact f3
                      clear hu hpp
                      go_wp2_with fail
                      refine Calls.mono HN.out ?_; rintro e w9 ⟨rfl, p9⟩
                      have P9 : Hid _ := p9
                      clear p9 HN f3 f4
                      go_wp2
                      go_roundw
                      case rel => exact ⟨3, by go_num, by omega, P9.out⟩
                      case measure => simp [intOf]; omega
                    · have g1 : vv / 16777216 % 256 = u := by rw [hu]; rfl
                      have f3 : (port + 3) % 65536 = pp := by rw [hpp]; rfl
                      have f4 : IntKind.u16.wrap (port + 3) = pp := by rw [IntKind.wrap_u16]; exact f3
                      clear hu hpp
                      go_wp2_with fail
                      refine Calls.mono HN.out ?_; rintro e w9 ⟨rfl, p9⟩
                      have P9 : Hid _ := p9
                      clear p9 HN f3 f4
                      go_wp2
                      go_roundw
                      case rel => exact ⟨4, by go_num, by omega, P9.out⟩
                      case measure => simp [intOf]; omega
                  · have hq' : q = n := by omega
                    have P9 : Hid (Hs w1 wr.drew (DD R Lb x2 Lc (oC y0 port vv n))) := by rw [← hq']; exact hh.drew
                    have ky : Hid (oC y0 port vv n).Ok := oC_ok K0.out.1 port vv n
                    generalize oC y0 port vv n = y2 at *
                    obtain ⟨l, hl⟩ : ∃ l, l = x2.u.sent := ⟨_, rfl⟩
                    obtain ⟨N, hN⟩ : ∃ N, N = 512 * x2.d.n := ⟨_, rfl⟩
                    obtain ⟨D, hD⟩ : ∃ D, D = x2.d.D := ⟨_, rfl⟩
                    obtain ⟨sl, hsl⟩ : ∃ s, s = strOfNums l := ⟨_, rfl⟩
                    obtain ⟨sd, hsd⟩ : ∃ s, s = strOfNums (Dk.strR N D) := ⟨_, rfl⟩
                    have l2 : y2.u.sent = l := by rw [hl, SM.out.1.u]
                    have N2 : 512 * y2.d.n = N := by rw [hN, SM.out.1.d]
                    have D2 : y2.d.D = D := by rw [hD, SM.out.1.d]
                    have HC1 : Hid (∀ w, Hs w1 w (DD R Lb x2 Lc y2) → Calls Tryz.prog 26 #[.pointer (some ⟨Lb.B, 0, none⟩)] w fun e w' => ∃ p c, e = .returned (.slice p l.length c) ∧ Hs w1 w' (DD (updR R 6 (bytR (.slice p l.length c) l)) Lb { x2 with u := x2.u.hush } Lc y2)) := fun w h => by rw [hl]; exact sentB h R5.out.2.1 (by decide) (by decide)
                    have HC2 : Hid (∀ w r, Hs w1 w (DD (updR R 6 r) Lb { x2 with u := x2.u.hush } Lc y2) → Calls Tryz.prog 26 #[.pointer (some ⟨Lc.B, 0, none⟩)] w fun e w' => ∃ p c, e = .returned (.slice p l.length c) ∧ Hs w1 w' (DD (updR (updR R 6 r) 7 (bytR (.slice p l.length c) l)) Lb { x2 with u := x2.u.hush } Lc { y2 with u := y2.u.hush })) := fun w r h => by
                      have := sentC h (j := 7) (by rw [upd_other (by decide)]; exact R5.out.2.2) (by decide) (by decide)
                      rw [l2] at this
                      exact this
                    have HC3 : Hid (∀ w R', Hs w1 w (DD R' Lb { x2 with u := x2.u.hush } Lc { y2 with u := y2.u.hush }) → Calls Tryz.prog 27 #[.pointer (some ⟨Lb.B, 0, none⟩)] w fun e w' => e = .returned (.slice (some ⟨w.heap.size, 0, none⟩) N N) ∧ Dk.RowB w' w.heap.size N D ∧ Kp noB w w') := fun w R' h => by
                      obtain ⟨⟨S, b⟩, _⟩ := ddBw h
                      rw [hN, hD]
                      exact (disk_ok b { SM.out.2 with u := SM.out.2.u.hush }).mono fun e w' ⟨q, r⟩ => ⟨q, r.row, kDk r.2.1⟩
                    have HC4 : Hid (∀ w R', Hs w1 w (DD R' Lb { x2 with u := x2.u.hush } Lc { y2 with u := y2.u.hush }) → Calls Tryz.prog 27 #[.pointer (some ⟨Lc.B, 0, none⟩)] w fun e w' => e = .returned (.slice (some ⟨w.heap.size, 0, none⟩) N N) ∧ Dk.RowB w' w.heap.size N D ∧ Kp noB w w') := fun w R' h => by
                      obtain ⟨_, S, b⟩ := ddBw h
                      rw [← N2, ← D2]
                      exact (disk_ok b { ky.out with u := ky.out.u.hush }).mono fun e w' ⟨q, r⟩ => ⟨q, r.row, kDk r.2.1⟩
                    have HS1 : Hid (∀ t b c e w, PhS w1 R Lb Lc x2 y2 l N D t true b c e w → (convert 22 9 t.1).run Tryz.prog w = .ok (.string sl) w) := fun t b c e w h => by rw [hsl]; exact h.s1
                    have HS2 : Hid (∀ t a c e w, PhS w1 R Lb Lc x2 y2 l N D t a true c e w → (convert 22 9 t.2.1).run Tryz.prog w = .ok (.string sl) w) := fun t a c e w h => by rw [hsl]; exact h.s2
                    have HS3 : Hid (∀ w g, Dk.RowB w g N D → (convert 22 9 (.slice (some ⟨g, 0, none⟩) N N)).run Tryz.prog w = .ok (.string sd) w) := fun w g h => by rw [hsd]; exact row_str h
                    have hge2 : ¬ (q : Int) < n := by omega
                    clear hh SM ky l2 N2 D2 hl hN hD hsl hsd K0
                    go_wp2
                    refine OrdG.region_vals (τ := Value × Value × Nat × Nat) (fun t => [(.pointer (some ⟨Lb.B, 0, none⟩)), t.1, (.string sl), (.pointer (some ⟨Lc.B, 0, none⟩)), t.2.1, (.string sl), (.bool true), (.bool true), (.pointer (some ⟨Lb.B, 0, none⟩)), (.slice (some ⟨t.2.2.1, 0, none⟩) N N), (.string sd), (.pointer (some ⟨Lc.B, 0, none⟩)), (.slice (some ⟨t.2.2.2, 0, none⟩) N N), (.string sd), (.bool true), (.bool true), (.bool true)]) (fun t listed W' => PhS w1 R Lb Lc x2 y2 l N D t (listed.getD 1 false) (listed.getD 4 false) (listed.getD 9 false) (listed.getD 12 false) W') (undef, undef, 0, 0) (by kernel_rfl) (by kernel_rfl) (by kernel_rfl) (by kernel_rfl) (fun _ => rfl) (fun t => by simp only [OrdG.puts, Act.put, List.setIfInBounds_toArray, List.set_cons_zero, List.set_cons_succ]; rfl) (fun _ => by kernel_rfl) ⟨P9.out, (fun h => by cases h), (fun h => by cases h)⟩ ?_ ?_
                    · refine ⟨?_, ?_, ?_, ?_, ?_, ?_, ?_, ?_, ?_, ?_, ?_, ?_, ?_, ?_, ?_, ?_, ?_, trivial⟩
                      all_goals (intro t listed W' hz hSh hl hI hb K hK hK0; change PhS w1 R Lb Lc x2 y2 l N D t (listed.getD 1 false) (listed.getD 4 false) (listed.getD 9 false) (listed.getD 12 false) W' at hI)
                      · go_simp
                        exact hK0 _ (by show PhS w1 R Lb Lc x2 y2 l N D _ (Array.getD _ 1 false) (Array.getD _ 4 false) (Array.getD _ 9 false) (Array.getD _ 12 false) _; rw [getD_set_ne false (by decide), getD_set_ne false (by decide), getD_set_ne false (by decide), getD_set_ne false (by decide)]; exact hI)
                      · skip
                        have n2 := OrdG.shut_no (j := 2) hSh hl (by kernel_rfl)
                        have n6 := OrdG.shut_no (j := 6) hSh n2 (by kernel_rfl)
                        have n7 := OrdG.shut_no (j := 7) hSh n6 (by kernel_rfl)
                        have n9 := OrdG.shut_no (j := 9) hSh n7 (by kernel_rfl)
                        have n12 := OrdG.shut_no (j := 12) hSh n9 (by kernel_rfl)
                        have n4 := OrdG.shut_no (j := 4) hSh hl (by kernel_rfl)
                        rw [hl, n4, n9, n12] at hI
                        have h0 : Hs w1 W' (DD R Lb x2 Lc y2) := hI.core
                        clear hI
                        go_simp
                        refine Calls.mono (HC1.out _ h0) ?_; rintro e z5 ⟨p, c, rfl, h1⟩
                        refine hK _ _ ⟨(.slice p l.length c, t.2), rfl, OrdG.vals_one rfl hl, ?_⟩
                        show PhS w1 R Lb Lc x2 y2 l N D _ (Array.getD _ 1 false) (Array.getD _ 4 false) (Array.getD _ 9 false) (Array.getD _ 12 false) _
                        rw [OrdG.getD_self hz (by decide), getD_set_ne false (by decide), getD_set_ne false (by decide), getD_set_ne false (by decide), n4, n9, n12]
                        exact ⟨h1, (fun h => by cases h), (fun h => by cases h)⟩
                      · have y1 := OrdG.on_of (i := 1) hb (by kernel_rfl)
                        have s1 : (convert 22 9 t.1).run Tryz.prog W' = .ok (.string sl) W' := HS1.out _ _ _ _ _ (by rw [y1] at hI; exact hI)
                        go_simp
                        exact hK0 _ (by show PhS w1 R Lb Lc x2 y2 l N D _ (Array.getD _ 1 false) (Array.getD _ 4 false) (Array.getD _ 9 false) (Array.getD _ 12 false) _; rw [getD_set_ne false (by decide), getD_set_ne false (by decide), getD_set_ne false (by decide), getD_set_ne false (by decide)]; exact hI)
                      · go_simp
                        exact hK0 _ (by show PhS w1 R Lb Lc x2 y2 l N D _ (Array.getD _ 1 false) (Array.getD _ 4 false) (Array.getD _ 9 false) (Array.getD _ 12 false) _; rw [getD_set_ne false (by decide), getD_set_ne false (by decide), getD_set_ne false (by decide), getD_set_ne false (by decide)]; exact hI)
                      · skip
                        have n5 := OrdG.shut_no (j := 5) hSh hl (by kernel_rfl)
                        have n6 := OrdG.shut_no (j := 6) hSh n5 (by kernel_rfl)
                        have n7 := OrdG.shut_no (j := 7) hSh n6 (by kernel_rfl)
                        have n9 := OrdG.shut_no (j := 9) hSh n7 (by kernel_rfl)
                        have n12 := OrdG.shut_no (j := 12) hSh n9 (by kernel_rfl)
                        have y1 := OrdG.on_of (i := 1) hb (by kernel_rfl)
                        rw [hl, y1, n9, n12] at hI
                        have h0 : Hs w1 W' (DD (updR R 6 (bytR t.1 l)) Lb { x2 with u := x2.u.hush } Lc y2) := hI.core
                        clear hI
                        go_simp
                        refine Calls.mono (HC2.out _ _ h0) ?_; rintro e z5 ⟨p, c, rfl, h1⟩
                        refine hK _ _ ⟨(t.1, .slice p l.length c, t.2.2), rfl, OrdG.vals_one rfl hl, ?_⟩
                        show PhS w1 R Lb Lc x2 y2 l N D _ (Array.getD _ 1 false) (Array.getD _ 4 false) (Array.getD _ 9 false) (Array.getD _ 12 false) _
                        rw [OrdG.getD_self hz (by decide), getD_set_ne false (by decide), getD_set_ne false (by decide), getD_set_ne false (by decide), y1, n9, n12]
                        exact ⟨h1, (fun h => by cases h), (fun h => by cases h)⟩
                      · have y4 := OrdG.on_of (i := 4) hb (by kernel_rfl)
                        have s1 : (convert 22 9 t.2.1).run Tryz.prog W' = .ok (.string sl) W' := HS2.out _ _ _ _ _ (by rw [y4] at hI; exact hI)
                        go_simp
                        exact hK0 _ (by show PhS w1 R Lb Lc x2 y2 l N D _ (Array.getD _ 1 false) (Array.getD _ 4 false) (Array.getD _ 9 false) (Array.getD _ 12 false) _; rw [getD_set_ne false (by decide), getD_set_ne false (by decide), getD_set_ne false (by decide), getD_set_ne false (by decide)]; exact hI)
                      · go_simp
                        exact hK0 _ (by show PhS w1 R Lb Lc x2 y2 l N D _ (Array.getD _ 1 false) (Array.getD _ 4 false) (Array.getD _ 9 false) (Array.getD _ 12 false) _; rw [getD_set_ne false (by decide), getD_set_ne false (by decide), getD_set_ne false (by decide), getD_set_ne false (by decide)]; exact hI)
                      · go_simp
                        exact hK0 _ (by show PhS w1 R Lb Lc x2 y2 l N D _ (Array.getD _ 1 false) (Array.getD _ 4 false) (Array.getD _ 9 false) (Array.getD _ 12 false) _; rw [getD_set_ne false (by decide), getD_set_ne false (by decide), getD_set_ne false (by decide), getD_set_ne false (by decide)]; exact hI)
                      · go_simp
                        exact hK0 _ (by show PhS w1 R Lb Lc x2 y2 l N D _ (Array.getD _ 1 false) (Array.getD _ 4 false) (Array.getD _ 9 false) (Array.getD _ 12 false) _; rw [getD_set_ne false (by decide), getD_set_ne false (by decide), getD_set_ne false (by decide), getD_set_ne false (by decide)]; exact hI)
                      · skip
                        have n12 := OrdG.shut_no (j := 12) hSh hl (by kernel_rfl)
                        have y7 := OrdG.on_of (i := 7) hb (by kernel_rfl)
                        have y6 := OrdG.shut_yes (i := 6) hSh y7 (by kernel_rfl)
                        have y5 := OrdG.shut_yes (i := 5) hSh y6 (by kernel_rfl)
                        have y4 := OrdG.shut_yes (i := 4) hSh y5 (by kernel_rfl)
                        have y1 := OrdG.shut_yes (i := 1) hSh y4 (by kernel_rfl)
                        rw [hl, y1, y4, n12] at hI
                        have h0 : Hs w1 W' (DD (updR (updR R 6 (bytR t.1 l)) 7 (bytR t.2.1 l)) Lb { x2 with u := x2.u.hush } Lc { y2 with u := y2.u.hush }) := hI.core
                        clear hI
                        go_simp
                        refine Calls.mono (HC3.out _ _ h0) ?_; rintro e z5 ⟨rfl, r, k⟩
                        refine hK _ _ ⟨(t.1, t.2.1, W'.heap.size, t.2.2.2), rfl, OrdG.vals_one rfl hl, ?_⟩
                        show PhS w1 R Lb Lc x2 y2 l N D _ (Array.getD _ 1 false) (Array.getD _ 4 false) (Array.getD _ 9 false) (Array.getD _ 12 false) _
                        rw [OrdG.getD_self hz (by decide), getD_set_ne false (by decide), getD_set_ne false (by decide), getD_set_ne false (by decide), y1, y4, n12]
                        exact ⟨h0.keep k, (fun _ => r), (fun h => by cases h)⟩
                      · have y9 := OrdG.on_of (i := 9) hb (by kernel_rfl)
                        have s1 := HS3.out _ _ (hI.r3 y9)
                        go_simp
                        exact hK0 _ (by show PhS w1 R Lb Lc x2 y2 l N D _ (Array.getD _ 1 false) (Array.getD _ 4 false) (Array.getD _ 9 false) (Array.getD _ 12 false) _; rw [getD_set_ne false (by decide), getD_set_ne false (by decide), getD_set_ne false (by decide), getD_set_ne false (by decide)]; exact hI)
                      · go_simp
                        exact hK0 _ (by show PhS w1 R Lb Lc x2 y2 l N D _ (Array.getD _ 1 false) (Array.getD _ 4 false) (Array.getD _ 9 false) (Array.getD _ 12 false) _; rw [getD_set_ne false (by decide), getD_set_ne false (by decide), getD_set_ne false (by decide), getD_set_ne false (by decide)]; exact hI)
                      · have y9 := OrdG.on_of (i := 9) hb (by kernel_rfl)
                        have y7 := OrdG.shut_yes (i := 7) hSh y9 (by kernel_rfl)
                        have y6 := OrdG.shut_yes (i := 6) hSh y7 (by kernel_rfl)
                        have y5 := OrdG.shut_yes (i := 5) hSh y6 (by kernel_rfl)
                        have y4 := OrdG.shut_yes (i := 4) hSh y5 (by kernel_rfl)
                        have y1 := OrdG.shut_yes (i := 1) hSh y4 (by kernel_rfl)
                        rw [hl, y1, y4, y9] at hI
                        have h0 : Hs w1 W' (DD (updR (updR R 6 (bytR t.1 l)) 7 (bytR t.2.1 l)) Lb { x2 with u := x2.u.hush } Lc { y2 with u := y2.u.hush }) := hI.core
                        have r3 := hI.r3 rfl
                        clear hI
                        go_simp
                        refine Calls.mono (HC4.out _ _ h0) ?_; rintro e z5 ⟨rfl, r, k⟩
                        refine hK _ _ ⟨(t.1, t.2.1, t.2.2.1, W'.heap.size), rfl, OrdG.vals_one rfl hl, ?_⟩
                        show PhS w1 R Lb Lc x2 y2 l N D _ (Array.getD _ 1 false) (Array.getD _ 4 false) (Array.getD _ 9 false) (Array.getD _ 12 false) _
                        rw [OrdG.getD_self hz (by decide), getD_set_ne false (by decide), getD_set_ne false (by decide), getD_set_ne false (by decide), y1, y4, y9]
                        exact ⟨h0.keep k, (fun _ => r3.kept (dkK k) id), (fun _ => r)⟩
                      · have y12 := OrdG.on_of (i := 12) hb (by kernel_rfl)
                        have s1 := HS3.out _ _ (hI.r4 y12)
                        go_simp
                        exact hK0 _ (by show PhS w1 R Lb Lc x2 y2 l N D _ (Array.getD _ 1 false) (Array.getD _ 4 false) (Array.getD _ 9 false) (Array.getD _ 12 false) _; rw [getD_set_ne false (by decide), getD_set_ne false (by decide), getD_set_ne false (by decide), getD_set_ne false (by decide)]; exact hI)
                      · go_simp
                        exact hK0 _ (by show PhS w1 R Lb Lc x2 y2 l N D _ (Array.getD _ 1 false) (Array.getD _ 4 false) (Array.getD _ 9 false) (Array.getD _ 12 false) _; rw [getD_set_ne false (by decide), getD_set_ne false (by decide), getD_set_ne false (by decide), getD_set_ne false (by decide)]; exact hI)
                      · go_simp
                        exact hK0 _ (by show PhS w1 R Lb Lc x2 y2 l N D _ (Array.getD _ 1 false) (Array.getD _ 4 false) (Array.getD _ 9 false) (Array.getD _ 12 false) _; rw [getD_set_ne false (by decide), getD_set_ne false (by decide), getD_set_ne false (by decide), getD_set_ne false (by decide)]; exact hI)
                      · go_simp
                        exact hK0 _ (by show PhS w1 R Lb Lc x2 y2 l N D _ (Array.getD _ 1 false) (Array.getD _ 4 false) (Array.getD _ 9 false) (Array.getD _ 12 false) _; rw [getD_set_ne false (by decide), getD_set_ne false (by decide), getD_set_ne false (by decide), getD_set_ne false (by decide)]; exact hI)
                    · intro t listed z6 hall hI
                      have KZ : Hid _ := HE.out _ _ Q1.out (PhS.kp (show PhS w1 R Lb Lc x2 y2 l N D t (listed.getD 1 false) (listed.getD 4 false) (listed.getD 9 false) (listed.getD 12 false) z6 from hI))
                      clear hI hall HC1 HC2 HC3 HC4 HS1 HS2 HS3 P9
                      go_wp2
                      go_ret
                      exact ⟨rfl, KZ.out⟩
end Go.Proofs.YtclejmdmbanedaaGreat.Bs
