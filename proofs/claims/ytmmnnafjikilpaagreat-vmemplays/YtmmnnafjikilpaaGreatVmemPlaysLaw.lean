/- The walk of the statement VmemPlays: memory as programs see it tells what the document says, whatever is done. -/
import Derived.Test.YtmmnnafjikilpaaGreatVpAsk
import Derived.Test.YtmmnnafjikilpaaGreatVpOpen
import Derived.Test.YtmmnnafjikilpaaGreatVj
import Derived.Test.YtmmnnafjikilpaaGreatVg
namespace Go.Proofs.YtmmnnafjikilpaaGreat
open Go.ChangeShapes Go.WideShapes Go.ChangeAt Go.RowKit Go.Maps
set_option linter.unusedVariables false
set_option maxRecDepth 20000

/-- A call of both, whatever its kind. -/
theorem ask_any (w : World) (V K B : Nat) (R : Rf) (pl tn : Nat) (M : Mem) (h : TwV w V K B R pl tn M M) (cs : Array Value) (wf : WfC cs) (c : Cp) (hc : CpC cs c) (ok : c.Ok) (heq : ∀ w, (Op.equalIn 10000 35 (.agg cs) (.agg cs)).run Tryz.prog w = .ok true w) (kd sg off z v : Int) (ho : OpOk kd sg off z v) (htn : tn < 18446744073709551613) :
    Calls Tryz.prog 8 #[.pointer (some ⟨V, 0, none⟩), .pointer (some ⟨R.r, 0, none⟩), .agg cs, .agg #[.int .i64 kd, .int .i64 sg, .int .u32 off, .int .i64 z, .int .u32 v]] w fun e w' => ∃ M', AskP w V K B R pl tn M' e w' := by
  have a := fun (k : Int) (e : kd = k) => e
  by_cases hk : kd < 1 ∨ 8 < kd
  · exact (ask_none w V K B R pl tn M h cs wf c hc ok heq sg off z v ho.o0 ho.o1 ho.v0 ho.v1 htn kd hk).mono fun e w' q => ⟨_, q⟩
  · rcases (by omega : kd = 1 ∨ kd = 2 ∨ kd = 3 ∨ kd = 4 ∨ kd = 5 ∨ kd = 6 ∨ kd = 7 ∨ kd = 8) with rfl | rfl | rfl | rfl | rfl | rfl | rfl | rfl
    · exact (ask_load w V K B R pl tn M h cs wf c hc ok heq sg off z v ho.o0 ho.o1 ho.v0 ho.v1 htn).mono fun e w' q => ⟨_, q⟩
    · exact (ask_store w V K B R pl tn M h cs wf c hc ok heq sg off z v ho.o0 ho.o1 ho.v0 ho.v1 htn).mono fun e w' q => ⟨_, q⟩
    · exact (ask_check w V K B R pl tn M h cs wf c hc ok heq sg off z v ho.o0 ho.o1 ho.v0 ho.v1 htn).mono fun e w' q => ⟨_, q⟩
    · exact (ask_sys w V K B R pl tn M h cs wf c hc ok heq sg off z v ho.o0 ho.o1 ho.v0 ho.v1 htn).mono fun e w' q => ⟨_, q⟩
    · exact (ask_setSys w V K B R pl tn M h cs wf c hc ok heq sg off z v ho.o0 ho.o1 ho.v0 ho.v1 htn).mono fun e w' q => ⟨_, q⟩
    · exact (ask_code w V K B R pl tn M h cs wf c hc ok heq sg off z v ho.o0 ho.o1 ho.v0 ho.v1 htn).mono fun e w' q => ⟨_, q⟩
    · exact (ask_flush w V K B R pl tn M h cs wf c hc ok heq sg off z v ho.o0 ho.o1 ho.v0 ho.v1 htn).mono fun e w' q => ⟨_, q⟩
    · exact (ask_drop w V K B R pl tn M h cs wf c hc ok heq sg off z v ho.o0 ho.o1 ho.v0 ho.v1 htn).mono fun e w' q => ⟨_, q⟩

structure PyI (w : World) (V K B : Nat) (R : Rf) (p t X : Nat) (cs : Array Value) (W : World) : Prop where
  t : ∃ tn M', tn ≤ t ∧ TwV W V K B R p tn M' M'
  c : PAt W X cs
  k : Kp noB w W
theorem PyI.kp0 {w W W' : World} {V K B p t X : Nat} {R : Rf} {cs : Array Value} (h : PyI w V K B R p t X cs W) (k : Kp noB W W') : PyI w V K B R p t X cs W' :=
  ⟨by obtain ⟨a, b, d, e⟩ := h.t; exact ⟨a, b, d, e.kp0 k⟩, h.c.kp k (fun f => f), h.k.trans k⟩
def PyQ (w : World) (V K B : Nat) (R : Rf) (p X : Nat) (cs : Array Value) (L k : Nat) (s : Value) (wr : World) : Prop :=
  ∃ i : Nat, s = .int .i64 i ∧ i ≤ L ∧ L - i ≤ k ∧ PyI w V K B R p (2 * i) X cs wr
/-- The region of a round: whether the call was made. -/
def PyD (w : World) (V K B : Nat) (R : Rf) (p t X : Nat) (cs : Array Value) (d : Bool) (W : World) : Prop := PyI w V K B R p (t + (if d = true then 2 else 0)) X cs W

set_option maxHeartbeats 8000000 in
theorem VmemPlays_walk (w : World) (ps : Int) (ps0 : -9223372036854775808 ≤ ps) (ps1 : ps ≤ 9223372036854775807) (a0 : Option Addr) (len0 cap0 : Nat) (wf wg : Nat → Int) (q0 : len0 ≤ 9223372036854775807) (ws0 : ∀ i, i < len0 → WordIn w a0 wf wg i)
    (a1 : Option Addr) (len1 cap1 : Nat) (og : Nat → Int) (q1 : len1 ≤ 9223372036854775807) (ws1 : ∀ i, i < len1 → OnlyIn w a1 og i)
    (cs : Array Value) (wfc : WfC cs) (c : Cp) (hc : CpC cs c) (ok : c.Ok) (heq : ∀ w, (Op.equalIn 10000 35 (.agg cs) (.agg cs)).run Tryz.prog w = .ok true w)
    (a2 : Option Addr) (L cap2 : Nat) (q2 : L ≤ 9223372036854775807) (ws2 : ∀ i, i < L → OpvIn w a2 i) :
    Calls Tryz.prog 3 #[.int .i64 ps, .slice a0 len0 cap0, .slice a1 len1 cap1, .agg cs, .slice a2 L cap2] w fun e w' => e = .returned (.bool true) ∧ Below w.heap.size w w' := by
  obtain ⟨T, nn, Z, hV⟩ := vlP
  obtain ⟨vl, vs, va, vb⟩ := hV.ops
  have g1 := hV.agg; have g2 := hV.size; have g3 := hV.zero
  have hst := hV.new wfc w
  have hsz : cs.size = nn := by rw [wfc.s, hV.s]
  have HB : Hid (∀ W, Kp noB w W → Calls Tryz.prog 5 #[.int .i64 16, .slice a0 len0 cap0, .slice a1 len1 cap1] W (BothPost W (memOf wf wg og len0 len1))) := fun W kW => both_any W a0 a1 len0 cap0 len1 cap1 wf wg og q0 q1 (fun i hi => (ws0 i hi).kp kW) (fun i hi => (ws1 i hi).kp kW)
  have HS : Hid (∀ i, i < L → OpvIn w a2 i) := ws2
  have hms := memOf_same wf wg og len0 len1
  obtain ⟨M0, hM0⟩ : ∃ M0, M0 = memOf wf wg og len0 len1 := ⟨_, rfl⟩
  rw [← hM0] at HB hms
  have HA : Hid (∀ (W : World) (V K B : Nat) (R : Rf) (pl tn : Nat) (M : Mem), TwV W V K B R pl tn M M → ∀ (kd sg off z v : Int), OpOk kd sg off z v → tn < 18446744073709551613 → Calls Tryz.prog 8 #[.pointer (some ⟨V, 0, none⟩), .pointer (some ⟨R.r, 0, none⟩), .agg cs, .agg #[.int .i64 kd, .int .i64 sg, .int .u32 off, .int .i64 z, .int .u32 v]] W fun e w' => ∃ M', AskP W V K B R pl tn M' e w') := fun W V K B R pl tn M hh kd sg off z v ho ht => ask_any W V K B R pl tn M hh cs wfc c hc ok heq kd sg off z v ho ht
  obtain ⟨X, hX⟩ : ∃ X, w.heap.size = X := ⟨_, rfl⟩
  have kA := Kp.alloc noB w (.cells cs T)
  have pA := hV.at wfc w
  rw [hX] at pA
  obtain ⟨W0, hW0⟩ : ∃ W, W = w.alloc (.cells cs T) := ⟨_, rfl⟩
  rw [← hW0] at kA pA
  have HX0 : Hid (W0.heap.size = X + 1) := (show W0.heap.size = X + 1 by rw [hW0]; simp [hX])
  have HV : Hid (VlP T nn Z) := hV
  have HXw : Hid (w.heap.size = X) := hX
  clear ws0 ws1 ws2 hM0 hV wfc hc ok heq
  go_enter Tryz.func3, Tryz.ntmps3
  simp only [vl, vs, va, vb] at *
  go_upto_region 1 with fail
  rw [← hW0]
  clear hW0 hst hsz hX
  go_wp2_with fail
  refine (vmAwake_any _).mono ?_; rintro e w1 ⟨rfl, k1⟩
  have pB := pA.kp k1 (fun f => f)
  have HX1 : Hid (X < w1.heap.size) := Nat.lt_of_lt_of_le (by rw [HX0.out]; omega) k1.size
  replace k1 := kA.trans k1
  clear kA pA
  go_wp2_with fail
  refine (HB.out _ k1).mono ?_; rintro e w2 ⟨B, R, rfl, hB2, hout, k2⟩
  have HO : Hid (∀ j, both B 16 R j → X < j) := fun j hj => by have := hout j hj; have := HX1.out; omega
  have pC := pB.kp k2 (fun f => f)
  replace k2 := k1.trans k2
  clear HB k1 hout pB
  by_cases hp : ps < 0 ∨ 64 < ps
  · have cN := vNew_no w2 ⟨B + 3, 0, none⟩ ps ps0 ps1 hp
    go_wp2_with fail
    refine cN.mono ?_; rintro e w3 ⟨rfl, hw⟩; replace hw := hw.symm; subst hw
    rcases hp with h | h
    · have h' : decide (ps < 0) = true := decide_eq_true h
      go_wp2
      go_ret
      exact ⟨rfl, k2.every⟩
    · have h' : decide (ps < 0) = false := decide_eq_false (by omega)
      have h2 : decide (64 < ps) = true := decide_eq_true h
      go_wp2
      go_ret
      exact ⟨rfl, k2.every⟩
  · obtain ⟨pl, hpl⟩ : ∃ pl : Nat, ps = pl := ⟨ps.toNat, by omega⟩
    subst hpl
    have hpl : pl ≤ 64 := by omega
    have h1' : decide ((pl : Int) < 0) = false := decide_eq_false (by omega)
    have h2' : decide (64 < (pl : Int)) = false := decide_eq_false (by omega)
    have cN := vNew_ok w2 B pl hpl M0 hB2.ram hms.2
    go_wp2_with fail
    refine cN.mono ?_; rintro e w3 ⟨V, rfl, hVl, v3, k3⟩
    have t3 : TwV w3 V w2.heap.size B R pl 0 M0 M0 := ⟨v3, hB2.ref.kp k3 (fun _ _ f => f), fun j hj f => by
      have := hB2.ref.lt hj
      have q := hB2.ap j hj
      rw [hms.1] at q
      rcases f with e | f | f
      · omega
      · exact q f
      · rcases f with e | e <;> omega, hms.1, hms.1⟩
    have HAs : Hid (∀ j, askS w2.heap.size B R j → X < j) := fun j hj => by
      have hx := HX1.out
      have := k2.size
      rcases hj with (f | f) | f
      · exact HO.out j (.inl f)
      · have h1 := pC.lt
        rcases f with e | e <;> omega
      · exact HO.out j (.inr f)
    have I3 : PyI w V w2.heap.size B R pl 0 X cs w3 := ⟨⟨0, M0, Nat.le_refl _, t3⟩, pC.kp k3 (fun f => f), k2.trans k3⟩
    obtain ⟨K, hK⟩ : ∃ K, K = w2.heap.size := ⟨_, rfl⟩
    rw [← hK] at I3 HAs
    have vR := vRam_ok w3 V B K t3.v.c0
    clear cN hVl v3 k3 t3 hK HO hB2 pC k2
    go_wp2_with fail
    refine vR.mono ?_; rintro e w' ⟨rfl, hw⟩; replace hw := hw.symm; subst hw
    go_wp2_with fail
    go_loopg [16] L (PyQ w V K B R pl X cs L)
    case atStart => exact ⟨0, rfl, Nat.zero_le _, Nat.le_refl _, I3⟩
    case round =>
      clear I3 vR
      obtain ⟨i, rfl, hi, hik, hI⟩ := hrel
      by_cases hlt : i < L
      · have hz : (i : Int) < (L : Int) := by omega
        have hz2 : (0 : Int) ≤ i ∧ (i : Int) < (L : Int) := by omega
        have HOp : Hid (OpvIn w a2 i) := HS.out i hlt
        obtain ⟨blk, of, kd, sg, off, z, v, rfl, hbl, _, ho⟩ := HS.out i hlt
        have HOi : Hid (∀ W, Kp noB w W → W.cell? ⟨blk, of + i * 5, none⟩ = some (.int .i64 kd) ∧ W.cell? ⟨blk, of + i * 5 + 1, none⟩ = some (.int .i64 sg) ∧ W.cell? ⟨blk, of + i * 5 + 2, none⟩ = some (.int .u32 off) ∧ W.cell? ⟨blk, of + i * 5 + 3, none⟩ = some (.int .i64 z) ∧ W.cell? ⟨blk, of + i * 5 + 4, none⟩ = some (.int .u32 v)) := fun W k => by
          rename_i cc
          obtain ⟨c0, c1, c2, c3, c4⟩ := cc
          exact ⟨cell_kp c0 k (fun f => f), cell_kp c1 k (fun f => f), cell_kp c2 k (fun f => f), cell_kp c3 k (fun f => f), cell_kp c4 k (fun f => f)⟩
        have HOk : Hid (OpOk kd sg off z v) := ho
        obtain ⟨j, hj⟩ : ∃ j, j = i + 1 := ⟨_, rfl⟩
        have HJ : Hid (j = i + 1) := hj
        have HK : Hid (L - i ≤ gk) := hik
        have HI0 : Hid (PyD w V K B R pl (2 * i) X cs false { wr with drawn := wr.drawn + 1 }) := hI.kp0 (Kp.refl noB wr).drew
        have HLt : Hid (i < L ∧ L ≤ 9223372036854775807) := ⟨hlt, q2⟩
        clear hik hj hI ho HOp
        go_upto_region 13 with fail
        refine OrdG.region_vals (τ := Unit) (fun t => [(.pointer (some ⟨V, 0, none⟩)), (.pointer (some ⟨R.r, 0, none⟩)), (.agg cs), (.slice (some ⟨blk, of, none⟩) L cap2), (.int .i64 i), (.pointer (some ⟨blk, of + i * 5, none⟩)), (.agg #[.int .i64 kd, .int .i64 sg, .int .u32 off, .int .i64 z, .int .u32 v]), (.bool true), (.bool true)]) (fun t listed w' => PyD w V K B R pl (2 * i) X cs (listed.getD 7 false) w') () (by kernel_rfl) (by kernel_rfl) (by kernel_rfl) (by kernel_rfl) (fun _ => rfl) (fun t => by simp only [OrdG.puts, Act.put, List.setIfInBounds_toArray, List.set_cons_zero, List.set_cons_succ]; rfl) (fun _ => by kernel_rfl) HI0.out ?_ ?_
        · refine ⟨?_, ?_, ?_, ?_, ?_, ?_, ?_, ?_, ?_, trivial⟩
          all_goals (intro t listed W' hz' hSh hl hI' hb KK hK hK0; have hI : PyD w V K B R pl (2 * i) X cs (listed.getD 7 false) W' := hI'; clear hI'; have hz : listed.size = 9 := hz'; clear hz')
          · go_simp
            exact hK0 _ (by show PyD w V K B R pl (2 * i) X cs (Array.getD _ 7 false) _; rw [getD_set_ne false (by decide)]; exact hI)
          · go_simp
            exact hK0 _ (by show PyD w V K B R pl (2 * i) X cs (Array.getD _ 7 false) _; rw [getD_set_ne false (by decide)]; exact hI)
          · have hgc := HV.out.get (PyI.c hI)
            go_simp
            exact hK0 _ (by show PyD w V K B R pl (2 * i) X cs (Array.getD _ 7 false) _; rw [getD_set_ne false (by decide)]; exact hI)
          · go_simp
            exact hK0 _ (by show PyD w V K B R pl (2 * i) X cs (Array.getD _ 7 false) _; rw [getD_set_ne false (by decide)]; exact hI)
          · go_simp
            exact hK0 _ (by show PyD w V K B R pl (2 * i) X cs (Array.getD _ 7 false) _; rw [getD_set_ne false (by decide)]; exact hI)
          · go_simp
            exact hK0 _ (by show PyD w V K B R pl (2 * i) X cs (Array.getD _ 7 false) _; rw [getD_set_ne false (by decide)]; exact hI)
          · obtain ⟨c0, c1, c2, c3, c4⟩ := HOi.out W' (PyI.k hI)
            go_simp
            exact hK0 _ (by show PyD w V K B R pl (2 * i) X cs (Array.getD _ 7 false) _; rw [getD_set_ne false (by decide)]; exact hI)
          · rw [hl] at hI
            obtain ⟨t1, M1, ht1, hh1⟩ := PyI.t hI
            have ht1' : t1 ≤ 2 * i := ht1
            have H1 : Hid _ := HA.out W' V K B R pl t1 M1 hh1 kd sg off z v HOk.out (by have := HLt.out; omega)
            go_simp
            refine Calls.mono H1.out ?_; rintro e z5 ⟨M2, rfl, ⟨t2, ht2, hh2⟩, k2⟩
            refine hK0 _ ?_
            show PyD w V K B R pl (2 * i) X cs (Array.getD _ 7 false) _
            rw [OrdG.getD_self hz (by decide)]
            exact ⟨⟨t2, M2, (show t2 ≤ 2 * i + 2 by omega), hh2⟩, (PyI.c hI).kp k2 (fun f => by have := HAs.out _ f; omega), (PyI.k hI).over k2 (fun j hj f => by have := HAs.out j f; have := HXw.out; omega)⟩
          · go_simp
            exact hK0 _ (by show PyD w V K B R pl (2 * i) X cs (Array.getD _ 7 false) _; rw [getD_set_ne false (by decide)]; exact hI)
        · intro t listed W' hall hI'
          have hI : PyD w V K B R pl (2 * i) X cs (listed.getD 7 false) W' := hI'
          rw [hall 7 (by show 7 < 9; decide)] at hI
          have hI2 : PyI w V K B R pl (2 * i + 2) X cs W' := hI
          clear hI hI' hall HI0
          go_wp2_with fail
          go_roundg (L - j)
          case measure => have := HJ.out; have := HK.out; omega
          case rel => exact ⟨j, by rw [HJ.out]; rfl, by have := HJ.out; have := HLt.out; omega, Nat.le_refl _, by rw [HJ.out]; exact hI2⟩
      · have hz : ¬ (i : Int) < (L : Int) := by omega
        obtain ⟨tn, M', _, tw⟩ := hI.t
        have HB : Hid (Both wr B R M') := ⟨tw.v.ram, tw.r, fun j hj f => tw.ap j hj (.inr (.inl (by rw [tw.n] at f; exact f)))⟩
        have HM : Hid (M'.n = 16 ∧ M'.closed = false) := ⟨tw.n, tw.v.cl⟩
        have HC : Hid (∀ W, Kp noB wr W → W.cell? ⟨V, 0, none⟩ = some (.pointer (some ⟨B + 3, 0, none⟩))) := fun W k => cell_kp tw.v.c0 k (fun f => f)
        have k0 := hI.k
        clear hI tw hik
        go_wp2_with fail
        refine Calls.mono (alike_any wr B R M' HB.out HM.out.1 HM.out.2) ?_; rintro e w5 ⟨rfl, k5⟩
        go_wp2_with fail
        refine Calls.mono (vRam_ok w5 V B K (HC.out _ k5)) ?_; rintro e w' ⟨rfl, hw⟩; replace hw := hw.symm; subst hw
        go_wp2_with fail
        refine Calls.mono (alike_any w5 B R M' (HB.out.kp k5 (fun _ _ f => f)) HM.out.1 HM.out.2) ?_; rintro e w6 ⟨rfl, k6⟩
        have k7 := (k0.trans k5).trans k6
        go_wp2
        go_ret
        exact ⟨rfl, k7.every⟩
end Go.Proofs.YtmmnnafjikilpaaGreat
