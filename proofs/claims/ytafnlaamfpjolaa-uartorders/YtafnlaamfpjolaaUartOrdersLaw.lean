/- The walk of UartOrders. -/
import Derived.Test.YtafnlaamfpjolaaUtStr
namespace Go.Proofs.Ytafnlaamfpjolaa
open Go.ChangeShapes Go.WideShapes Go.ChangeAt Go.RowKit
set_option linter.unusedVariables false

/-- i bytes have come and were sent; R is the room. -/
def oS (bt : Nat → Int) (on : Bool) (R i : Nat) : U := ⟨sg bt 0 (min i R), decide (R < i), decide (0 < i), on, 0, 0, 1, 0, 0, 0, sg bt 0 i⟩
/-- All L have, and i were read. -/
def qS (bt : Nat → Int) (on : Bool) (R L i : Nat) : U := ⟨sg bt i (min L R - i), decide (R < L), decide (0 < L), on, 0, 0, 1, 0, 0, 0, sg bt 0 L⟩
/-- Behind that. -/
def eS (bt : Nat → Int) (on : Bool) (L : Nat) : U := ⟨[], false, decide (0 < L), on, 0, 0, 1, 0, 0, 0, sg bt 0 L⟩

theorem U.ext' {a b : U} (h1 : a.came = b.came) (h2 : a.lost = b.lost) (h3 : a.tell = b.tell) (h4 : a.on = b.on) (h5 : a.d0 = b.d0) (h6 : a.d1 = b.d1) (h7 : a.want = b.want) (h8 : a.line = b.line) (h9 : a.modem = b.modem) (h10 : a.jot = b.jot) (h11 : a.sent = b.sent) : a = b := by
  cases a; cases b; simp_all

theorem oS_step (bt : Nat → Int) (on : Bool) (R i : Nat) (hR : R = if on = true then 16 else 1) : ((oS bt on R i).push (bt i)).out 0 (bt i) = oS bt on R (i + 1) := by
  have hr : (oS bt on R i).room = R := by rw [hR]; rfl
  have hl : (oS bt on R i).came.length = min i R := sg_len _ _ _
  unfold U.push
  by_cases g : i < R
  · rw [if_pos (by rw [hr, hl]; omega)]
    show U.send _ _ = _
    have e : min (i + 1) R = i + 1 := by omega
    have e' : min i R = i := by omega
    refine U.ext' ?_ ?_ ?_ rfl rfl rfl rfl rfl rfl rfl ?_
    · show sg bt 0 (min i R) ++ [bt i] = sg bt 0 (min (i + 1) R)
      rw [e, e', sg_snoc]
    · show decide (R < i) = decide (R < i + 1)
      rw [decide_eq_decide]; omega
    · show true = decide (0 < i + 1)
      simp
    · show sg bt 0 i ++ [bt i] = sg bt 0 (i + 1)
      rw [sg_snoc]
  · rw [if_neg (by rw [hr, hl]; omega)]
    show U.send _ _ = _
    refine U.ext' ?_ ?_ ?_ rfl rfl rfl rfl rfl rfl rfl ?_
    · show sg bt 0 (min i R) = sg bt 0 (min (i + 1) R)
      rw [show min (i + 1) R = min i R by omega]
    · show true = decide (R < i + 1)
      simp; omega
    · show true = decide (0 < i + 1)
      simp
    · show sg bt 0 i ++ [bt i] = sg bt 0 (i + 1)
      rw [sg_snoc]

theorem own_off {w w' : World} {B : Nat} {cs : Array Value} {v : Value} {l : List Int} (hb : w.heap[B]? = some (.cells cs 44 (0, 0))) (h : OwnB w v l) (k : Kp (isB B) w w') : OwnB w' v l := h.kept k (fun g eg (f : g = B) => by
  obtain ⟨cur, hc⟩ := h.lt eg
  rw [f, hb] at hc
  simp at hc)

theorem oS_ps (bt : Nat → Int) (on : Bool) (R i : Nat) : ((oS bt on R i).push (bt i)).sent.length = i := by
  have e : ((oS bt on R i).push (bt i)).sent = sg bt 0 i := by
    unfold U.push
    split <;> rfl
  rw [e, sg_len]

theorem qS_in (bt : Nat → Int) (on : Bool) (R L i : Nat) (h : i < min L R) : (qS bt on R L i).inV 0 = bt i ∧ (qS bt on R L i).inn 0 = qS bt on R L (i + 1) := by
  obtain ⟨n, hn⟩ : ∃ n, min L R - i = n + 1 := ⟨min L R - i - 1, by omega⟩
  have e : (qS bt on R L i).came = bt i :: sg bt (i + 1) n := by
    show sg bt i (min L R - i) = _
    rw [hn, sg_cons]
  constructor
  · show (qS bt on R L i).first = _
    unfold U.first
    rw [e]
    rfl
  · show (qS bt on R L i).took = _
    refine U.ext' ?_ rfl rfl rfl rfl rfl rfl rfl rfl rfl rfl
    show (qS bt on R L i).came.tail = sg bt (i + 1) (min L R - (i + 1))
    rw [e, show min L R - (i + 1) = n by omega]
    rfl

theorem qS_ln (bt : Nat → Int) (on : Bool) (R L i : Nat) : (qS bt on R L i).ln = decide (i < min L R) := by
  unfold U.ln U.why U.there
  have e : (qS bt on R L i).came.length = min L R - i := sg_len _ _ _
  rw [e]
  have b0w : b0 (qS bt on R L i).want = true := rfl
  have b1w : b1 (qS bt on R L i).want = false := rfl
  rw [b0w, b1w]
  by_cases g : i < min L R
  · have d : decide (0 < min L R - i) = true := by simp only [decide_eq_true_eq]; omega
    have d' : decide (i < min L R) = true := by simp only [decide_eq_true_eq]; omega
    rw [d, d']
    rfl
  · have d : decide (0 < min L R - i) = false := by simp only [decide_eq_false_iff_not]; omega
    have d' : decide (i < min L R) = false := by simp only [decide_eq_false_iff_not]; omega
    rw [d, d', Bool.and_false]
    rfl

theorem qS_end (bt : Nat → Int) (on : Bool) (R L i : Nat) (h : i = min L R) : (qS bt on R L i).inV 5 = (if R < L then 98 else 96) ∧ (qS bt on R L i).inn 5 = eS bt on L := by
  have e : (qS bt on R L i).came = [] := by
    show sg bt i (min L R - i) = []
    rw [h, Nat.sub_self]
    rfl
  constructor
  · show (qS bt on R L i).status = _
    unfold U.status U.there
    rw [e]
    show 96 + (if decide (0 < ([] : List Int).length) = true then 1 else 0) + (if decide (R < L) = true then 2 else 0) = _
    by_cases g : R < L
    · simp [g]
    · simp [g]
  · refine U.ext' e rfl rfl rfl rfl rfl rfl rfl rfl rfl rfl

theorem eS_ln (bt : Nat → Int) (on : Bool) (L : Nat) : (eS bt on L).ln = false := by
  unfold U.ln U.why
  have b1w : b1 (eS bt on L).want = false := rfl
  have t : (eS bt on L).there = false := rfl
  rw [b1w, t, Bool.and_false]
  rfl

set_option maxRecDepth 20000 in
set_option maxHeartbeats 2000000 in
theorem orders_false (W : World) (a0 : Option Addr) (L cap : Nat) (bt : Nat → Int) (hb : BytIn W a0 L bt) : Calls Try.prog 5 #[.slice a0 L cap, .bool false] W fun e w' => e = .returned (.bool true) ∧ Below W.heap.size W w' := by
  have HA : Hid (∀ w, _) := awake_ok
  have HN : Hid (∀ w, _) := wNew
  have HE : Hid (∀ w', Kp noB W w' → Below W.heap.size W w') := fun w' h => h.every
  have HB : Hid (∀ w', Kp noB W w' → BytAt w' a0 L bt) := fun w' k => hb.at'.kept k (fun _ _ => id)
  have HD : Hid (∀ i, i < L → By (bt i)) := fun i hi => ⟨(hb.bd i hi).1, (hb.bd i hi).2⟩
  have hL : L ≤ 140737488351232 := hb.le
  have s0 : Hid ((oS bt false 1 0).Ok) := { u0_ok with want := (by decide : (0 : Int) ≤ 1 ∧ (1 : Int) < 16), few := Nat.zero_le _ }
  have H1 : Hid (∀ {w : World} {S : Nat → Prop} {B : Nat} (_ : UW w S B u0), Calls _ _ _ _ _) := fun h => wOut' u0_ok 1 1 (by decide) (by_of (by decide) (by decide)) (by decide) (u' := oS bt false 1 0) rfl h
  clear hb
  go_enter Try.func5, Try.ntmps5
  go_wp2_with fail
  refine Calls.mono (HA.out _) ?_; rintro e wa ⟨rfl, ka⟩
  go_wp2_with fail
  refine Calls.mono (HN.out _) ?_; rintro e w0 ⟨B, S0, rfl, h0, n0, k0⟩
  have q0 : Hid (Bs W w0 S0) := ⟨fun k g => Nat.le_trans ka.size (n0 k g), ka.trans k0⟩
  clear n0 k0 ka
  go_wp2_with fail
  refine Calls.mono (H1.out h0) ?_; rintro e w1 ⟨rfl, S1, h1, n1⟩
  have q1 : Hid (Bs W w1 S1) := q0.out.next n1
  clear q0 n1 h0
  go_wp2_with fail
  go_loopw [8] (fun s8 wr => ∃ (i : Nat) (S : Nat → Prop), s8 = .int .i64 i ∧ i ≤ L ∧ UW wr S B (oS bt false 1 i) ∧ (oS bt false 1 i).Ok ∧ Bs W wr S) (fun s8 _ => ((L : Int) - intOf s8).toNat)
  case atStart => exact ⟨0, S1, rfl, by omega, h1, s0.out, q1.out⟩
  case round =>
    clear h1 q1 s0
    obtain ⟨i, S, rfl, hi, hu, ok, qr⟩ := hrel
    by_cases hlt : i < L
    · obtain ⟨b, of, rfl, hbl, hc⟩ := HB.out _ qr.kp i hlt
      have bi := HD.out i hlt
      have HP : Hid (Calls _ _ _ _ _) := wPush hu ok (bt i)
      have HO : Hid (∀ {w : World} {S : Nat → Prop} (_ : UW w S B ((oS bt false 1 i).push (bt i))), Calls _ _ _ _ _) := fun h => wOut' (ok.push bi) 0 (bt i) (by decide) bi (by have := oS_ps bt false 1 i; omega) (u' := oS bt false 1 (i + 1)) (oS_step bt false 1 i rfl) h
      have ok' : Hid ((oS bt false 1 (i + 1)).Ok) := by have := (ok.push bi).out 0 bi; rw [oS_step bt false 1 i rfl] at this; exact this
      have QR : Hid (Bs W wr S) := qr
      clear ok qr hu
      go_wp2_with fail
      refine Calls.mono HP.out ?_; rintro e z1 ⟨rfl, T1, p1, m1⟩
      have Q1 : Hid (Bs W z1 T1) := QR.out.next m1
      clear hc QR m1
      obtain ⟨b', of', e, hbl', hc⟩ := HB.out _ Q1.out.kp i hlt
      injection e with e
      injection e with e1 e2
      subst e1; subst e2
      go_wp2_with fail
      refine Calls.mono (HO.out p1) ?_; rintro e z2 ⟨rfl, T2, p2, m2⟩
      have Q2 : Hid (Bs W z2 T2) := Q1.out.next m2
      clear Q1 m2 p1
      go_wp2
      go_roundw
      case rel => exact ⟨i + 1, T2, by go_num, by omega, p2, ok'.out, Q2.out⟩
      case measure => simp [intOf]; omega
    · obtain rfl : i = L := by omega
      have e0 : oS bt false 1 i = qS bt false 1 i 0 := U.ext' (by show sg bt 0 (min i 1) = sg bt 0 (min i 1 - 0); rw [Nat.sub_zero]) rfl rfl rfl rfl rfl rfl rfl rfl rfl rfl
      rw [e0] at hu ok
      have QR : Hid (Bs W wr S) := qr
      have OK : Hid ((qS bt false 1 i 0).Ok) := ok
      clear qr e0 ok hlt
      go_wp2_with fail
      go_loopw [9] (fun s9 wr => ∃ (j : Nat) (S : Nat → Prop), s9 = .int .i64 j ∧ j ≤ min i 1 ∧ UW wr S B (qS bt false 1 i j) ∧ (qS bt false 1 i j).Ok ∧ Bs W wr S) (fun s9 _ => ((i : Int) - intOf s9).toNat)
      case atStart => exact ⟨0, S, rfl, by omega, hu, OK.out, QR.out⟩
      case round =>
        clear hu QR OK
        obtain ⟨j, S, rfl, hj, hu, ok, qr⟩ := hrel
        by_cases hjl : j < min i 1
        · have hji : j < i := by omega
          have hjR : j < 1 := by omega
          obtain ⟨b, of, rfl, hbl, hc0⟩ := HB.out _ qr.kp j hji
          have HI : Hid (Calls _ _ _ _ _) := wIn' ok 0 (bt j) (by decide) (qS_in bt false 1 i j hjl).1 (qS_in bt false 1 i j hjl).2 hu
          have ok1 : (qS bt false 1 i (j + 1)).Ok := by have := ok.inn 0; rw [(qS_in bt false 1 i j hjl).2] at this; exact this
          have HLn : Hid (∀ {w : World} {S : Nat → Prop} (_ : UW w S B (qS bt false 1 i (j + 1))), Calls _ _ _ _ _) := fun h => wLine h ok1
          rw [qS_ln] at HLn
          have QR : Hid (Bs W wr S) := qr
          have OK1 : Hid _ := ok1
          clear hc0 hbl ok qr hu ok1
          go_wp2_with fail
          refine Calls.mono HI.out ?_; rintro e z1 ⟨rfl, T1, p1, m1⟩
          have Q1 : Hid (Bs W z1 T1) := QR.out.next m1
          clear QR m1
          obtain ⟨b', of', e, hbl', hc⟩ := HB.out _ Q1.out.kp j hji
          injection e with e
          injection e with e1 e2
          subst e1; subst e2
          go_wp2_with fail
          refine Calls.mono (HLn.out p1) ?_; rintro e z2 ⟨rfl, hw⟩; replace hw := hw.symm; subst hw
          rcases (by omega : (j + 1 < i ∧ j + 1 < 1) ∨ ¬ j + 1 < i ∨ (j + 1 < i ∧ ¬ j + 1 < 1)) with ⟨g1, g2⟩ | g1 | ⟨g1, g2⟩
          · exfalso; omega
          · have gd : decide (j + 1 < min i 1) = false := by rw [decide_eq_false_iff_not]; omega
            rw [gd]
            go_wp2
            go_roundw
            case rel => exact ⟨j + 1, T1, by go_num, by omega, p1, OK1.out, Q1.out⟩
            case measure => simp [intOf]; omega
          · have gd : decide (j + 1 < min i 1) = false := by rw [decide_eq_false_iff_not]; omega
            have g3 : ¬ j < 0 := by omega
            have g4 : ¬ (j : Int) < 0 := by omega
            rw [gd]
            go_wp2
            go_roundw
            case rel => exact ⟨j + 1, T1, by go_num, by omega, p1, OK1.out, Q1.out⟩
            case measure => simp [intOf]; omega
        · have ej : j = min i 1 := by omega
          have HI : Hid (Calls _ _ _ _ _) := wIn' ok 5 (if 1 < i then 98 else 96) (by decide) (qS_end bt false 1 i j ej).1 (qS_end bt false 1 i j ej).2 hu
          have ok1 : (eS bt false i).Ok := by have := ok.inn 5; rw [(qS_end bt false 1 i j ej).2] at this; exact this
          have QR : Hid (Bs W wr S) := qr
          have OK1 : Hid _ := ok1
          clear ok qr hu ok1
          have hcv : Hid (∀ w', Kp noB W w' → (convert 35 9 (.slice a0 i cap)).run Try.prog w' = .ok (.string (strOfNums (sg bt 0 i))) w') := fun w' k => (HB.out w' k).str
          rcases (by omega : (i ≤ 1 ∧ j = i) ∨ (1 < i ∧ j = 1)) with ⟨g1, rfl⟩ | ⟨g1, rfl⟩
          · rw [if_neg (by omega)] at HI
            clear ej hj hjl
            go_wp2_with fail
            refine Calls.mono HI.out ?_; rintro e z1 ⟨rfl, T1, p1, m1⟩
            have Q1 : Hid (Bs W z1 T1) := QR.out.next m1
            clear QR m1
            go_wp2
            have P1 : UW z1.drew T1 B (eS bt false j) := p1.kept (Kp.refl noB _).drew (fun _ _ => id)
            obtain ⟨cv, sv, hU, hf⟩ := P1.ex
            have B1 := (Q1.out.new _ (hf _ (.inl rfl)) : W.heap.size ≤ B)
            have HLn : Hid (Calls _ _ _ _ _) := line_ok hU OK1.out
            rw [eS_ln] at HLn
            obtain ⟨pb, cb, es⟩ := hU.snt.sl
            rw [show (eS bt false j).sent.length = j from sg_len _ _ _] at es
            subst es
            have K1 : Hid (Kp noB W z1.drew) := Q1.out.kp.drew
            have S0 : Hid ((convert 35 9 (.slice pb j cb)).run Try.prog z1.drew = .ok (.string (strOfNums (sg bt 0 j))) z1.drew) := hU.snt.str
            have S1 : Hid ((convert 35 9 (.slice a0 j cap)).run Try.prog z1.drew = .ok (.string (strOfNums (sg bt 0 j))) z1.drew) := hcv.out _ K1.out
            have HS1 : Hid (Calls Try.prog 17 #[.pointer (some ⟨B, 0, none⟩)] z1.drew fun e w' => e = .returned (.slice pb j cb) ∧ UAt w' B cv (.slice none 0 0) (eS bt false j).hush ∧ Kp noB W w' ∧ OwnB w' (.slice pb j cb) (sg bt 0 j) ∧ (convert 35 9 (.slice a0 j cap)).run Try.prog w' = .ok (.string (strOfNums (sg bt 0 j))) w' ∧ (convert 35 9 (.slice pb j cb)).run Try.prog w' = .ok (.string (strOfNums (sg bt 0 j))) w') := (sent_ok hU).mono fun e w' ⟨e1, e2, e3⟩ => by
              have k := K1.out.over e3 (fun j hj (g : j = B) => by omega)
              have ho : OwnB w' _ _ := own_off hU.blk hU.snt e3
              exact ⟨e1, e2, k, ho, hcv.out _ k, ho.str⟩
            have HS2 : Hid (∀ w, UAt w B cv (.slice none 0 0) (eS bt false j).hush → Kp noB W w → OwnB w (.slice pb j cb) (sg bt 0 j) → Calls Try.prog 17 #[.pointer (some ⟨B, 0, none⟩)] w fun e w' => e = .returned (.slice none 0 0) ∧ Kp noB W w' ∧ (convert 35 9 (.slice a0 j cap)).run Try.prog w' = .ok (.string (strOfNums (sg bt 0 j))) w' ∧ (convert 35 9 (.slice pb j cb)).run Try.prog w' = .ok (.string (strOfNums (sg bt 0 j))) w') := fun w h k ho => (sent_ok h).mono fun e w' ⟨e1, e2, e3⟩ => by
              have k' := k.over e3 (fun j hj (g : j = B) => by omega)
              exact ⟨e1, k', hcv.out _ k', (own_off h.blk ho e3).str⟩
            clear p1 Q1 P1 hU hf B1
            go_region_held3 (fun w' => (convert 35 9 (.slice a0 j cap)).run Try.prog w' = .ok (.string (strOfNums (sg bt 0 j))) w' ∧ (convert 35 9 (.slice pb j cb)).run Try.prog w' = .ok (.string (strOfNums (sg bt 0 j))) w')
              (first | exact ⟨S1.out, S0.out⟩ | exact ⟨by assumption, by assumption⟩ | assumption)
              (first
                | (go_at_call 19; refine Calls.mono HLn.out ?_; rintro e z2 ⟨rfl, hw⟩; replace hw := hw.symm; subst hw)
                | (go_at_call 17; refine Calls.mono (HS2.out _ p3 k3 o3) ?_; rintro e z4 ⟨rfl, k4, s5, s6⟩)
                | (go_at_call 17; refine Calls.mono HS1.out ?_; rintro e z3 ⟨rfl, p3, k3, o3, s3, s4⟩))
            all_goals
              go_wp2
              go_ret
              exact ⟨rfl, HE.out _ k4⟩
          · rw [if_pos (by omega)] at HI
            clear ej hj hjl
            go_wp2_with fail
            refine Calls.mono HI.out ?_; rintro e z1 ⟨rfl, T1, p1, m1⟩
            have Q1 : Hid (Bs W z1 T1) := QR.out.next m1
            clear QR m1
            go_wp2
            have P1 : UW z1.drew T1 B (eS bt false i) := p1.kept (Kp.refl noB _).drew (fun _ _ => id)
            obtain ⟨cv, sv, hU, hf⟩ := P1.ex
            have B1 := (Q1.out.new _ (hf _ (.inl rfl)) : W.heap.size ≤ B)
            have HLn : Hid (Calls _ _ _ _ _) := line_ok hU OK1.out
            rw [eS_ln] at HLn
            obtain ⟨pb, cb, es⟩ := hU.snt.sl
            rw [show (eS bt false i).sent.length = i from sg_len _ _ _] at es
            subst es
            have K1 : Hid (Kp noB W z1.drew) := Q1.out.kp.drew
            have S0 : Hid ((convert 35 9 (.slice pb i cb)).run Try.prog z1.drew = .ok (.string (strOfNums (sg bt 0 i))) z1.drew) := hU.snt.str
            have S1 : Hid ((convert 35 9 (.slice a0 i cap)).run Try.prog z1.drew = .ok (.string (strOfNums (sg bt 0 i))) z1.drew) := hcv.out _ K1.out
            have HS1 : Hid (Calls Try.prog 17 #[.pointer (some ⟨B, 0, none⟩)] z1.drew fun e w' => e = .returned (.slice pb i cb) ∧ UAt w' B cv (.slice none 0 0) (eS bt false i).hush ∧ Kp noB W w' ∧ OwnB w' (.slice pb i cb) (sg bt 0 i) ∧ (convert 35 9 (.slice a0 i cap)).run Try.prog w' = .ok (.string (strOfNums (sg bt 0 i))) w' ∧ (convert 35 9 (.slice pb i cb)).run Try.prog w' = .ok (.string (strOfNums (sg bt 0 i))) w') := (sent_ok hU).mono fun e w' ⟨e1, e2, e3⟩ => by
              have k := K1.out.over e3 (fun j hj (g : j = B) => by omega)
              have ho : OwnB w' _ _ := own_off hU.blk hU.snt e3
              exact ⟨e1, e2, k, ho, hcv.out _ k, ho.str⟩
            have HS2 : Hid (∀ w, UAt w B cv (.slice none 0 0) (eS bt false i).hush → Kp noB W w → OwnB w (.slice pb i cb) (sg bt 0 i) → Calls Try.prog 17 #[.pointer (some ⟨B, 0, none⟩)] w fun e w' => e = .returned (.slice none 0 0) ∧ Kp noB W w' ∧ (convert 35 9 (.slice a0 i cap)).run Try.prog w' = .ok (.string (strOfNums (sg bt 0 i))) w' ∧ (convert 35 9 (.slice pb i cb)).run Try.prog w' = .ok (.string (strOfNums (sg bt 0 i))) w') := fun w h k ho => (sent_ok h).mono fun e w' ⟨e1, e2, e3⟩ => by
              have k' := k.over e3 (fun j hj (g : j = B) => by omega)
              exact ⟨e1, k', hcv.out _ k', (own_off h.blk ho e3).str⟩
            clear p1 Q1 P1 hU hf B1
            go_region_held3 (fun w' => (convert 35 9 (.slice a0 i cap)).run Try.prog w' = .ok (.string (strOfNums (sg bt 0 i))) w' ∧ (convert 35 9 (.slice pb i cb)).run Try.prog w' = .ok (.string (strOfNums (sg bt 0 i))) w')
              (first | exact ⟨S1.out, S0.out⟩ | exact ⟨by assumption, by assumption⟩ | assumption)
              (first
                | (go_at_call 19; refine Calls.mono HLn.out ?_; rintro e z2 ⟨rfl, hw⟩; replace hw := hw.symm; subst hw)
                | (go_at_call 17; refine Calls.mono (HS2.out _ p3 k3 o3) ?_; rintro e z4 ⟨rfl, k4, s5, s6⟩)
                | (go_at_call 17; refine Calls.mono HS1.out ?_; rintro e z3 ⟨rfl, p3, k3, o3, s3, s4⟩))
            all_goals
              go_wp2
              go_ret
              exact ⟨rfl, HE.out _ k4⟩
set_option maxRecDepth 20000 in
set_option maxHeartbeats 2000000 in
theorem orders_true (W : World) (a0 : Option Addr) (L cap : Nat) (bt : Nat → Int) (hb : BytIn W a0 L bt) : Calls Try.prog 5 #[.slice a0 L cap, .bool true] W fun e w' => e = .returned (.bool true) ∧ Below W.heap.size W w' := by
  have HA : Hid (∀ w, _) := awake_ok
  have HN : Hid (∀ w, _) := wNew
  have HE : Hid (∀ w', Kp noB W w' → Below W.heap.size W w') := fun w' h => h.every
  have HB : Hid (∀ w', Kp noB W w' → BytAt w' a0 L bt) := fun w' k => hb.at'.kept k (fun _ _ => id)
  have HD : Hid (∀ i, i < L → By (bt i)) := fun i hi => ⟨(hb.bd i hi).1, (hb.bd i hi).2⟩
  have hL : L ≤ 140737488351232 := hb.le
  have s0 : Hid ((oS bt true 16 0).Ok) := { u0_ok with want := (by decide : (0 : Int) ≤ 1 ∧ (1 : Int) < 16), few := Nat.zero_le _ }
  have H0 : Hid (∀ {w : World} {S : Nat → Prop} {B : Nat} (_ : UW w S B u0), Calls _ _ _ _ _) := fun h => wOut' u0_ok 2 1 (by decide) (by_of (by decide) (by decide)) (by decide) (u' := { u0 with on := true }) rfl h
  have H1 : Hid (∀ {w : World} {S : Nat → Prop} {B : Nat} (_ : UW w S B { u0 with on := true }), Calls _ _ _ _ _) := fun h => wOut' (u := { u0 with on := true }) { u0_ok with few := Nat.zero_le _ } 1 1 (by decide) (by_of (by decide) (by decide)) (by decide) (u' := oS bt true 16 0) rfl h
  clear hb
  go_enter Try.func5, Try.ntmps5
  go_wp2_with fail
  refine Calls.mono (HA.out _) ?_; rintro e wa ⟨rfl, ka⟩
  go_wp2_with fail
  refine Calls.mono (HN.out _) ?_; rintro e w0 ⟨B, S0, rfl, h0, n0, k0⟩
  have q0 : Hid (Bs W w0 S0) := ⟨fun k g => Nat.le_trans ka.size (n0 k g), ka.trans k0⟩
  clear n0 k0 ka
  go_wp2_with fail
  refine Calls.mono (H0.out h0) ?_; rintro e w1 ⟨rfl, S1, h1, n1⟩
  have q1 : Hid (Bs W w1 S1) := q0.out.next n1
  clear q0 n1 h0
  go_wp2_with fail
  refine Calls.mono (H1.out h1) ?_; rintro e w2 ⟨rfl, S2, h2, n2⟩
  have q2 : Hid (Bs W w2 S2) := q1.out.next n2
  clear q1 n2 h1
  go_wp2_with fail
  go_loopw [8] (fun s8 wr => ∃ (i : Nat) (S : Nat → Prop), s8 = .int .i64 i ∧ i ≤ L ∧ UW wr S B (oS bt true 16 i) ∧ (oS bt true 16 i).Ok ∧ Bs W wr S) (fun s8 _ => ((L : Int) - intOf s8).toNat)
  case atStart => exact ⟨0, S2, rfl, by omega, h2, s0.out, q2.out⟩
  case round =>
    clear h2 q2 s0
    obtain ⟨i, S, rfl, hi, hu, ok, qr⟩ := hrel
    by_cases hlt : i < L
    · obtain ⟨b, of, rfl, hbl, hc⟩ := HB.out _ qr.kp i hlt
      have bi := HD.out i hlt
      have HP : Hid (Calls _ _ _ _ _) := wPush hu ok (bt i)
      have HO : Hid (∀ {w : World} {S : Nat → Prop} (_ : UW w S B ((oS bt true 16 i).push (bt i))), Calls _ _ _ _ _) := fun h => wOut' (ok.push bi) 0 (bt i) (by decide) bi (by have := oS_ps bt true 16 i; omega) (u' := oS bt true 16 (i + 1)) (oS_step bt true 16 i rfl) h
      have ok' : Hid ((oS bt true 16 (i + 1)).Ok) := by have := (ok.push bi).out 0 bi; rw [oS_step bt true 16 i rfl] at this; exact this
      have QR : Hid (Bs W wr S) := qr
      clear ok qr hu
      go_wp2_with fail
      refine Calls.mono HP.out ?_; rintro e z1 ⟨rfl, T1, p1, m1⟩
      have Q1 : Hid (Bs W z1 T1) := QR.out.next m1
      clear hc QR m1
      obtain ⟨b', of', e, hbl', hc⟩ := HB.out _ Q1.out.kp i hlt
      injection e with e
      injection e with e1 e2
      subst e1; subst e2
      go_wp2_with fail
      refine Calls.mono (HO.out p1) ?_; rintro e z2 ⟨rfl, T2, p2, m2⟩
      have Q2 : Hid (Bs W z2 T2) := Q1.out.next m2
      clear Q1 m2 p1
      go_wp2
      go_roundw
      case rel => exact ⟨i + 1, T2, by go_num, by omega, p2, ok'.out, Q2.out⟩
      case measure => simp [intOf]; omega
    · obtain rfl : i = L := by omega
      have e0 : oS bt true 16 i = qS bt true 16 i 0 := U.ext' (by show sg bt 0 (min i 16) = sg bt 0 (min i 16 - 0); rw [Nat.sub_zero]) rfl rfl rfl rfl rfl rfl rfl rfl rfl rfl
      rw [e0] at hu ok
      have QR : Hid (Bs W wr S) := qr
      have OK : Hid ((qS bt true 16 i 0).Ok) := ok
      clear qr e0 ok hlt
      go_wp2_with fail
      go_loopw [9] (fun s9 wr => ∃ (j : Nat) (S : Nat → Prop), s9 = .int .i64 j ∧ j ≤ min i 16 ∧ UW wr S B (qS bt true 16 i j) ∧ (qS bt true 16 i j).Ok ∧ Bs W wr S) (fun s9 _ => ((i : Int) - intOf s9).toNat)
      case atStart => exact ⟨0, S, rfl, by omega, hu, OK.out, QR.out⟩
      case round =>
        clear hu QR OK
        obtain ⟨j, S, rfl, hj, hu, ok, qr⟩ := hrel
        by_cases hjl : j < min i 16
        · have hji : j < i := by omega
          have hjR : j < 16 := by omega
          obtain ⟨b, of, rfl, hbl, hc0⟩ := HB.out _ qr.kp j hji
          have HI : Hid (Calls _ _ _ _ _) := wIn' ok 0 (bt j) (by decide) (qS_in bt true 16 i j hjl).1 (qS_in bt true 16 i j hjl).2 hu
          have ok1 : (qS bt true 16 i (j + 1)).Ok := by have := ok.inn 0; rw [(qS_in bt true 16 i j hjl).2] at this; exact this
          have HLn : Hid (∀ {w : World} {S : Nat → Prop} (_ : UW w S B (qS bt true 16 i (j + 1))), Calls _ _ _ _ _) := fun h => wLine h ok1
          rw [qS_ln] at HLn
          have QR : Hid (Bs W wr S) := qr
          have OK1 : Hid _ := ok1
          clear hc0 hbl ok qr hu ok1
          go_wp2_with fail
          refine Calls.mono HI.out ?_; rintro e z1 ⟨rfl, T1, p1, m1⟩
          have Q1 : Hid (Bs W z1 T1) := QR.out.next m1
          clear QR m1
          obtain ⟨b', of', e, hbl', hc⟩ := HB.out _ Q1.out.kp j hji
          injection e with e
          injection e with e1 e2
          subst e1; subst e2
          go_wp2_with fail
          refine Calls.mono (HLn.out p1) ?_; rintro e z2 ⟨rfl, hw⟩; replace hw := hw.symm; subst hw
          rcases (by omega : (j + 1 < i ∧ j + 1 < 16) ∨ ¬ j + 1 < i ∨ (j + 1 < i ∧ ¬ j + 1 < 16)) with ⟨g1, g2⟩ | g1 | ⟨g1, g2⟩
          · have gd : decide (j + 1 < min i 16) = true := by rw [decide_eq_true_eq]; omega
            have g3 : j < 15 := by omega
            have g4 : decide ((j : Int) + 1 < 16) = true := by rw [decide_eq_true_eq]; omega
            rw [gd]
            go_wp2
            go_roundw
            case rel => exact ⟨j + 1, T1, by go_num, by omega, p1, OK1.out, Q1.out⟩
            case measure => simp [intOf]; omega
          · have gd : decide (j + 1 < min i 16) = false := by rw [decide_eq_false_iff_not]; omega
            rw [gd]
            go_wp2
            go_roundw
            case rel => exact ⟨j + 1, T1, by go_num, by omega, p1, OK1.out, Q1.out⟩
            case measure => simp [intOf]; omega
          · have gd : decide (j + 1 < min i 16) = false := by rw [decide_eq_false_iff_not]; omega
            have g3 : ¬ j < 15 := by omega
            have g4 : ¬ (j : Int) < 15 := by omega
            rw [gd]
            go_wp2
            go_roundw
            case rel => exact ⟨j + 1, T1, by go_num, by omega, p1, OK1.out, Q1.out⟩
            case measure => simp [intOf]; omega
        · have ej : j = min i 16 := by omega
          have HI : Hid (Calls _ _ _ _ _) := wIn' ok 5 (if 16 < i then 98 else 96) (by decide) (qS_end bt true 16 i j ej).1 (qS_end bt true 16 i j ej).2 hu
          have ok1 : (eS bt true i).Ok := by have := ok.inn 5; rw [(qS_end bt true 16 i j ej).2] at this; exact this
          have QR : Hid (Bs W wr S) := qr
          have OK1 : Hid _ := ok1
          clear ok qr hu ok1
          have hcv : Hid (∀ w', Kp noB W w' → (convert 35 9 (.slice a0 i cap)).run Try.prog w' = .ok (.string (strOfNums (sg bt 0 i))) w') := fun w' k => (HB.out w' k).str
          rcases (by omega : (i ≤ 16 ∧ j = i) ∨ (16 < i ∧ j = 16)) with ⟨g1, rfl⟩ | ⟨g1, rfl⟩
          · rw [if_neg (by omega)] at HI
            clear ej hj hjl
            go_wp2_with fail
            refine Calls.mono HI.out ?_; rintro e z1 ⟨rfl, T1, p1, m1⟩
            have Q1 : Hid (Bs W z1 T1) := QR.out.next m1
            clear QR m1
            go_wp2
            have P1 : UW z1.drew T1 B (eS bt true j) := p1.kept (Kp.refl noB _).drew (fun _ _ => id)
            obtain ⟨cv, sv, hU, hf⟩ := P1.ex
            have B1 := (Q1.out.new _ (hf _ (.inl rfl)) : W.heap.size ≤ B)
            have HLn : Hid (Calls _ _ _ _ _) := line_ok hU OK1.out
            rw [eS_ln] at HLn
            obtain ⟨pb, cb, es⟩ := hU.snt.sl
            rw [show (eS bt true j).sent.length = j from sg_len _ _ _] at es
            subst es
            have K1 : Hid (Kp noB W z1.drew) := Q1.out.kp.drew
            have S0 : Hid ((convert 35 9 (.slice pb j cb)).run Try.prog z1.drew = .ok (.string (strOfNums (sg bt 0 j))) z1.drew) := hU.snt.str
            have S1 : Hid ((convert 35 9 (.slice a0 j cap)).run Try.prog z1.drew = .ok (.string (strOfNums (sg bt 0 j))) z1.drew) := hcv.out _ K1.out
            have HS1 : Hid (Calls Try.prog 17 #[.pointer (some ⟨B, 0, none⟩)] z1.drew fun e w' => e = .returned (.slice pb j cb) ∧ UAt w' B cv (.slice none 0 0) (eS bt true j).hush ∧ Kp noB W w' ∧ OwnB w' (.slice pb j cb) (sg bt 0 j) ∧ (convert 35 9 (.slice a0 j cap)).run Try.prog w' = .ok (.string (strOfNums (sg bt 0 j))) w' ∧ (convert 35 9 (.slice pb j cb)).run Try.prog w' = .ok (.string (strOfNums (sg bt 0 j))) w') := (sent_ok hU).mono fun e w' ⟨e1, e2, e3⟩ => by
              have k := K1.out.over e3 (fun j hj (g : j = B) => by omega)
              have ho : OwnB w' _ _ := own_off hU.blk hU.snt e3
              exact ⟨e1, e2, k, ho, hcv.out _ k, ho.str⟩
            have HS2 : Hid (∀ w, UAt w B cv (.slice none 0 0) (eS bt true j).hush → Kp noB W w → OwnB w (.slice pb j cb) (sg bt 0 j) → Calls Try.prog 17 #[.pointer (some ⟨B, 0, none⟩)] w fun e w' => e = .returned (.slice none 0 0) ∧ Kp noB W w' ∧ (convert 35 9 (.slice a0 j cap)).run Try.prog w' = .ok (.string (strOfNums (sg bt 0 j))) w' ∧ (convert 35 9 (.slice pb j cb)).run Try.prog w' = .ok (.string (strOfNums (sg bt 0 j))) w') := fun w h k ho => (sent_ok h).mono fun e w' ⟨e1, e2, e3⟩ => by
              have k' := k.over e3 (fun j hj (g : j = B) => by omega)
              exact ⟨e1, k', hcv.out _ k', (own_off h.blk ho e3).str⟩
            clear p1 Q1 P1 hU hf B1
            go_region_held3 (fun w' => (convert 35 9 (.slice a0 j cap)).run Try.prog w' = .ok (.string (strOfNums (sg bt 0 j))) w' ∧ (convert 35 9 (.slice pb j cb)).run Try.prog w' = .ok (.string (strOfNums (sg bt 0 j))) w')
              (first | exact ⟨S1.out, S0.out⟩ | exact ⟨by assumption, by assumption⟩ | assumption)
              (first
                | (go_at_call 19; refine Calls.mono HLn.out ?_; rintro e z2 ⟨rfl, hw⟩; replace hw := hw.symm; subst hw)
                | (go_at_call 17; refine Calls.mono (HS2.out _ p3 k3 o3) ?_; rintro e z4 ⟨rfl, k4, s5, s6⟩)
                | (go_at_call 17; refine Calls.mono HS1.out ?_; rintro e z3 ⟨rfl, p3, k3, o3, s3, s4⟩))
            all_goals
              go_wp2
              go_ret
              exact ⟨rfl, HE.out _ k4⟩
          · rw [if_pos (by omega)] at HI
            clear ej hj hjl
            go_wp2_with fail
            refine Calls.mono HI.out ?_; rintro e z1 ⟨rfl, T1, p1, m1⟩
            have Q1 : Hid (Bs W z1 T1) := QR.out.next m1
            clear QR m1
            go_wp2
            have P1 : UW z1.drew T1 B (eS bt true i) := p1.kept (Kp.refl noB _).drew (fun _ _ => id)
            obtain ⟨cv, sv, hU, hf⟩ := P1.ex
            have B1 := (Q1.out.new _ (hf _ (.inl rfl)) : W.heap.size ≤ B)
            have HLn : Hid (Calls _ _ _ _ _) := line_ok hU OK1.out
            rw [eS_ln] at HLn
            obtain ⟨pb, cb, es⟩ := hU.snt.sl
            rw [show (eS bt true i).sent.length = i from sg_len _ _ _] at es
            subst es
            have K1 : Hid (Kp noB W z1.drew) := Q1.out.kp.drew
            have S0 : Hid ((convert 35 9 (.slice pb i cb)).run Try.prog z1.drew = .ok (.string (strOfNums (sg bt 0 i))) z1.drew) := hU.snt.str
            have S1 : Hid ((convert 35 9 (.slice a0 i cap)).run Try.prog z1.drew = .ok (.string (strOfNums (sg bt 0 i))) z1.drew) := hcv.out _ K1.out
            have HS1 : Hid (Calls Try.prog 17 #[.pointer (some ⟨B, 0, none⟩)] z1.drew fun e w' => e = .returned (.slice pb i cb) ∧ UAt w' B cv (.slice none 0 0) (eS bt true i).hush ∧ Kp noB W w' ∧ OwnB w' (.slice pb i cb) (sg bt 0 i) ∧ (convert 35 9 (.slice a0 i cap)).run Try.prog w' = .ok (.string (strOfNums (sg bt 0 i))) w' ∧ (convert 35 9 (.slice pb i cb)).run Try.prog w' = .ok (.string (strOfNums (sg bt 0 i))) w') := (sent_ok hU).mono fun e w' ⟨e1, e2, e3⟩ => by
              have k := K1.out.over e3 (fun j hj (g : j = B) => by omega)
              have ho : OwnB w' _ _ := own_off hU.blk hU.snt e3
              exact ⟨e1, e2, k, ho, hcv.out _ k, ho.str⟩
            have HS2 : Hid (∀ w, UAt w B cv (.slice none 0 0) (eS bt true i).hush → Kp noB W w → OwnB w (.slice pb i cb) (sg bt 0 i) → Calls Try.prog 17 #[.pointer (some ⟨B, 0, none⟩)] w fun e w' => e = .returned (.slice none 0 0) ∧ Kp noB W w' ∧ (convert 35 9 (.slice a0 i cap)).run Try.prog w' = .ok (.string (strOfNums (sg bt 0 i))) w' ∧ (convert 35 9 (.slice pb i cb)).run Try.prog w' = .ok (.string (strOfNums (sg bt 0 i))) w') := fun w h k ho => (sent_ok h).mono fun e w' ⟨e1, e2, e3⟩ => by
              have k' := k.over e3 (fun j hj (g : j = B) => by omega)
              exact ⟨e1, k', hcv.out _ k', (own_off h.blk ho e3).str⟩
            clear p1 Q1 P1 hU hf B1
            go_region_held3 (fun w' => (convert 35 9 (.slice a0 i cap)).run Try.prog w' = .ok (.string (strOfNums (sg bt 0 i))) w' ∧ (convert 35 9 (.slice pb i cb)).run Try.prog w' = .ok (.string (strOfNums (sg bt 0 i))) w')
              (first | exact ⟨S1.out, S0.out⟩ | exact ⟨by assumption, by assumption⟩ | assumption)
              (first
                | (go_at_call 19; refine Calls.mono HLn.out ?_; rintro e z2 ⟨rfl, hw⟩; replace hw := hw.symm; subst hw)
                | (go_at_call 17; refine Calls.mono (HS2.out _ p3 k3 o3) ?_; rintro e z4 ⟨rfl, k4, s5, s6⟩)
                | (go_at_call 17; refine Calls.mono HS1.out ?_; rintro e z3 ⟨rfl, p3, k3, o3, s3, s4⟩))
            all_goals
              go_wp2
              go_ret
              exact ⟨rfl, HE.out _ k4⟩
theorem UartOrders_walk (W : World) (a0 : Option Addr) (L cap : Nat) (bt : Nat → Int) (hb : BytIn W a0 L bt) (on : Bool) : Calls Try.prog 5 #[.slice a0 L cap, .bool on] W fun e w' => e = .returned (.bool true) ∧ Below W.heap.size W w' := by
  cases on
  · exact orders_false W a0 L cap bt hb
  · exact orders_true W a0 L cap bt hb
end Go.Proofs.Ytafnlaamfpjolaa
