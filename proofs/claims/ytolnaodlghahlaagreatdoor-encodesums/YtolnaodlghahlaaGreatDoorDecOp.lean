/- The contract of 'opcode': prefixes, then an opcode of one byte or of two. -/
import Derived.Test.YtolnaodlghahlaaGreatDoorDecRule0
import Derived.LoopTactic
namespace Go.Proofs.YtolnaodlghahlaaGreatDoor
open Go.ChangeShapes Go.WideShapes Go.ChangeAt Go.RowKit
set_option linter.unusedVariables false

def preL (X : Cx) : Nat → Int → Sg → Int × Sg
  | 0, b, σ => (b, σ)
  | n + 1, b, σ => if isPre b = true then preL X n (take X (preS b σ)).1 (take X (preS b σ)).2 else (b, σ)

def opcodeM (X : Cx) (σ : Sg) : Int × Sg :=
  let p := preL X 16 (take X σ).1 (take X σ).2
  if p.1 = 15 then (3840 + (take X p.2).1, (take X p.2).2) else p

theorem preS_at (b : Int) (σ : Sg) : (preS b σ).at' = σ.at' ∧ (preS b σ).err = σ.err := by
  unfold preS
  repeat' split
  all_goals exact ⟨rfl, rfl⟩

/-- A byte that is a prefix was there. -/
theorem take_pre (X : Cx) (σ : Sg) (h : isPre (take X σ).1 = true) : (take X σ).2.at' = σ.at' + 1 ∧ (take X σ).2.err = 0 := by
  revert h
  unfold take
  split
  · intro h; cases h
  · rename_i he
    split
    · intro h; cases h
    · split
      · intro h; cases h
      · intro _; exact ⟨rfl, by simpa using he⟩

def mM (σ : Sg) : Nat := 2 * (16 - σ.at') + if σ.err = 0 then 1 else 0

theorem take_less (X : Cx) (σ : Sg) (h : σ.err = 0) (hl : σ.at' ≤ 15) : mM (take X σ).2 < mM σ := by
  unfold take
  rw [if_neg (by simpa using h)]
  split
  · simp [mM, h]
  · split
    · simp [mM, h]
    · simp only [mM, h, if_true]; omega

def LoopP (X : Cx) (w0 : World) (V : Int × Sg) (vb : Value) (wr : World) : Prop :=
  ∃ (n : Nat) (b : Int) (σ : Sg), vb = .int .i64 b ∧ (0 ≤ b ∧ b < 256) ∧ V = preL X n b σ ∧ (isPre b = true → 16 ≤ σ.at' + n ∧ σ.err = 0) ∧ St X wr σ ∧ Kp X.own w0 wr

/-- How far the reader is: read off the world. -/
def leftOf (X : Cx) (w : World) : Nat := match w.cell? ⟨X.S, 1, none⟩, w.cell? ⟨X.S, 2, none⟩ with | some (.int _ a), some (.int _ e) => 2 * (16 - a.toNat) + if e = 0 then 1 else 0 | _, _ => 0

theorem leftOf_eq {X : Cx} {w : World} {σ : Sg} (h : St X w σ) : leftOf X w = mM σ := by
  unfold leftOf
  rw [h.s1, h.s2]
  rfl

set_option maxHeartbeats 2000000 in
theorem opcode_ok (w : World) (X : Cx) (σ : Sg) (h : St X w σ) :
    Calls Tryz.prog 19 #[.pointer (some ⟨X.F, 0, none⟩)] w fun e w' => e = .returned (.int .i64 (opcodeM X σ).1) ∧ Done X w (opcodeM X σ).2 w' := by
  have c0 := h.f0
  have cT := take_ok w X σ h
  have hbd := take_bd h
  have hpr := take_pre X σ
  obtain ⟨V, hV⟩ : ∃ V, V = preL X 16 (take X σ).1 (take X σ).2 := ⟨_, rfl⟩
  have eO : opcodeM X σ = if V.1 = 15 then (3840 + (take X V.2).1, (take X V.2).2) else V := by rw [hV]; rfl
  obtain ⟨Z, hZ⟩ : ∃ Z, Z = opcodeM X σ := ⟨_, rfl⟩
  rw [← hZ]
  have HZ : Hid (Z = if V.1 = 15 then (3840 + (take X V.2).1, (take X V.2).2) else V) := hZ.trans eO
  clear eO hZ
  generalize (take X σ).1 = b at *
  generalize (take X σ).2 = σ1 at *
  have HV : Hid (V = preL X 16 b σ1) := hV
  clear hV h
  go_enter Tryz.func19, Tryz.ntmps19
  go_wp2_with fail
  refine cT.mono ?_; rintro e w1 ⟨rfl, h1, k1⟩
  have Hstart : Hid (LoopP X w V (.int .i64 b) w1) := ⟨16, b, σ1, rfl, hbd, HV.out, fun hb => ⟨by omega, (hpr hb).2⟩, h1, k1⟩
  clear h1 k1 cT hbd HV c0 hpr
  go_wp2_with fail
  go_loopw [3] (LoopP X w V) (fun _ wr => leftOf X wr)
  case atStart => exact Hstart.out
  case round =>
    obtain ⟨n, b', σ', rfl, hb', hV, hpr, hst, kk⟩ := hrel
    have c0 := hst.f0
    have cP := prefix_ok wr X σ' hst b'
    have Hst : Hid (St X wr σ') := hst
    have Hkk : Hid (Kp X.own w wr) := kk
    have Hpr : Hid (isPre b' = true → 16 ≤ σ'.at' + n ∧ σ'.err = 0) := hpr
    have HV : Hid (V = preL X n b' σ') := hV
    obtain ⟨b0, b1⟩ := hb'
    obtain ⟨T, hT⟩ : ∃ T, T = isPre b' := ⟨_, rfl⟩
    rw [← hT] at cP
    have HT : Hid (T = isPre b') := hT
    clear hst kk hpr hV hT
    cases T
    · have hp0 : preS b' σ' = σ' := by
        have h := HT.out
        unfold preS
        simp [isPre] at h
        obtain ⟨⟨⟨⟨⟨⟨⟨⟨x1, x2⟩, x3⟩, x4⟩, x5⟩, x6⟩, x7⟩, x8⟩, x9⟩ := h
        simp [x1, x2, x3, x4, x5, x6, x7, x8, x9]
      rw [hp0] at cP
      have hVe : V = (b', σ') := by
        rw [HV.out]
        cases n with
        | zero => rfl
        | succ n => unfold preL; rw [← HT.out]; rfl
      have HVe : Hid (V = (b', σ')) := hVe
      clear hVe hp0
      by_cases h15 : b' = 15
      · subst h15
        go_wp2_with fail
        refine cP.mono ?_; rintro e w2 ⟨rfl, h2, k2⟩
        have c2 := h2.f0
        have cT := take_ok w2 X σ' h2
        have hbd := take_bd h2
        obtain ⟨t0, t1⟩ := hbd
        go_wp2_with fail
        refine cT.mono ?_; rintro e w3 ⟨rfl, h3, k3⟩
        have Hd : Hid (Done X w (take X σ').2 w3) := ⟨h3, (Hkk.out.trans k2).trans k3⟩
        clear h3 k3 h2 k2 cT cP
        go_wp2
        go_ret
        rw [HZ.out, HVe.out]
        exact ⟨rfl, Hd.out⟩
      · go_wp2_with fail
        refine cP.mono ?_; rintro e w2 ⟨rfl, h2, k2⟩
        have Hd : Hid (Done X w σ' w2) := ⟨h2, Hkk.out.trans k2⟩
        clear h2 k2 cP
        go_wp2
        go_ret
        rw [HZ.out, HVe.out, if_neg h15]
        exact ⟨rfl, Hd.out⟩
    · obtain ⟨hn, herr⟩ := Hpr.out HT.out.symm
      have hle := Hst.out.le
      obtain ⟨n', rfl⟩ : ∃ n', n = n' + 1 := ⟨n - 1, by omega⟩
      have hpa := preS_at b' σ'
      have hless := take_less X (preS b' σ') (hpa.2.trans herr) (by rw [hpa.1]; exact hle)
      have hmm : mM (preS b' σ') = mM σ' := by unfold mM; rw [hpa.1, hpa.2]
      have hV2 : V = preL X n' (take X (preS b' σ')).1 (take X (preS b' σ')).2 := by
        rw [HV.out]; show (if isPre b' = true then _ else _) = _; rw [if_pos HT.out.symm]
      have hpre := take_pre X (preS b' σ')
      have HA : Hid (mM (take X (preS b' σ')).2 < mM σ' ∧ V = preL X n' (take X (preS b' σ')).1 (take X (preS b' σ')).2 ∧ (isPre (take X (preS b' σ')).1 = true → 16 ≤ (take X (preS b' σ')).2.at' + n' ∧ (take X (preS b' σ')).2.err = 0)) :=
        ⟨by omega, hV2, fun hx => ⟨by have := (hpre hx).1; rw [hpa.1] at this; omega, (hpre hx).2⟩⟩
      clear hpre hV2 hmm hless hpa hn herr hle
      go_wp2_with fail
      refine cP.mono ?_; rintro e w2 ⟨rfl, h2, k2⟩
      have c2 := h2.f0
      have cT := take_ok w2 X _ h2
      have hbd := take_bd h2
      go_wp2_with fail
      refine cT.mono ?_; rintro e w3 ⟨rfl, h3, k3⟩
      have HB : Hid (LoopP X w V (.int .i64 (take X (preS b' σ')).1) w3) := ⟨n', _, _, rfl, hbd, HA.out.2.1, HA.out.2.2, h3, (Hkk.out.trans k2).trans k3⟩
      have HM : Hid (leftOf X w3 < leftOf X wr) := by
        show leftOf X w3 < leftOf X wr
        rw [leftOf_eq h3, leftOf_eq Hst.out]; exact HA.out.1
      clear h3 k3 h2 k2 cT cP hbd
      go_wp2
      go_roundw
      case rel => exact HB.out
      case measure => exact HM.out

end Go.Proofs.YtolnaodlghahlaaGreatDoor
