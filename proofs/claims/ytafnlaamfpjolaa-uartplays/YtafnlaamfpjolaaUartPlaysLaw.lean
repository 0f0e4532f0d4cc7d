/- The walk of UartPlays. -/
import Derived.Test.YtafnlaamfpjolaaUrBoth
import Derived.Test.YtafnlaamfpjolaaUtAwake
import Derived.Test.YtafnlaamfpjolaaUtOpen
namespace Go.Proofs.Ytafnlaamfpjolaa
open Go.ChangeShapes Go.WideShapes Go.ChangeAt Go.RowKit
set_option linter.unusedVariables false

theorem Bi.drew {W w : World} {B R : Nat} {u v : U} (h : Bi W w B R u v) : Bi W w.drew B R u v := by
  obtain ⟨S, T, h1, h2, r⟩ := h.ex
  exact ⟨⟨S, T, h1.kept (Kp.refl noB w).drew (fun _ _ => id), h2.kept (Kp.refl noB w).drew (fun _ _ => id), r⟩, h.kp.drew⟩

theorem out_len (u : U) (n v : Int) : (u.out n v).sent.length ≤ u.sent.length + 1 := by
  unfold U.out
  split
  · split
    · exact Nat.le_succ _
    · show (u.sent ++ [v]).length ≤ _
      rw [List.length_append, List.length_singleton]
      exact Nat.le_refl _
  · split
    · split
      · exact Nat.le_succ _
      · exact Nat.le_succ _
    · split
      · exact Nat.le_succ _
      · split
        · exact Nat.le_succ _
        · split
          · exact Nat.le_succ _
          · split <;> exact Nat.le_succ _

theorem inn_len (u : U) (n : Int) : (u.inn n).sent.length ≤ u.sent.length + 1 := by
  unfold U.inn
  split
  · split <;> exact Nat.le_succ _
  · split
    · unfold U.telling
      split <;> exact Nat.le_succ _
    · split <;> exact Nat.le_succ _

theorem push_len (u : U) (b : Int) : (u.push b).sent.length ≤ u.sent.length + 1 := by
  unfold U.push
  split <;> exact Nat.le_succ _

set_option maxRecDepth 20000 in
set_option maxHeartbeats 4000000 in
theorem UartPlays_walk (W : World) (a0 : Option Addr) (L cap : Nat) (lq : L ≤ 140737488351232) (ws : ∀ i, i < L → OpIn W a0 i) : Calls Try.prog 4 #[.slice a0 L cap] W fun e w' => e = .returned (.bool true) ∧ Below W.heap.size W w' := by
  have HA : Hid (∀ w, _) := awake_ok
  have HN : Hid (∀ w, _) := wNew
  have HM : Hid (∀ w, _) := xNew
  have HE : Hid (∀ w', Kp noB W w' → Below W.heap.size W w') := fun w' h => h.every
  have HS : Hid (∀ i, i < L → OpIn W a0 i) := ws
  clear ws
  go_enter Try.func4, Try.ntmps4
  go_wp2_with fail
  refine Calls.mono (HA.out _) ?_; rintro e w1 ⟨rfl, g1⟩
  go_wp2_with fail
  refine Calls.mono (HN.out _) ?_; rintro e w2 ⟨B, S, rfl, h2, n2, g2⟩
  go_wp2_with fail
  refine Calls.mono (HM.out _) ?_; rintro e w3 ⟨R, T, rfl, h3, n3, g3⟩
  have BI : Hid (Bi W w3 B R u0 u0) := Bi.start (g1.trans g2) h2 (fun k g => Nat.le_trans g1.size (n2 k g)) h3 n3 g3
  clear g1 g2 g3 h2 h3 n2 n3
  go_wp2_with fail
  go_loopw [6] (fun s6 wr => ∃ (i : Nat) (u : U), s6 = .int .i64 i ∧ i ≤ L ∧ Bi W wr B R u u ∧ u.Ok ∧ u.sent.length ≤ i) (fun s6 _ => ((L : Int) - intOf s6).toNat)
  case atStart => exact ⟨0, u0, rfl, by omega, BI.out, u0_ok, Nat.le_refl _⟩
  case round =>
    clear BI
    obtain ⟨i, u, rfl, hi, bi, ok, len⟩ := hrel
    by_cases hlt : i < L
    · obtain ⟨blk, off, kd, n, v, rfl, hblk, ⟨c0, c1, c2⟩, ⟨bd0, bd1⟩, ⟨bn0, bn1⟩, ⟨v0, v1⟩⟩ := (HS.out i hlt).kp bi.kp
      have hs : u.sent.length < 140737488355328 := by omega
      have bv : By v := ⟨v0, v1⟩
      have HC1 : Hid (∀ w X o lv l, Bo W w B R u u X o lv l → _) := fun w X o lv l h => h.mapL (fun S hu => wOut hu ok n v bv hs)
      obtain ⟨ev1, hev1⟩ : ∃ x : Int, x = if 0 ≤ n ∧ n < 8 then 0 else 1 := ⟨_, rfl⟩
      obtain ⟨f1, hf1⟩ : ∃ x : U, x = if 0 ≤ n ∧ n < 8 then u.out n v else u := ⟨_, rfl⟩
      obtain ⟨x1, hx1⟩ : ∃ x : Int, x = if 0 ≤ n ∧ n < 8 then u.inV n else 0 := ⟨_, rfl⟩
      obtain ⟨f2, hf2⟩ : ∃ x : U, x = if 0 ≤ n ∧ n < 8 then u.inn n else u := ⟨_, rfl⟩
      have HX1 : Hid (∀ w X o lv l, Bo W w B R f1 u X o lv l → _) := fun w X o lv l h => h.mapR (fun S hu => xOut hu ok n v bv hs)
      have HC2 : Hid (∀ w X o lv l, Bo W w B R u u X o lv l → _) := fun w X o lv l h => h.mapL (fun S hu => wIn hu ok n)
      have HX2 : Hid (∀ w X o lv l, Bo W w B R f2 u X o lv l → _) := fun w X o lv l h => h.mapR (fun S hu => xIn hu ok n)
      have HC3 : Hid (∀ w X o lv l, Bo W w B R u u X o lv l → _) := fun w X o lv l h => h.mapL (fun S hu => wPush hu ok v)
      have HX3 : Hid (∀ w X o lv l, Bo W w B R (u.push v) u X o lv l → _) := fun w X o lv l h => h.mapR (fun S hu => xPush hu v)
      have HC4 : Hid (∀ w X o lv l, Bo W w B R u u X o lv l → _) := fun w X o lv l h => h.sentL
      have HLL : Hid (∀ w X o (u' : U), Bo W w B R u' u' X o (.slice none 0 0) [] → u'.Ok → _) := fun w X o u' h k => h.lineL k
      have HLR : Hid (∀ w X o (u' : U), Bo W w B R u' u' X o (.slice none 0 0) [] → u'.Ok → _) := fun w X o u' h k => h.lineR k
      rw [← hev1, ← hf1] at HC1 HX1
      rw [← hev1, ← hx1, ← hf2] at HC2 HX2
      have ok1 : Hid (f1.Ok ∧ f1.sent.length ≤ i + 1) := by
        rw [hf1]
        split
        · exact ⟨ok.out n bv, Nat.le_trans (out_len u n v) (by omega)⟩
        · exact ⟨ok, by omega⟩
      have ok2 : Hid (f2.Ok ∧ f2.sent.length ≤ i + 1) := by
        rw [hf2]
        split
        · exact ⟨ok.inn n, Nat.le_trans (inn_len u n) (by omega)⟩
        · exact ⟨ok, by omega⟩
      have ok3 : Hid ((u.push v).Ok ∧ (u.push v).sent.length ≤ i + 1) := ⟨ok.push bv, Nat.le_trans (push_len u v) (by omega)⟩
      have ok4 : Hid (u.hush.Ok ∧ u.hush.sent.length ≤ i + 1) := ⟨ok.hush, Nat.zero_le _⟩
      have ok0 : Hid (u.Ok ∧ u.sent.length ≤ i + 1) := ⟨ok, by omega⟩
      have P0 : Hid (Bo W (wr.alloc (.cells #[.int .i64 kd, .int .i64 n, .int .u8 v] 29)) B R u u wr.heap.size (.cells #[.int .i64 kd, .int .i64 n, .int .u8 v] 29) (.slice none 0 0) []) := bi.bo _
      have CX : Hid (∀ (w : World) (u1 u2 : U) (lv : Value) (l : List Int), Bo W w B R u1 u2 wr.heap.size (.cells #[.int .i64 kd, .int .i64 n, .int .u8 v] 29) lv l → w.cell? ⟨wr.heap.size, 0, none⟩ = some (.int .i64 kd) ∧ w.cell? ⟨wr.heap.size, 1, none⟩ = some (.int .i64 n) ∧ w.cell? ⟨wr.heap.size, 2, none⟩ = some (.int .u8 v)) := fun w u1 u2 lv l h => ⟨by simp [World.cell?, h.blk], by simp [World.cell?, h.blk], by simp [World.cell?, h.blk]⟩
      clear hev1 hf1 hx1 hf2 bi ok len hblk hs bv
      by_cases e1 : kd = 1
      · subst e1
        go_wp2
        generalize wr.alloc (.cells #[.int .i64 1, .int .i64 n, .int .u8 v] 29) = w4 at P0 ⊢
        generalize wr.heap.size = X at P0 CX ⊢
        clear c0 c1 c2
        have P1 : Hid (Bo W w4.drew B R u u X (.cells #[.int .i64 1, .int .i64 n, .int .u8 v] 29) (.slice none 0 0) []) := P0.out.drew
        have S4 : Hid (w4.drew.cell? ⟨X, 1, none⟩ = some (.int .i64 n) ∧ w4.drew.cell? ⟨X, 2, none⟩ = some (.int .u8 v)) := (CX.out _ _ _ _ _ P1.out).2
        go_region_held3 (fun W => W.cell? ⟨X, 1, none⟩ = some (.int .i64 n) ∧ W.cell? ⟨X, 2, none⟩ = some (.int .u8 v))
          (first | exact S4.out | exact (CX.out _ _ _ _ _ (by assumption)).2 | assumption)
          (first
            | (go_at_call 11; refine Calls.mono (HC1.out _ _ _ _ _ P1.out) ?_; rintro e z5 ⟨rfl, p5⟩)
            | (go_at_call 12; refine Calls.mono (HX1.out _ _ _ _ _ p5) ?_; rintro e z6 ⟨rfl, p6⟩))
        all_goals
          have bz := p6
          have okz := ok1.out.1
          have lenz := ok1.out.2
          clear p5 p6 S4 P1 P0
          go_wp2_with fail
          refine Calls.mono (HLL.out _ _ _ _ bz okz) ?_; rintro e z8 ⟨rfl, hw⟩; replace hw := hw.symm; subst hw
          go_wp2_with fail
          refine Calls.mono (HLR.out _ _ _ _ bz okz) ?_; rintro e z8 ⟨rfl, hw⟩; replace hw := hw.symm; subst hw
          have BI := bz.bi
          go_wp2
          go_roundw
          case rel => first | exact ⟨i + 1, _, by go_num, by omega, BI, okz, lenz⟩ | ((repeat apply Exists.intro); exact ⟨⟨i + 1, _, by go_num, by omega, BI, okz, lenz⟩, rfl⟩)
          case measure => simp [intOf]; omega
      · by_cases e2 : kd = 2
        · subst e2
          have oc := (CX.out _ _ _ _ _ P0.out).2.1
          go_wp2_with fail
          generalize wr.alloc (.cells #[.int .i64 2, .int .i64 n, .int .u8 v] 29) = w4 at P0 oc ⊢
          generalize wr.heap.size = X at P0 CX oc ⊢
          refine Calls.mono (HC2.out _ _ _ _ _ P0.out) ?_; rintro e z5 ⟨rfl, p5⟩
          have oc5 := (CX.out _ _ _ _ _ p5).2.1
          clear oc P0
          go_wp2_with fail
          refine Calls.mono (HX2.out _ _ _ _ _ p5) ?_; rintro e z6 ⟨rfl, p6⟩
          have bz := p6
          have okz := ok2.out.1
          have lenz := ok2.out.2
          clear p5 p6 oc5
          go_wp2_with fail
          refine Calls.mono (HLL.out _ _ _ _ bz okz) ?_; rintro e z8 ⟨rfl, hw⟩; replace hw := hw.symm; subst hw
          go_wp2_with fail
          refine Calls.mono (HLR.out _ _ _ _ bz okz) ?_; rintro e z8 ⟨rfl, hw⟩; replace hw := hw.symm; subst hw
          have BI := bz.bi
          go_wp2
          go_roundw
          case rel => first | exact ⟨i + 1, _, by go_num, by omega, BI, okz, lenz⟩ | ((repeat apply Exists.intro); exact ⟨⟨i + 1, _, by go_num, by omega, BI, okz, lenz⟩, rfl⟩)
          case measure => simp [intOf]; omega
        · by_cases e3 : kd = 3
          · subst e3
            have oc := (CX.out _ _ _ _ _ P0.out).2.2
            go_wp2_with fail
            generalize wr.alloc (.cells #[.int .i64 3, .int .i64 n, .int .u8 v] 29) = w4 at P0 oc ⊢
            generalize wr.heap.size = X at P0 CX oc ⊢
            refine Calls.mono (HC3.out _ _ _ _ _ P0.out) ?_; rintro e z5 ⟨rfl, p5⟩
            have oc5 := (CX.out _ _ _ _ _ p5).2.2
            clear oc P0
            go_wp2_with fail
            refine Calls.mono (HX3.out _ _ _ _ _ p5) ?_; rintro e z6 ⟨rfl, p6⟩
            have bz := p6
            have okz := ok3.out.1
            have lenz := ok3.out.2
            clear p5 p6 oc5
            go_wp2_with fail
            refine Calls.mono (HLL.out _ _ _ _ bz okz) ?_; rintro e z8 ⟨rfl, hw⟩; replace hw := hw.symm; subst hw
            go_wp2_with fail
            refine Calls.mono (HLR.out _ _ _ _ bz okz) ?_; rintro e z8 ⟨rfl, hw⟩; replace hw := hw.symm; subst hw
            have BI := bz.bi
            go_wp2
            go_roundw
            case rel => first | exact ⟨i + 1, _, by go_num, by omega, BI, okz, lenz⟩ | ((repeat apply Exists.intro); exact ⟨⟨i + 1, _, by go_num, by omega, BI, okz, lenz⟩, rfl⟩)
            case measure => simp [intOf]; omega
          · by_cases e4 : kd = 4
            · subst e4
              go_wp2_with fail
              generalize wr.alloc (.cells #[.int .i64 4, .int .i64 n, .int .u8 v] 29) = w4 at P0 ⊢
              generalize wr.heap.size = X at P0 CX ⊢
              refine Calls.mono (HC4.out _ _ _ _ _ P0.out) ?_; rintro e z5 ⟨p, c, rfl, p5⟩
              have P5 := p5.drew
              obtain ⟨p', c', s2, HF⟩ := P5.sentR
              have s1 := P5.str
              have HF4 : Hid (Calls Try.prog 18 #[.pointer (some ⟨R, 0, none⟩)] z5.drew fun e w' => e = .returned (.slice p' u.sent.length c') ∧ Bo W w' B R u.hush u.hush X (.cells #[.int .i64 4, .int .i64 n, .int .u8 v] 29) (.slice p u.sent.length c) u.sent ∧ (convert 35 9 (.slice p u.sent.length c)).run Try.prog w' = .ok (.string (strOfNums u.sent)) w' ∧ (convert 35 9 (.slice p' u.sent.length c')).run Try.prog w' = .ok (.string (strOfNums u.sent)) w') := HF.mono fun e w' ⟨q1, q2, q3⟩ => ⟨q1, q2, q2.str, q3⟩
              unfold StrAt at s1 s2
              have S1 : Hid _ := s1
              have S2 : Hid _ := s2
              have hsl : u.sent.length ≤ 140737488351233 := by have := ok0.out.2; omega
              clear P0 p5 P5 s1 s2 HF
              go_wp2
              go_region_held3 (fun w' => (convert 35 9 (.slice p u.sent.length c)).run Try.prog w' = .ok (.string (strOfNums u.sent)) w' ∧ (convert 35 9 (.slice p' u.sent.length c')).run Try.prog w' = .ok (.string (strOfNums u.sent)) w')
                (first | exact ⟨S1.out, S2.out⟩ | exact ⟨by assumption, by assumption⟩ | assumption)
                (first | (go_at_call 18; refine Calls.mono HF4.out ?_; rintro e z6 ⟨rfl, p6, s5, s6⟩))
              all_goals
                have P6 : Hid _ := p6
                clear p6 s5 s6 S1 S2 HF4
                go_wp2_with fail
                go_loopw [14] (fun s14 wq => ∃ (k : Nat) (l' : List Int), s14 = .int .i64 k ∧ k ≤ u.sent.length ∧ l'.length = u.sent.length ∧ Bo W wq B R u.hush u.hush X (.cells #[.int .i64 4, .int .i64 n, .int .u8 v] 29) (.slice p u.sent.length c) l') (fun s14 _ => ((u.sent.length : Int) - intOf s14).toNat)
                case atStart => exact ⟨0, u.sent, rfl, by omega, rfl, P6.out⟩
                case round =>
                  clear P6
                  obtain ⟨k, l', rfl, hk, hl', bq⟩ := hrel
                  by_cases hkl : k < u.sent.length
                  · obtain ⟨g, rfl, cl, fz⟩ := bq.at (i := k) (by omega)
                    have BQ : Hid (Bo W (wr.setCell ⟨g, k, none⟩ (.int .u8 99)) B R u.hush u.hush X (.cells #[.int .i64 4, .int .i64 n, .int .u8 v] 29) (.slice (some ⟨g, 0, none⟩) u.sent.length c) (l'.set k 99)) := bq.put 99 (by omega)
                    clear bq
                    go_wp2
                    go_roundw
                    case rel => exact ⟨k + 1, l'.set k 99, by go_num, by omega, by rw [List.length_set]; exact hl', BQ.out⟩
                    case measure => simp [intOf]; omega
                  · have bz := bq.forget
                    have okz := ok4.out.1
                    have lenz := ok4.out.2
                    clear bq
                    go_wp2_with fail
                    refine Calls.mono (HLL.out _ _ _ _ bz okz) ?_; rintro e z8 ⟨rfl, hw⟩; replace hw := hw.symm; subst hw
                    go_wp2_with fail
                    refine Calls.mono (HLR.out _ _ _ _ bz okz) ?_; rintro e z8 ⟨rfl, hw⟩; replace hw := hw.symm; subst hw
                    have BI := bz.bi
                    go_wp2
                    go_roundw
                    case rel => first | exact ⟨i + 1, _, by go_num, by omega, BI, okz, lenz⟩ | ((repeat apply Exists.intro); exact ⟨⟨i + 1, _, by go_num, by omega, BI, okz, lenz⟩, rfl⟩)
                    case measure => simp [intOf]; omega
            · have bz := P0.out
              have okz := ok0.out.1
              have lenz := ok0.out.2
              go_wp2_with fail
              refine Calls.mono (HLL.out _ _ _ _ bz okz) ?_; rintro e z8 ⟨rfl, hw⟩; replace hw := hw.symm; subst hw
              go_wp2_with fail
              refine Calls.mono (HLR.out _ _ _ _ bz okz) ?_; rintro e z8 ⟨rfl, hw⟩; replace hw := hw.symm; subst hw
              have BI := bz.bi
              go_wp2
              go_roundw
              case rel => first | exact ⟨i + 1, _, by go_num, by omega, BI, okz, lenz⟩ | ((repeat apply Exists.intro); exact ⟨⟨i + 1, _, by go_num, by omega, BI, okz, lenz⟩, rfl⟩)
              case measure => simp [intOf]; omega
    · obtain rfl : i = L := by omega
      have bd : Bi W wr.drew B R u u := bi.drew
      obtain ⟨p, c, p', c', s1, s2, HF⟩ := bd.last
      unfold StrAt at s1 s2 HF
      have HF1 : Hid _ := HF
      have S1 : Hid _ := s1
      have S2 : Hid _ := s2
      clear bi HF s1 s2 hlt bd
      go_wp2
      go_region_held3 (fun w' => (convert 35 9 (.slice p u.sent.length c)).run Try.prog w' = .ok (.string (strOfNums u.sent)) w' ∧ (convert 35 9 (.slice p' u.sent.length c')).run Try.prog w' = .ok (.string (strOfNums u.sent)) w')
        (first | exact ⟨S1.out, S2.out⟩ | exact ⟨by assumption, by assumption⟩ | assumption)
        (first
          | (go_at_call 17; refine Calls.mono HF1.out ?_; rintro e z5 ⟨rfl, s3, s4, HF2⟩)
          | (go_at_call 18; refine Calls.mono HF2 ?_; rintro e z6 ⟨rfl, s5, s6, k6⟩))
      all_goals
        go_wp2
        go_ret
        exact ⟨rfl, HE.out _ k6⟩
end Go.Proofs.Ytafnlaamfpjolaa
