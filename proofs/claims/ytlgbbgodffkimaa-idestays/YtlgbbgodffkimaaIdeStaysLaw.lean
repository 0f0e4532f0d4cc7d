/- The walk of IdeStays. -/
import Derived.Test.YtlgbbgodffkimaaIdSt
namespace Go.Proofs.Ytlgbbgodffkimaa
open Go.ChangeShapes Go.WideShapes Go.ChangeAt Go.RowKit
set_option linter.unusedVariables false

theorem stays_work {d0 d : Id} (h0 : d0.log = []) (q : Quiet d0 d) : d.work = 0 := by
  unfold Id.work
  rw [q.log, h0, if_neg q.mode]
  rfl

theorem quiet_o {d : Id} (hd : d.mode ≠ 2) (reg size v : Int) (h : reg ≠ 7 ∨ (v % 256 ≠ 48 ∧ v % 256 ≠ 49)) : Quiet d (d.o reg size v) := by
  unfold Id.o
  split
  · exact quiet_out d hd reg _ v h
  · exact ⟨rfl, rfl, rfl, hd⟩

theorem quiet_i {d : Id} (hd : d.mode ≠ 2) (reg size : Int) : Quiet d (d.i reg size) := by
  unfold Id.i
  split
  · exact quiet_inn d hd reg _
  · exact ⟨rfl, rfl, rfl, hd⟩

set_option maxRecDepth 20000 in
set_option maxHeartbeats 4000000 in
theorem IdeStays_walk (W : World) (s : Int) (s0 : -9223372036854775808 ≤ s) (s1 : s ≤ 9223372036854775807) (a0 : Option Addr) (L cap : Nat) (lq : L ≤ 3518437208783) (ws : ∀ i, i < L → OpIn W a0 i) : Calls Try.prog 6 #[.int .i64 s, .slice a0 L cap] W fun e w' => e = .returned (.bool true) ∧ Below W.heap.size W w' := by
  have HA : Hid (∀ w, _) := awake_ok
  have HD : Hid (∀ w, _) := fun w => lDisk_any w s 7 s0 s1 ⟨by decide, by decide⟩
  obtain ⟨m, hm⟩ : ∃ m, m = secN s := ⟨_, rfl⟩
  have m5 := secN_lt s
  rw [← hm] at HD m5
  obtain ⟨d0, hd0⟩ : ∃ d0, d0 = id0 (512 * m / 512) (dB (512 * m) (dskS 7)) := ⟨_, rfl⟩
  have HN : Hid (∀ w g (_ : RowB w g (512 * m) (dskS 7)), Calls Try.prog 10 #[.slice (some ⟨g, 0, none⟩) (512 * m) (512 * m)] w fun e w' => e = .returned (.tuple #[.pointer (some ⟨w.heap.size, 0, none⟩), .int .i64 0]) ∧ ∃ S, IW w' S w.heap.size d0 ∧ (∀ k, S k → w.heap.size ≤ k) ∧ Kp noB w w') := fun w g r => by
    rw [hd0]
    exact wNew w _ (512 * m) (512 * m) _ r.at (by omega) (by omega)
  have HE : Hid (∀ w', Kp noB W w' → Below W.heap.size W w') := fun w' h => h.every
  have HS : Hid (∀ i, i < L → OpIn W a0 i) := ws
  have ok0 : Hid d0.Ok := by
    show d0.Ok
    rw [hd0]
    exact idN_ok (by omega) (fun j _ => dskS_byt 7 j)
  have n0 : Hid (d0.n = m) := by
    show d0.n = m
    rw [hd0]
    show 512 * m / 512 = m
    omega
  have D0 : Hid (∀ j, j < 512 * m → d0.D j = dskS 7 j) := fun j hj => by
    rw [hd0]
    show (if j < 512 * m then dskS 7 j else 0) = _
    rw [if_pos hj]
  have L0 : Hid (d0.log = [] ∧ d0.mode ≠ 2) := by
    rw [hd0]
    exact ⟨rfl, by show (0 : Int) ≠ 2; decide⟩
  clear ws hm hd0
  go_enter Try.func6, Try.ntmps6
  go_wp2_with fail
  refine Calls.mono (HA.out _) ?_; rintro e w1 ⟨rfl, k1⟩
  go_wp2_with fail
  refine Calls.mono (HD.out _) ?_; rintro e w2 ⟨rfl, r2, k2⟩
  go_wp2_with fail
  refine Calls.mono (HN.out _ _ r2) ?_; rintro e w3 ⟨rfl, S3, h3, n3, k3⟩
  obtain ⟨cur, ir, hg⟩ := r2.is
  have P3 : Hid (St W w3 w2.heap.size [(w1.heap.size, rowO cur)] d0) := by
    refine ⟨⟨S3, h3, ⟨fun k g => Nat.le_trans (k1.trans k2).size (n3 k g), (k1.trans k2).trans k3⟩, fun x hx => ?_⟩, ok0.out⟩
    rw [List.mem_singleton] at hx
    subst hx
    exact ⟨fun g => by have := n3 _ g; have := r2.lt; omega, heap_kept hg k3 id⟩
  have IR : Hid (isRow cur (512 * m) (dskS 7)) := ir
  clear HA HD HN k1 k2 k3 r2 h3 n3 ir hg
  generalize w2.heap.size = B at *
  generalize w1.heap.size = g at *
  go_wp2_with fail
  go_loopw [9] (fun s9 wr => ∃ (i : Nat) (d : Id), s9 = .int .i64 i ∧ i ≤ L ∧ St W wr B [(g, rowO cur)] d ∧ Quiet d0 d) (fun s9 _ => ((L : Int) - intOf s9).toNat)
  case atStart => exact ⟨0, d0, rfl, by omega, P3.out, ⟨rfl, rfl, rfl, L0.out.2⟩⟩
  case round =>
    clear P3
    obtain ⟨i, d, rfl, hi, st, q⟩ := hrel
    have QQ : Hid (Quiet d0 d) := q
    by_cases hlt : i < L
    · obtain ⟨blk, off, kd, rg, sz, v, tm, rfl, hblk, ⟨c0, c1, c2, c3, c4⟩, ⟨bd0, bd1⟩, ⟨br0, br1⟩, ⟨bs0, bs1⟩, ⟨v0, v1⟩, ⟨bt0, bt1⟩⟩ := (HS.out i hlt).kp st.kp
      have S4 : Hid (St W (wr.alloc (opO kd rg sz v tm)) B ((wr.heap.size, opO kd rg sz v tm) :: [(g, rowO cur)]) d) := st.alloc _
      have WK : Hid (d.work + 4 < 9007199254740992) := by show d.work + 4 < _; rw [stays_work L0.out.1 q]; decide
      have HI : Hid (∀ w X, St W w B ((X, opO kd rg sz v tm) :: [(g, rowO cur)]) d → _) := fun w X h => h.in' rg sz
      have HO : Hid (∀ w X, St W w B ((X, opO kd rg sz v tm) :: [(g, rowO cur)]) d → _) := fun w X h => h.out rg sz v v0 v1 WK.out
      have CX : Hid (∀ w X d', St W w B ((X, opO kd rg sz v tm) :: [(g, rowO cur)]) d' → _) := fun w X d' h => opO_cells (h.heap (.head _))
      have FN : Hid (∀ w X d', St W w B ((X, opO kd rg sz v tm) :: [(g, rowO cur)]) d' → St W w B [(g, rowO cur)] d') := fun w X d' h => h.less (fun x hx => .tail _ hx)
      unfold opO at S4
      clear st q
      by_cases e2 : kd = 2
      · subst e2
        go_wp2_with fail
        generalize wr.alloc _ = w4 at S4 ⊢
        generalize wr.heap.size = X at S4 ⊢
        refine Calls.mono (HI.out _ _ S4.out) ?_; rintro e w5 ⟨rfl, h5⟩
        obtain ⟨o0, o1, o2, o3, o4⟩ := CX.out _ _ _ h5
        have H5 : Hid _ := FN.out _ _ _ h5
        clear h5 S4
        go_wp2
        go_roundw
        case rel => exact ⟨i + 1, _, by go_num, by omega, H5.out, QQ.out.trans (quiet_i QQ.out.mode rg sz)⟩
        case measure => simp [intOf]; omega
      · have e2' : (kd == 2) = false := by simpa using e2
        by_cases e1 : kd = 1
        · subst e1
          by_cases r7 : rg = 7
          · subst r7
            by_cases v30 : v % 256 = 48
            · have q30 : (v % 256 != 48) = false := by simpa using v30
              go_wp2
              go_roundw
              case rel => exact ⟨i + 1, _, by go_num, by omega, FN.out _ _ _ S4.out, QQ.out⟩
              case measure => simp [intOf]; omega
            · have q30 : (v % 256 != 48) = true := by simpa using v30
              by_cases v31 : v % 256 = 49
              · have q31 : (v % 256 != 49) = false := by simpa using v31
                go_wp2
                go_roundw
                case rel => exact ⟨i + 1, _, by go_num, by omega, FN.out _ _ _ S4.out, QQ.out⟩
                case measure => simp [intOf]; omega
              · have q31 : (v % 256 != 49) = true := by simpa using v31
                have hQ : Hid ((7 : Int) ≠ 7 ∨ (v % 256 ≠ 48 ∧ v % 256 ≠ 49)) := .inr ⟨v30, v31⟩
                clear v30 v31
                go_wp2_with fail
                generalize wr.alloc _ = w4 at S4 ⊢
                generalize wr.heap.size = X at S4 ⊢
                refine Calls.mono (HO.out _ _ S4.out) ?_; rintro e w5 ⟨rfl, h5⟩
                have H5 : Hid _ := FN.out _ _ _ h5
                clear h5 S4
                go_wp2
                go_roundw
                case rel => exact ⟨i + 1, _, by go_num, by omega, H5.out, QQ.out.trans (quiet_o QQ.out.mode 7 sz v hQ.out)⟩
                case measure => simp [intOf]; omega
          · have q7 : (rg != 7) = true := by simpa using r7
            have hQ : Hid (rg ≠ 7 ∨ (v % 256 ≠ 48 ∧ v % 256 ≠ 49)) := .inl r7
            clear r7
            go_wp2_with fail
            generalize wr.alloc _ = w4 at S4 ⊢
            generalize wr.heap.size = X at S4 ⊢
            refine Calls.mono (HO.out _ _ S4.out) ?_; rintro e w5 ⟨rfl, h5⟩
            have H5 : Hid _ := FN.out _ _ _ h5
            clear h5 S4
            go_wp2
            go_roundw
            case rel => exact ⟨i + 1, _, by go_num, by omega, H5.out, QQ.out.trans (quiet_o QQ.out.mode rg sz v hQ.out)⟩
            case measure => simp [intOf]; omega
        · have e1' : (kd == 1) = false := by simpa using e1
          go_wp2
          go_roundw
          case rel => exact ⟨i + 1, _, by go_num, by omega, FN.out _ _ _ S4.out, QQ.out⟩
          case measure => simp [intOf]; omega
    · have e : i = L := by omega
      subst e
      have hn : d.n = m := by rw [q.n]; exact n0.out
      have hlog : d.log = [] := by rw [q.log]; exact L0.out.1
      have hD : strR (512 * m) d.D = strR (512 * m) (dskS 7) := strR_same (fun j hj => by rw [q.D]; exact D0.out j hj)
      obtain ⟨str, hstr⟩ : ∃ str, str = strOfNums (strR (512 * m) (dskS 7)) := ⟨_, rfl⟩
      have HK : Hid (∀ w d', St W w B [(g, rowO cur)] d' → (convert 23 9 (.slice (some ⟨g, 0, none⟩) (512 * m) (512 * m))).run Try.prog w = .ok (.string str) w) := fun w d' h => by
        rw [hstr]
        exact (IR.out.row (h.heap (.head _))).str
      have HT : Hid (∀ w w', Dsk1 W w B [(g, rowO cur)] d w' → (convert 23 9 (.slice (some ⟨w.heap.size, 0, none⟩) (512 * m) (512 * m))).run Try.prog w' = .ok (.string str) w' ∧ St W w' B [(g, rowO cur)] d) := by
        rintro w w' ⟨c, h1, h2, h3, h4⟩
        rw [hn] at h2 h3
        refine ⟨?_, h1.less (fun x hx => .tail _ hx)⟩
        rw [hstr, ← hD]
        have hr : isRow c (512 * m) d.D := ⟨h2, h3⟩
        exact (hr.row (h1.heap (.head _))).str
      have HDk : Hid (∀ w, St W w B [(g, rowO cur)] d → Calls Try.prog 21 #[.pointer (some ⟨B, 0, none⟩)] w fun e w' => e = .returned (.slice (some ⟨w.heap.size, 0, none⟩) (512 * m) (512 * m)) ∧ Dsk1 W w B [(g, rowO cur)] d w') := fun w h => by
        have := h.disk
        rw [hn] at this
        exact this
      have HWr : Hid (∀ w, St W w B [(g, rowO cur)] d → Calls Try.prog 17 #[.pointer (some ⟨B, 0, none⟩)] w fun e w' => ∃ p c, e = .returned (.slice p 0 c) ∧ St W w' B [(g, rowO cur)] d.told) := fun w h => by
        have := h.written
        rw [hlog] at this
        exact this.mono fun e w' ⟨p, c, a, b⟩ => ⟨p, c, a, b.1⟩
      have S4 : Hid (St W wr.drew B [(g, rowO cur)] d) := st.drew
      clear st q hn hlog hD hstr QQ HS
      go_wp2
      refine wp_region_held_drew (S := fun W' => (convert 23 9 (.slice (some ⟨g, 0, none⟩) (512 * m) (512 * m))).run Try.prog W' = .ok (.string str) W') (by kernel_rfl) (HK.out _ _ S4.out) (fun hH => ?_)
      refine wpAnyH_take (i := 0) (v := (.pointer (some ⟨B, 0, none⟩))) rfl (by kernel_rfl) (by kernel_rfl) (by kernel_rfl) (fun _ _ _ h => h) (Or.inl ⟨by rfl, by intro w hS; go_simp⟩) hH ?_
      try simp only [Act.put, List.setIfInBounds_toArray]
      refine wpAnyH_take (i := 3) (v := (.slice (some ⟨g, 0, none⟩) (512 * m) (512 * m))) rfl (by kernel_rfl) (by kernel_rfl) (by kernel_rfl) (fun _ _ _ h => h) (Or.inl ⟨by rfl, by intro w hS; go_simp⟩) hH ?_
      try simp only [Act.put]
      refine wpAnyH_take (i := 4) (v := (.string str)) rfl (by kernel_rfl) (by kernel_rfl) (by kernel_rfl) (fun _ _ _ h => h) (Or.inl ⟨by rfl, by intro w hS; go_simp⟩) hH ?_
      try simp only [Act.put]
      refine wpAnyH_ready (rs := [1]) (by kernel_rfl) (by simp) ?_
      refine AllReadyH.cons rfl (fun K hK => ?_) AllReadyH.nil
      go_simp
      refine Calls.mono (HDk.out _ S4.out) ?_; rintro e w5 ⟨rfl, h5⟩
      obtain ⟨hcv, st5⟩ := HT.out _ _ h5
      replace hcv : (convert 23 9 (.slice (some ⟨wr.heap.size, 0, none⟩) (512 * m) (512 * m))).run Try.prog w5 = .ok (.string str) w5 := hcv
      refine hK.out _ _ (HK.out _ _ st5) (fun hH2 => ?_)
      clear hK K
      try simp only [Act.put, List.setIfInBounds_toArray, List.set_cons_zero, List.set_cons_succ]
      refine wpAnyH_ready (rs := [2]) (by kernel_rfl) (by simp) ?_
      refine AllReadyH.cons rfl (fun K hK => ?_) AllReadyH.nil
      go_simp
      refine hK.out _ _ (HK.out _ _ st5) (fun hH3 => ?_)
      clear hK K
      try simp only [Act.put, List.setIfInBounds_toArray, List.set_cons_zero, List.set_cons_succ]
      refine wpAnyH_take (i := 5) (v := (.bool true)) rfl (by kernel_rfl) (by kernel_rfl) (by kernel_rfl) (fun _ _ _ h => h) (Or.inl ⟨by rfl, by intro w hS; go_simp⟩) hH3 ?_
      try simp only [Act.put, List.setIfInBounds_toArray]
      refine wpAnyH_take (i := 6) (v := (.bool true)) rfl (by kernel_rfl) (by kernel_rfl) (by kernel_rfl) (fun _ _ _ h => h) (Or.inl ⟨by rfl, by intro w hS; go_simp⟩) hH3 ?_
      try simp only [Act.put]
      refine wpAnyH_take (i := 7) (v := (.pointer (some ⟨B, 0, none⟩))) rfl (by kernel_rfl) (by kernel_rfl) (by kernel_rfl) (fun _ _ _ h => h) (Or.inl ⟨by rfl, by intro w hS; go_simp⟩) hH3 ?_
      try simp only [Act.put]
      refine wpAnyH_ready (rs := [8]) (by kernel_rfl) (by simp) ?_
      refine AllReadyH.cons rfl (fun K hK => ?_) AllReadyH.nil
      go_simp
      refine Calls.mono (HWr.out _ st5) ?_; rintro e w6 ⟨p6, c6, rfl, st6⟩
      refine hK.out _ _ (HK.out _ _ st6) (fun hH4 => ?_)
      clear hK K
      try simp only [Act.put, List.setIfInBounds_toArray, List.set_cons_zero, List.set_cons_succ]
      refine wpAnyH_take (i := 9) (v := (.int .i64 0)) rfl (by kernel_rfl) (by kernel_rfl) (by kernel_rfl) (fun _ _ _ h => h) (Or.inl ⟨by rfl, by intro w hS; go_simp⟩) hH4 ?_
      try simp only [Act.put, List.setIfInBounds_toArray]
      refine wpAnyH_take (i := 10) (v := (.bool true)) rfl (by kernel_rfl) (by kernel_rfl) (by kernel_rfl) (fun _ _ _ h => h) (Or.inl ⟨by rfl, by intro w hS; go_simp⟩) hH4 ?_
      try simp only [Act.put]
      refine wpAnyH_take (i := 11) (v := (.bool true)) rfl (by kernel_rfl) (by kernel_rfl) (by kernel_rfl) (fun _ _ _ h => h) (Or.inl ⟨by rfl, by intro w hS; go_simp⟩) hH4 ?_
      try simp only [Act.put]
      refine wpAnyH_ready (rs := [12]) (by kernel_rfl) (by simp) ?_
      refine AllReadyH.cons rfl (fun K hK => ?_) AllReadyH.nil
      go_simp
      refine hK.out _ _ (HK.out _ _ st6) (fun hH5 => ?_)
      clear hK K
      try simp only [Act.put, List.setIfInBounds_toArray, List.set_cons_zero, List.set_cons_succ]
      refine wpAnyH_done (by kernel_rfl) ?_ _
      go_wp2
      go_ret
      exact ⟨rfl, HE.out _ st6.kp⟩
end Go.Proofs.Ytlgbbgodffkimaa
