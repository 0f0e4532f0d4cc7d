/- The contract of take: bytes that are written. -/
import Derived.Test.YtddalplpmgmplaaIdWrite
import Derived.Test.YtddalplpmgmplaaIdMany
namespace Go.Proofs.Ytddalplpmgmplaa
open Go.ChangeShapes Go.WideShapes Go.ChangeAt Go.RowKit
set_option linter.unusedVariables false

def slLen : Value → Nat
  | .slice _ n _ => n
  | _ => 0

theorem cell_below {w : World} {b o : Nat} {v : Value} (h : w.cell? ⟨b, o, none⟩ = some v) : b < w.heap.size := by
  by_cases e : b < w.heap.size
  · exact e
  · have : w.heap[b]? = none := Array.getElem?_eq_none (by omega)
    simp [World.cell?, this] at h

theorem cell_kept {S : Nat → Prop} {w w' : World} {b o : Nat} {v : Value} (h : w.cell? ⟨b, o, none⟩ = some v) (k : Kp S w w') (hS : ¬ S b) : w'.cell? ⟨b, o, none⟩ = some v := by
  have := k.block b (cell_below h) hS
  unfold World.cell? at h ⊢
  simpa only [this] using h

theorem lay_same (f : Nat → Int) (x n : Nat) (l : List Int) (m : Nat) (hn : m + n ≤ l.length) : layB f x n (fun j => l.getD (m + j) 0) = layL f x ((l.drop m).take n) := by
  have e : ((l.drop m).take n).length = n := by rw [List.length_take, List.length_drop]; omega
  funext i
  unfold layB layL
  rw [e]
  by_cases c : x ≤ i ∧ i < x + n
  · rw [if_pos c, if_pos c]
    simp only [List.getD_eq_getElem?_getD]
    rw [List.getElem?_take_of_lt (by omega), List.getElem?_drop]
  · rw [if_neg c, if_neg c]

section
variable {w : World} {B : Nat} {dn : Int} {sv : Value} {d : Id}

theorem take_off (h : IAt w B dn sv d) (hd : Dn d dn) (k : d.Ok) (ho : d.off = true) (x : Value) : Calls Try.prog 21 #[.pointer (some ⟨B, 0, none⟩), x] w fun e w' => e = .returned (.tuple #[]) ∧ DOut w B sv d w' := by
  have HO : Hid _ := isOther_any h k
  rw [ho] at HO
  have H : Hid (DOut w B sv d w) := (h.ok hd).out
  clear h k ho hd
  go_enter Try.func21, Try.ntmps21
  go_wp2_with fail
  refine Calls.mono HO.out ?_; rintro e w1 ⟨rfl, hw⟩; replace hw := hw.symm; subst hw
  go_wp2
  refine bodyPost_ret (results_none rfl _ _ _) rfl ?_
  exact ⟨rfl, H.out⟩

set_option maxHeartbeats 2000000 in
theorem take_on (h : IAt w B dn sv d) (hd : Dn d dn) (k : d.Ok) (ho : d.off = false) (q o L c : Nat) (l : List Int) (hl : l.length = L) (hc : L ≤ c) (hL : L ≤ 4) (hb : ∀ j, j < L → w.cell? ⟨q, o + j, none⟩ = some (.int .u8 (l.getD j 0))) (hby : ∀ b ∈ l, byt b) (hq : ¬ foot B sv q) (hw : d.work + L < 9007199254740992) : Calls Try.prog 21 #[.pointer (some ⟨B, 0, none⟩), .slice (some ⟨q, o, none⟩) L c] w fun e w' => e = .returned (.tuple #[]) ∧ DOut w B sv (d.putL l) w' := by
  have HO : Hid _ := isOther_any h k
  rw [ho] at HO
  have H0 : Hid (DOut w B sv d w) := (h.ok hd).out
  have hBt : Hid (∀ j, j < L → w.cell? ⟨q, o + j, none⟩ = some (.int .u8 (l.getD j 0))) := hb
  have hBy : Hid (∀ b ∈ l, byt b) := hby
  have hLn : Hid (l.length = L) := hl
  have hWk : Hid (d.work + L < 9007199254740992) := hw
  have hK : Hid d.Ok := k
  clear h k ho hd hb hby hl hw
  go_enter Try.func21, Try.ntmps21
  go_wp2_with fail
  refine Calls.mono HO.out ?_; rintro e w1 ⟨rfl, hw⟩; replace hw := hw.symm; subst hw
  go_wp2
  go_loopw [1] (fun sl wr => ∃ m : Nat, m ≤ L ∧ (∃ p c', sl = .slice p (L - m) c' ∧ (m < L → p = some ⟨q, o + m, none⟩ ∧ L - m ≤ c')) ∧ DOut w B sv (d.putL (l.take m)) wr) (fun sl _ => slLen sl)
  case atStart => exact ⟨0, Nat.zero_le _, ⟨_, c, rfl, fun _ => ⟨rfl, hc⟩⟩, H0.out⟩
  case round =>
    clear H0 HO
    obtain ⟨m, hm, ⟨p, c', rfl, hp⟩, HD0⟩ := hrel
    have HD : Hid (DOut w B sv (d.putL (l.take m)) wr) := HD0
    clear HD0
    by_cases hmL : m < L
    · obtain ⟨rfl, hc'⟩ := hp hmL
      obtain ⟨u, hu⟩ : ∃ u, u = d.putL (l.take m) := ⟨_, rfl⟩
      have HU : Hid (u = d.putL (l.take m)) := hu
      obtain ⟨dn1, sv1, h1, hd1, hf1, k1⟩ := HD.out
      rw [← hu] at h1 hd1
      have ku : u.Ok := by rw [hu]; exact putL_ok _ _ hK.out (fun b hb => hBy.out b (List.mem_of_mem_take hb))
      have wu : u.work ≤ d.work + m := by
        rw [hu]
        have := putL_work (l.take m) d hK.out (fun b hb => hBy.out b (List.mem_of_mem_take hb))
        rw [List.length_take] at this
        omega
      clear hu
      have cg := h1.cgo
      by_cases hmode : u.mode = 2
      · rw [hmode, show goV 2 = 3 from rfl] at cg
        have hdn : dn1 = u.don := hd1 (by rw [hmode]; decide)
        subst hdn
        have cd := h1.cdn
        have x1 := ku.don
        obtain ⟨x, hx⟩ : ∃ x, x = u.don := ⟨_, rfl⟩
        obtain ⟨n, hn⟩ : ∃ n : Nat, n = Nat.min (L - m) (512 - x) := ⟨_, rfl⟩
        have n0 : 1 ≤ n := by rw [hn]; exact Nat.le_min.2 ⟨by omega, by omega⟩
        have n1 : n ≤ L - m := by rw [hn]; exact Nat.min_le_left _ _
        have n3 : n ≤ 512 - x := by rw [hn]; exact Nat.min_le_right _ _
        have n2 : x + n ≤ 512 := by omega
        have hsl : ∀ w, _ := fun w => run_buf w B 32778 x (by omega)
        have hD := h1.raw.kept (w' := wr.drew) (Kp.refl noB _).drew id (fun _ _ => id)
        obtain ⟨cur, hb, hs, hcc⟩ := hD.blk
        obtain ⟨w2, hcp, ⟨cur2, hh2, hl2⟩, hk2⟩ := copy_any wr.drew B (32778 + x) (512 - x) (512 - x) q (o + m) (L - m) c' n hn cur _ hb (by omega) (fun j => l.getD (m + j) 0) (fun j hj => by
          have := cell_kept (hBt.out (m + j) (by omega)) k1.drew hq
          rw [Nat.add_assoc]
          exact this)
        have r2 := hD.laybuf (o := x) hb hh2 (by omega) hl2 hk2
        have cd2 : w2.cell? ⟨B, 33290, none⟩ = some (.int .i64 u.don) := r2.blk.cell 33290 (by decide)
        have z2 := r2.blk.fz 33290
        have r3 := r2.setdn ((x : Int) + n)
        rw [lay_same u.buf x n l m (by have := hLn.out; omega)] at r3
        have FL : Hid _ := h1.fl
        have K3 : Hid (Kp (foot B sv) w (w2.setCell ⟨B, 33290, none⟩ (.int .i64 ((x : Int) + n)))) := k1.over ((Kp.refl (isB B) _).drew.trans (hk2.trans (kpB B _ _ _))) (fun j _ e => .inl e)
        have F1 : Hid (∀ k, foot B sv1 k → foot B sv k ∨ w.heap.size ≤ k) := hf1
        have hst : d.putL (l.take (m + n)) = u.putL ((l.drop m).take n) := by rw [putL_take, HU.out]
        have hll : ((l.drop m).take n).length = n := by have := hLn.out; rw [List.length_take, List.length_drop]; omega
        rw [← hx] at cd cd2
        by_cases hfull : x + n = 512
        · have t1 : (((x : Int) + n) == 512) = true := by rw [beq_iff_eq]; omega
          have hpf := putL_full ((l.drop m).take n) u hmode (by rw [hll, ← hx]; exact hfull) (by intro e; rw [e] at hll; simp at hll; omega)
          rw [← hx] at hpf
          have h3 : IAt (w2.setCell ⟨B, 33290, none⟩ (.int .i64 ((x : Int) + n))) B ((x : Int) + n) sv1 { u with buf := layL u.buf x ((l.drop m).take n), don := 0 } := r3.id _ rfl rfl rfl rfl rfl rfl rfl FL.out
          have k3 : Id.Ok { u with buf := layL u.buf x ((l.drop m).take n), don := 0 } := by
            refine { ku with buf := fun i hi => ?_, don := by show 0 < 512; decide }
            show byt (layL _ _ _ i)
            unfold layL
            split
            · rw [List.getD_eq_getElem?_getD]
              rename_i hci
              rw [List.getElem?_eq_getElem (by omega)]
              exact hBy.out _ (List.mem_of_mem_drop (List.mem_of_mem_take (List.getElem_mem _)))
            · exact ku.buf i hi
          have wl : u.log.length < 17592186044416 := by have := work_log u; have := hWk.out; omega
          have HW : Hid (Calls Try.prog 30 #[.pointer (some ⟨B, 0, none⟩)] (w2.setCell ⟨B, 33290, none⟩ (.int .i64 ((x : Int) + n))) fun e w' => e = .returned (.tuple #[]) ∧ DOut (w2.setCell ⟨B, 33290, none⟩ (.int .i64 ((x : Int) + n))) B sv1 (d.putL (l.take (m + n))) w') := by
            rw [hst, hpf]
            cases ht : u.there
            · rw [if_neg (by decide)]
              exact write_no h3 k3 ht
            · rw [if_pos rfl]
              exact write_ok h3 k3 ht hmode wl
          clear h3 k3 hpf hst hll r3 r2 hD hb hs hcc hh2 hl2 hk2 h1 hd1 hf1 k1 ku wu wl HD hx hn FL
          go_wp2
          go_region
          go_wp2_with fail
          all_goals
            refine Calls.mono HW.out ?_; rintro e w4 ⟨rfl, h4⟩
            have H4 : Hid (DOut w B sv (d.putL (l.take (m + n))) w4) := DOut.then F1.out K3.out h4
            clear h4 HW F1 K3 hcp
            go_wp2
            go_roundw
            case rel =>
              refine ⟨m + n, by omega, ⟨_, _, by congr 1; omega, fun hlt => ?_⟩, H4.out⟩
              first | (exfalso; omega) | (rw [if_neg (by omega)]; exact ⟨by congr 2; omega, by omega⟩) | exact ⟨by congr 2; omega, by omega⟩
            case measure => simp [slLen]; omega
        · have t1 : (((x : Int) + n) == 512) = false := by rw [beq_eq_false_iff_ne]; omega
          have hpf := putL_few ((l.drop m).take n) u hmode (by rw [hll, ← hx]; omega)
          rw [hll, ← hx] at hpf
          have H4 : Hid (DOut w B sv (d.putL (l.take (m + n))) (w2.setCell ⟨B, 33290, none⟩ (.int .i64 ((x : Int) + n)))) := by
            show DOut _ _ _ _ _
            rw [hst, hpf]
            refine ⟨_, sv1, r3.id _ rfl rfl rfl rfl rfl rfl rfl FL.out, fun _ => ?_, F1.out, K3.out⟩
            show (x : Int) + n = ((x + n : Nat) : Int)
            omega
          clear hpf hst hll r3 r2 hD hb hs hcc hh2 hl2 hk2 h1 hd1 hf1 k1 ku wu HD hx hn FL F1 K3
          go_wp2
          go_region
          go_wp2
          all_goals
            go_roundw
            case rel =>
              refine ⟨m + n, by omega, ⟨_, _, by congr 1; omega, fun hlt => ?_⟩, H4.out⟩
              first | (exfalso; omega) | (rw [if_neg (by omega)]; exact ⟨by congr 2; omega, by omega⟩) | exact ⟨by congr 2; omega, by omega⟩
            case measure => simp [slLen]; omega
      · have t1 : (goV u.mode == 3) = false := by
          rw [beq_eq_false_iff_ne]
          rcases ku.mode with e | e | e | e <;> rw [e] <;> first | decide | exact absurd e hmode
        have H : Hid (DOut w B sv (d.putL l) wr) := by
          show DOut _ _ _ _ _
          have e1 : l = l.take (m + (L - m)) := by rw [List.take_of_length_le]; have := hLn.out; omega
          rw [e1, putL_take, ← HU.out, putL_idle u hmode, HU.out]
          exact HD.out
        clear h1 hd1 hf1 k1 ku wu HD HU hmode
        go_wp2
        go_end0
        exact ⟨rfl, H.out⟩
    · have e : m = L := by omega
      subst e
      have H : Hid (DOut w B sv (d.putL l) wr) := by
        show DOut _ _ _ _ _
        have e1 : l = l.take m := by rw [List.take_of_length_le]; have := hLn.out; omega
        rw [e1]
        exact HD.out
      clear hp HD
      go_wp2
      go_end0
      exact ⟨rfl, H.out⟩
end
end Go.Proofs.Ytddalplpmgmplaa
