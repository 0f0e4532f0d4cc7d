/- The bus and its devices: IdTake, IdGive, IdOps, IdOps2, IdNew, IdW. -/
import Derived.Test.YtonfjhbfkichkaaGreatBz12
import Derived.Laws.MakeOwn
import Derived.Laws.IdiomCopy
namespace Go.Proofs.YtonfjhbfkichkaaGreat.Dk
open Go.ChangeShapes Go.WideShapes Go.ChangeAt Go.RowKit
set_option linter.unusedVariables false
set_option maxRecDepth 20000
def slLen : Value → Nat
 | .slice _ n _ => n
 | _ => 0
theorem cell_below {w : World} {b o : Nat} {v : Value} (h : w.cell? ⟨b, o, none⟩ = some v) : b < w.heap.size := by
 by_cases e : b < w.heap.size
 ·exact e
 ·have : w.heap[b]? = none := Array.getElem?_eq_none (by omega)
  simp [World.cell?, this] at h
theorem cell_kept {S : Nat → Prop} {w w' : World} {b o : Nat} {v : Value} (h : w.cell? ⟨b, o, none⟩ = some v) (k : Kp S w w') (hS : ¬ S b) : w'.cell? ⟨b, o, none⟩ = some v := by
 have := k.block b (cell_below h) hS
 unfold World.cell? at h ⊢
 simpa only [this] using h
theorem lay_same (f : Nat → Int) (x n : Nat) (l : List Int) (m : Nat) (hn : m + n ≤ l.length) : layB f x n (fun j => l.getD (m + j) 0) = layL f x ((l.drop m).take n) := by
 have e : ((l.drop m).take n).length = n := by rw [List.length_take, List.length_drop]; omega
 funext i
 unfold layB layL
 rw [e]
 by_cases c : x ≤ i ∧ i < x + n
 ·rw [if_pos c, if_pos c]
  simp only [List.getD_eq_getElem?_getD]
  rw [List.getElem?_take_of_lt (by omega), List.getElem?_drop]
 ·rw [if_neg c, if_neg c]
section
variable {w : World} {B : Nat} {dn : Int} {sv : Value} {d : Id}
theorem take_off (h : IAt w B dn sv d) (hd : Dn d dn) (k : d.Ok) (ho : d.off = true) (x : Value) : Calls Tryz.prog 96 #[.pointer (some ⟨B, 0, none⟩), x] w fun e w' => e = .returned (.tuple #[]) ∧ DOut w B sv d w' := by
 have HO : Hid _ := isOther_any h k
 rw [ho] at HO
 have H : Hid (DOut w B sv d w) := (h.ok hd).out
 clear h k ho hd
 go_enter Tryz.func96, Tryz.ntmps96
 go_wp2_with fail
 refine Calls.mono HO.out ?_; rintro e w1 ⟨rfl, hw⟩; replace hw := hw.symm; subst hw
 go_wp2
 refine bodyPost_ret (results_none rfl _ _ _) rfl ?_
 exact ⟨rfl, H.out⟩
set_option maxHeartbeats 2000000 in
theorem take_on (h : IAt w B dn sv d) (hd : Dn d dn) (k : d.Ok) (ho : d.off = false) (q o L c : Nat) (l : List Int) (hl : l.length = L) (hc : L ≤ c) (hL : L ≤ 4) (hb : ∀ j, j < L → w.cell? ⟨q, o + j, none⟩ = some (.int .u8 (l.getD j 0))) (hby : ∀ b ∈ l, byt b) (hq : ¬ foot B sv q) (hw : d.work + L < 9007199254740992) : Calls Tryz.prog 96 #[.pointer (some ⟨B, 0, none⟩), .slice (some ⟨q, o, none⟩) L c] w fun e w' => e = .returned (.tuple #[]) ∧ DOut w B sv (d.putL l) w' := by
 have HO : Hid _ := isOther_any h k
 rw [ho] at HO
 have H0 : Hid (DOut w B sv d w) := (h.ok hd).out
 have hBt : Hid (∀ j, j < L → w.cell? ⟨q, o + j, none⟩ = some (.int .u8 (l.getD j 0))) := hb
 have hBy : Hid (∀ b ∈ l, byt b) := hby
 have hLn : Hid (l.length = L) := hl
 have hWk : Hid (d.work + L < 9007199254740992) := hw
 have hK : Hid d.Ok := k
 clear h k ho hd hb hby hl hw
 go_enter Tryz.func96, Tryz.ntmps96
 go_wp2_with fail
 refine Calls.mono HO.out ?_; rintro e w1 ⟨rfl, hw⟩; replace hw := hw.symm; subst hw
 go_wp2
 go_loopw [1] (fun sl wr => ∃ m : Nat, m ≤ L ∧ (∃ p c', sl = .slice p (L - m) c' ∧ (m < L → p = some ⟨q, o + m, none⟩ ∧ L - m ≤ c')) ∧ DOut w B sv (d.putL (l.take m)) wr) (fun sl _ => slLen sl)
 case atStart => exact ⟨0, Nat.zero_le _, ⟨_, c, rfl, fun _ => ⟨rfl, hc⟩⟩, H0.out⟩
 case round =>
  clear H0 HO
  obtain ⟨m, hm, ⟨p, c', rfl, hp⟩, HD0⟩ := hrel
  have HD : Hid (DOut w B sv (d.putL (l.take m)) wr) := HD0
  clear HD0
  by_cases hmL : m < L
  ·obtain ⟨rfl, hc'⟩ := hp hmL
   obtain ⟨u, hu⟩ : ∃ u, u = d.putL (l.take m) := ⟨_, rfl⟩
   have HU : Hid (u = d.putL (l.take m)) := hu
   obtain ⟨dn1, sv1, h1, hd1, hf1, k1⟩ := HD.out
   rw [← hu] at h1 hd1
   have ku : u.Ok := by rw [hu]; exact putL_ok _ _ hK.out (fun b hb => hBy.out b (List.mem_of_mem_take hb))
   have wu : u.work ≤ d.work + m := by
    rw [hu]
    have := putL_work (l.take m) d hK.out (fun b hb => hBy.out b (List.mem_of_mem_take hb))
    rw [List.length_take] at this
    omega
   clear hu
   have cg := h1.cgo
   by_cases hmode : u.mode = 2
   ·rw [hmode, show goV 2 = 3 from rfl] at cg
    have hdn : dn1 = u.don := hd1 (by rw [hmode]; decide)
    subst hdn
    have cd := h1.cdn
    have x1 := ku.don
    obtain ⟨x, hx⟩ : ∃ x, x = u.don := ⟨_, rfl⟩
    obtain ⟨n, hn⟩ : ∃ n : Nat, n = Nat.min (L - m) (512 - x) := ⟨_, rfl⟩
    have n0 : 1 ≤ n := by rw [hn]; exact Nat.le_min.2 ⟨by omega, by omega⟩
    have n1 : n ≤ L - m := by rw [hn]; exact Nat.min_le_left _ _
    have n3 : n ≤ 512 - x := by rw [hn]; exact Nat.min_le_right _ _
    have n2 : x + n ≤ 512 := by omega
    have hsl : ∀ w, _ := fun w => run_buf w B 32778 x (by omega)
    have hD := h1.raw.kept (w' := wr.drew) (Kp.refl noB _).drew id (fun _ _ => id)
    obtain ⟨cur, hb, hs, hcc⟩ := hD.blk
    obtain ⟨w2, hcp, ⟨cur2, hh2, hl2⟩, hk2⟩ := copy_any wr.drew B (32778 + x) (512 - x) (512 - x) q (o + m) (L - m) c' n hn cur _ hb (by omega) (fun j => l.getD (m + j) 0) (fun j hj => by
     have := cell_kept (hBt.out (m + j) (by omega)) k1.drew hq
     rw [Nat.add_assoc]
     exact this)
    have r2 := hD.laybuf (o := x) hb hh2 (by omega) hl2 hk2
    have cd2 : w2.cell? ⟨B, 33290, none⟩ = some (.int .i64 u.don) := r2.blk.cell 33290 (by decide)
    have z2 := r2.blk.fz 33290
    have r3 := r2.setdn ((x : Int) + n)
    rw [lay_same u.buf x n l m (by have := hLn.out; omega)] at r3
    have FL : Hid _ := h1.fl
    have K3 : Hid (Kp (foot B sv) w (w2.setCell ⟨B, 33290, none⟩ (.int .i64 ((x : Int) + n)))) := k1.over ((Kp.refl (isB B) _).drew.trans (hk2.trans (kpB B _ _ _))) (fun j _ e => .inl e)
    have F1 : Hid (∀ k, foot B sv1 k → foot B sv k ∨ w.heap.size ≤ k) := hf1
    have hst : d.putL (l.take (m + n)) = u.putL ((l.drop m).take n) := by rw [putL_take, HU.out]
    have hll : ((l.drop m).take n).length = n := by have := hLn.out; rw [List.length_take, List.length_drop]; omega
    rw [← hx] at cd cd2
    by_cases hfull : x + n = 512
    ·have t1 : (((x : Int) + n) == 512) = true := by rw [beq_iff_eq]; omega
     have hpf := putL_full ((l.drop m).take n) u hmode (by rw [hll, ← hx]; exact hfull) (by intro e; rw [e] at hll; simp at hll; omega)
     rw [← hx] at hpf
     have h3 : IAt (w2.setCell ⟨B, 33290, none⟩ (.int .i64 ((x : Int) + n))) B ((x : Int) + n) sv1 { u with buf := layL u.buf x ((l.drop m).take n), don := 0 } := r3.id _ rfl rfl rfl rfl rfl rfl rfl FL.out
     have k3 : Id.Ok { u with buf := layL u.buf x ((l.drop m).take n), don := 0 } := by
      refine { ku with buf := fun i hi => ?_, don := by show 0 < 512; decide }
      show byt (layL _ _ _ i)
      unfold layL
      split
      ·rw [List.getD_eq_getElem?_getD]
       rename_i hci
       rw [List.getElem?_eq_getElem (by omega)]
       exact hBy.out _ (List.mem_of_mem_drop (List.mem_of_mem_take (List.getElem_mem _)))
      ·exact ku.buf i hi
     have wl : u.log.length < 17592186044416 := by have := work_log u; have := hWk.out; omega
     have HW : Hid (Calls Tryz.prog 137 #[.pointer (some ⟨B, 0, none⟩)] (w2.setCell ⟨B, 33290, none⟩ (.int .i64 ((x : Int) + n))) fun e w' => e = .returned (.tuple #[]) ∧ DOut (w2.setCell ⟨B, 33290, none⟩ (.int .i64 ((x : Int) + n))) B sv1 (d.putL (l.take (m + n))) w') := by
      rw [hst, hpf]
      cases ht : u.there
      ·rw [if_neg (by decide)]
       exact write_no h3 k3 ht
      ·rw [if_pos rfl]
       exact write_ok h3 k3 ht hmode wl
     clear h3 k3 hpf hst hll r3 r2 hD hb hs hcc hh2 hl2 hk2 h1 hd1 hf1 k1 ku wu wl HD hx hn FL
     go_wp2
     go_region
     go_wp2_with fail
     all_goals
      refine Calls.mono HW.out ?_; rintro e w4 ⟨rfl, h4⟩
      have H4 : Hid (DOut w B sv (d.putL (l.take (m + n))) w4) := DOut.then F1.out K3.out h4
      clear h4 HW F1 K3 hcp
      go_wp2
      go_roundw
      case rel =>
       refine ⟨m + n, by omega, ⟨_, _, by congr 1; omega, fun hlt => ?_⟩, H4.out⟩
       first | (exfalso; omega) | (rw [if_neg (by omega)]; exact ⟨by congr 2; omega, by omega⟩) | exact ⟨by congr 2; omega, by omega⟩
      case measure => simp [slLen]; omega
    ·have t1 : (((x : Int) + n) == 512) = false := by rw [beq_eq_false_iff_ne]; omega
     have hpf := putL_few ((l.drop m).take n) u hmode (by rw [hll, ← hx]; omega)
     rw [hll, ← hx] at hpf
     have H4 : Hid (DOut w B sv (d.putL (l.take (m + n))) (w2.setCell ⟨B, 33290, none⟩ (.int .i64 ((x : Int) + n)))) := by
      show DOut _ _ _ _ _
      rw [hst, hpf]
      refine ⟨_, sv1, r3.id _ rfl rfl rfl rfl rfl rfl rfl FL.out, fun _ => ?_, F1.out, K3.out⟩
      show (x : Int) + n = ((x + n : Nat) : Int)
      omega
     clear hpf hst hll r3 r2 hD hb hs hcc hh2 hl2 hk2 h1 hd1 hf1 k1 ku wu HD hx hn FL F1 K3
     go_wp2
     go_region
     go_wp2
     all_goals
      go_roundw
      case rel =>
       refine ⟨m + n, by omega, ⟨_, _, by congr 1; omega, fun hlt => ?_⟩, H4.out⟩
       first | (exfalso; omega) | (rw [if_neg (by omega)]; exact ⟨by congr 2; omega, by omega⟩) | exact ⟨by congr 2; omega, by omega⟩
      case measure => simp [slLen]; omega
   ·have t1 : (goV u.mode == 3) = false := by
     rw [beq_eq_false_iff_ne]
     rcases ku.mode with e | e | e | e <;> rw [e] <;> first | decide | exact absurd e hmode
    have H : Hid (DOut w B sv (d.putL l) wr) := by
     show DOut _ _ _ _ _
     have e1 : l = l.take (m + (L - m)) := by rw [List.take_of_length_le]; have := hLn.out; omega
     rw [e1, putL_take, ← HU.out, putL_idle u hmode, HU.out]
     exact HD.out
    clear h1 hd1 hf1 k1 ku wu HD HU hmode
    go_wp2
    go_end0
    exact ⟨rfl, H.out⟩
  ·have e : m = L := by omega
   subst e
   have H : Hid (DOut w B sv (d.putL l) wr) := by
    show DOut _ _ _ _ _
    have e1 : l = l.take m := by rw [List.take_of_length_le]; have := hLn.out; omega
    rw [e1]
    exact HD.out
   clear hp HD
   go_wp2
   go_end0
   exact ⟨rfl, H.out⟩
end
def GSt (w : World) (B : Nat) (sv : Value) (d : Id) (q o : Nat) (cur : Array Value) (t : TypeId) (m : Nat) (w' : World) : Prop :=
 ∃ dn', IAt w' B dn' sv (d.gets m) ∧ Dn (d.gets m) dn' ∧ (∃ cur', w'.heap[q]? = some (.cells cur' t (0, 0)) ∧ Laid cur cur' o m (fun j => .int .u8 (d.gets j).getV)) ∧ Kp (fun k => k = B ∨ k = q) w w'
section
variable {w : World} {B : Nat} {dn : Int} {sv : Value} {d : Id}
set_option maxHeartbeats 2000000 in
theorem give_ok (h : IAt w B dn sv d) (hd : Dn d dn) (k : d.Ok) (q o L c : Nat) (cur : Array Value) (t : TypeId) (hq : w.heap[q]? = some (.cells cur t (0, 0))) (ho : o + L ≤ cur.size) (hc : L ≤ c) (hL : L ≤ 4) (hqB : q ≠ B) (hqs : sv.ownBlock ≠ some q) :
  Calls Tryz.prog 100 #[.pointer (some ⟨B, 0, none⟩), .slice (some ⟨q, o, none⟩) L c] w fun e w' => e = .returned (.tuple #[]) ∧ GSt w B sv d q o cur t L w' := by
 have H0 : Hid (GSt w B sv d q o cur t 0 w) := ⟨dn, h, hd, ⟨cur, hq, Laid.none _ _ _⟩, Kp.refl _ _⟩
 have hK : Hid d.Ok := k
 clear h k hd hq
 go_enter Tryz.func100, Tryz.ntmps100
 go_wp2
 go_loopw [1] (fun sl wr => ∃ m : Nat, m ≤ L ∧ (∃ p c', sl = .slice p (L - m) c' ∧ (m < L → p = some ⟨q, o + m, none⟩ ∧ L - m ≤ c')) ∧ GSt w B sv d q o cur t m wr) (fun sl _ => slLen sl)
 case atStart => exact ⟨0, Nat.zero_le _, ⟨_, c, rfl, fun _ => ⟨rfl, hc⟩⟩, H0.out⟩
 case round =>
  clear H0
  obtain ⟨m, hm, ⟨p, c', rfl, hp⟩, HD0⟩ := hrel
  have HD : Hid (GSt w B sv d q o cur t m wr) := HD0
  clear HD0
  by_cases hgo : m < L ∧ ((d.gets m).mode = 1 ∨ (d.gets m).mode = 3)
  ·obtain ⟨hmL, hmode⟩ := hgo
   obtain ⟨rfl, hc'⟩ := hp hmL
   obtain ⟨u, hu⟩ : ∃ u, u = d.gets m := ⟨_, rfl⟩
   have HU : Hid (u = d.gets m) := hu
   obtain ⟨dn1, h1, hd1, ⟨cur1, hq1, hl1⟩, k1⟩ := HD.out
   rw [← hu] at h1 hd1 hmode
   have ku : u.Ok := by rw [hu]; exact hK.out.gets m
   clear hu
   have hdn : dn1 = u.don := hd1 (by omega)
   subst hdn
   have x1 := ku.don
   have cd := h1.cdn
   have cg := h1.cgo
   obtain ⟨x, hx⟩ : ∃ x, x = u.don := ⟨_, rfl⟩
   obtain ⟨n, hn⟩ : ∃ n : Nat, n = Nat.min (512 - x) (L - m) := ⟨_, rfl⟩
   have n0 : 1 ≤ n := by rw [hn]; exact Nat.le_min.2 ⟨by omega, by omega⟩
   have n1 : n ≤ L - m := by rw [hn]; exact Nat.min_le_right _ _
   have n3 : n ≤ 512 - x := by rw [hn]; exact Nat.min_le_left _ _
   have n2 : x + n ≤ 512 := by omega
   have hsl : ∀ w, _ := fun w => run_buf w B 32778 x (by omega)
   have hD := h1.keep (w' := wr.drew) (Kp.refl noB _).drew
   have hqD : wr.drew.heap[q]? = some (.cells cur1 t (0, 0)) := hq1
   have hsz := hl1.1
   obtain ⟨w2, hcp, ⟨cur2, hh2, hl2⟩, hk2⟩ := copy_any wr.drew q (o + m) (L - m) c' B (32778 + x) (512 - x) (512 - x) n hn cur1 t hqD (by omega) (fun j => u.buf (x + j)) (fun j hj => by
    rw [Nat.add_assoc]
    exact hD.cb (x + j) (by omega))
   have h2 : IAt w2 B u.don sv u := hD.kept hk2 (fun e => hqB e.symm) (fun g e (e' : g = q) => hqs (e' ▸ e))
   have hlF := hl1.then hl2 (fun j hj => by
    show Value.int .u8 _ = Value.int .u8 _
    rw [gets_add, ← HU.out, gets_getV u hmode j (by omega), hx])
   have cd2 : w2.cell? ⟨B, 33290, none⟩ = some (.int .i64 u.don) := h2.cdn
   have z2 := h2.fz 33290
   have r3 := h2.raw.setdn ((x : Int) + n)
   have FL : Hid _ := h2.fl
   have hh3 : (w2.setCell ⟨B, 33290, none⟩ (.int .i64 ((x : Int) + n))).heap[q]? = some (.cells cur2 t (0, 0)) := heap_kept hh2 (kpB B _ _ _) hqB
   have K3 : Kp (fun k => k = B ∨ k = q) w (w2.setCell ⟨B, 33290, none⟩ (.int .i64 ((x : Int) + n))) := (k1.drew.over hk2 (fun j _ e => .inr e)).over (kpB B _ _ _) (fun j _ e => .inl e)
   have hst : d.gets (m + n) = u.gets n := by rw [gets_add, HU.out]
   rw [← hx] at cd cd2
   by_cases hfull : x + n = 512
   ·have t1 : (((x : Int) + n) == 512) = true := by rw [beq_iff_eq]; omega
    have hpf := gets_full u hmode n (by rw [← hx]; exact hfull) (by omega)
    have h3 : IAt (w2.setCell ⟨B, 33290, none⟩ (.int .i64 ((x : Int) + n))) B ((x : Int) + n) sv { u with don := 0 } := r3.id _ rfl rfl rfl rfl rfl rfl rfl FL.out
    have k3 : Id.Ok { u with don := 0 } := { ku with don := by show 0 < 512; decide }
    have HW : Hid (Calls Tryz.prog 141 #[.pointer (some ⟨B, 0, none⟩)] (w2.setCell ⟨B, 33290, none⟩ (.int .i64 ((x : Int) + n))) fun e w' => e = .returned (.tuple #[]) ∧ DOk (w2.setCell ⟨B, 33290, none⟩ (.int .i64 ((x : Int) + n))) B sv (d.gets (m + n)) w') := by
     rw [hst, hpf]
     by_cases ht : u.mode = 3
     ·rw [if_pos ht]
      exact endRead_ec h3 ht
     ·rw [if_neg ht]
      exact endRead_read h3 k3 (by show u.mode = 1; omega)
    have F : Hid (∀ w4, DOk (w2.setCell ⟨B, 33290, none⟩ (.int .i64 ((x : Int) + n))) B sv (d.gets (m + n)) w4 → GSt w B sv d q o cur t (m + n) w4) := by
     rintro w4 ⟨dn4, h4, d4, k4⟩
     exact ⟨dn4, h4, d4, ⟨cur2, heap_kept hh3 k4 hqB, hlF⟩, K3.over k4 (fun j _ e => .inl e)⟩
    have cg' : goV u.mode = 1 ∨ goV u.mode = 2 := by rcases hmode with e | e <;> rw [e] <;> decide
    clear h3 k3 hpf hst r3 hD hqD hsz h2 h1 hd1 k1 ku HD hx hn FL hlF hh2 hl2 hk2 hh3 K3 hq1 hl1 HU hmode
    rcases cg' with e | e
    all_goals
     rw [e] at cg
     clear e
     go_wp2
     go_region
     go_wp2_with fail
     all_goals
      refine Calls.mono HW.out ?_; rintro e w4 ⟨rfl, h4⟩
      have H4 : Hid (GSt w B sv d q o cur t (m + n) w4) := F.out w4 h4
      clear h4 HW F hcp
      go_wp2
      go_roundw
      case rel =>
       refine ⟨m + n, by omega, ⟨_, _, by congr 1; omega, fun hlt => ?_⟩, H4.out⟩
       first | (exfalso; omega) | (rw [if_neg (by omega)]; exact ⟨by congr 2; omega, by omega⟩) | exact ⟨by congr 2; omega, by omega⟩
      case measure => simp [slLen]; omega
   ·have t1 : (((x : Int) + n) == 512) = false := by rw [beq_eq_false_iff_ne]; omega
    have hpf := gets_few u hmode n (by rw [← hx]; omega)
    rw [← hx] at hpf
    have H4 : Hid (GSt w B sv d q o cur t (m + n) (w2.setCell ⟨B, 33290, none⟩ (.int .i64 ((x : Int) + n)))) := by
     refine ⟨(x : Int) + n, ?_, ?_, ⟨cur2, hh3, hlF⟩, K3⟩
     ·rw [hst, hpf]
      exact r3.id _ rfl rfl rfl rfl rfl rfl rfl FL.out
     ·rw [hst, hpf]
      intro _
      show (x : Int) + n = ((x + n : Nat) : Int)
      omega
    have cg' : goV u.mode = 1 ∨ goV u.mode = 2 := by rcases hmode with e | e <;> rw [e] <;> decide
    clear hpf hst r3 hD hqD hsz h2 h1 hd1 k1 ku HD hx hn FL hlF hh2 hl2 hk2 hh3 K3 hq1 hl1 HU hmode
    rcases cg' with e | e
    all_goals
     rw [e] at cg
     clear e
     go_wp2
     go_region
     go_wp2
     all_goals
      go_roundw
      case rel =>
       refine ⟨m + n, by omega, ⟨_, _, by congr 1; omega, fun hlt => ?_⟩, H4.out⟩
       first | (exfalso; omega) | (rw [if_neg (by omega)]; exact ⟨by congr 2; omega, by omega⟩) | exact ⟨by congr 2; omega, by omega⟩
      case measure => simp [slLen]; omega
  ·have hidle : m = L ∨ ¬ ((d.gets m).mode = 1 ∨ (d.gets m).mode = 3) := by
    by_cases e : m = L
    ·exact .inl e
    ·exact .inr (fun g => hgo ⟨by omega, g⟩)
   have F : Hid (∀ k, m + k < L → (d.gets (m + k)).getV = 255 ∧ d.gets (m + k) = d.gets m) := fun k hk => by
    have g := hidle.resolve_left (by omega)
    rw [gets_add, gets_idle _ g]
    exact ⟨getV_idle _ g, rfl⟩
   have FE : Hid (d.gets L = d.gets m) := by
    show _ = _
    rcases hidle with e | g
    ·rw [e]
    ·rw [show L = m + (L - m) by omega, gets_add, gets_idle _ g]
   obtain ⟨dn1, h1, hd1, ⟨cur1, hq1, hl1⟩, k1⟩ := HD.out
   have cg := h1.cgo
   have cg' : m = L ∨ ((goV (d.gets m).mode == 1) = false ∧ (goV (d.gets m).mode == 2) = false) := by
    rcases hidle with e | g
    ·exact .inl e
    ·right
     rcases (hK.out.gets m).mode with e | e | e | e
     ·rw [e]; decide
     ·exact absurd (.inl e) g
     ·rw [e]; decide
     ·exact absurd (.inr e) g
   have I1 : Hid (IAt wr B dn1 sv (d.gets m) ∧ Dn (d.gets m) dn1) := ⟨h1, hd1⟩
   have Q1 : Hid (wr.heap[q]? = some (.cells cur1 t (0, 0)) ∧ Laid cur cur1 o m (fun j => .int .u8 (d.gets j).getV)) := ⟨hq1, hl1⟩
   have K1 : Hid (Kp (fun k => k = B ∨ k = q) w wr) := k1
   clear HD h1 hd1 hq1 hl1 k1 hgo hidle
   generalize goV (d.gets m).mode = g at *
   by_cases e : m = L
   ·subst e
    clear hp cg'
    go_wp2
    go_loopw [53] (fun s wr' => s = .int .i64 0 ∧ wr' = wr) (fun _ _ => 0)
    case atStart => exact ⟨rfl, rfl⟩
    case round =>
     obtain ⟨rfl, rfl⟩ := hrel
     go_wp2
     go_end0
     exact ⟨rfl, dn1, I1.out.1, I1.out.2, ⟨cur1, Q1.out⟩, K1.out⟩
   ·obtain ⟨g1, g2⟩ := cg'.resolve_left e
    obtain ⟨rfl, hc'⟩ := hp (by omega)
    clear cg' hp
    generalize wr = W1 at *
    go_wp2
    go_loopw [53] (fun s wr' => ∃ i : Nat, i ≤ L - m ∧ s = .int .i64 i ∧ (∃ cur2, wr'.heap[q]? = some (.cells cur2 t (0, 0)) ∧ Laid cur cur2 o (m + i) (fun j => .int .u8 (d.gets j).getV)) ∧ Kp (isB q) W1 wr') (fun s _ => L - m - (intOf s).toNat)
    case atStart => exact ⟨0, by omega, rfl, ⟨cur1, Q1.out⟩, Kp.refl _ _⟩
    case round =>
     obtain ⟨i, hi, rfl, ⟨cur2, hh, hl⟩, hkp⟩ := hrel
     by_cases hiL : i < L - m
     ·have hsz := hl.1
      have hcell : ∃ u, wr.cell? ⟨q, o + m + i, none⟩ = some u := by
       rw [cell_at hh]
       exact ⟨_, Array.getElem?_eq_getElem (by omega)⟩
      obtain ⟨u, hcell⟩ := hcell
      have hz : wr.frozen? ⟨q, o + m + i, none⟩ = false := frozen_at hh
      have hnew := heap_set (k := o + m + i) (v := .int .u8 255) hh
      have hl2 : Laid cur (cur2.setIfInBounds (o + m + i) (.int .u8 255)) o (m + (i + 1)) (fun j => .int .u8 (d.gets j).getV) := by
       have h1 := Laid.one (cur := cur2) (o := o + m + i) (by omega) (.int .u8 255)
       rw [show o + m + i = o + (m + i) by omega] at h1 ⊢
       have h2 := hl.then h1 (fun j hj => by
        have : j = 0 := by omega
        subst this
        show Value.int .u8 255 = Value.int .u8 _
        rw [Nat.add_zero, (F.out i (by omega)).1])
       exact h2
      have H : Hid (_ ∧ _ ∧ _) := ⟨hnew, hl2, hkp.trans (kpB q wr (o + m + i) (.int .u8 255))⟩
      have hlt : (i : Int) < ((L - m : Nat) : Int) := by omega
      clear hh hl hkp hnew hl2 hsz
      go_wp2
      go_roundw
      case rel => exact ⟨i + 1, by omega, by go_num, ⟨_, H.out.1, H.out.2.1⟩, H.out.2.2⟩
      case measure => simp [intOf]; omega
     ·have e2 : i = L - m := by omega
      subst e2
      rw [show m + (L - m) = L by omega] at hl
      have H : Hid (GSt w B sv d q o cur t L wr) := by
       refine ⟨dn1, ?_, ?_, ⟨cur2, hh, hl⟩, K1.out.over hkp (fun j _ e => .inr e)⟩
       ·rw [FE.out]
        exact I1.out.1.kept hkp (fun e => hqB e.symm) (fun g e (e' : g = q) => hqs (e' ▸ e))
       ·rw [FE.out]
        exact I1.out.2
      clear hh hl hkp
      go_wp2
      go_end0
      exact ⟨rfl, H.out⟩
end
section
variable {w : World} {B : Nat} {dn : Int} {sv : Value} {d : Id}
theorem chk_0 (a : Addr) (size : Int) (hs : size = 1 ∨ size = 2 ∨ size = 4) : chkV (some a) 0 size = 0 := by
 unfold chkV
 rw [if_neg (by simp), if_neg (by omega)]
theorem chk_n (a : Addr) (reg size : Int) (h0 : 0 < reg) (h9 : reg < 9) : chkV (some a) reg size = 0 := by
 unfold chkV
 rw [if_neg (by rintro (q | q | q); cases q; omega; omega), if_neg (by omega)]
theorem out_no (w : World) (x : Option Addr) (reg size v : Int) (h : chkV x reg size ≠ 0) : Calls Tryz.prog 52 #[.pointer x, .int .i64 reg, .int .i64 size, .int .u32 v] w fun e w' => e = .returned (.int .i64 (chkV x reg size)) ∧ w' = w := by
 have HC : Hid _ := check_any w x reg size
 have h1 : (chkV x reg size != 0) = true := by simpa using h
 generalize chkV x reg size = g at *
 clear h
 go_enter Tryz.func52, Tryz.ntmps52
 go_wp2_with fail
 refine Calls.mono HC.out ?_; rintro e w1 ⟨rfl, hw⟩; replace hw := hw.symm; subst hw
 go_wp2
 go_ret
 exact ⟨rfl, rfl⟩
theorem in_no (w : World) (x : Option Addr) (reg size : Int) (h : chkV x reg size ≠ 0) : Calls Tryz.prog 55 #[.pointer x, .int .i64 reg, .int .i64 size] w fun e w' => e = .returned (.tuple #[.int .u32 0, .int .i64 (chkV x reg size)]) ∧ w' = w := by
 have HC : Hid _ := check_any w x reg size
 have h1 : (chkV x reg size != 0) = true := by simpa using h
 generalize chkV x reg size = g at *
 clear h
 go_enter Tryz.func55, Tryz.ntmps55
 go_wp2_with fail
 refine Calls.mono HC.out ?_; rintro e w1 ⟨rfl, hw⟩; replace hw := hw.symm; subst hw
 go_wp2
 go_ret2
 exact ⟨rfl, rfl⟩
theorem out_set (h : IAt w B dn sv d) (hd : Dn d dn) (reg size v : Int) (j : Nat) (hj : reg = j) (j2 : 2 ≤ j) (j6 : j ≤ 6) (v0 : 0 ≤ v) (v1 : v < 4294967296) (d' : Id) (hr : d'.reg = setB d.reg j (v % 256)) (e1 : d'.log = d.log) (e2 : d'.D = d.D) (e3 : d'.n = d.n) (e4 : d'.buf = d.buf) (e5 : d'.mode = d.mode) (e6 : d'.mark = d.mark) (e7 : d'.don = d.don) (e8 : d'.failed = d.failed) (e9 : d'.r1 = d.r1) :
  Calls Tryz.prog 52 #[.pointer (some ⟨B, 0, none⟩), .int .i64 reg, .int .i64 size, .int .u32 v] w fun e w' => e = .returned (.int .i64 0) ∧ DOut w B sv d' w' := by
 have HC : Hid _ := check_any w (some ⟨B, 0, none⟩) reg size
 rw [chk_n _ reg size (by omega) (by omega)] at HC
 have H : Hid (DOut w B sv d' (w.setCell ⟨B, 32769 + j, none⟩ (.int .u8 (v % 256)))) := by
  refine ⟨dn, sv, (h.raw.setR j (by omega) _ rfl (v % 256)).id d' e1.symm e2.symm e3.symm hr.symm e4.symm (by rw [e5]) e6.symm (by rw [e8, e9]; exact h.fl), ?_, fun _ g => .inl g, (kpB B _ _ _).foot⟩
  intro q
  rw [e7]
  exact hd (by rw [← e5]; exact q)
 have cc := h.cr j (by omega)
 have zz := h.fz (32769 + j)
 clear h hd hr e1 e2 e3 e4 e5 e6 e7 e8 e9
 subst hj
 rcases (by omega : j = 2 ∨ j = 3 ∨ j = 4 ∨ j = 5 ∨ j = 6) with rfl | rfl | rfl | rfl | rfl
 all_goals
  simp only [Nat.reduceAdd] at H cc zz
  go_enter Tryz.func52, Tryz.ntmps52
  go_wp2_with fail
  refine Calls.mono HC.out ?_; rintro e w1 ⟨rfl, hw⟩; replace hw := hw.symm; subst hw
  go_wp2
  go_ret
  exact ⟨rfl, H.out⟩
theorem out_1 (h : IAt w B dn sv d) (hd : Dn d dn) (size v : Int) : Calls Tryz.prog 52 #[.pointer (some ⟨B, 0, none⟩), .int .i64 1, .int .i64 size, .int .u32 v] w fun e w' => e = .returned (.int .i64 0) ∧ DOut w B sv d w' := by
 have HC : Hid _ := check_any w (some ⟨B, 0, none⟩) 1 size
 rw [chk_n _ 1 size (by omega) (by omega)] at HC
 have H : Hid (DOut w B sv d w) := (h.ok hd).out
 clear h hd
 go_enter Tryz.func52, Tryz.ntmps52
 go_wp2_with fail
 refine Calls.mono HC.out ?_; rintro e w1 ⟨rfl, hw⟩; replace hw := hw.symm; subst hw
 go_wp2
 go_ret
 exact ⟨rfl, H.out⟩
theorem out_7 (h : IAt w B dn sv d) (hd : Dn d dn) (k : d.Ok) (size v : Int) (v0 : 0 ≤ v) (v1 : v < 4294967296) : Calls Tryz.prog 52 #[.pointer (some ⟨B, 0, none⟩), .int .i64 7, .int .i64 size, .int .u32 v] w fun e w' => e = .returned (.int .i64 0) ∧ DOut w B sv (d.command (v % 256)) w' := by
 have HC : Hid _ := check_any w (some ⟨B, 0, none⟩) 7 size
 rw [chk_n _ 7 size (by omega) (by omega)] at HC
 have HM : Hid _ := command_ok h k hd (v % 256)
 clear h hd k
 go_enter Tryz.func52, Tryz.ntmps52
 go_wp2_with fail
 refine Calls.mono HC.out ?_; rintro e w1 ⟨rfl, hw⟩; replace hw := hw.symm; subst hw
 go_wp2_with fail
 refine Calls.mono HM.out ?_; rintro e w2 ⟨rfl, h2⟩
 have H : Hid (DOut w B sv (d.command (v % 256)) w2) := h2.out
 clear h2 HM
 go_wp2
 go_ret
 exact ⟨rfl, H.out⟩
theorem out_8 (h : IAt w B dn sv d) (hd : Dn d dn) (k : d.Ok) (size v : Int) (v0 : 0 ≤ v) (v1 : v < 4294967296) : Calls Tryz.prog 52 #[.pointer (some ⟨B, 0, none⟩), .int .i64 8, .int .i64 size, .int .u32 v] w fun e w' => e = .returned (.int .i64 0) ∧ DOut w B sv (d.ctl (v % 256)) w' := by
 have HC : Hid _ := check_any w (some ⟨B, 0, none⟩) 8 size
 rw [chk_n _ 8 size (by omega) (by omega)] at HC
 have HM : Hid _ := setControl_ok h hd (v % 256) byt_m
 clear h hd k
 go_enter Tryz.func52, Tryz.ntmps52
 go_wp2_with fail
 refine Calls.mono HC.out ?_; rintro e w1 ⟨rfl, hw⟩; replace hw := hw.symm; subst hw
 go_wp2_with fail
 refine Calls.mono HM.out ?_; rintro e w2 ⟨rfl, h2⟩
 have H : Hid (DOut w B sv (d.ctl (v % 256)) w2) := h2.out
 clear h2 HM
 go_wp2
 go_ret
 exact ⟨rfl, H.out⟩
theorem bytL_get (v : Int) (n j : Nat) (h : j < n) : (bytL v n).getD j 0 = v / 2 ^ (8 * j) % 256 := by
 unfold bytL
 rw [List.getD_eq_getElem?_getD, List.getElem?_map, List.getElem?_range h]
 rfl
theorem bytL_len (v : Int) (n : Nat) : (bytL v n).length = n := by unfold bytL; simp
theorem take_any (h : IAt w B dn sv d) (hd : Dn d dn) (k : d.Ok) (q L c : Nat) (v : Int) (hc : L ≤ c) (hL : L ≤ 4) (hb : ∀ j, j < L → w.cell? ⟨q, j, none⟩ = some (.int .u8 (v / 2 ^ (8 * j) % 256))) (hq : ¬ foot B sv q) (hw : d.work + L < 9007199254740992) : Calls Tryz.prog 96 #[.pointer (some ⟨B, 0, none⟩), .slice (some ⟨q, 0, none⟩) L c] w fun e w' => e = .returned (.tuple #[]) ∧ DOut w B sv (d.out 0 L v) w' := by
 have e0 : d.out 0 L v = if d.off = true then d else d.puts v L := rfl
 rw [e0]
 cases ho : d.off
 ·rw [if_neg (by decide), ← putL_puts]
  exact take_on h hd k ho q 0 L c (bytL v L) (bytL_len _ _) hc hL (fun j hj => by rw [bytL_get _ _ _ hj, Nat.zero_add]; exact hb j hj) (bytL_byt _ _) hq hw
 ·rw [if_pos rfl]
  exact take_off h hd k ho _
theorem out_0 (h : IAt w B dn sv d) (hd : Dn d dn) (k : d.Ok) (s : Nat) (hs : s = 1 ∨ s = 2 ∨ s = 4) (v : Int) (v0 : 0 ≤ v) (v1 : v < 4294967296) (hw : d.work + 4 < 9007199254740992) : Calls Tryz.prog 52 #[.pointer (some ⟨B, 0, none⟩), .int .i64 0, .int .i64 s, .int .u32 v] w fun e w' => e = .returned (.int .i64 0) ∧ DOut w B sv (d.out 0 s v) w' := by
 have HC : Hid _ := check_any w (some ⟨B, 0, none⟩) 0 s
 rw [chk_0 _ s (by omega)] at HC
 obtain ⟨w1, e1⟩ : ∃ w1, w1 = w.alloc (.cells #[.int .u8 (v % 256), .int .u8 (v / 256 % 256), .int .u8 (v / 65536 % 256), .int .u8 (v / 16777216)] 97) := ⟨_, rfl⟩
 have k1 : Kp noB w w1 := by rw [e1]; exact Kp.alloc _ _ _
 have hq : w1.heap[w.heap.size]? = some (.cells #[.int .u8 (v % 256), .int .u8 (v / 256 % 256), .int .u8 (v / 65536 % 256), .int .u8 (v / 16777216)] 97 (0, 0)) := by rw [e1]; exact heap_new _ _
 have HT : Hid _ := take_any (h.keep k1) hd k w.heap.size s 4 v (by omega) (by omega) (fun j hj => by
  rw [cell_at hq]
  rcases (by omega : j = 0 ∨ j = 1 ∨ j = 2 ∨ j = 3) with rfl | rfl | rfl | rfl
  ·show some (Value.int .u8 (v % 256)) = some (Value.int .u8 (v / 1 % 256))
   rw [Int.ediv_one]
  ·rfl
  ·rfl
  ·show some (Value.int .u8 (v / 16777216)) = some (Value.int .u8 (v / 16777216 % 256))
   rw [Int.emod_eq_of_lt (by omega) (by omega)]) (by
  rintro (e | e)
  ·have := h.lt; omega
  ·obtain ⟨cur, g⟩ := h.log.lt e
   have := heap_lt g
   omega) (by omega)
 have HF : Hid (∀ w2, DOut w1 B sv (d.out 0 s v) w2 → DOut w B sv (d.out 0 s v) w2) := fun w2 h2 => DOut.then (fun _ g => .inl g) k1.any h2
 rw [e1] at HT HF
 clear h hd k hq k1 e1
 rcases hs with rfl | rfl | rfl
 all_goals
  go_enter Tryz.func52, Tryz.ntmps52
  go_wp2_with fail
  refine Calls.mono HC.out ?_; rintro e w1 ⟨rfl, hw⟩; replace hw := hw.symm; subst hw
  go_wp2_with fail
  refine Calls.mono HT.out ?_; rintro e w2 ⟨rfl, h2⟩
  have h3 := HF.out _ h2
  have H : Hid _ := h3
  clear h2 h3 HF HT
  go_wp2
  go_ret
  exact ⟨rfl, H.out⟩
theorem out_ok (h : IAt w B dn sv d) (hd : Dn d dn) (k : d.Ok) (reg size v : Int) (v0 : 0 ≤ v) (v1 : v < 4294967296) (hw : d.work + 4 < 9007199254740992) (hc : chkV (some ⟨B, 0, none⟩) reg size = 0) : Calls Tryz.prog 52 #[.pointer (some ⟨B, 0, none⟩), .int .i64 reg, .int .i64 size, .int .u32 v] w fun e w' => e = .returned (.int .i64 0) ∧ DOut w B sv (d.out reg size.toNat v) w' := by
 have hr : 0 ≤ reg ∧ reg < 9 ∧ (reg = 0 → size = 1 ∨ size = 2 ∨ size = 4) := by
  unfold chkV at hc
  split at hc
  ·cases hc
  ·split at hc
   ·cases hc
   ·rename_i a b
    refine ⟨?_, ?_, ?_⟩
    ·exact Int.not_lt.1 (fun g => a (.inr (.inl g)))
    ·exact Int.not_le.1 (fun g => a (.inr (.inr g)))
    ·intro e
     omega
 obtain ⟨r0, r9, rs⟩ := hr
 clear hc
 rcases (by omega : reg = 0 ∨ reg = 1 ∨ reg = 2 ∨ reg = 3 ∨ reg = 4 ∨ reg = 5 ∨ reg = 6 ∨ reg = 7 ∨ reg = 8) with rfl | rfl | rfl | rfl | rfl | rfl | rfl | rfl | rfl
 ·have hs := rs rfl
  obtain ⟨s, rfl⟩ : ∃ s : Nat, size = s := ⟨size.toNat, by omega⟩
  rw [Int.toNat_natCast]
  exact out_0 h hd k s (by omega) v v0 v1 hw
 ·exact out_1 h hd size v
 ·exact out_set h hd 2 size v 2 rfl (by decide) (by decide) v0 v1 _ (reg_2 _) rfl rfl rfl rfl rfl rfl rfl rfl rfl
 ·exact out_set h hd 3 size v 3 rfl (by decide) (by decide) v0 v1 _ (reg_3 _) rfl rfl rfl rfl rfl rfl rfl rfl rfl
 ·exact out_set h hd 4 size v 4 rfl (by decide) (by decide) v0 v1 _ (reg_4 _) rfl rfl rfl rfl rfl rfl rfl rfl rfl
 ·exact out_set h hd 5 size v 5 rfl (by decide) (by decide) v0 v1 _ (reg_5 _) rfl rfl rfl rfl rfl rfl rfl rfl rfl
 ·exact out_set h hd 6 size v 6 rfl (by decide) (by decide) v0 v1 _ (reg_6 _) rfl rfl rfl rfl rfl rfl rfl rfl rfl
 ·exact out_7 h hd k size v v0 v1
 ·exact out_8 h hd k size v v0 v1
end
section
variable {w : World} {B : Nat} {dn : Int} {sv : Value} {d : Id}
theorem inn_off (ho : d.off = true) (reg : Int) (s : Nat) : d.inn reg s = d := by unfold Id.inn; rw [if_pos ho]
theorem in_off (h : IAt w B dn sv d) (hd : Dn d dn) (k : d.Ok) (ho : d.off = true) (reg size : Int) (hc : chkV (some ⟨B, 0, none⟩) reg size = 0) (h6 : reg ≠ 6) : Calls Tryz.prog 55 #[.pointer (some ⟨B, 0, none⟩), .int .i64 reg, .int .i64 size] w fun e w' => e = .returned (.tuple #[.int .u32 (d.inV reg size.toNat), .int .i64 0]) ∧ DOk w B sv (d.inn reg size.toNat) w' := by
 have HC : Hid _ := check_any w (some ⟨B, 0, none⟩) reg size
 rw [hc] at HC
 have HO : Hid _ := isOther_any h k
 rw [ho] at HO
 have H : Hid (DOk w B sv (d.inn reg size.toNat) w) := by
  show DOk _ _ _ _ _
  rw [inn_off ho]
  exact h.ok hd
 have e : d.inV reg size.toNat = 0 := by unfold Id.inV; rw [if_pos ⟨ho, h6⟩]
 rw [e]
 have t6 : (reg != 6) = true := by simpa using h6
 clear h hd k ho hc h6 e
 go_enter Tryz.func55, Tryz.ntmps55
 go_wp2_with fail
 refine Calls.mono HC.out ?_; rintro e w1 ⟨rfl, hw⟩; replace hw := hw.symm; subst hw
 go_wp2_with fail
 refine Calls.mono HO.out ?_; rintro e w1 ⟨rfl, hw⟩; replace hw := hw.symm; subst hw
 go_wp2
 go_ret2
 exact ⟨rfl, H.out⟩
theorem in_reg (h : IAt w B dn sv d) (hd : Dn d dn) (k : d.Ok) (size : Int) (j : Nat) (j1 : 1 ≤ j) (j6 : j ≤ 6) (ho : d.off = false ∨ j = 6) : Calls Tryz.prog 55 #[.pointer (some ⟨B, 0, none⟩), .int .i64 j, .int .i64 size] w fun e w' => e = .returned (.tuple #[.int .u32 (d.inV j size.toNat), .int .i64 0]) ∧ DOk w B sv (d.inn j size.toNat) w' := by
 have HC : Hid _ := check_any w (some ⟨B, 0, none⟩) j size
 rw [chk_n _ _ size (by omega) (by omega)] at HC
 have HO : Hid _ := isOther_any h k
 have H : Hid (DOk w B sv (d.inn j size.toNat) w) := by
  have e : d.inn j size.toNat = d := by
   unfold Id.inn
   split
   ·rfl
   ·rw [if_neg (by omega), if_neg (by omega)]
  show DOk _ _ _ _ _
  rw [e]
  exact h.ok hd
 have e : d.inV j size.toNat = d.reg j := by
  unfold Id.inV
  rw [if_neg (by
   rintro ⟨a, b⟩
   rcases ho with c | c
   ·rw [a] at c; cases c
   ·exact b (by omega))]
  rcases (by omega : j = 1 ∨ j = 2 ∨ j = 3 ∨ j = 4 ∨ j = 5 ∨ j = 6) with rfl | rfl | rfl | rfl | rfl | rfl <;> rfl
 have cc := h.cr j (by omega)
 have by0 : 0 ≤ d.reg j ∧ d.reg j < 256 := by
  rcases (by omega : j = 1 ∨ j = 2 ∨ j = 3 ∨ j = 4 ∨ j = 5 ∨ j = 6) with rfl | rfl | rfl | rfl | rfl | rfl
  ·exact k.r1
  ·exact k.r2
  ·exact k.r3
  ·exact k.r4
  ·exact k.r5
  ·exact k.r6
 obtain ⟨y0, y1⟩ := by0
 rw [e]
 generalize d.reg j = y at *
 clear h hd k e
 rcases (by omega : j = 1 ∨ j = 2 ∨ j = 3 ∨ j = 4 ∨ j = 5 ∨ j = 6) with rfl | rfl | rfl | rfl | rfl | rfl
 all_goals
  simp only [Nat.reduceAdd] at cc
  cases q : d.off
  all_goals
   rw [q] at HO ho
   clear q
   first
    | (exfalso; simp at ho; done)
    | (clear ho
       go_enter Tryz.func55, Tryz.ntmps55
       go_wp2_with fail
       refine Calls.mono HC.out ?_; rintro e w1 ⟨rfl, hw⟩; replace hw := hw.symm; subst hw
       go_wp2_with fail
       refine Calls.mono HO.out ?_; rintro e w1 ⟨rfl, hw⟩; replace hw := hw.symm; subst hw
       go_wp2
       go_ret2
       exact ⟨rfl, H.out⟩)
theorem in_7 (h : IAt w B dn sv d) (hd : Dn d dn) (k : d.Ok) (size : Int) (ho : d.off = false) : Calls Tryz.prog 55 #[.pointer (some ⟨B, 0, none⟩), .int .i64 7, .int .i64 size] w fun e w' => e = .returned (.tuple #[.int .u32 (d.inV 7 size.toNat), .int .i64 0]) ∧ DOk w B sv (d.inn 7 size.toNat) w' := by
 have HC : Hid _ := check_any w (some ⟨B, 0, none⟩) 7 size
 rw [chk_n _ _ size (by omega) (by omega)] at HC
 have HO : Hid _ := isOther_any h k
 rw [ho] at HO
 have h2 : IAt (w.setCell ⟨B, 33292, none⟩ (.bool false)) B dn sv { d with mark := false } := (h.raw.setmk false).id _ rfl rfl rfl rfl rfl rfl rfl h.fl
 have k2 : Id.Ok { d with mark := false } := { k with }
 have HH : Hid _ := howItIs_any h2 k2
 have e : d.inV 7 size.toNat = ({ d with mark := false } : Id).status := by
  unfold Id.inV
  rw [if_neg (by rintro ⟨a, _⟩; rw [a] at ho; cases ho)]
  rfl
 have H : Hid (DOk w B sv (d.inn 7 size.toNat) (w.setCell ⟨B, 33292, none⟩ (.bool false))) := by
  have e : d.inn 7 size.toNat = { d with mark := false } := by
   unfold Id.inn
   rw [if_neg (by rw [ho]; decide), if_neg (by decide), if_pos rfl]
  show DOk _ _ _ _ _
  rw [e]
  exact ⟨dn, h2, hd, kpB B _ _ _⟩
 rw [e]
 have cm := h.cmk
 have zm := h.fz 33292
 generalize ({ d with mark := false } : Id).status = y at *
 clear h hd k e h2 k2 ho
 go_enter Tryz.func55, Tryz.ntmps55
 go_wp2_with fail
 refine Calls.mono HC.out ?_; rintro e w1 ⟨rfl, hw⟩; replace hw := hw.symm; subst hw
 go_wp2_with fail
 refine Calls.mono HO.out ?_; rintro e w1 ⟨rfl, hw⟩; replace hw := hw.symm; subst hw
 go_wp2_with fail
 refine Calls.mono HH.out ?_; rintro e w1 ⟨rfl, rfl⟩
 go_wp2
 go_ret2
 exact ⟨rfl, H.out⟩
theorem in_8 (h : IAt w B dn sv d) (hd : Dn d dn) (k : d.Ok) (size : Int) (ho : d.off = false) : Calls Tryz.prog 55 #[.pointer (some ⟨B, 0, none⟩), .int .i64 8, .int .i64 size] w fun e w' => e = .returned (.tuple #[.int .u32 (d.inV 8 size.toNat), .int .i64 0]) ∧ DOk w B sv (d.inn 8 size.toNat) w' := by
 have HC : Hid _ := check_any w (some ⟨B, 0, none⟩) 8 size
 rw [chk_n _ _ size (by omega) (by omega)] at HC
 have HO : Hid _ := isOther_any h k
 rw [ho] at HO
 have HH : Hid _ := howItIs_any h k
 have e : d.inV 8 size.toNat = d.status := by
  unfold Id.inV
  rw [if_neg (by rintro ⟨a, _⟩; rw [a] at ho; cases ho)]
  rfl
 have H : Hid (DOk w B sv (d.inn 8 size.toNat) w) := by
  have e : d.inn 8 size.toNat = d := by
   unfold Id.inn
   rw [if_neg (by rw [ho]; decide), if_neg (by decide), if_neg (by decide)]
  show DOk _ _ _ _ _
  rw [e]
  exact h.ok hd
 rw [e]
 generalize d.status = y at *
 clear h hd k e ho
 go_enter Tryz.func55, Tryz.ntmps55
 go_wp2_with fail
 refine Calls.mono HC.out ?_; rintro e w1 ⟨rfl, hw⟩; replace hw := hw.symm; subst hw
 go_wp2_with fail
 refine Calls.mono HO.out ?_; rintro e w1 ⟨rfl, hw⟩; replace hw := hw.symm; subst hw
 go_wp2_with fail
 refine Calls.mono HH.out ?_; rintro e w1 ⟨rfl, hw⟩; replace hw := hw.symm; subst hw
 go_wp2
 go_ret2
 exact ⟨rfl, H.out⟩
theorem four_or {a b c e : Int} (ha : byt a) (hb : byt b) (hc : byt c) (he : byt e) :
  bits .or .u32 a (b * 256) = a + b * 256 ∧ bits .or .u32 (a + b * 256) (c * 65536) = a + b * 256 + c * 65536 ∧ bits .or .u32 (a + b * 256 + c * 65536) (e * 16777216) = a + b * 256 + c * 65536 + e * 16777216 := by
 obtain ⟨a0, a1⟩ := ha
 obtain ⟨b0, b1⟩ := hb
 obtain ⟨c0, c1⟩ := hc
 obtain ⟨e0, e1⟩ := he
 exact ⟨u32_or8 _ _ (by omega) (by omega) (by omega) (by omega) (by omega), u32_or16 _ _ (by omega) (by omega) (by omega) (by omega) (by omega), u32_or24 _ _ (by omega) (by omega) (by omega) (by omega) (by omega)⟩
def zz4 : Array Value := #[.int .u8 0, .int .u8 0, .int .u8 0, .int .u8 0]
def gB (d : Id) (s j : Nat) : Int := if j < s then (d.gets j).getV else 0
theorem gB_byt (k : d.Ok) (s j : Nat) : byt (gB d s j) := by
 unfold gB
 split
 ·exact (k.gets j).getV
 ·exact byt0
theorem gB_sum (s : Nat) (hs : s = 1 ∨ s = 2 ∨ s = 4) : gB d s 0 + gB d s 1 * 256 + gB d s 2 * 65536 + gB d s 3 * 16777216 = d.getsV s := by
 rcases hs with rfl | rfl | rfl
 ·show d.getV + 0 * 256 + 0 * 65536 + 0 * 16777216 = 0 + d.getV * 2 ^ (8 * 0)
  omega
 ·show d.getV + (d.gets 1).getV * 256 + 0 * 65536 + 0 * 16777216 = 0 + d.getV * 2 ^ (8 * 0) + (d.gets 1).getV * 2 ^ (8 * 1)
  omega
 ·show d.getV + (d.gets 1).getV * 256 + (d.gets 2).getV * 65536 + (d.gets 3).getV * 16777216 = 0 + d.getV * 2 ^ (8 * 0) + (d.gets 1).getV * 2 ^ (8 * 1) + (d.gets 2).getV * 2 ^ (8 * 2) + (d.gets 3).getV * 2 ^ (8 * 3)
  omega
theorem in_0 (h : IAt w B dn sv d) (hd : Dn d dn) (k : d.Ok) (s : Nat) (hs : s = 1 ∨ s = 2 ∨ s = 4) (ho : d.off = false) : Calls Tryz.prog 55 #[.pointer (some ⟨B, 0, none⟩), .int .i64 0, .int .i64 s] w fun e w' => e = .returned (.tuple #[.int .u32 (d.inV 0 s), .int .i64 0]) ∧ DOk w B sv (d.inn 0 s) w' := by
 have HC : Hid _ := check_any w (some ⟨B, 0, none⟩) 0 s
 rw [chk_0 _ s (by omega)] at HC
 have HO : Hid _ := isOther_any h k
 rw [ho] at HO
 have e : d.inV 0 s = gB d s 0 + gB d s 1 * 256 + gB d s 2 * 65536 + gB d s 3 * 16777216 := by
  rw [gB_sum s hs]
  unfold Id.inV
  rw [if_neg (by rintro ⟨a, _⟩; rw [a] at ho; cases ho), if_pos rfl]
 have e2 : d.inn 0 s = d.gets s := by
  unfold Id.inn
  rw [if_neg (by rw [ho]; decide), if_pos rfl]
 obtain ⟨w1, e1⟩ : ∃ w1, w1 = w.alloc (.cells zz4 97) := ⟨_, rfl⟩
 have k1 : Kp noB w w1 := by rw [e1]; exact Kp.alloc _ _ _
 have hq : w1.heap[w.heap.size]? = some (.cells zz4 97 (0, 0)) := by rw [e1]; exact heap_new _ _
 have hlt := h.lt
 have HG : Hid _ := give_ok (h.keep k1) hd k w.heap.size 0 s 4 zz4 97 hq (by show 0 + s ≤ 4; omega) (by omega) (by omega) (by omega) (fun e => by
  obtain ⟨cur, g⟩ := h.log.lt e
  have := heap_lt g
  omega)
 have HF : Hid (∀ w2, GSt w1 B sv d w.heap.size 0 zz4 97 s w2 → DOk w B sv (d.gets s) w2 ∧ ∀ j, j < 4 → w2.cell? ⟨w.heap.size, j, none⟩ = some (.int .u8 (gB d s j))) := by
  rintro w2 ⟨dn', g1, g2, ⟨cur', g3, g4⟩, g5⟩
  refine ⟨⟨dn', g1, g2, ?_⟩, fun j hj => ?_⟩
  ·exact k1.any.over g5 (fun j hj e => by rcases e with e | e; exact e; omega)
  ·rw [cell_at g3, g4.2 j]
   unfold gB
   by_cases q : j < s
   ·rw [if_pos (by omega), if_pos q, Nat.sub_zero]
   ·rw [if_neg (by omega), if_neg q]
    rcases (by omega : j = 0 ∨ j = 1 ∨ j = 2 ∨ j = 3) with rfl | rfl | rfl | rfl <;> rfl
 rw [e, e2]
 have b0 := gB_byt k s 0
 have b1 := gB_byt k s 1
 have b2 := gB_byt k s 2
 have b3 := gB_byt k s 3
 have hor := four_or b0 b1 b2 b3
 obtain ⟨o1, o2, o3⟩ := hor
 obtain ⟨p00, p01⟩ := b0
 obtain ⟨p10, p11⟩ := b1
 obtain ⟨p20, p21⟩ := b2
 obtain ⟨p30, p31⟩ := b3
 have HF' : Hid (∀ w2, GSt w1 B sv d w.heap.size 0 zz4 97 s w2 → DOk w B sv (d.gets s) w2 ∧ w2.cell? ⟨w.heap.size, 0, none⟩ = some (.int .u8 (gB d s 0)) ∧ w2.cell? ⟨w.heap.size, 1, none⟩ = some (.int .u8 (gB d s 1)) ∧ w2.cell? ⟨w.heap.size, 2, none⟩ = some (.int .u8 (gB d s 2)) ∧ w2.cell? ⟨w.heap.size, 3, none⟩ = some (.int .u8 (gB d s 3))) := fun w2 g => by
  obtain ⟨g1, g2⟩ := HF.out w2 g
  exact ⟨g1, g2 0 (by decide), g2 1 (by decide), g2 2 (by decide), g2 3 (by decide)⟩
 generalize gB d s 0 = y0 at *
 generalize gB d s 1 = y1 at *
 generalize gB d s 2 = y2 at *
 generalize gB d s 3 = y3 at *
 rw [e1] at HG HF'
 unfold zz4 at HG HF'
 clear h hd k e e1 e2 ho hq k1 hlt HF
 rcases hs with rfl | rfl | rfl
 all_goals
  go_enter Tryz.func55, Tryz.ntmps55
  go_wp2_with fail
  refine Calls.mono HC.out ?_; rintro e w1 ⟨rfl, hw⟩; replace hw := hw.symm; subst hw
  go_wp2_with fail
  refine Calls.mono HO.out ?_; rintro e w1 ⟨rfl, hw⟩; replace hw := hw.symm; subst hw
  go_wp2_with fail
  refine Calls.mono HG.out ?_; rintro e w2 ⟨rfl, h2⟩
  obtain ⟨g0, g1, g2, g3, g4⟩ := HF'.out _ h2
  have H : Hid _ := g0
  clear h2 g0 HF' HG
  go_wp2
  go_ret2
  exact ⟨rfl, H.out⟩
theorem in_ok (h : IAt w B dn sv d) (hd : Dn d dn) (k : d.Ok) (reg size : Int) (hc : chkV (some ⟨B, 0, none⟩) reg size = 0) : Calls Tryz.prog 55 #[.pointer (some ⟨B, 0, none⟩), .int .i64 reg, .int .i64 size] w fun e w' => e = .returned (.tuple #[.int .u32 (d.inV reg size.toNat), .int .i64 0]) ∧ DOk w B sv (d.inn reg size.toNat) w' := by
 have hr : 0 ≤ reg ∧ reg < 9 ∧ (reg = 0 → size = 1 ∨ size = 2 ∨ size = 4) := by
  have hc := hc
  unfold chkV at hc
  split at hc
  ·cases hc
  ·split at hc
   ·cases hc
   ·rename_i a b
    refine ⟨?_, ?_, ?_⟩
    ·exact Int.not_lt.1 (fun g => a (.inr (.inl g)))
    ·exact Int.not_le.1 (fun g => a (.inr (.inr g)))
    ·intro e
     omega
 obtain ⟨r0, r9, rs⟩ := hr
 cases ho : d.off
 ·rcases (by omega : reg = 0 ∨ (1 ≤ reg ∧ reg ≤ 6) ∨ reg = 7 ∨ reg = 8) with rfl | g | rfl | rfl
  ·have hs := rs rfl
   obtain ⟨s, rfl⟩ : ∃ s : Nat, size = s := ⟨size.toNat, by omega⟩
   rw [Int.toNat_natCast]
   exact in_0 h hd k s (by omega) ho
  ·obtain ⟨j, rfl⟩ : ∃ j : Nat, reg = j := ⟨reg.toNat, by omega⟩
   exact in_reg h hd k size j (by omega) (by omega) (.inl ho)
  ·exact in_7 h hd k size ho
  ·exact in_8 h hd k size ho
 ·by_cases q : reg = 6
  ·subst q
   exact in_reg h hd k size 6 (by decide) (by decide) (.inr rfl)
  ·exact in_off h hd k ho reg size hc q
theorem line_ok (h : IAt w B dn sv d) (k : d.Ok) : Calls Tryz.prog 73 #[.pointer (some ⟨B, 0, none⟩)] w fun e w' => e = .returned (.bool d.line) ∧ w' = w := by
 have cm := h.cmk
 have c8 := h.c8
 have e2 := iand2 k.c
 clear h k
 unfold Id.line
 cases q : d.mark
 ·rw [q] at cm
  clear q
  go_enter Tryz.func73, Tryz.ntmps73
  go_wp2
  go_ret
  exact ⟨rfl, rfl⟩
 ·rw [q] at cm
  clear q
  go_enter Tryz.func73, Tryz.ntmps73
  go_wp2
  go_ret
  exact ⟨ret_bool (by simp), rfl⟩
theorem written_ok (h : IAt w B dn sv d) : Calls Tryz.prog 93 #[.pointer (some ⟨B, 0, none⟩)] w fun e w' => e = .returned sv ∧ IAt w' B dn (.slice none 0 0) d.told ∧ Kp (isB B) w w' := by
 have cs := h.csv
 have zs := h.fz 33293
 have H : Hid (IAt (w.setCell ⟨B, 33293, none⟩ (.slice none 0 0)) B dn (.slice none 0 0) d.told) := (h.raw.setsv _ [] (OwnI.nil w)).id _ rfl rfl rfl rfl rfl rfl rfl h.fl
 obtain ⟨p, c, es⟩ := h.log.sl
 subst es
 generalize d.log.length = n at *
 clear h
 go_enter Tryz.func93, Tryz.ntmps93
 go_wp2
 go_ret
 exact ⟨rfl, H.out, kpB B _ _ _⟩
end
theorem info8 : (Tryz.prog.info? 5).map (fun i => (i.zero, i.size, i.bytes)) = some (some (.int .u8 0), 1, 1) := by kernel_rfl
theorem info_of {t : TypeId} {z : Value} {s b : Nat} (h : (Tryz.prog.info? t).map (fun i => (i.zero, i.size, i.bytes)) = some (some z, s, b)) : ∃ i, Tryz.prog.info? t = some i ∧ i.zero = some z ∧ i.size = s ∧ i.bytes = b := by
 cases hi : Tryz.prog.info? t with
 | none => rw [hi] at h; cases h
 | some i =>
  rw [hi] at h
  simp only [Option.map_some, Option.some.injEq, Prod.mk.injEq] at h
  exact ⟨i, rfl, h.1, h.2.1, h.2.2⟩
def made8 (n : Nat) : Array Value := madeCells (Value.int .u8 0).cells n
theorem made8_at (n : Nat) : (made8 n).size = n ∧ ∀ j, j < n → (made8 n)[j]? = some (.int .u8 0) := by
 unfold made8
 rw [show (Value.int .u8 0).cells = #[Value.int .u8 0] from rfl]
 refine ⟨by simp [madeCells], fun j hj => by simp [madeCells, hj, Nat.mod_one]⟩
theorem make8 (w : World) (n : Nat) (h : n ≤ 2147483647) : (Instr.makeSlice 22 (.int .i64 n) (.int .i64 n)).run Tryz.prog w = .ok (.slice (some ⟨w.heap.size, 0, none⟩) n n) (w.alloc (.cells (made8 n) 5)) := by
 obtain ⟨i0, hi, hz0, hz1, hz2⟩ := info_of info8
 have r := run_make (P := Tryz.prog) w 22 5 i0 (.int .u8 0) bytesT hi hz0 .i64 .i64 n n (by omega) (Int.le_refl _) (by rw [hz2]; omega) (by omega)
 rw [Int.toNat_natCast, hz1, Nat.mul_one] at r
 exact r
def BytAt (w : World) (a : Option Addr) (L : Nat) (bt : Nat → Int) : Prop := ∀ j, j < L → ∃ b o, a = some ⟨b, o, none⟩ ∧ b < w.heap.size ∧ w.cell? ⟨b, o + j, none⟩ = some (.int .u8 (bt j))
theorem BytAt.kept {S : Nat → Prop} {w w' : World} {a : Option Addr} {L : Nat} {bt : Nat → Int} (h : BytAt w a L bt) (k : Kp S w w') (hS : ∀ b, b < w.heap.size → ¬ S b) : BytAt w' a L bt := fun j hj => by
 obtain ⟨b, o, e, hb, hc⟩ := h j hj
 exact ⟨b, o, e, Nat.lt_of_lt_of_le hb k.size, cell_kept hc k (hS b hb)⟩
theorem copy_byt (w : World) (S o dLen dCap L c : Nat) (a : Option Addr) (bt : Nat → Int) (hb : BytAt w a L bt) (n : Nat) (hn : n = Nat.min L dLen) (cur : Array Value) (t : TypeId) (hS : w.heap[S]? = some (.cells cur t (0, 0))) (ho : o + n ≤ cur.size) :
  ∃ w2, (Builtin.copy_ #[22, 22] 3 #[.slice (some ⟨S, o, none⟩) dLen dCap, .slice a L c]).run Tryz.prog w = .ok (.int .i64 n) w2 ∧
   (∃ cur', w2.heap[S]? = some (.cells cur' t (0, 0)) ∧ Laid cur cur' o n (fun j => .int .u8 (bt j))) ∧ Kp (isB S) w w2 := by
 by_cases h0 : n = 0
 ·subst h0
  exact ⟨w, run_copy_none (P := Tryz.prog) w 22 22 3 5 _ a dLen dCap L c bytesT byteT hn.symm, ⟨cur, hS, Laid.none _ _ _⟩, Kp.refl _ _⟩
 ·have hle : n ≤ L := by rw [hn]; exact Nat.min_le_left _ _
  obtain ⟨b, q, rfl, _, _⟩ := hb 0 (by omega)
  refine copy_any w S o dLen dCap b q L c n hn cur t hS ho bt (fun j hj => ?_)
  obtain ⟨b', q', e, _, hc⟩ := hb j (by omega)
  injection e with e
  injection e with e1 e2
  subst e1; subst e2
  exact hc
theorem zeroI (w : World) : (zeroValue 115).run Tryz.prog w = .ok (.agg zI) w := by
 simp [zeroValue, typeInfo, show Tryz.prog.info? 115 = some Tryz.t115 from Tryz.type115, zero57, zI]
theorem placesI : ∃ fs ps, (∀ w, (underlying 115).run Tryz.prog w = .ok (.struct fs) w) ∧ (∀ w, (Array.mapM (fun f : Field => Prod.mk f.offset <$> sizeOf f.type) fs).run Tryz.prog w = .ok ps w) ∧ ps[1]? = some (32768, 1) :=
 ⟨(match Tryz.prog.underlying 115 with | some (.struct f) => f | _ => #[]), #[(0, 32768), (32768, 1), (32769, 9), (32778, 512), (33290, 1), (33291, 1), (33292, 1), (33293, 1)], fun w => by kernel_rfl, fun w => by kernel_rfl, rfl⟩
structure VlI (T : TypeId) (Z : Array Value) (fs : Array Field) (ps : Array (Nat × Nat)) : Prop where
 t : T = 115
 z : Z = zI
 zero : ∀ w, (zeroValue T).run Tryz.prog w = .ok (.agg Z) w
 under : ∀ w, (underlying T).run Tryz.prog w = .ok (.struct fs) w
 map : ∀ w, (Array.mapM (fun f : Field => Prod.mk f.offset <$> sizeOf f.type) fs).run Tryz.prog w = .ok ps w
 place : ps[1]? = some (32768, 1)
 zs : Z.size = 33294
theorem vlI : ∃ T Z fs ps, VlI T Z fs ps := by
 obtain ⟨fs, ps, h1, h2, h3⟩ := placesI
 exact ⟨_, _, fs, ps, rfl, rfl, zeroI, h1, h2, h3, zI_size⟩
theorem VlI.ops {T : TypeId} {Z : Array Value} {fs : Array Field} {ps : Array (Nat × Nat)} (h : VlI T Z fs ps) : (∀ x, Op.build 115 x = Op.build T x) ∧ (∀ x, Op.box 115 x = Op.box T x) := by
 rw [h.t]
 exact ⟨fun _ => rfl, fun _ => rfl⟩
theorem new_raw {T : TypeId} {Z : Array Value} {fs : Array Field} {ps : Array (Nat × Nat)} (V : VlI T Z fs ps) (w : World) (n : Nat) : Raw (w.alloc (.cells (Z.setIfInBounds 32768 (.int .i64 n)) T)) w.heap.size (.slice none 0 0) [] (fun _ => 0) n (fun _ => 0) (fun _ => 0) 0 0 false := by
 refine ⟨⟨_, by rw [heap_new, V.t], ?_, fun k hk => ?_⟩, OwnI.nil _⟩
 ·rw [Array.size_setIfInBounds, V.z, zI_size]
 ·rw [V.z, Array.getElem?_setIfInBounds]
  by_cases e : 32768 = k
  ·subst e
   rw [if_pos rfl, if_pos (by rw [zI_size]; decide)]
   rfl
  ·rw [if_neg e, zI_get hk]
   have e' : ¬ k = 32768 := fun g => e g.symm
   unfold cC
   simp only [if_neg e']
def dB (L : Nat) (bt : Nat → Int) (i : Nat) : Int := if i < L then bt i else 0
theorem new_no (w : World) (a : Option Addr) (L c : Nat) (h : L % 512 ≠ 0 ∨ 32768 < L) (hL : L < 9223372036854775808) : Calls Tryz.prog 23 #[.slice a L c] w fun e w' => e = .returned (.tuple #[.pointer none, .int .i64 140]) ∧ w' = w := by
 by_cases q : L % 512 = 0
 ·have q1 : ((L : Int) % 512 != 0) = false := by rw [bne_eq_false_iff_eq]; omega
  have q2 : decide ((L : Int) > 32768) = true := by simp; omega
  go_enter Tryz.func23, Tryz.ntmps23
  go_wp2
  go_ret2
  exact ⟨rfl, rfl⟩
 ·have q1 : ((L : Int) % 512 != 0) = true := by rw [bne_iff_ne]; omega
  go_enter Tryz.func23, Tryz.ntmps23
  go_wp2
  go_ret2
  exact ⟨rfl, rfl⟩
def NewPost (w : World) (L : Nat) (bt : Nat → Int) (w' : World) : Prop := ∃ dn, IAt w' w.heap.size dn (.slice none 0 0) (id0 (L / 512) (dB L bt)) ∧ Kp noB w w'
theorem new_ok (w : World) (a : Option Addr) (L c : Nat) (bt : Nat → Int) (hb : BytAt w a L bt) (h1 : L % 512 = 0) (h2 : L ≤ 32768) : Calls Tryz.prog 23 #[.slice a L c] w fun e w' => e = .returned (.tuple #[.pointer (some ⟨w.heap.size, 0, none⟩), .int .i64 0]) ∧ NewPost w L bt w' := by
 obtain ⟨T, Z, fs, ps, V⟩ := vlI
 have q1 : ((L : Int) % 512 != 0) = false := by rw [bne_eq_false_iff_eq]; omega
 have q2 : decide ((L : Int) > 32768) = false := by simp; omega
 have q3 : (L : Int) / 512 = ((L / 512 : Nat) : Int) := by omega
 obtain ⟨N, hN⟩ : ∃ N, N = L / 512 := ⟨_, rfl⟩
 rw [← hN] at q3
 have r0 := new_raw V w N
 obtain ⟨w1, e1⟩ : ∃ w1, w1 = w.alloc (.cells (Z.setIfInBounds 32768 (.int .i64 N)) T) := ⟨_, rfl⟩
 have k1 : Kp noB w w1 := by rw [e1]; exact Kp.alloc _ _ _
 rw [← e1] at r0
 obtain ⟨cur, g1, g2, g3⟩ := r0.blk
 obtain ⟨w2, hcp, ⟨cur2, hh2, hl2⟩, hk2⟩ := copy_byt w1 w.heap.size 0 32768 32768 L c a bt (hb.kept k1 (fun _ _ => id)) L (Nat.min_eq_left h2).symm cur _ g1 (by omega)
 have r2 := r0.laydisk g1 hh2 (by omega) hl2 hk2
 have h3 : IAt w2 w.heap.size 0 (.slice none 0 0) { id0 N (dB L bt) with r1 := 0, r2 := 0, r3 := 0 } := by
  refine ⟨r2.blk.of fun k hk => ?_, r2.log, rfl⟩
  have hD : layB (fun _ => 0) 0 L bt = dB L bt := by
   funext i
   unfold layB dB
   by_cases q : i < L
   ·rw [if_pos (by omega), if_pos q, Nat.sub_zero]
   ·rw [if_neg (by omega), if_neg q]
  rw [hD]
  unfold fC
  have hR : (fun _ : Nat => (0 : Int)) = ({ id0 N (dB L bt) with r1 := 0, r2 := 0, r3 := 0 } : Id).reg := by
   funext j
   unfold Id.reg id0
   simp only
   repeat' split
   all_goals rfl
  rw [← hR]
  rfl
 have HS : Hid _ := start_ok h3
 have ef : ({ ({ id0 N (dB L bt) with r1 := 0, r2 := 0, r3 := 0 } : Id) with c := 0 } : Id).fresh = id0 N (dB L bt) := rfl
 rw [ef] at HS
 have HF : Hid (∀ w3, DOk w2 w.heap.size (.slice none 0 0) (id0 N (dB L bt)) w3 → NewPost w L bt w3) := by
  rintro w3 ⟨dn, h4, d4, k4⟩
  unfold NewPost
  rw [← hN]
  exact ⟨dn, h4, (k1.over hk2 (fun j hj (e : j = _) => by omega)).over k4 (fun j hj (e : j = _) => by omega)⟩
 have o1 := V.ops
 have v1 := V.zero
 have v2 := V.under
 have v3 := V.map
 have v4 := V.place
 have v5 := V.zs
 have v6 : wrap64 (N : Int) = N := IntWalk.wrap64_in _ ⟨by omega, by omega⟩
 rw [e1] at hcp
 clear r0 g1 g2 g3 hh2 hl2 hk2 r2 h3 ef k1 V hb h1 h2 e1 hN
 go_enter Tryz.func23, Tryz.ntmps23
 simp only [o1.1, o1.2]
 go_wp2_with fail
 refine Calls.mono HS.out ?_; rintro e w3 ⟨rfl, h3⟩
 have H : Hid (NewPost w L bt w3) := HF.out _ h3
 clear h3 HS HF hcp
 go_wp2
 go_ret2
 exact ⟨rfl, H.out⟩
def DskPost (w : World) (d : Id) (w' : World) : Prop := BytAt w' (some ⟨w.heap.size, 0, none⟩) (512 * d.n) d.D ∧ Kp noB w w' ∧ ∃ cur, w'.heap[w.heap.size]? = some (.cells cur 5 (0, 0)) ∧ cur.size = 512 * d.n
theorem disk_ok {w : World} {B : Nat} {dn : Int} {sv : Value} {d : Id} (h : IAt w B dn sv d) (k : d.Ok) : Calls Tryz.prog 94 #[.pointer (some ⟨B, 0, none⟩)] w fun e w' => e = .returned (.slice (some ⟨w.heap.size, 0, none⟩) (512 * d.n) (512 * d.n)) ∧ DskPost w d w' := by
 have hf := k.few
 have cn := h.cn
 have hm := make8 w (512 * d.n) (by omega)
 obtain ⟨w1, e1⟩ : ∃ w1, w1 = w.alloc (.cells (made8 (512 * d.n)) 5) := ⟨_, rfl⟩
 have k1 : Kp noB w w1 := by rw [e1]; exact Kp.alloc _ _ _
 have hq : w1.heap[w.heap.size]? = some (.cells (made8 (512 * d.n)) 5 (0, 0)) := by rw [e1]; exact heap_new _ _
 have hz := (made8_at (512 * d.n)).1
 have h1 := h.keep k1
 obtain ⟨w2, hcp, ⟨cur2, hh2, hl2⟩, hk2⟩ := copy_any w1 w.heap.size 0 (512 * d.n) (512 * d.n) B 0 32768 32768 (512 * d.n) (Nat.min_eq_right (by omega)).symm _ _ hq (by omega) d.D (fun j hj => by
  rw [Nat.zero_add]
  exact h1.cD j (by omega))
 have H : Hid (DskPost w d w2) := by
  refine ⟨fun j hj => ⟨w.heap.size, 0, rfl, heap_lt hh2, ?_⟩, k1.over hk2 (fun j hj (e : j = _) => by omega), cur2, hh2, by rw [hl2.1, hz]⟩
  rw [cell_at hh2, hl2.2, if_pos (by omega), Nat.zero_add, Nat.sub_zero]
 rw [← e1] at hm
 have em : ((512 * d.n : Nat) : Int) = (d.n : Int) * 512 := by omega
 rw [em] at hm
 clear h k k1 hq hz h1 hh2 hl2 hk2 e1
 generalize hnn : d.n = n at *
 have hw : IntKind.i64.wrap ((n : Int) * 512) = (n : Int) * 512 := by rw [IntKind.wrap_i64]; omega
 go_enter Tryz.func94, Tryz.ntmps94
 go_wp2
 go_ret
 exact ⟨rfl, H.out⟩
def ck (reg size : Int) : Int := if reg < 0 ∨ 9 ≤ reg then 1 else if reg = 0 ∧ size ≠ 1 ∧ size ≠ 2 ∧ size ≠ 4 then 2 else 0
theorem chk_ck (a : Addr) (reg size : Int) : chkV (some a) reg size = ck reg size := by
 unfold chkV ck
 simp
def Id.o (d : Id) (reg size v : Int) : Id := if ck reg size = 0 then d.out reg size.toNat v else d
def Id.iV (d : Id) (reg size : Int) : Int := if ck reg size = 0 then d.inV reg size.toNat else 0
def Id.i (d : Id) (reg size : Int) : Id := if ck reg size = 0 then d.inn reg size.toNat else d
theorem Id.Ok.o {d : Id} (k : d.Ok) (reg size v : Int) : (d.o reg size v).Ok := by
 unfold Id.o
 split
 ·exact k.out _ _ _
 ·exact k
theorem Id.Ok.i {d : Id} (k : d.Ok) (reg size : Int) : (d.i reg size).Ok := by
 unfold Id.i
 split
 ·exact k.inn _ _
 ·exact k
theorem size_4 {reg size : Int} (h : ck reg size = 0) (d : Id) (k : d.Ok) (v : Int) : (d.out reg size.toNat v).work ≤ d.work + 4 := by
 by_cases e : reg = 0
 ·subst e
  have hs : size = 1 ∨ size = 2 ∨ size = 4 := by
   unfold ck at h
   rw [if_neg (by omega)] at h
   split at h
   ·cases h
   ·omega
  have := out_work d k 0 size.toNat v
  omega
 ·have := out_work d k reg 0 v
  have e2 : d.out reg size.toNat v = d.out reg 0 v := by unfold Id.out; rw [if_neg e, if_neg e]
  rw [e2]
  omega
theorem o_work {d : Id} (k : d.Ok) (reg size v : Int) : (d.o reg size v).work ≤ d.work + 4 := by
 unfold Id.o
 split
 ·exact size_4 ‹_› d k v
 ·omega
theorem i_work (d : Id) (reg size : Int) : (d.i reg size).work ≤ d.work := by
 unfold Id.i
 split
 ·exact inn_work d _ _
 ·omega
structure Nxt (w : World) (S : Nat → Prop) (w' : World) (S' : Nat → Prop) : Prop where
 sub : ∀ k, S' k → S k ∨ w.heap.size ≤ k
 kp : Kp S w w'
theorem Nxt.refl (w : World) (S : Nat → Prop) : Nxt w S w S := ⟨fun _ f => .inl f, Kp.refl _ _⟩
structure IW (w : World) (S : Nat → Prop) (B : Nat) (d : Id) : Prop where
 ex : ∃ dn sv, IAt w B dn sv d ∧ Dn d dn ∧ ∀ k, foot B sv k → S k
 lt : ∀ k, S k → k < w.heap.size
theorem IW.kept {w w' : World} {S T : Nat → Prop} {B : Nat} {d : Id} (h : IW w S B d) (k : Kp T w w') (hS : ∀ k, S k → ¬ T k) : IW w' S B d := by
 obtain ⟨dn, sv, h1, hd, h2⟩ := h.ex
 exact ⟨⟨dn, sv, h1.kept k (hS _ (h2 _ (.inl rfl))) (fun g e => hS _ (h2 _ (.inr e))), hd, h2⟩, fun j hj => Nat.lt_of_lt_of_le (h.lt j hj) k.size⟩
def INx (w : World) (S : Nat → Prop) (B : Nat) (d : Id) (w' : World) : Prop := ∃ S', IW w' S' B d ∧ Nxt w S w' S'
structure AsideI (w : World) (S : Nat → Prop) (v : Value) (l : List Int) : Prop where
 own : OwnI w v l
 out : ∀ g, v.ownBlock = some g → ¬ S g
section
variable {w : World} {S : Nat → Prop} {B : Nat} {d : Id}
theorem foot_lt {dn : Int} {sv : Value} (h : IAt w B dn sv d) {k : Nat} (g : foot B sv k) : k < w.heap.size := by
 rcases g with rfl | g
 ·exact h.lt
 ·obtain ⟨cur, e⟩ := h.log.lt g
  exact heap_lt e
theorem INx.mk {w' : World} {dn' : Int} {sv' : Value} {d' : Id} (h' : IAt w' B dn' sv' d') (hd : Dn d' dn') (hf : ∀ k, foot B sv' k → S k ∨ w.heap.size ≤ k) (kp : Kp S w w') : INx w S B d' w' :=
 ⟨fun k => k < w'.heap.size ∧ (S k ∨ w.heap.size ≤ k), ⟨⟨dn', sv', h', hd, fun k g => ⟨foot_lt h' g, hf k g⟩⟩, fun k g => g.1⟩, ⟨fun k g => g.2, kp⟩⟩
theorem INx.same {w' : World} (h : IW w S B d) (e : w' = w) : INx w S B d w' := by
 subst e
 exact ⟨S, h, Nxt.refl _ _⟩
theorem wOut (h : IW w S B d) (k : d.Ok) (reg size v : Int) (v0 : 0 ≤ v) (v1 : v < 4294967296) (hw : d.work + 4 < 9007199254740992) : Calls Tryz.prog 52 #[.pointer (some ⟨B, 0, none⟩), .int .i64 reg, .int .i64 size, .int .u32 v] w fun e w' => e = .returned (.int .i64 (ck reg size)) ∧ INx w S B (d.o reg size v) w' := by
 obtain ⟨dn, sv, h1, hd, h2⟩ := h.ex
 by_cases g : ck reg size = 0
 ·have e : d.o reg size v = d.out reg size.toNat v := by unfold Id.o; rw [if_pos g]
  rw [g, e]
  refine (out_ok h1 hd k reg size v v0 v1 hw (by rw [chk_ck]; exact g)).mono fun e w' ⟨a, dn', sv', b1, bd, b2, b3⟩ => ⟨a, INx.mk b1 bd (fun j hj => ?_) (b3.mono fun j _ hj => h2 j hj)⟩
  rcases b2 j hj with f | f
  ·exact .inl (h2 j f)
  ·exact .inr f
 ·have e : d.o reg size v = d := by unfold Id.o; rw [if_neg g]
  rw [e]
  have := out_no w (some ⟨B, 0, none⟩) reg size v (by rw [chk_ck]; exact g)
  rw [chk_ck] at this
  exact this.mono fun e w' ⟨a, b⟩ => ⟨a, .same h b⟩
theorem wIn (h : IW w S B d) (k : d.Ok) (reg size : Int) : Calls Tryz.prog 55 #[.pointer (some ⟨B, 0, none⟩), .int .i64 reg, .int .i64 size] w fun e w' => e = .returned (.tuple #[.int .u32 (d.iV reg size), .int .i64 (ck reg size)]) ∧ INx w S B (d.i reg size) w' := by
 obtain ⟨dn, sv, h1, hd, h2⟩ := h.ex
 by_cases g : ck reg size = 0
 ·have e : d.i reg size = d.inn reg size.toNat := by unfold Id.i; rw [if_pos g]
  have e' : d.iV reg size = d.inV reg size.toNat := by unfold Id.iV; rw [if_pos g]
  rw [g, e, e']
  exact (in_ok h1 hd k reg size (by rw [chk_ck]; exact g)).mono fun e w' ⟨a, dn', b1, bd, b3⟩ => ⟨a, INx.mk b1 bd (fun j hj => .inl (h2 j hj)) (b3.mono fun j _ hj => h2 j (.inl hj))⟩
 ·have e : d.i reg size = d := by unfold Id.i; rw [if_neg g]
  have e' : d.iV reg size = 0 := by unfold Id.iV; rw [if_neg g]
  rw [e, e']
  have := in_no w (some ⟨B, 0, none⟩) reg size (by rw [chk_ck]; exact g)
  rw [chk_ck] at this
  exact this.mono fun e w' ⟨a, b⟩ => ⟨a, .same h b⟩
theorem wLine (h : IW w S B d) (k : d.Ok) : Calls Tryz.prog 73 #[.pointer (some ⟨B, 0, none⟩)] w fun e w' => e = .returned (.bool d.line) ∧ w' = w := by
 obtain ⟨dn, sv, h1, hd, h2⟩ := h.ex
 exact line_ok h1 k
def ITold (w : World) (S : Nat → Prop) (B : Nat) (d : Id) (v : Value) (w' : World) : Prop := ∃ S', IW w' S' B d.told ∧ Nxt w S w' S' ∧ AsideI w' S' v d.log ∧ (∀ g, v.ownBlock = some g → S g)
theorem wWritten (h : IW w S B d) : Calls Tryz.prog 93 #[.pointer (some ⟨B, 0, none⟩)] w fun e w' => ∃ p c, e = .returned (.slice p d.log.length c) ∧ ITold w S B d (.slice p d.log.length c) w' := by
 obtain ⟨dn, sv, h1, hd, h2⟩ := h.ex
 obtain ⟨p, c, es⟩ := h1.log.sl
 subst es
 refine (written_ok h1).mono fun e w' ⟨a, b1, b3⟩ => ⟨p, c, a, fun k => S k ∧ (Value.slice p d.log.length c).ownBlock ≠ some k, ?_, ?_, ?_, ?_⟩
 ·refine ⟨⟨dn, _, b1, hd, fun k g => ?_⟩, fun k g => Nat.lt_of_lt_of_le (h.lt k g.1) b3.size⟩
  rcases g with rfl | g
  ·exact ⟨h2 _ (.inl rfl), fun e => h1.notB e rfl⟩
  ·cases g
 ·exact ⟨fun k g => .inl g.1, b3.mono fun j _ hj => h2 j (.inl hj)⟩
 ·exact ⟨h1.log.kept b3 (fun g e => h1.notB e), fun g e f => f.2 e⟩
 ·exact fun g e => h2 g (.inr e)
theorem wDisk (h : IW w S B d) (k : d.Ok) : Calls Tryz.prog 94 #[.pointer (some ⟨B, 0, none⟩)] w fun e w' => e = .returned (.slice (some ⟨w.heap.size, 0, none⟩) (512 * d.n) (512 * d.n)) ∧ DskPost w d w' := by
 obtain ⟨dn, sv, h1, hd, h2⟩ := h.ex
 exact disk_ok h1 k
end
def INew (w : World) (L : Nat) (bt : Nat → Int) (w' : World) : Prop := ∃ S, IW w' S w.heap.size (id0 (L / 512) (dB L bt)) ∧ (∀ k, S k → w.heap.size ≤ k) ∧ Kp noB w w'
theorem wNew (w : World) (a : Option Addr) (L c : Nat) (bt : Nat → Int) (hb : BytAt w a L bt) (h1 : L % 512 = 0) (h2 : L ≤ 32768) : Calls Tryz.prog 23 #[.slice a L c] w fun e w' => e = .returned (.tuple #[.pointer (some ⟨w.heap.size, 0, none⟩), .int .i64 0]) ∧ INew w L bt w' := by
 refine (new_ok w a L c bt hb h1 h2).mono fun e w' ⟨a, dn, b1, b3⟩ => ⟨a, fun k => k = w.heap.size, ⟨⟨dn, _, b1, fun q => absurd rfl q, fun k g => ?_⟩, fun k g => ?_⟩, fun k g => by omega, b3⟩
 ·rcases g with g | g
  ·exact g
  ·cases g
 ·have := b1.lt
  omega
theorem dB_byt {L : Nat} {bt : Nat → Int} (h : ∀ j, j < L → byt (bt j)) (i : Nat) : byt (dB L bt i) := by
 unfold dB
 split
 ·exact h i ‹_›
 ·exact byt0
theorem idN_ok {L : Nat} {bt : Nat → Int} (h2 : L ≤ 32768) (h : ∀ j, j < L → byt (bt j)) : (id0 (L / 512) (dB L bt)).Ok := id0_ok (by omega) (fun i _ => dB_byt h i)
end Go.Proofs.YtonfjhbfkichkaaGreat.Dk
