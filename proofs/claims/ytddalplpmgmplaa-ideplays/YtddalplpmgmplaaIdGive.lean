/- The contract of give: bytes that are read. -/
import Derived.Test.YtddalplpmgmplaaIdTake
namespace Go.Proofs.Ytddalplpmgmplaa
open Go.ChangeShapes Go.WideShapes Go.ChangeAt Go.RowKit
set_option linter.unusedVariables false

/-- m bytes were given into the block q. -/
def GSt (w : World) (B : Nat) (sv : Value) (d : Id) (q o : Nat) (cur : Array Value) (t : TypeId) (m : Nat) (w' : World) : Prop :=
  ∃ dn', IAt w' B dn' sv (d.gets m) ∧ Dn (d.gets m) dn' ∧ (∃ cur', w'.heap[q]? = some (.cells cur' t (0, 0)) ∧ Laid cur cur' o m (fun j => .int .u8 (d.gets j).getV)) ∧ Kp (fun k => k = B ∨ k = q) w w'

section
variable {w : World} {B : Nat} {dn : Int} {sv : Value} {d : Id}

set_option maxHeartbeats 2000000 in
theorem give_ok (h : IAt w B dn sv d) (hd : Dn d dn) (k : d.Ok) (q o L c : Nat) (cur : Array Value) (t : TypeId) (hq : w.heap[q]? = some (.cells cur t (0, 0))) (ho : o + L ≤ cur.size) (hc : L ≤ c) (hL : L ≤ 4) (hqB : q ≠ B) (hqs : sv.ownBlock ≠ some q) :
    Calls Try.prog 27 #[.pointer (some ⟨B, 0, none⟩), .slice (some ⟨q, o, none⟩) L c] w fun e w' => e = .returned (.tuple #[]) ∧ GSt w B sv d q o cur t L w' := by
  have H0 : Hid (GSt w B sv d q o cur t 0 w) := ⟨dn, h, hd, ⟨cur, hq, Laid.none _ _ _⟩, Kp.refl _ _⟩
  have hK : Hid d.Ok := k
  clear h k hd hq
  go_enter Try.func27, Try.ntmps27
  go_wp2
  go_loopw [1] (fun sl wr => ∃ m : Nat, m ≤ L ∧ (∃ p c', sl = .slice p (L - m) c' ∧ (m < L → p = some ⟨q, o + m, none⟩ ∧ L - m ≤ c')) ∧ GSt w B sv d q o cur t m wr) (fun sl _ => slLen sl)
  case atStart => exact ⟨0, Nat.zero_le _, ⟨_, c, rfl, fun _ => ⟨rfl, hc⟩⟩, H0.out⟩
  case round =>
    clear H0
    obtain ⟨m, hm, ⟨p, c', rfl, hp⟩, HD0⟩ := hrel
    have HD : Hid (GSt w B sv d q o cur t m wr) := HD0
    clear HD0
    by_cases hgo : m < L ∧ ((d.gets m).mode = 1 ∨ (d.gets m).mode = 3)
    · obtain ⟨hmL, hmode⟩ := hgo
      obtain ⟨rfl, hc'⟩ := hp hmL
      obtain ⟨u, hu⟩ : ∃ u, u = d.gets m := ⟨_, rfl⟩
      have HU : Hid (u = d.gets m) := hu
      obtain ⟨dn1, h1, hd1, ⟨cur1, hq1, hl1⟩, k1⟩ := HD.out
      rw [← hu] at h1 hd1 hmode
      have ku : u.Ok := by rw [hu]; exact hK.out.gets m
      clear hu
      have hdn : dn1 = u.don := hd1 (by omega)
      subst hdn
      have x1 := ku.don
      have cd := h1.cdn
      have cg := h1.cgo
      obtain ⟨x, hx⟩ : ∃ x, x = u.don := ⟨_, rfl⟩
      obtain ⟨n, hn⟩ : ∃ n : Nat, n = Nat.min (512 - x) (L - m) := ⟨_, rfl⟩
      have n0 : 1 ≤ n := by rw [hn]; exact Nat.le_min.2 ⟨by omega, by omega⟩
      have n1 : n ≤ L - m := by rw [hn]; exact Nat.min_le_right _ _
      have n3 : n ≤ 512 - x := by rw [hn]; exact Nat.min_le_left _ _
      have n2 : x + n ≤ 512 := by omega
      have hsl : ∀ w, _ := fun w => run_buf w B 32778 x (by omega)
      have hD := h1.keep (w' := wr.drew) (Kp.refl noB _).drew
      have hqD : wr.drew.heap[q]? = some (.cells cur1 t (0, 0)) := hq1
      have hsz := hl1.1
      obtain ⟨w2, hcp, ⟨cur2, hh2, hl2⟩, hk2⟩ := copy_any wr.drew q (o + m) (L - m) c' B (32778 + x) (512 - x) (512 - x) n hn cur1 t hqD (by omega) (fun j => u.buf (x + j)) (fun j hj => by
        rw [Nat.add_assoc]
        exact hD.cb (x + j) (by omega))
      have h2 : IAt w2 B u.don sv u := hD.kept hk2 (fun e => hqB e.symm) (fun g e (e' : g = q) => hqs (e' ▸ e))
      have hlF := hl1.then hl2 (fun j hj => by
        show Value.int .u8 _ = Value.int .u8 _
        rw [gets_add, ← HU.out, gets_getV u hmode j (by omega), hx])
      have cd2 : w2.cell? ⟨B, 33290, none⟩ = some (.int .i64 u.don) := h2.cdn
      have z2 := h2.fz 33290
      have r3 := h2.raw.setdn ((x : Int) + n)
      have FL : Hid _ := h2.fl
      have hh3 : (w2.setCell ⟨B, 33290, none⟩ (.int .i64 ((x : Int) + n))).heap[q]? = some (.cells cur2 t (0, 0)) := heap_kept hh2 (kpB B _ _ _) hqB
      have K3 : Kp (fun k => k = B ∨ k = q) w (w2.setCell ⟨B, 33290, none⟩ (.int .i64 ((x : Int) + n))) := (k1.drew.over hk2 (fun j _ e => .inr e)).over (kpB B _ _ _) (fun j _ e => .inl e)
      have hst : d.gets (m + n) = u.gets n := by rw [gets_add, HU.out]
      rw [← hx] at cd cd2
      by_cases hfull : x + n = 512
      · have t1 : (((x : Int) + n) == 512) = true := by rw [beq_iff_eq]; omega
        have hpf := gets_full u hmode n (by rw [← hx]; exact hfull) (by omega)
        have h3 : IAt (w2.setCell ⟨B, 33290, none⟩ (.int .i64 ((x : Int) + n))) B ((x : Int) + n) sv { u with don := 0 } := r3.id _ rfl rfl rfl rfl rfl rfl rfl FL.out
        have k3 : Id.Ok { u with don := 0 } := { ku with don := by show 0 < 512; decide }
        have HW : Hid (Calls Try.prog 39 #[.pointer (some ⟨B, 0, none⟩)] (w2.setCell ⟨B, 33290, none⟩ (.int .i64 ((x : Int) + n))) fun e w' => e = .returned (.tuple #[]) ∧ DOk (w2.setCell ⟨B, 33290, none⟩ (.int .i64 ((x : Int) + n))) B sv (d.gets (m + n)) w') := by
          rw [hst, hpf]
          by_cases ht : u.mode = 3
          · rw [if_pos ht]
            exact endRead_ec h3 ht
          · rw [if_neg ht]
            exact endRead_read h3 k3 (by show u.mode = 1; omega)
        have F : Hid (∀ w4, DOk (w2.setCell ⟨B, 33290, none⟩ (.int .i64 ((x : Int) + n))) B sv (d.gets (m + n)) w4 → GSt w B sv d q o cur t (m + n) w4) := by
          rintro w4 ⟨dn4, h4, d4, k4⟩
          exact ⟨dn4, h4, d4, ⟨cur2, heap_kept hh3 k4 hqB, hlF⟩, K3.over k4 (fun j _ e => .inl e)⟩
        have cg' : goV u.mode = 1 ∨ goV u.mode = 2 := by rcases hmode with e | e <;> rw [e] <;> decide
        clear h3 k3 hpf hst r3 hD hqD hsz h2 h1 hd1 k1 ku HD hx hn FL hlF hh2 hl2 hk2 hh3 K3 hq1 hl1 HU hmode
        rcases cg' with e | e
        all_goals
          rw [e] at cg
          clear e
          go_wp2
          go_region
          go_wp2_with fail
          all_goals
            refine Calls.mono HW.out ?_; rintro e w4 ⟨rfl, h4⟩
            have H4 : Hid (GSt w B sv d q o cur t (m + n) w4) := F.out w4 h4
            clear h4 HW F hcp
            go_wp2
            go_roundw
            case rel =>
              refine ⟨m + n, by omega, ⟨_, _, by congr 1; omega, fun hlt => ?_⟩, H4.out⟩
              first | (exfalso; omega) | (rw [if_neg (by omega)]; exact ⟨by congr 2; omega, by omega⟩) | exact ⟨by congr 2; omega, by omega⟩
            case measure => simp [slLen]; omega
      · have t1 : (((x : Int) + n) == 512) = false := by rw [beq_eq_false_iff_ne]; omega
        have hpf := gets_few u hmode n (by rw [← hx]; omega)
        rw [← hx] at hpf
        have H4 : Hid (GSt w B sv d q o cur t (m + n) (w2.setCell ⟨B, 33290, none⟩ (.int .i64 ((x : Int) + n)))) := by
          refine ⟨(x : Int) + n, ?_, ?_, ⟨cur2, hh3, hlF⟩, K3⟩
          · rw [hst, hpf]
            exact r3.id _ rfl rfl rfl rfl rfl rfl rfl FL.out
          · rw [hst, hpf]
            intro _
            show (x : Int) + n = ((x + n : Nat) : Int)
            omega
        have cg' : goV u.mode = 1 ∨ goV u.mode = 2 := by rcases hmode with e | e <;> rw [e] <;> decide
        clear hpf hst r3 hD hqD hsz h2 h1 hd1 k1 ku HD hx hn FL hlF hh2 hl2 hk2 hh3 K3 hq1 hl1 HU hmode
        rcases cg' with e | e
        all_goals
          rw [e] at cg
          clear e
          go_wp2
          go_region
          go_wp2
          all_goals
            go_roundw
            case rel =>
              refine ⟨m + n, by omega, ⟨_, _, by congr 1; omega, fun hlt => ?_⟩, H4.out⟩
              first | (exfalso; omega) | (rw [if_neg (by omega)]; exact ⟨by congr 2; omega, by omega⟩) | exact ⟨by congr 2; omega, by omega⟩
            case measure => simp [slLen]; omega
    · have hidle : m = L ∨ ¬ ((d.gets m).mode = 1 ∨ (d.gets m).mode = 3) := by
        by_cases e : m = L
        · exact .inl e
        · exact .inr (fun g => hgo ⟨by omega, g⟩)
      have F : Hid (∀ k, m + k < L → (d.gets (m + k)).getV = 255 ∧ d.gets (m + k) = d.gets m) := fun k hk => by
        have g := hidle.resolve_left (by omega)
        rw [gets_add, gets_idle _ g]
        exact ⟨getV_idle _ g, rfl⟩
      have FE : Hid (d.gets L = d.gets m) := by
        show _ = _
        rcases hidle with e | g
        · rw [e]
        · rw [show L = m + (L - m) by omega, gets_add, gets_idle _ g]
      obtain ⟨dn1, h1, hd1, ⟨cur1, hq1, hl1⟩, k1⟩ := HD.out
      have cg := h1.cgo
      have cg' : m = L ∨ ((goV (d.gets m).mode == 1) = false ∧ (goV (d.gets m).mode == 2) = false) := by
        rcases hidle with e | g
        · exact .inl e
        · right
          rcases (hK.out.gets m).mode with e | e | e | e
          · rw [e]; decide
          · exact absurd (.inl e) g
          · rw [e]; decide
          · exact absurd (.inr e) g
      have I1 : Hid (IAt wr B dn1 sv (d.gets m) ∧ Dn (d.gets m) dn1) := ⟨h1, hd1⟩
      have Q1 : Hid (wr.heap[q]? = some (.cells cur1 t (0, 0)) ∧ Laid cur cur1 o m (fun j => .int .u8 (d.gets j).getV)) := ⟨hq1, hl1⟩
      have K1 : Hid (Kp (fun k => k = B ∨ k = q) w wr) := k1
      clear HD h1 hd1 hq1 hl1 k1 hgo hidle
      generalize goV (d.gets m).mode = g at *
      by_cases e : m = L
      · subst e
        clear hp cg'
        go_wp2
        go_loopw [53] (fun s wr' => s = .int .i64 0 ∧ wr' = wr) (fun _ _ => 0)
        case atStart => exact ⟨rfl, rfl⟩
        case round =>
          obtain ⟨rfl, rfl⟩ := hrel
          go_wp2
          go_end0
          exact ⟨rfl, dn1, I1.out.1, I1.out.2, ⟨cur1, Q1.out⟩, K1.out⟩
      · obtain ⟨g1, g2⟩ := cg'.resolve_left e
        obtain ⟨rfl, hc'⟩ := hp (by omega)
        clear cg' hp
        generalize wr = W1 at *
        go_wp2
        go_loopw [53] (fun s wr' => ∃ i : Nat, i ≤ L - m ∧ s = .int .i64 i ∧ (∃ cur2, wr'.heap[q]? = some (.cells cur2 t (0, 0)) ∧ Laid cur cur2 o (m + i) (fun j => .int .u8 (d.gets j).getV)) ∧ Kp (isB q) W1 wr') (fun s _ => L - m - (intOf s).toNat)
        case atStart => exact ⟨0, by omega, rfl, ⟨cur1, Q1.out⟩, Kp.refl _ _⟩
        case round =>
          obtain ⟨i, hi, rfl, ⟨cur2, hh, hl⟩, hkp⟩ := hrel
          by_cases hiL : i < L - m
          · have hsz := hl.1
            have hcell : ∃ u, wr.cell? ⟨q, o + m + i, none⟩ = some u := by
              rw [cell_at hh]
              exact ⟨_, Array.getElem?_eq_getElem (by omega)⟩
            obtain ⟨u, hcell⟩ := hcell
            have hz : wr.frozen? ⟨q, o + m + i, none⟩ = false := frozen_at hh
            have hnew := heap_set (k := o + m + i) (v := .int .u8 255) hh
            have hl2 : Laid cur (cur2.setIfInBounds (o + m + i) (.int .u8 255)) o (m + (i + 1)) (fun j => .int .u8 (d.gets j).getV) := by
              have h1 := Laid.one (cur := cur2) (o := o + m + i) (by omega) (.int .u8 255)
              rw [show o + m + i = o + (m + i) by omega] at h1 ⊢
              have h2 := hl.then h1 (fun j hj => by
                have : j = 0 := by omega
                subst this
                show Value.int .u8 255 = Value.int .u8 _
                rw [Nat.add_zero, (F.out i (by omega)).1])
              exact h2
            have H : Hid (_ ∧ _ ∧ _) := ⟨hnew, hl2, hkp.trans (kpB q wr (o + m + i) (.int .u8 255))⟩
            have hlt : (i : Int) < ((L - m : Nat) : Int) := by omega
            clear hh hl hkp hnew hl2 hsz
            go_wp2
            go_roundw
            case rel => exact ⟨i + 1, by omega, by go_num, ⟨_, H.out.1, H.out.2.1⟩, H.out.2.2⟩
            case measure => simp [intOf]; omega
          · have e2 : i = L - m := by omega
            subst e2
            rw [show m + (L - m) = L by omega] at hl
            have H : Hid (GSt w B sv d q o cur t L wr) := by
              refine ⟨dn1, ?_, ?_, ⟨cur2, hh, hl⟩, K1.out.over hkp (fun j _ e => .inr e)⟩
              · rw [FE.out]
                exact I1.out.1.kept hkp (fun e => hqB e.symm) (fun g e (e' : g = q) => hqs (e' ▸ e))
              · rw [FE.out]
                exact I1.out.2
            clear hh hl hkp
            go_wp2
            go_end0
            exact ⟨rfl, H.out⟩
end
end Go.Proofs.Ytddalplpmgmplaa
