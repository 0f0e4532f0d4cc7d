/- The contracts of the document's Pending, take and Ack. -/
import Derived.Test.YtfpgijdfbgfkcaaRcLeaf
namespace Go.Proofs.Ytfpgijdfbgfkcaa
open Go.ChangeShapes Go.WideShapes Go.ChangeAt Go.RowKit
set_option linter.unusedVariables false

theorem next_free {c : Ch} (h : c.Ok) {n : Nat} (e : c.next = n) : n < 8 ∧ tb c.srv n = false := by
  have b := next_bd h
  have hn : n < 8 := by omega
  refine ⟨hn, ?_⟩
  unfold Ch.next nextZ at e
  split at e
  · omega
  · rename_i g
    exact (tz_ge h.srv (k := n + 1) (by omega)).2 (by omega) n (by omega)

/-- The document takes a line as told. -/
def RC.take (r : RC) (n : Nat) : RC := { r with asks := upd r.asks n false, srv := upd r.srv n (!r.ends) }

theorem Rel.take {r : RC} {c : Ch} {s : Bool} (h : Rel r c s) (k : c.Ok) {n : Nat} (e : c.next = n) : Rel (r.take n) (c.told (n : Int)) s := by
  obtain ⟨hn, hs⟩ := next_free k e
  have p := by_pw (n := (n : Int)) (by omega) (by omega)
  unfold Ch.told
  rw [if_neg (by omega)]
  cases ee : c.ends
  · rw [if_neg (by decide)]
    refine ⟨fun j hj f => ?_, fun j hj => ?_, h.msk, h.up, h.base, h.told, h.ends.trans ee⟩
    · show upd r.asks n false j = tb (bits .andNot .u8 c.asks (pw (n : Int))) j
      rw [tb8_andNot k.asks p, tb_pw]
      unfold upd
      by_cases q : j = n
      · simp [q]
      · simp [q, h.asks j hj f]
    · show upd r.srv n (!r.ends) j = tb (bits .or .u8 c.srv (pw (n : Int))) j
      rw [tb8_or k.srv p, tb_pw, h.ends, ee]
      unfold upd
      by_cases q : j = n
      · simp [q]
      · simp [q, h.srv j hj]
  · rw [if_pos rfl]
    refine ⟨fun j hj f => ?_, fun j hj => ?_, h.msk, h.up, h.base, h.told, h.ends.trans ee⟩
    · show upd r.asks n false j = tb (bits .andNot .u8 c.asks (pw (n : Int))) j
      rw [tb8_andNot k.asks p, tb_pw]
      unfold upd
      by_cases q : j = n
      · simp [q]
      · simp [q, h.asks j hj f]
    · show upd r.srv n (!r.ends) j = tb c.srv j
      rw [h.ends, ee]
      unfold upd
      by_cases q : j = n
      · subst q; simp [hs]
      · simp [q, h.srv j hj]

theorem Rel.settle {r : RC} {m : M2} (h : Rel r m.a true) (k : m.Ok) : Rel r m.settle.a true :=
  ⟨fun j hj f => by rw [settle_asks k, if_neg (f rfl)]; exact h.asks j hj f, h.srv, h.msk, h.up, h.base, h.told, h.ends⟩

def St2 (m : M2) : Prop := tb m.a.asks 2 = (m.b.next != -1)

theorem tellsA (w : World) (R : Nat) (a b : RC) (m : M2) (h : RAt w R a b) (ha : Rel a m.a true) (hb : Rel b m.b false) (k : m.Ok) (st : St2 m) : Calls Try.prog 38 #[.pointer (some ⟨R, 0, none⟩), .int .i64 0] w fun e w' => e = .returned (.int .i64 m.a.next) ∧ Kp noB w w' :=
  tells_a w R a b m.a (upd a.asks 2 (m.b.next != -1)) h ha k.a (fun j hj => by
    unfold upd
    by_cases q : j = 2
    · subst q; rw [if_pos rfl]; exact st.symm
    · rw [if_neg q]; exact ha.asks j hj (fun _ => q)) (asking_a w R a b m h hb k)

theorem rpend_ok (w : World) (R : Nat) (a b : RC) (m : M2) (h : RAt w R a b) (ha : Rel a m.a true) (hb : Rel b m.b false) (k : m.Ok) (st : St2 m) : Calls Try.prog 20 #[.pointer (some ⟨R, 0, none⟩)] w fun e w' => e = .returned (.bool (m.a.next != -1)) ∧ Kp noB w w' := by
  have H : Hid _ := tellsA w R a b m h ha hb k st
  have ge : decide (m.a.next ≥ 0) = (m.a.next != -1) := by
    have := next_bd k.a
    by_cases g : m.a.next = -1
    · rw [g]; rfl
    · have g1 : (m.a.next != -1) = true := by simp [g]
      rw [g1]; exact decide_eq_true (by omega)
  obtain ⟨N, hN⟩ : ∃ N, N = m.a.next := ⟨_, rfl⟩
  rw [← hN] at H ge ⊢
  obtain ⟨X, hX⟩ : ∃ X, X = (N != -1) := ⟨_, rfl⟩
  rw [← hX] at ge ⊢
  clear h ha hb k st hN hX
  go_enter Try.func20, Try.ntmps20
  go_wp2_with fail
  refine Calls.mono H.out ?_; rintro e w1 ⟨rfl, k1⟩
  go_wp2
  go_ret
  exact ⟨rfl, k1⟩

theorem take_bn (w : World) (R : Nat) (a b : RC) (c : Ch) (h : RAt w R a b) (hb : Rel b c false) (k : c.Ok) (e : c.next = -1) : Calls Try.prog 37 #[.pointer (some ⟨R, 0, none⟩), .int .i64 1] w fun e w' => e = .returned (.int .i64 (c.vec (-1))) ∧ RAt w' R a b ∧ Kp (isB R) w w' := by
  have H : Hid _ := tellsB w R a b c h hb k
  rw [e] at H
  have HR : Hid (RAt w R a b) := h
  have hB : b.base = c.base := hb.base
  obtain ⟨b0, b1⟩ := k.base
  have hV : c.vec (-1) = b.base + 7 := by rw [hB]; simp [Ch.vec]
  rw [hV]
  rw [← hB] at b0 b1
  have hw : IntKind.i64.wrap (b.base + 7) = b.base + 7 := IntWalk.i64_in _ ⟨by omega, by omega⟩
  clear h hb k e hB hV
  go_enter Try.func37, Try.ntmps37
  go_wp2_with fail
  refine Calls.mono H.out ?_; rintro e w1 ⟨rfl, k1⟩
  have h1 := HR.out.kept k1 id
  have c1 : w1.cell? ⟨R, 68, none⟩ = some (.int .i64 b.base) := h1.cellB (j := 32) rfl
  go_wp2
  go_ret
  exact ⟨rfl, h1, k1.any⟩

theorem take_b (w : World) (R : Nat) (a b : RC) (c : Ch) (h : RAt w R a b) (hb : Rel b c false) (k : c.Ok) (N : Nat) (e : c.next = N) : Calls Try.prog 37 #[.pointer (some ⟨R, 0, none⟩), .int .i64 1] w fun e w' => e = .returned (.int .i64 (c.vec N)) ∧ RAt w' R a (b.take N) ∧ Kp (isB R) w w' := by
  have H : Hid _ := tellsB w R a b c h hb k
  obtain ⟨hN, _⟩ := next_free k e
  rw [e] at H
  have HR : Hid (RAt w R a b) := h
  have hB : b.base = c.base := hb.base
  obtain ⟨b0, b1⟩ := k.base
  have hV : c.vec N = b.base + N := by rw [hB]; unfold Ch.vec; rw [if_neg (by omega)]
  rw [hV]
  rw [← hB] at b0 b1
  have hw : IntKind.i64.wrap (b.base + N) = b.base + N := IntWalk.i64_in _ ⟨by omega, by omega⟩
  clear h hb k e hB hV
  go_enter Try.func37, Try.ntmps37
  go_wp2_with fail
  refine Calls.mono H.out ?_; rintro e w1 ⟨rfl, k1⟩
  have h1 := HR.out.kept k1 id
  have c1 : w1.cell? ⟨R, 68, none⟩ = some (.int .i64 b.base) := h1.cellB (j := 32) rfl
  have c2 : w1.cell? ⟨R, 36 + N, none⟩ = some (.bool (b.asks N)) := h1.cellB (ch_asks b hN)
  have z2 := h1.fz (36 + N)
  have h2 : RAt (w1.setCell ⟨R, 36 + N, none⟩ (.bool false)) R a { b with asks := upd b.asks N false } := h1.setB (by omega) (set_asks b hN false)
  have H2 : Hid _ := h2
  have K2 : Hid (Kp (isB R) w (w1.setCell ⟨R, 36 + N, none⟩ (.bool false))) := (k1.any (S := isB R)).trans (kpB R _ _ _)
  clear h1 h2 k1 H HR
  go_wp2
  generalize w1.setCell ⟨R, 36 + N, none⟩ (.bool false) = w2 at H2 K2 ⊢
  have d1 : w2.cell? ⟨R, 70, none⟩ = some (.bool b.ends) := H2.out.cellB (j := 34) rfl
  have d2 : w2.cell? ⟨R, 44 + N, none⟩ = some (.bool (b.srv N)) := by
    have := H2.out.cellB (ch_srv { b with asks := upd b.asks N false } hN)
    rw [show 36 + (8 + N) = 44 + N by omega] at this
    exact this
  have y2 := H2.out.fz (44 + N)
  have h3 : Hid (RAt (w2.setCell ⟨R, 44 + N, none⟩ (.bool !b.ends)) R a (b.take N)) := by
    have := H2.out.setB (j := 8 + N) (by omega) (set_srv { b with asks := upd b.asks N false } hN (!b.ends))
    rw [show 36 + (8 + N) = 44 + N by omega] at this
    exact this
  clear c1 c2 z2
  go_region
  all_goals
    go_wp2
    go_ret
    exact ⟨rfl, h3.out.kept (Kp.refl noB _).drew id, (K2.out.trans (kpB R _ _ _)).drew⟩

theorem takeB (w : World) (R : Nat) (a b : RC) (c : Ch) (h : RAt w R a b) (hb : Rel b c false) (k : c.Ok) : Calls Try.prog 37 #[.pointer (some ⟨R, 0, none⟩), .int .i64 1] w fun e w' => e = .returned (.int .i64 (c.vec c.next)) ∧ (∃ b', RAt w' R a b' ∧ Rel b' (c.told c.next) false ∧ (b'.wp = b.wp ∧ b'.wl = b.wl ∧ b'.wc = b.wc)) ∧ Kp (isB R) w w' := by
  by_cases e : c.next = -1
  · rw [e]
    exact (take_bn w R a b c h hb k e).mono fun _ _ ⟨p, q, r⟩ => ⟨p, ⟨b, q, by unfold Ch.told; rw [if_pos rfl]; exact hb, rfl, rfl, rfl⟩, r⟩
  · have bd := next_bd k
    obtain ⟨N, hN⟩ := Int.eq_ofNat_of_zero_le (show 0 ≤ c.next by omega)
    have hN' : c.next = (N : Int) := hN
    rw [hN']
    exact (take_b w R a b c h hb k N hN').mono fun _ _ ⟨p, q, r⟩ => ⟨p, ⟨b.take N, q, hb.take k hN', rfl, rfl, rfl⟩, r⟩

theorem take_an (w : World) (R : Nat) (a b : RC) (m : M2) (h : RAt w R a b) (ha : Rel a m.a true) (hb : Rel b m.b false) (k : m.Ok) (st : St2 m) (e : m.a.next = -1) : Calls Try.prog 37 #[.pointer (some ⟨R, 0, none⟩), .int .i64 0] w fun e w' => e = .returned (.int .i64 (m.a.vec (-1))) ∧ RAt w' R a b ∧ Kp (isB R) w w' := by
  have H : Hid _ := tellsA w R a b m h ha hb k st
  rw [e] at H
  have HR : Hid (RAt w R a b) := h
  have hB : a.base = m.a.base := ha.base
  obtain ⟨b0, b1⟩ := k.a.base
  have hV : m.a.vec (-1) = a.base + 7 := by rw [hB]; simp [Ch.vec]
  rw [hV]
  rw [← hB] at b0 b1
  have hw : IntKind.i64.wrap (a.base + 7) = a.base + 7 := IntWalk.i64_in _ ⟨by omega, by omega⟩
  clear h ha hb k e hB hV st
  go_enter Try.func37, Try.ntmps37
  go_wp2_with fail
  refine Calls.mono H.out ?_; rintro e w1 ⟨rfl, k1⟩
  have h1 := HR.out.kept k1 id
  have c1 : w1.cell? ⟨R, 32, none⟩ = some (.int .i64 a.base) := h1.cellA (j := 32) rfl
  go_wp2
  go_ret
  exact ⟨rfl, h1, k1.any⟩

theorem take_a (w : World) (R : Nat) (a b : RC) (m : M2) (h : RAt w R a b) (ha : Rel a m.a true) (hb : Rel b m.b false) (k : m.Ok) (st : St2 m) (N : Nat) (e : m.a.next = N) (e2 : ¬ N = 2) : Calls Try.prog 37 #[.pointer (some ⟨R, 0, none⟩), .int .i64 0] w fun e w' => e = .returned (.int .i64 (m.a.vec N)) ∧ RAt w' R (a.take N) b ∧ Kp (isB R) w w' := by
  have H : Hid _ := tellsA w R a b m h ha hb k st
  obtain ⟨hN, _⟩ := next_free k.a e
  rw [e] at H
  have HR : Hid (RAt w R a b) := h
  have hB : a.base = m.a.base := ha.base
  obtain ⟨b0, b1⟩ := k.a.base
  have hV : m.a.vec N = a.base + N := by rw [hB]; unfold Ch.vec; rw [if_neg (by omega)]
  rw [hV]
  rw [← hB] at b0 b1
  have hw : IntKind.i64.wrap (a.base + N) = a.base + N := IntWalk.i64_in _ ⟨by omega, by omega⟩
  have n2 : ((N : Int) == 2) = false := by simp; omega
  clear h ha hb k e hB hV st
  go_enter Try.func37, Try.ntmps37
  go_wp2_with fail
  refine Calls.mono H.out ?_; rintro e w1 ⟨rfl, k1⟩
  have h1 := HR.out.kept k1 id
  have c1 : w1.cell? ⟨R, 32, none⟩ = some (.int .i64 a.base) := h1.cellA (j := 32) rfl
  have c2 : w1.cell? ⟨R, N, none⟩ = some (.bool (a.asks N)) := h1.cellA (ch_asks a hN)
  have z2 := h1.fz N
  have h2 : RAt (w1.setCell ⟨R, N, none⟩ (.bool false)) R { a with asks := upd a.asks N false } b := h1.setA (by omega) (set_asks a hN false)
  have H2 : Hid _ := h2
  have K2 : Hid (Kp (isB R) w (w1.setCell ⟨R, N, none⟩ (.bool false))) := (k1.any (S := isB R)).trans (kpB R _ _ _)
  clear h1 h2 k1 H HR
  go_wp2
  generalize w1.setCell ⟨R, N, none⟩ (.bool false) = w2 at H2 K2 ⊢
  have d1 : w2.cell? ⟨R, 34, none⟩ = some (.bool a.ends) := H2.out.cellA (j := 34) rfl
  have d2 : w2.cell? ⟨R, 8 + N, none⟩ = some (.bool (a.srv N)) := H2.out.cellA (ch_srv { a with asks := upd a.asks N false } hN)
  have y2 := H2.out.fz (8 + N)
  have h3 : Hid (RAt (w2.setCell ⟨R, 8 + N, none⟩ (.bool !a.ends)) R (a.take N) b) := H2.out.setA (j := 8 + N) (by omega) (set_srv { a with asks := upd a.asks N false } hN (!a.ends))
  clear c1 c2 z2
  go_region
  all_goals
    go_wp2
    go_ret
    exact ⟨rfl, h3.out.kept (Kp.refl noB _).drew id, (K2.out.trans (kpB R _ _ _)).drew⟩

theorem take_a2 (w : World) (R : Nat) (a b : RC) (m : M2) (h : RAt w R a b) (ha : Rel a m.a true) (hb : Rel b m.b false) (k : m.Ok) (st : St2 m) (e : m.a.next = 2) : Calls Try.prog 37 #[.pointer (some ⟨R, 0, none⟩), .int .i64 0] w fun e w' => e = .returned (.int .i64 (m.b.vec m.b.next)) ∧ (∃ b', RAt w' R (a.take 2) b' ∧ Rel b' (m.b.told m.b.next) false ∧ (b'.wp = b.wp ∧ b'.wl = b.wl ∧ b'.wc = b.wc)) ∧ Kp (isB R) w w' := by
  have H : Hid _ := tellsA w R a b m h ha hb k st
  rw [e] at H
  have HR : Hid (RAt w R a b) := h
  have hB : a.base = m.a.base := ha.base
  obtain ⟨b0, b1⟩ := k.a.base
  rw [← hB] at b0 b1
  have hw : IntKind.i64.wrap (a.base + 2) = a.base + 2 := IntWalk.i64_in _ ⟨by omega, by omega⟩
  have HB : Hid (∀ w, RAt w R a b → _) := fun w h => takeB w R a b m.b h hb k.b
  clear h ha hb k e hB st
  go_enter Try.func37, Try.ntmps37
  go_wp2_with fail
  refine Calls.mono H.out ?_; rintro e w1 ⟨rfl, k1⟩
  have h1 := HR.out.kept k1 id
  have c1 : w1.cell? ⟨R, 32, none⟩ = some (.int .i64 a.base) := h1.cellA (j := 32) rfl
  go_wp2_with fail
  refine Calls.mono (HB.out w1 h1) ?_; rintro e w2 ⟨rfl, ⟨b', h2, hb', hw'⟩, k2⟩
  have KK : Hid (Kp (isB R) w w2) := (k1.any (S := isB R)).trans k2
  have c2 : w2.cell? ⟨R, 2, none⟩ = some (.bool (a.asks 2)) := h2.cellA (ch_asks a (k := 2) (by decide))
  have z2 := h2.fz 2
  have h3 : RAt (w2.setCell ⟨R, 2, none⟩ (.bool false)) R { a with asks := upd a.asks 2 false } b' := h2.setA (by decide) (set_asks a (k := 2) (by decide) false)
  have H3 : Hid _ := h3
  have K3 : Hid (Kp (isB R) w (w2.setCell ⟨R, 2, none⟩ (.bool false))) := KK.out.trans (kpB R _ _ _)
  have HB' : Hid _ := hb'
  have HW' : Hid _ := hw'
  clear h1 h2 h3 k1 k2 H HR HB c1 KK hb' hw'
  go_wp2
  generalize w2.setCell ⟨R, 2, none⟩ (.bool false) = w3 at H3 K3 ⊢
  have d1 : w3.cell? ⟨R, 34, none⟩ = some (.bool a.ends) := H3.out.cellA (j := 34) rfl
  have d2 : w3.cell? ⟨R, 10, none⟩ = some (.bool (a.srv 2)) := H3.out.cellA (ch_srv { a with asks := upd a.asks 2 false } (k := 2) (by decide))
  have y2 := H3.out.fz 10
  have h4 : Hid (RAt (w3.setCell ⟨R, 10, none⟩ (.bool !a.ends)) R (a.take 2) b') := H3.out.setA (j := 10) (by decide) (set_srv { a with asks := upd a.asks 2 false } (k := 2) (by decide) (!a.ends))
  clear c2 z2
  go_region
  all_goals
    go_wp2
    go_ret
    exact ⟨rfl, ⟨b', h4.out.kept (Kp.refl noB _).drew id, HB'.out, HW'.out⟩, (K3.out.trans (kpB R _ _ _)).drew⟩

/-- What stands for a pair, in the document's memory. -/
structure RM (w : World) (R : Nat) (m : M2) (a b : RC) : Prop where
  at_ : RAt w R a b
  ra : Rel a m.a true
  rb : Rel b m.b false
  ok : m.Ok
  st : St2 m

def sameW (a a' : RC) : Prop := a'.wp = a.wp ∧ a'.wl = a.wl ∧ a'.wc = a.wc

theorem rack_ok (w : World) (R : Nat) (m : M2) (a b : RC) (h : RM w R m a b) : Calls Try.prog 18 #[.pointer (some ⟨R, 0, none⟩)] w fun e w' => e = .returned (.int .i64 m.vec) ∧ (∃ a' b', RM w' R m.ack a' b' ∧ sameW a a' ∧ sameW b b') ∧ Kp (isB R) w w' := by
  have HT : Hid (Calls Try.prog 37 #[.pointer (some ⟨R, 0, none⟩), .int .i64 0] w fun e w' => e = .returned (.int .i64 m.vec) ∧ (∃ a' b', RM w' R m.ack a' b' ∧ sameW a a' ∧ sameW b b') ∧ Kp (isB R) w w') := by
    have oa := h.ok.acks
    have ok' := h.ok.ack
    have st' : St2 m.ack := by unfold St2 M2.ack; rw [settle_asks oa, if_pos rfl]; rfl
    by_cases e : m.a.next = -1
    · have hX : m.acks = m := by
        unfold M2.acks
        rw [e, if_neg (by decide)]
        show (⟨m.a.told (-1), m.b⟩ : M2) = m
        rw [show m.a.told (-1) = m.a by unfold Ch.told; rw [if_pos rfl]]
      have hV : m.vec = m.a.vec (-1) := by unfold M2.vec; rw [e, if_neg (by decide)]
      rw [hV]
      refine (take_an w R a b m h.at_ h.ra h.rb h.ok h.st e).mono fun _ w' ⟨p, q, r⟩ => ⟨p, ⟨a, b, ⟨q, ?_, ?_, ok', st'⟩, ⟨rfl, rfl, rfl⟩, rfl, rfl, rfl⟩, r⟩
      · show Rel a m.acks.settle.a true
        apply Rel.settle _ oa
        rw [hX]; exact h.ra
      · show Rel b m.acks.b false
        rw [hX]; exact h.rb
    · by_cases e2 : m.a.next = 2
      · have hX : m.acks = ⟨m.a.told 2, m.b.told m.b.next⟩ := by unfold M2.acks; rw [if_pos e2]
        have hV : m.vec = m.b.vec m.b.next := by unfold M2.vec; rw [if_pos e2]
        rw [hV]
        refine (take_a2 w R a b m h.at_ h.ra h.rb h.ok h.st e2).mono fun _ w' ⟨p, ⟨b', q, q2, q3⟩, r⟩ => ⟨p, ⟨a.take 2, b', ⟨q, ?_, ?_, ok', st'⟩, ⟨rfl, rfl, rfl⟩, q3⟩, r⟩
        · show Rel (a.take 2) m.acks.settle.a true
          apply Rel.settle _ oa
          rw [hX]; exact h.ra.take h.ok.a (n := 2) e2
        · show Rel b' m.acks.b false
          rw [hX]; exact q2
      · have bd := next_bd h.ok.a
        obtain ⟨N, hN⟩ := Int.eq_ofNat_of_zero_le (show 0 ≤ m.a.next by omega)
        have hN' : m.a.next = (N : Int) := hN
        have hX : m.acks = ⟨m.a.told (N : Int), m.b⟩ := by unfold M2.acks; rw [if_neg e2, hN']
        have hV : m.vec = m.a.vec (N : Int) := by unfold M2.vec; rw [if_neg e2, hN']
        rw [hV]
        refine (take_a w R a b m h.at_ h.ra h.rb h.ok h.st N hN' (by omega)).mono fun _ w' ⟨p, q, r⟩ => ⟨p, ⟨a.take N, b, ⟨q, ?_, ?_, ok', st'⟩, ⟨rfl, rfl, rfl⟩, rfl, rfl, rfl⟩, r⟩
        · show Rel (a.take N) m.acks.settle.a true
          apply Rel.settle _ oa
          rw [hX]; exact h.ra.take h.ok.a hN'
        · show Rel b m.acks.b false
          rw [hX]; exact h.rb
  clear h
  go_enter Try.func18, Try.ntmps18
  go_wp2_with fail
  refine Calls.mono HT.out ?_; rintro e w1 ⟨rfl, h1, k1⟩
  go_wp2
  go_ret
  exact ⟨rfl, h1, k1⟩
end Go.Proofs.Ytfpgijdfbgfkcaa
