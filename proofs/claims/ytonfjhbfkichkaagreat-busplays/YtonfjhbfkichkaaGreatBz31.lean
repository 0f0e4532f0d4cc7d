/- The bus and its devices: UrWrite. -/
import Derived.Test.YtonfjhbfkichkaaGreatBz30
namespace Go.Proofs.YtonfjhbfkichkaaGreat.Ut
open Go.ChangeShapes Go.WideShapes Go.ChangeAt Go.RowKit
set_option linter.unusedVariables false
set_option maxRecDepth 20000
theorem b1_16 (v : Int) : b1 (v % 16) = b1 v := by
 unfold b1
 rw [show v % 16 / 2 % 2 = v / 2 % 2 by omega]
section
variable {w : World} {R : Nat} {cq sv : Value} {u : U}
theorem rwrite_div0 (h : RAt w R cq sv u) (v : Int) (hl : u.lat = true) : Calls Tryz.prog 128 #[.pointer (some ⟨R, 0, none⟩), .int .i64 0, .int .u8 v] w fun e w' => e = .returned (.int .i64 0) ∧ ROut w R cq sv (u.out 0 v) w' := by
 have c4 := h.c4
 have cc := h.c2
 have zz := h.fz 2
 have el := (lat_gt u).trans hl
 have hC : Hid (RAt w R cq sv u) := h
 clear h
 go_enter Tryz.func128, Tryz.ntmps128
 go_wp2
 go_ret
 have e : u.out 0 v = { u with d0 := v } := by unfold U.out; rw [if_pos rfl, if_pos hl]
 rw [e]
 exact ⟨rfl, (hC.out.set { u with d0 := v } rfl rfl rfl).out (kpB R _ _ _)⟩
theorem rwrite_div1 (h : RAt w R cq sv u) (v : Int) (hl : u.lat = true) : Calls Tryz.prog 128 #[.pointer (some ⟨R, 0, none⟩), .int .i64 1, .int .u8 v] w fun e w' => e = .returned (.int .i64 0) ∧ ROut w R cq sv (u.out 1 v) w' := by
 have c4 := h.c4
 have cc := h.c3
 have zz := h.fz 3
 have el := (lat_gt u).trans hl
 have hC : Hid (RAt w R cq sv u) := h
 clear h
 go_enter Tryz.func128, Tryz.ntmps128
 go_wp2
 go_ret
 have e : u.out 1 v = { u with d1 := v } := by unfold U.out; rw [if_neg (by decide), if_pos rfl, if_pos hl]
 rw [e]
 exact ⟨rfl, (hC.out.set { u with d1 := v } rfl rfl rfl).out (kpB R _ _ _)⟩
theorem rwrite_0 (h : RAt w R cq sv u) (v : Int) (hl : u.lat = false) (hs : u.sent.length < 140737488355328) : Calls Tryz.prog 128 #[.pointer (some ⟨R, 0, none⟩), .int .i64 0, .int .u8 v] w fun e w' => e = .returned (.int .i64 0) ∧ ROut w R cq sv (u.out 0 v) w' := by
 have c4 := h.c4
 have c10 := h.c10
 have el := (lat_gt u).trans hl
 obtain ⟨v', w', hr, h2, h3, h4⟩ := appB h.snt v hs
 obtain ⟨pa, ca, ev⟩ := h2.sl
 rw [List.length_append, List.length_singleton] at ev
 subst ev
 have HR : Hid _ := hr
 unfold wB at HR
 have h1 : w'.heap[R]? = some (.cells (rC cq sv u) 149 (0, 0)) := heap_kept h.blk h3 (fun e => off_row h.blk (h.snt.lt e) rfl)
 have hch : CqAt w' cq u.came := h.chn.kept h3 (fun g e e' => h.apart g e e')
 have c10' : w'.cell? ⟨R, 10, none⟩ = some sv := by simp [World.cell?, h1, rC]
 have c9' : w'.cell? ⟨R, 9, none⟩ = some (.bool u.tell) := by simp [World.cell?, h1, rC]
 have z10' : w'.frozen? ⟨R, 10, none⟩ = false := by simp [World.frozen?, h1]
 have z9' : w'.frozen? ⟨R, 9, none⟩ = false := by simp [World.frozen?, h1]
 have hap : ∀ g, cq.ownBlock = some g → (Value.slice pa (u.sent.length + 1) ca).ownBlock ≠ some g := fun g e e' => by
  rcases h4 g e' with f | f
  ·exact h.apart g e f
  ·obtain ⟨cur, hc⟩ := h.chn.lt e
   have := heap_lt hc
   omega
 have hF : Hid (ROut w R cq sv (u.send v) ((w'.setCell ⟨R, 10, none⟩ (.slice pa (u.sent.length + 1) ca)).setCell ⟨R, 9, none⟩ (.bool true))) := by
  have hk := kpB R w' 10 (.slice pa (u.sent.length + 1) ca)
  have hA : RAt (w'.setCell ⟨R, 10, none⟩ (.slice pa (u.sent.length + 1) ca)) R cq (.slice pa (u.sent.length + 1) ca) { u with sent := u.sent ++ [v] } := ⟨by rw [heap_set h1]; simp [rC], hch.kept hk (fun g e => off_row h1 (hch.lt e)), h2.kept hk (fun g e => off_row h1 (h2.lt e)), hap⟩
  refine ⟨cq, _, hA.set (u.send v) rfl rfl rfl, fun k g => ?_, ?_⟩
  ·rcases g with g | g | g
   ·exact .inl (.inl g)
   ·exact .inl (.inr (.inl g))
   ·rcases h4 k g with g | g
    ·exact .inl (.inr (.inr g))
    ·exact .inr g
  ·exact ((h3.mono fun k _ e => .inr (.inr e)).trans hk.rfoot).trans (kpB R _ _ _).rfoot
 clear h1 hch h2 h3 h4 hr hap h
 go_enter Tryz.func128, Tryz.ntmps128
 go_wp2_with (at_builtin; refine wpList_appB rfl _ _ rfl rfl rfl rfl HR.out ?_)
 go_ret
 have e : u.out 0 v = u.send v := by unfold U.out; rw [if_pos rfl, if_neg (by rw [hl]; decide)]
 rw [e]
 exact ⟨rfl, hF.out⟩
theorem rwrite_1 (h : RAt w R cq sv u) (k : u.Ok) (v : Int) (hv : By v) (hl : u.lat = false) : Calls Tryz.prog 128 #[.pointer (some ⟨R, 0, none⟩), .int .i64 1, .int .u8 v] w fun e w' => e = .returned (.int .i64 0) ∧ ROut w R cq sv (u.out 1 v) w' := by
 have c4 := h.c4
 have c7 := h.c7
 have c9 := h.c9
 have z7 := h.fz 7
 have z9 := h.fz 9
 have el := (lat_gt u).trans hl
 obtain ⟨w0, w1⟩ := k.want
 have wd : Int.tdiv u.want 2 = u.want / 2 := by_td w0
 have wdm : Int.tmod (u.want / 2) 2 = u.want / 2 % 2 := by_tm (by omega)
 have vd : Int.tdiv v 2 = v / 2 := by_td hv.1
 have vdm : Int.tmod (v / 2) 2 = v / 2 % 2 := by_tm (by have := hv.1; omega)
 have vm : Int.tmod v 16 = v % 16 := by_tm hv.1
 have e0 : (u.want / 2 % 2 == 0) = !b1 u.want := by
  unfold b1
  rcases (by omega : u.want / 2 % 2 = 0 ∨ u.want / 2 % 2 = 1) with e | e <;> rw [e] <;> rfl
 have e1 : (v / 2 % 2 == 1) = b1 v := rfl
 have hC : Hid (RAt w R cq sv u) := h
 have e : u.out 1 v = u.wants (v % 16) := by unfold U.out; rw [if_neg (by decide), if_pos rfl, if_neg (by rw [hl]; decide)]
 rw [e]
 unfold U.wants
 rw [b1_16]
 clear h k e
 have fin1 : Hid (∀ u' : U, (rC cq sv u).setIfInBounds 7 (.int .u8 (v % 16)) = rC cq sv u' → u'.came = u.came → u'.sent = u.sent → ROut w R cq sv u' (w.setCell ⟨R, 7, none⟩ (.int .u8 (v % 16)))) := fun u' e1 e2 e3 => (hC.out.set u' e1 e2 e3).out (kpB R _ _ _)
 have fin2 : Hid (∀ u' : U, (rC cq sv { u with tell := true }).setIfInBounds 7 (.int .u8 (v % 16)) = rC cq sv u' → u'.came = u.came → u'.sent = u.sent → ROut w R cq sv u' ((w.setCell ⟨R, 9, none⟩ (.bool true)).setCell ⟨R, 7, none⟩ (.int .u8 (v % 16)))) := fun u' e1 e2 e3 => ((hC.out.set (k := 9) (v := .bool true) { u with tell := true } rfl rfl rfl).set u' e1 e2 e3).out ((kpB R _ _ _).trans (kpB R _ _ _))
 generalize b1 u.want = x0 at e0 ⊢
 generalize b1 v = x1 at e1 ⊢
 cases x0 <;> cases x1 <;> (
  simp only [Bool.not_true, Bool.not_false] at e0
  go_enter Tryz.func128, Tryz.ntmps128
  go_wp2
  go_ret
  first
  | exact ⟨rfl, fin1.out _ (by simp [rC]) rfl rfl⟩
  | exact ⟨rfl, fin2.out _ (by simp [rC]) rfl rfl⟩)
set_option maxHeartbeats 4000000 in
theorem rwrite_2 (h : RAt w R cq sv u) (k : u.Ok) (v : Int) (hv : By v) : Calls Tryz.prog 128 #[.pointer (some ⟨R, 0, none⟩), .int .i64 2, .int .u8 v] w fun e w' => e = .returned (.int .i64 0) ∧ ROut w R cq sv (u.out 2 v) w' := by
 have c4 := h.c4
 have c0 := h.c0
 have c8 := h.c8
 have z0 := h.fz 0
 have z8 := h.fz 8
 have vm : Int.tmod v 2 = v % 2 := by_tm hv.1
 have vd : Int.tdiv v 2 = v / 2 := by_td hv.1
 have vdm : Int.tmod (v / 2) 2 = v / 2 % 2 := by_tm (by have := hv.1; omega)
 have e0 : (v % 2 == 1) = b0 v := rfl
 have e1 : (v / 2 % 2 == 1) = b1 v := rfl
 obtain ⟨p, c, rfl⟩ := h.chn.sl
 have hC : Hid (RAt w R _ sv u) := h
 have e : u.out 2 v = u.turn v := rfl
 rw [e]
 unfold U.turn
 have el := lat_gt u
 clear h k e
 have fin1 : Hid (∀ u' : U, (rC (.slice p u.came.length c) sv u).setIfInBounds 8 (.bool u'.on) = rC (.slice p u.came.length c) sv u' → u'.came = u.came → u'.sent = u.sent → ROut w R (.slice p u.came.length c) sv u' (w.setCell ⟨R, 8, none⟩ (.bool u'.on))) := fun u' e1 e2 e3 => (hC.out.set u' e1 e2 e3).out (kpB R _ _ _)
 have fin2 : Hid (∀ u' : U, (rC (.slice none 0 0) sv { u with came := [] }).setIfInBounds 8 (.bool u'.on) = rC (.slice none 0 0) sv u' → u'.came = [] → u'.sent = u.sent → ROut w R (.slice p u.came.length c) sv u' ((w.setCell ⟨R, 0, none⟩ (.slice none 0 0)).setCell ⟨R, 8, none⟩ (.bool u'.on))) := fun u' e1 e2 e3 => by
  have h1 := (hC.out.put (k := 0) (v := .slice none 0 0) (.slice none 0 0) sv { u with came := [] } rfl .no hC.out.snt (fun g e => by cases e)).set u' e1 e2 e3
  refine ⟨_, _, h1, fun k f => .inl ?_, ((kpB R _ _ _).trans (kpB R _ _ _)).rfoot⟩
  rcases f with f | f | f
  ·exact .inl f
  ·cases f
  ·exact .inr (.inr f)
 generalize u.lat = x at el
 generalize b0 v = x0 at e0 ⊢
 generalize b1 v = x1 at e1 ⊢
 cases eo : u.on <;> rw [eo] at c8 <;> cases x <;> cases x0 <;> cases x1 <;> (
  go_enter Tryz.func128, Tryz.ntmps128
  go_wp2
  go_ret
  first
  | exact ⟨rfl, fin1.out _ (by simp [rC]) rfl rfl⟩
  | exact ⟨rfl, fin2.out _ (by simp [rC]) rfl rfl⟩)
theorem rwrite_3 (h : RAt w R cq sv u) (v : Int) (hv : By v) : Calls Tryz.prog 128 #[.pointer (some ⟨R, 0, none⟩), .int .i64 3, .int .u8 v] w fun e w' => e = .returned (.int .i64 0) ∧ ROut w R cq sv (u.out 3 v) w' := by
 have c4 := h.c4
 have hC : Hid (RAt w R cq sv u) := h
 have cc := h.c4
 have zz := h.fz 4
 have el := lat_gt u
 clear h
 generalize u.lat = x at el
 cases x <;> (
  go_enter Tryz.func128, Tryz.ntmps128
  go_wp2
  go_ret
  exact ⟨rfl, (hC.out.set (u.out 3 v) rfl rfl rfl).out (kpB R _ _ _)⟩)
theorem rwrite_4 (h : RAt w R cq sv u) (v : Int) (hv : By v) : Calls Tryz.prog 128 #[.pointer (some ⟨R, 0, none⟩), .int .i64 4, .int .u8 v] w fun e w' => e = .returned (.int .i64 0) ∧ ROut w R cq sv (u.out 4 v) w' := by
 have c4 := h.c4
 have hC : Hid (RAt w R cq sv u) := h
 have cc := h.c5
 have zz := h.fz 5
 have vm : Int.tmod v 32 = v % 32 := by_tm hv.1
 have el := lat_gt u
 clear h
 generalize u.lat = x at el
 cases x <;> (
  go_enter Tryz.func128, Tryz.ntmps128
  go_wp2
  go_ret
  exact ⟨rfl, (hC.out.set (u.out 4 v) rfl rfl rfl).out (kpB R _ _ _)⟩)
theorem rwrite_7 (h : RAt w R cq sv u) (v : Int) (hv : By v) : Calls Tryz.prog 128 #[.pointer (some ⟨R, 0, none⟩), .int .i64 7, .int .u8 v] w fun e w' => e = .returned (.int .i64 0) ∧ ROut w R cq sv (u.out 7 v) w' := by
 have c4 := h.c4
 have hC : Hid (RAt w R cq sv u) := h
 have cc := h.c6
 have zz := h.fz 6
 have el := lat_gt u
 clear h
 generalize u.lat = x at el
 cases x <;> (
  go_enter Tryz.func128, Tryz.ntmps128
  go_wp2
  go_ret
  exact ⟨rfl, (hC.out.set (u.out 7 v) rfl rfl rfl).out (kpB R _ _ _)⟩)
theorem rwrite_5 (h : RAt w R cq sv u) (v : Int) (hv : By v) : Calls Tryz.prog 128 #[.pointer (some ⟨R, 0, none⟩), .int .i64 5, .int .u8 v] w fun e w' => e = .returned (.int .i64 0) ∧ ROut w R cq sv (u.out 5 v) w' := by
 have c4 := h.c4
 have hC : Hid (RAt w R cq sv u) := h
 have el := lat_gt u
 clear h
 generalize u.lat = x at el
 cases x <;> (
  go_enter Tryz.func128, Tryz.ntmps128
  go_wp2
  go_ret
  exact ⟨rfl, hC.out.out (Kp.refl _ _)⟩)
theorem rwrite_6 (h : RAt w R cq sv u) (v : Int) (hv : By v) : Calls Tryz.prog 128 #[.pointer (some ⟨R, 0, none⟩), .int .i64 6, .int .u8 v] w fun e w' => e = .returned (.int .i64 0) ∧ ROut w R cq sv (u.out 6 v) w' := by
 have c4 := h.c4
 have hC : Hid (RAt w R cq sv u) := h
 have el := lat_gt u
 clear h
 generalize u.lat = x at el
 cases x <;> (
  go_enter Tryz.func128, Tryz.ntmps128
  go_wp2
  go_ret
  exact ⟨rfl, hC.out.out (Kp.refl _ _)⟩)
theorem rwrite_no (h : RAt w R cq sv u) (n v : Int) (hn : n < 0 ∨ 8 ≤ n) : Calls Tryz.prog 128 #[.pointer (some ⟨R, 0, none⟩), .int .i64 n, .int .u8 v] w fun e w' => e = .returned (.int .i64 1) ∧ w' = w := by
 have c4 := h.c4
 have n0 : (n == 0) = false := by simp; omega
 have n1 : (n == 1) = false := by simp; omega
 have n2 : (n == 2) = false := by simp; omega
 have n3 : (n == 3) = false := by simp; omega
 have n4 : (n == 4) = false := by simp; omega
 have n5 : (n == 5) = false := by simp; omega
 have n6 : (n == 6) = false := by simp; omega
 have n7 : (n == 7) = false := by simp; omega
 have el := lat_gt u
 clear h
 generalize u.lat = x at el
 cases x <;> (
  go_enter Tryz.func128, Tryz.ntmps128
  go_wp2
  go_ret
  exact ⟨rfl, rfl⟩)
theorem rwrite_ok (h : RAt w R cq sv u) (k : u.Ok) (n v : Int) (n0 : 0 ≤ n) (n1 : n < 8) (hv : By v) (hs : u.sent.length < 140737488355328) : Calls Tryz.prog 128 #[.pointer (some ⟨R, 0, none⟩), .int .i64 n, .int .u8 v] w fun e w' => e = .returned (.int .i64 0) ∧ ROut w R cq sv (u.out n v) w' := by
 rcases (by omega : n = 0 ∨ n = 1 ∨ n = 2 ∨ n = 3 ∨ n = 4 ∨ n = 5 ∨ n = 6 ∨ n = 7) with rfl | rfl | rfl | rfl | rfl | rfl | rfl | rfl
 ·cases e : u.lat
  ·exact rwrite_0 h v e hs
  ·exact rwrite_div0 h v e
 ·cases e : u.lat
  ·exact rwrite_1 h k v hv e
  ·exact rwrite_div1 h v e
 ·exact rwrite_2 h k v hv
 ·exact rwrite_3 h v hv
 ·exact rwrite_4 h v hv
 ·exact rwrite_5 h v hv
 ·exact rwrite_6 h v hv
 ·exact rwrite_7 h v hv
end
end Go.Proofs.YtonfjhbfkichkaaGreat.Ut
