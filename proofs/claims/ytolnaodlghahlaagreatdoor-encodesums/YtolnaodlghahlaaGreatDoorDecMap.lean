/- The maps of rules: what each of the functions makes. -/
import Derived.Test.YtolnaodlghahlaaGreatDoorDecIns
namespace Go.Proofs.YtolnaodlghahlaaGreatDoor
open Go.ChangeShapes Go.WideShapes Go.ChangeAt Go.RowKit
set_option linter.unusedVariables false

def L00 (a : Int) : List (Int × Nat) := [(a, 63), (a + 1, 68), (a + 2, 69), (a + 3, 70), (a + 4, 71), (a + 5, 74), (6, 75), (14, 77), (22, 78), (30, 79), (7, 80), (23, 81), (31, 82), (39, 83), (47, 84), (55, 85), (63, 86)]

theorem nd00 (a : Int) (h : a = 0 ∨ a = 8 ∨ a = 16 ∨ a = 24 ∨ a = 32 ∨ a = 40 ∨ a = 48 ∨ a = 56) : ((L00 a).map Prod.fst).Nodup := by
  rcases h with rfl | rfl | rfl | rfl | rfl | rfl | rfl | rfl <;> decide

def ix00 : List Nat := [3, 6, 9, 12, 15, 18, 19, 20, 21, 22, 23, 24, 25, 26, 27, 28, 29]

def en00 (a : Int) (i : Nat) : Int × Nat := ([(0, 0), (0, 0), (0, 0), (a, 63), (0, 0), (0, 0), (a + 1, 68), (0, 0), (0, 0), (a + 2, 69), (0, 0), (0, 0), (a + 3, 70), (0, 0), (0, 0), (a + 4, 71), (0, 0), (0, 0), (a + 5, 74), (6, 75), (14, 77), (22, 78), (30, 79), (7, 80), (23, 81), (31, 82), (39, 83), (47, 84), (55, 85), (63, 86), (0, 0), (0, 0)] : List (Int × Nat)).getD i (0, 0)

def ff00 : Array Bool := #[true, true, true, true, true, true, true, true, true, true, true, true, true, true, true, true, true, true, true, true, true, true, true, true, true, true, true, true, true, true, false, false]

theorem ky00 (a : Int) (h : a = 0 ∨ a = 8 ∨ a = 16 ∨ a = 24 ∨ a = 32 ∨ a = 40 ∨ a = 48 ∨ a = 56) : ∀ i ∈ ix00, ∀ j ∈ ix00, (en00 a i).1 = (en00 a j).1 → i = j := by
  rcases h with rfl | rfl | rfl | rfl | rfl | rfl | rfl | rfl <;> decide

set_option maxHeartbeats 2000000 in
theorem from00_ok (w : World) (op : Int) (a : Int) (h : a = 0 ∨ a = 8 ∨ a = 16 ∨ a = 24 ∨ a = 32 ∨ a = 40 ∨ a = 48 ∨ a = 56) (ha : bits .andNot .i64 op 7 = a) (a0 : 0 ≤ a) (a1 : a < 64) :
    Calls Tryz.prog 37 #[.int .i64 op] w fun e w' => e = .returned (.map (some w.heap.size)) ∧ ∃ L, (∀ e, e ∈ L ↔ e ∈ L00 a) ∧ (L.map Prod.fst).Nodup ∧ w' = md w L := by
  have hmm := @run_makeMap Tryz.prog
  have HK : Hid _ := ky00 a h
  clear h
  go_enter Tryz.func37, Tryz.ntmps37
  go_wp2
  refine wp_region_any (by kernel_rfl) ?_
  refine wpAny_take (i := 1) (v := .int .i64 (a)) rfl (by kernel_rfl) (by kernel_rfl) (by kernel_rfl) (fun _ _ _ h => h) (Or.inl ⟨by rfl, by intro w; go_simp⟩) ?_
  refine wpAny_take (i := 2) (v := .int .i64 (a)) rfl (by kernel_rfl) (by kernel_rfl) (by kernel_rfl) (fun _ _ _ h => h) (Or.inl ⟨by rfl, by intro w; go_simp; exact IntWalk.i64_in _ ⟨by omega, by omega⟩⟩) ?_
  refine wpAny_take (i := 4) (v := .int .i64 (a)) rfl (by kernel_rfl) (by kernel_rfl) (by kernel_rfl) (fun _ _ _ h => h) (Or.inl ⟨by rfl, by intro w; go_simp⟩) ?_
  refine wpAny_take (i := 5) (v := .int .i64 (a + 1)) rfl (by kernel_rfl) (by kernel_rfl) (by kernel_rfl) (fun _ _ _ h => h) (Or.inl ⟨by rfl, by intro w; go_simp; exact IntWalk.i64_in _ ⟨by omega, by omega⟩⟩) ?_
  refine wpAny_take (i := 7) (v := .int .i64 (a)) rfl (by kernel_rfl) (by kernel_rfl) (by kernel_rfl) (fun _ _ _ h => h) (Or.inl ⟨by rfl, by intro w; go_simp⟩) ?_
  refine wpAny_take (i := 8) (v := .int .i64 (a + 2)) rfl (by kernel_rfl) (by kernel_rfl) (by kernel_rfl) (fun _ _ _ h => h) (Or.inl ⟨by rfl, by intro w; go_simp; exact IntWalk.i64_in _ ⟨by omega, by omega⟩⟩) ?_
  refine wpAny_take (i := 10) (v := .int .i64 (a)) rfl (by kernel_rfl) (by kernel_rfl) (by kernel_rfl) (fun _ _ _ h => h) (Or.inl ⟨by rfl, by intro w; go_simp⟩) ?_
  refine wpAny_take (i := 11) (v := .int .i64 (a + 3)) rfl (by kernel_rfl) (by kernel_rfl) (by kernel_rfl) (fun _ _ _ h => h) (Or.inl ⟨by rfl, by intro w; go_simp; exact IntWalk.i64_in _ ⟨by omega, by omega⟩⟩) ?_
  refine wpAny_take (i := 13) (v := .int .i64 (a)) rfl (by kernel_rfl) (by kernel_rfl) (by kernel_rfl) (fun _ _ _ h => h) (Or.inl ⟨by rfl, by intro w; go_simp⟩) ?_
  refine wpAny_take (i := 14) (v := .int .i64 (a + 4)) rfl (by kernel_rfl) (by kernel_rfl) (by kernel_rfl) (fun _ _ _ h => h) (Or.inl ⟨by rfl, by intro w; go_simp; exact IntWalk.i64_in _ ⟨by omega, by omega⟩⟩) ?_
  refine wpAny_take (i := 16) (v := .int .i64 (a)) rfl (by kernel_rfl) (by kernel_rfl) (by kernel_rfl) (fun _ _ _ h => h) (Or.inl ⟨by rfl, by intro w; go_simp⟩) ?_
  refine wpAny_take (i := 17) (v := .int .i64 (a + 5)) rfl (by kernel_rfl) (by kernel_rfl) (by kernel_rfl) (fun _ _ _ h => h) (Or.inl ⟨by rfl, by intro w; go_simp; exact IntWalk.i64_in _ ⟨by omega, by omega⟩⟩) ?_
  refine wpAny_all (rs := [0]) (by kernel_rfl) (by simp) ?_
  intro i hi
  rw [List.mem_singleton] at hi
  subst hi
  refine step_make rfl rfl rfl rfl ?_
  refine ins_all (P := Tryz.prog) (md' := .any) _ w (en00 a) ix00 ff00 _ (by kernel_rfl) rfl (by decide) HK.out (by kernel_rfl) (by kernel_rfl) ?_ 2 _ rfl ?_
  · intro i hi L K hL hK
    simp [ix00] at hi
    rcases hi with rfl | rfl | rfl | rfl | rfl | rfl | rfl | rfl | rfl | rfl | rfl | rfl | rfl | rfl | rfl | rfl | rfl
    all_goals exact step_ins rfl rfl rfl rfl (by kernel_rfl) (by kernel_rfl) (by kernel_rfl) hL hK
  · intro L hL hLn
    refine wpAny_take (i := 30) (v := .map (some w.heap.size)) rfl (by kernel_rfl) (by kernel_rfl) (by kernel_rfl) (fun _ _ _ h => h) (Or.inl ⟨by rfl, by intro w; go_simp⟩) ?_
    refine wpAny_all (rs := [31]) (by kernel_rfl) (by simp) ?_
    intro i hi
    rw [List.mem_singleton] at hi
    subst hi
    refine step_put rfl rfl rfl ?_
    refine wpAny_done (by kernel_rfl) ?_ _
    have HL : Hid (∀ e, e ∈ L ↔ e ∈ L00 a) := hL
    have HN : Hid _ := hLn
    clear hL hLn
    refine then_act (a := { tmps := #[.int .i64 op, undef, .map (some w.heap.size), .int .i64 a, .int .i64 op, .int .i64 a, .map (some w.heap.size), .int .i64 (a), .int .i64 (a), .int .i64 (a), .int .i64 (a + 1), .int .i64 (a), .int .i64 (a + 2), .int .i64 (a), .int .i64 (a + 3), .int .i64 (a), .int .i64 (a + 4), .int .i64 (a), .int .i64 (a + 5), .map (some w.heap.size)], defers := [] }) (by kernel_rfl) ?_
    go_wp2
    go_ret
    exact ⟨rfl, L, HL.out, HN.out, rfl⟩

def L40 (r : Int) (c : Int) : List (Int × Nat) := [(64 + r, 87), (72 + r, 89), (80 + r, 90), (88 + r, 91), (96, 92), (97, 93), (104, 94), (105, 95), (106, 96), (107, 98), (112 + c, 99)]

theorem nd40 (r : Int) (c : Int) (h : r = 0 ∧ c = 0 ∨ r = 1 ∧ c = 1 ∨ r = 2 ∧ c = 2 ∨ r = 3 ∧ c = 3 ∨ r = 4 ∧ c = 4 ∨ r = 5 ∧ c = 5 ∨ r = 6 ∧ c = 6 ∨ r = 7 ∧ c = 7 ∨ r = 0 ∧ c = 8 ∨ r = 1 ∧ c = 9 ∨ r = 2 ∧ c = 10 ∨ r = 3 ∧ c = 11 ∨ r = 4 ∧ c = 12 ∨ r = 5 ∧ c = 13 ∨ r = 6 ∧ c = 14 ∨ r = 7 ∧ c = 15) : ((L40 r c).map Prod.fst).Nodup := by
  rcases h with ⟨rfl, rfl⟩ | ⟨rfl, rfl⟩ | ⟨rfl, rfl⟩ | ⟨rfl, rfl⟩ | ⟨rfl, rfl⟩ | ⟨rfl, rfl⟩ | ⟨rfl, rfl⟩ | ⟨rfl, rfl⟩ | ⟨rfl, rfl⟩ | ⟨rfl, rfl⟩ | ⟨rfl, rfl⟩ | ⟨rfl, rfl⟩ | ⟨rfl, rfl⟩ | ⟨rfl, rfl⟩ | ⟨rfl, rfl⟩ | ⟨rfl, rfl⟩ <;> decide

def ix40 : List Nat := [3, 6, 9, 12, 13, 14, 15, 16, 17, 18, 21]

def en40 (r : Int) (c : Int) (i : Nat) : Int × Nat := ([(0, 0), (0, 0), (0, 0), (64 + r, 87), (0, 0), (0, 0), (72 + r, 89), (0, 0), (0, 0), (80 + r, 90), (0, 0), (0, 0), (88 + r, 91), (96, 92), (97, 93), (104, 94), (105, 95), (106, 96), (107, 98), (0, 0), (0, 0), (112 + c, 99), (0, 0), (0, 0)] : List (Int × Nat)).getD i (0, 0)

def ff40 : Array Bool := #[true, true, true, true, true, true, true, true, true, true, true, true, true, true, true, true, true, true, true, true, true, true, false, false]

theorem ky40 (r : Int) (c : Int) (h : r = 0 ∧ c = 0 ∨ r = 1 ∧ c = 1 ∨ r = 2 ∧ c = 2 ∨ r = 3 ∧ c = 3 ∨ r = 4 ∧ c = 4 ∨ r = 5 ∧ c = 5 ∨ r = 6 ∧ c = 6 ∨ r = 7 ∧ c = 7 ∨ r = 0 ∧ c = 8 ∨ r = 1 ∧ c = 9 ∨ r = 2 ∧ c = 10 ∨ r = 3 ∧ c = 11 ∨ r = 4 ∧ c = 12 ∨ r = 5 ∧ c = 13 ∨ r = 6 ∧ c = 14 ∨ r = 7 ∧ c = 15) : ∀ i ∈ ix40, ∀ j ∈ ix40, (en40 r c i).1 = (en40 r c j).1 → i = j := by
  rcases h with ⟨rfl, rfl⟩ | ⟨rfl, rfl⟩ | ⟨rfl, rfl⟩ | ⟨rfl, rfl⟩ | ⟨rfl, rfl⟩ | ⟨rfl, rfl⟩ | ⟨rfl, rfl⟩ | ⟨rfl, rfl⟩ | ⟨rfl, rfl⟩ | ⟨rfl, rfl⟩ | ⟨rfl, rfl⟩ | ⟨rfl, rfl⟩ | ⟨rfl, rfl⟩ | ⟨rfl, rfl⟩ | ⟨rfl, rfl⟩ | ⟨rfl, rfl⟩ <;> decide

set_option maxHeartbeats 2000000 in
theorem from40_ok (w : World) (op : Int) (r : Int) (c : Int) (h : r = 0 ∧ c = 0 ∨ r = 1 ∧ c = 1 ∨ r = 2 ∧ c = 2 ∨ r = 3 ∧ c = 3 ∨ r = 4 ∧ c = 4 ∨ r = 5 ∧ c = 5 ∨ r = 6 ∧ c = 6 ∨ r = 7 ∧ c = 7 ∨ r = 0 ∧ c = 8 ∨ r = 1 ∧ c = 9 ∨ r = 2 ∧ c = 10 ∨ r = 3 ∧ c = 11 ∨ r = 4 ∧ c = 12 ∨ r = 5 ∧ c = 13 ∨ r = 6 ∧ c = 14 ∨ r = 7 ∧ c = 15) (hr : bits .and .i64 op 7 = r) (r0 : 0 ≤ r) (r1 : r < 8) (hc : bits .and .i64 op 15 = c) (c0 : 0 ≤ c) (c1 : c < 16) :
    Calls Tryz.prog 38 #[.int .i64 op] w fun e w' => e = .returned (.map (some w.heap.size)) ∧ ∃ L, (∀ e, e ∈ L ↔ e ∈ L40 r c) ∧ (L.map Prod.fst).Nodup ∧ w' = md w L := by
  have hmm := @run_makeMap Tryz.prog
  have HK : Hid _ := ky40 r c h
  clear h
  go_enter Tryz.func38, Tryz.ntmps38
  go_wp2
  refine wp_region_any (by kernel_rfl) ?_
  refine wpAny_take (i := 1) (v := .int .i64 (r)) rfl (by kernel_rfl) (by kernel_rfl) (by kernel_rfl) (fun _ _ _ h => h) (Or.inl ⟨by rfl, by intro w; go_simp⟩) ?_
  refine wpAny_take (i := 2) (v := .int .i64 (64 + r)) rfl (by kernel_rfl) (by kernel_rfl) (by kernel_rfl) (fun _ _ _ h => h) (Or.inl ⟨by rfl, by intro w; go_simp; exact IntWalk.i64_in _ ⟨by omega, by omega⟩⟩) ?_
  refine wpAny_take (i := 4) (v := .int .i64 (r)) rfl (by kernel_rfl) (by kernel_rfl) (by kernel_rfl) (fun _ _ _ h => h) (Or.inl ⟨by rfl, by intro w; go_simp⟩) ?_
  refine wpAny_take (i := 5) (v := .int .i64 (72 + r)) rfl (by kernel_rfl) (by kernel_rfl) (by kernel_rfl) (fun _ _ _ h => h) (Or.inl ⟨by rfl, by intro w; go_simp; exact IntWalk.i64_in _ ⟨by omega, by omega⟩⟩) ?_
  refine wpAny_take (i := 7) (v := .int .i64 (r)) rfl (by kernel_rfl) (by kernel_rfl) (by kernel_rfl) (fun _ _ _ h => h) (Or.inl ⟨by rfl, by intro w; go_simp⟩) ?_
  refine wpAny_take (i := 8) (v := .int .i64 (80 + r)) rfl (by kernel_rfl) (by kernel_rfl) (by kernel_rfl) (fun _ _ _ h => h) (Or.inl ⟨by rfl, by intro w; go_simp; exact IntWalk.i64_in _ ⟨by omega, by omega⟩⟩) ?_
  refine wpAny_take (i := 10) (v := .int .i64 (r)) rfl (by kernel_rfl) (by kernel_rfl) (by kernel_rfl) (fun _ _ _ h => h) (Or.inl ⟨by rfl, by intro w; go_simp⟩) ?_
  refine wpAny_take (i := 11) (v := .int .i64 (88 + r)) rfl (by kernel_rfl) (by kernel_rfl) (by kernel_rfl) (fun _ _ _ h => h) (Or.inl ⟨by rfl, by intro w; go_simp; exact IntWalk.i64_in _ ⟨by omega, by omega⟩⟩) ?_
  refine wpAny_take (i := 19) (v := .int .i64 (c)) rfl (by kernel_rfl) (by kernel_rfl) (by kernel_rfl) (fun _ _ _ h => h) (Or.inl ⟨by rfl, by intro w; go_simp⟩) ?_
  refine wpAny_take (i := 20) (v := .int .i64 (112 + c)) rfl (by kernel_rfl) (by kernel_rfl) (by kernel_rfl) (fun _ _ _ h => h) (Or.inl ⟨by rfl, by intro w; go_simp; exact IntWalk.i64_in _ ⟨by omega, by omega⟩⟩) ?_
  refine wpAny_all (rs := [0]) (by kernel_rfl) (by simp) ?_
  intro i hi
  rw [List.mem_singleton] at hi
  subst hi
  refine step_make rfl rfl rfl rfl ?_
  refine ins_all (P := Tryz.prog) (md' := .any) _ w (en40 r c) ix40 ff40 _ (by kernel_rfl) rfl (by decide) HK.out (by kernel_rfl) (by kernel_rfl) ?_ 2 _ rfl ?_
  · intro i hi L K hL hK
    simp [ix40] at hi
    rcases hi with rfl | rfl | rfl | rfl | rfl | rfl | rfl | rfl | rfl | rfl | rfl
    all_goals exact step_ins rfl rfl rfl rfl (by kernel_rfl) (by kernel_rfl) (by kernel_rfl) hL hK
  · intro L hL hLn
    refine wpAny_take (i := 22) (v := .map (some w.heap.size)) rfl (by kernel_rfl) (by kernel_rfl) (by kernel_rfl) (fun _ _ _ h => h) (Or.inl ⟨by rfl, by intro w; go_simp⟩) ?_
    refine wpAny_all (rs := [23]) (by kernel_rfl) (by simp) ?_
    intro i hi
    rw [List.mem_singleton] at hi
    subst hi
    refine step_put rfl rfl rfl ?_
    refine wpAny_done (by kernel_rfl) ?_ _
    have HL : Hid (∀ e, e ∈ L ↔ e ∈ L40 r c) := hL
    have HN : Hid _ := hLn
    clear hL hLn
    refine then_act (a := { tmps := #[.int .i64 op, undef, .map (some w.heap.size), .int .i64 r, .int .i64 c, .int .i64 op, .int .i64 r, .int .i64 op, .int .i64 c, .map (some w.heap.size), .int .i64 (r), .int .i64 (64 + r), .int .i64 (r), .int .i64 (72 + r), .int .i64 (r), .int .i64 (80 + r), .int .i64 (r), .int .i64 (88 + r), .int .i64 (c), .int .i64 (112 + c), .map (some w.heap.size)], defers := [] }) (by kernel_rfl) ?_
    go_wp2
    go_ret
    exact ⟨rfl, L, HL.out, HN.out, rfl⟩

def L80 (r : Int) : List (Int × Nat) := [(128, 102), (129, 104), (131, 105), (132, 106), (133, 107), (134, 108), (135, 109), (136, 110), (137, 111), (138, 112), (139, 113), (140, 114), (141, 115), (142, 116), (143, 117), (144 + r, 119), (152, 120), (153, 121), (156, 122), (157, 123), (158, 124), (159, 125)]

theorem nd80 (r : Int) (h : r = 0 ∨ r = 1 ∨ r = 2 ∨ r = 3 ∨ r = 4 ∨ r = 5 ∨ r = 6 ∨ r = 7) : ((L80 r).map Prod.fst).Nodup := by
  rcases h with rfl | rfl | rfl | rfl | rfl | rfl | rfl | rfl <;> decide

def ix80 : List Nat := [1, 2, 3, 4, 5, 6, 7, 8, 9, 10, 11, 12, 13, 14, 15, 18, 19, 20, 21, 22, 23, 24]

def en80 (r : Int) (i : Nat) : Int × Nat := ([(0, 0), (128, 102), (129, 104), (131, 105), (132, 106), (133, 107), (134, 108), (135, 109), (136, 110), (137, 111), (138, 112), (139, 113), (140, 114), (141, 115), (142, 116), (143, 117), (0, 0), (0, 0), (144 + r, 119), (152, 120), (153, 121), (156, 122), (157, 123), (158, 124), (159, 125), (0, 0), (0, 0)] : List (Int × Nat)).getD i (0, 0)

def ff80 : Array Bool := #[true, true, true, true, true, true, true, true, true, true, true, true, true, true, true, true, true, true, true, true, true, true, true, true, true, false, false]

theorem ky80 (r : Int) (h : r = 0 ∨ r = 1 ∨ r = 2 ∨ r = 3 ∨ r = 4 ∨ r = 5 ∨ r = 6 ∨ r = 7) : ∀ i ∈ ix80, ∀ j ∈ ix80, (en80 r i).1 = (en80 r j).1 → i = j := by
  rcases h with rfl | rfl | rfl | rfl | rfl | rfl | rfl | rfl <;> decide

def upd9 (L : List (Int × Nat)) : List (Int × Nat) := if (∃ e ∈ L, e.1 = 144) then upd L 144 126 else L ++ [(144, 126)]

set_option maxHeartbeats 2000000 in
theorem from80_ok (w : World) (op : Int) (r : Int) (h : r = 0 ∨ r = 1 ∨ r = 2 ∨ r = 3 ∨ r = 4 ∨ r = 5 ∨ r = 6 ∨ r = 7) (hr : bits .and .i64 op 7 = r) (r0 : 0 ≤ r) (r1 : r < 8) :
    Calls Tryz.prog 39 #[.int .i64 op] w fun e w' => e = .returned (.map (some w.heap.size)) ∧ ∃ L, (∀ e, e ∈ L ↔ e ∈ L80 r) ∧ (L.map Prod.fst).Nodup ∧ w' = md w (upd9 L) := by
  have hmm := @run_makeMap Tryz.prog
  have HK : Hid _ := ky80 r h
  clear h
  go_enter Tryz.func39, Tryz.ntmps39
  go_wp2
  refine wp_region_any (by kernel_rfl) ?_
  refine wpAny_take (i := 16) (v := .int .i64 (r)) rfl (by kernel_rfl) (by kernel_rfl) (by kernel_rfl) (fun _ _ _ h => h) (Or.inl ⟨by rfl, by intro w; go_simp⟩) ?_
  refine wpAny_take (i := 17) (v := .int .i64 (144 + r)) rfl (by kernel_rfl) (by kernel_rfl) (by kernel_rfl) (fun _ _ _ h => h) (Or.inl ⟨by rfl, by intro w; go_simp; exact IntWalk.i64_in _ ⟨by omega, by omega⟩⟩) ?_
  refine wpAny_all (rs := [0]) (by kernel_rfl) (by simp) ?_
  intro i hi
  rw [List.mem_singleton] at hi
  subst hi
  refine step_make rfl rfl rfl rfl ?_
  refine ins_all (P := Tryz.prog) (md' := .any) _ w (en80 r) ix80 ff80 _ (by kernel_rfl) rfl (by decide) HK.out (by kernel_rfl) (by kernel_rfl) ?_ 2 _ rfl ?_
  · intro i hi L K hL hK
    simp [ix80] at hi
    rcases hi with rfl | rfl | rfl | rfl | rfl | rfl | rfl | rfl | rfl | rfl | rfl | rfl | rfl | rfl | rfl | rfl | rfl | rfl | rfl | rfl | rfl | rfl
    all_goals exact step_ins rfl rfl rfl rfl (by kernel_rfl) (by kernel_rfl) (by kernel_rfl) hL hK
  · intro L hL hLn
    refine wpAny_take (i := 25) (v := .map (some w.heap.size)) rfl (by kernel_rfl) (by kernel_rfl) (by kernel_rfl) (fun _ _ _ h => h) (Or.inl ⟨by rfl, by intro w; go_simp⟩) ?_
    refine wpAny_all (rs := [26]) (by kernel_rfl) (by simp) ?_
    intro i hi
    rw [List.mem_singleton] at hi
    subst hi
    refine step_put rfl rfl rfl ?_
    refine wpAny_done (by kernel_rfl) ?_ _
    have HL : Hid (∀ e, e ∈ L ↔ e ∈ L80 r) := hL
    have HN : Hid _ := hLn
    clear hL hLn
    refine then_act (a := { tmps := #[.int .i64 op, undef, .map none, .int .i64 r, .map (some w.heap.size), .int .i64 op, .int .i64 r, .map (some w.heap.size), .int .i64 (r), .int .i64 (144 + r), .map (some w.heap.size), undef, undef], defers := [] }) (by kernel_rfl) ?_
    have hu : (Instr.mapUpdate 64 (.map (some w.heap.size)) (.int .i64 144) (.func (.func 126) #[] #[])).run Tryz.prog (md w L) = .ok () (md w (upd9 L)) := by
      unfold upd9
      split
      · rename_i h9; exact upd_mp w.drew L 144 _ h9
      · rename_i h9; exact put_mp w.drew L 144 _ (fun e he hk => h9 ⟨e, he, hk⟩)
    go_wp2
    go_ret
    exact ⟨rfl, L, HL.out, HN.out, rfl⟩

def LA0 (r : Int) : List (Int × Nat) := [(160, 127), (161, 129), (162, 130), (163, 131), (164, 132), (165, 134), (166, 135), (167, 136), (168, 137), (169, 138), (170, 139), (171, 140), (172, 141), (173, 142), (174, 143), (175, 144), (176 + r, 145), (184 + r, 146)]

theorem ndA0 (r : Int) (h : r = 0 ∨ r = 1 ∨ r = 2 ∨ r = 3 ∨ r = 4 ∨ r = 5 ∨ r = 6 ∨ r = 7) : ((LA0 r).map Prod.fst).Nodup := by
  rcases h with rfl | rfl | rfl | rfl | rfl | rfl | rfl | rfl <;> decide

def ixA0 : List Nat := [1, 2, 3, 4, 5, 6, 7, 8, 9, 10, 11, 12, 13, 14, 15, 16, 19, 22]

def enA0 (r : Int) (i : Nat) : Int × Nat := ([(0, 0), (160, 127), (161, 129), (162, 130), (163, 131), (164, 132), (165, 134), (166, 135), (167, 136), (168, 137), (169, 138), (170, 139), (171, 140), (172, 141), (173, 142), (174, 143), (175, 144), (0, 0), (0, 0), (176 + r, 145), (0, 0), (0, 0), (184 + r, 146), (0, 0), (0, 0)] : List (Int × Nat)).getD i (0, 0)

def ffA0 : Array Bool := #[true, true, true, true, true, true, true, true, true, true, true, true, true, true, true, true, true, true, true, true, true, true, true, false, false]

theorem kyA0 (r : Int) (h : r = 0 ∨ r = 1 ∨ r = 2 ∨ r = 3 ∨ r = 4 ∨ r = 5 ∨ r = 6 ∨ r = 7) : ∀ i ∈ ixA0, ∀ j ∈ ixA0, (enA0 r i).1 = (enA0 r j).1 → i = j := by
  rcases h with rfl | rfl | rfl | rfl | rfl | rfl | rfl | rfl <;> decide

set_option maxHeartbeats 2000000 in
theorem fromA0_ok (w : World) (op : Int) (r : Int) (h : r = 0 ∨ r = 1 ∨ r = 2 ∨ r = 3 ∨ r = 4 ∨ r = 5 ∨ r = 6 ∨ r = 7) (hr : bits .and .i64 op 7 = r) (r0 : 0 ≤ r) (r1 : r < 8) :
    Calls Tryz.prog 40 #[.int .i64 op] w fun e w' => e = .returned (.map (some w.heap.size)) ∧ ∃ L, (∀ e, e ∈ L ↔ e ∈ LA0 r) ∧ (L.map Prod.fst).Nodup ∧ w' = md w L := by
  have hmm := @run_makeMap Tryz.prog
  have HK : Hid _ := kyA0 r h
  clear h
  go_enter Tryz.func40, Tryz.ntmps40
  go_wp2
  refine wp_region_any (by kernel_rfl) ?_
  refine wpAny_take (i := 17) (v := .int .i64 (r)) rfl (by kernel_rfl) (by kernel_rfl) (by kernel_rfl) (fun _ _ _ h => h) (Or.inl ⟨by rfl, by intro w; go_simp⟩) ?_
  refine wpAny_take (i := 18) (v := .int .i64 (176 + r)) rfl (by kernel_rfl) (by kernel_rfl) (by kernel_rfl) (fun _ _ _ h => h) (Or.inl ⟨by rfl, by intro w; go_simp; exact IntWalk.i64_in _ ⟨by omega, by omega⟩⟩) ?_
  refine wpAny_take (i := 20) (v := .int .i64 (r)) rfl (by kernel_rfl) (by kernel_rfl) (by kernel_rfl) (fun _ _ _ h => h) (Or.inl ⟨by rfl, by intro w; go_simp⟩) ?_
  refine wpAny_take (i := 21) (v := .int .i64 (184 + r)) rfl (by kernel_rfl) (by kernel_rfl) (by kernel_rfl) (fun _ _ _ h => h) (Or.inl ⟨by rfl, by intro w; go_simp; exact IntWalk.i64_in _ ⟨by omega, by omega⟩⟩) ?_
  refine wpAny_all (rs := [0]) (by kernel_rfl) (by simp) ?_
  intro i hi
  rw [List.mem_singleton] at hi
  subst hi
  refine step_make rfl rfl rfl rfl ?_
  refine ins_all (P := Tryz.prog) (md' := .any) _ w (enA0 r) ixA0 ffA0 _ (by kernel_rfl) rfl (by decide) HK.out (by kernel_rfl) (by kernel_rfl) ?_ 2 _ rfl ?_
  · intro i hi L K hL hK
    simp [ixA0] at hi
    rcases hi with rfl | rfl | rfl | rfl | rfl | rfl | rfl | rfl | rfl | rfl | rfl | rfl | rfl | rfl | rfl | rfl | rfl | rfl
    all_goals exact step_ins rfl rfl rfl rfl (by kernel_rfl) (by kernel_rfl) (by kernel_rfl) hL hK
  · intro L hL hLn
    refine wpAny_take (i := 23) (v := .map (some w.heap.size)) rfl (by kernel_rfl) (by kernel_rfl) (by kernel_rfl) (fun _ _ _ h => h) (Or.inl ⟨by rfl, by intro w; go_simp⟩) ?_
    refine wpAny_all (rs := [24]) (by kernel_rfl) (by simp) ?_
    intro i hi
    rw [List.mem_singleton] at hi
    subst hi
    refine step_put rfl rfl rfl ?_
    refine wpAny_done (by kernel_rfl) ?_ _
    have HL : Hid (∀ e, e ∈ L ↔ e ∈ LA0 r) := hL
    have HN : Hid _ := hLn
    clear hL hLn
    refine then_act (a := { tmps := #[.int .i64 op, undef, .map (some w.heap.size), .int .i64 r, .int .i64 op, .int .i64 r, .map (some w.heap.size), .int .i64 (r), .int .i64 (176 + r), .int .i64 (r), .int .i64 (184 + r), .map (some w.heap.size)], defers := [] }) (by kernel_rfl) ?_
    go_wp2
    go_ret
    exact ⟨rfl, L, HL.out, HN.out, rfl⟩

def LC0 : List (Int × Nat) := [(192, 147), (193, 149), (194, 150), (195, 152), (198, 154), (199, 155), (201, 156), (204, 157), (205, 158), (206, 159), (207, 160), (208, 161), (209, 162), (210, 163), (211, 165), (212, 166), (213, 167)]

theorem ndC0 : (LC0.map Prod.fst).Nodup := by decide

set_option maxHeartbeats 2000000 in
theorem fromC0_ok (w : World) :
    Calls Tryz.prog 41 #[] w fun e w' => e = .returned (.map (some w.heap.size)) ∧ w' = mp w (LC0) := by
  have hmm := @run_makeMap Tryz.prog
  have p0 : (Instr.mapUpdate 64 (.map (some w.heap.size)) (.int .i64 (192)) (.func (.func 147) #[] #[])).run Tryz.prog (w.alloc (.map #[] 0)) = .ok () (mp w ((LC0).take 1)) := put_take w (LC0) (ndC0) 0 (by simp [LC0])
  have p1 : (Instr.mapUpdate 64 (.map (some w.heap.size)) (.int .i64 (193)) (.func (.func 149) #[] #[])).run Tryz.prog (mp w ((LC0).take 1)) = .ok () (mp w ((LC0).take 2)) := put_take w (LC0) (ndC0) 1 (by simp [LC0])
  have p2 : (Instr.mapUpdate 64 (.map (some w.heap.size)) (.int .i64 (194)) (.func (.func 150) #[] #[])).run Tryz.prog (mp w ((LC0).take 2)) = .ok () (mp w ((LC0).take 3)) := put_take w (LC0) (ndC0) 2 (by simp [LC0])
  have p3 : (Instr.mapUpdate 64 (.map (some w.heap.size)) (.int .i64 (195)) (.func (.func 152) #[] #[])).run Tryz.prog (mp w ((LC0).take 3)) = .ok () (mp w ((LC0).take 4)) := put_take w (LC0) (ndC0) 3 (by simp [LC0])
  have p4 : (Instr.mapUpdate 64 (.map (some w.heap.size)) (.int .i64 (198)) (.func (.func 154) #[] #[])).run Tryz.prog (mp w ((LC0).take 4)) = .ok () (mp w ((LC0).take 5)) := put_take w (LC0) (ndC0) 4 (by simp [LC0])
  have p5 : (Instr.mapUpdate 64 (.map (some w.heap.size)) (.int .i64 (199)) (.func (.func 155) #[] #[])).run Tryz.prog (mp w ((LC0).take 5)) = .ok () (mp w ((LC0).take 6)) := put_take w (LC0) (ndC0) 5 (by simp [LC0])
  have p6 : (Instr.mapUpdate 64 (.map (some w.heap.size)) (.int .i64 (201)) (.func (.func 156) #[] #[])).run Tryz.prog (mp w ((LC0).take 6)) = .ok () (mp w ((LC0).take 7)) := put_take w (LC0) (ndC0) 6 (by simp [LC0])
  have p7 : (Instr.mapUpdate 64 (.map (some w.heap.size)) (.int .i64 (204)) (.func (.func 157) #[] #[])).run Tryz.prog (mp w ((LC0).take 7)) = .ok () (mp w ((LC0).take 8)) := put_take w (LC0) (ndC0) 7 (by simp [LC0])
  have p8 : (Instr.mapUpdate 64 (.map (some w.heap.size)) (.int .i64 (205)) (.func (.func 158) #[] #[])).run Tryz.prog (mp w ((LC0).take 8)) = .ok () (mp w ((LC0).take 9)) := put_take w (LC0) (ndC0) 8 (by simp [LC0])
  have p9 : (Instr.mapUpdate 64 (.map (some w.heap.size)) (.int .i64 (206)) (.func (.func 159) #[] #[])).run Tryz.prog (mp w ((LC0).take 9)) = .ok () (mp w ((LC0).take 10)) := put_take w (LC0) (ndC0) 9 (by simp [LC0])
  have p10 : (Instr.mapUpdate 64 (.map (some w.heap.size)) (.int .i64 (207)) (.func (.func 160) #[] #[])).run Tryz.prog (mp w ((LC0).take 10)) = .ok () (mp w ((LC0).take 11)) := put_take w (LC0) (ndC0) 10 (by simp [LC0])
  have p11 : (Instr.mapUpdate 64 (.map (some w.heap.size)) (.int .i64 (208)) (.func (.func 161) #[] #[])).run Tryz.prog (mp w ((LC0).take 11)) = .ok () (mp w ((LC0).take 12)) := put_take w (LC0) (ndC0) 11 (by simp [LC0])
  have p12 : (Instr.mapUpdate 64 (.map (some w.heap.size)) (.int .i64 (209)) (.func (.func 162) #[] #[])).run Tryz.prog (mp w ((LC0).take 12)) = .ok () (mp w ((LC0).take 13)) := put_take w (LC0) (ndC0) 12 (by simp [LC0])
  have p13 : (Instr.mapUpdate 64 (.map (some w.heap.size)) (.int .i64 (210)) (.func (.func 163) #[] #[])).run Tryz.prog (mp w ((LC0).take 13)) = .ok () (mp w ((LC0).take 14)) := put_take w (LC0) (ndC0) 13 (by simp [LC0])
  have p14 : (Instr.mapUpdate 64 (.map (some w.heap.size)) (.int .i64 (211)) (.func (.func 165) #[] #[])).run Tryz.prog (mp w ((LC0).take 14)) = .ok () (mp w ((LC0).take 15)) := put_take w (LC0) (ndC0) 14 (by simp [LC0])
  have p15 : (Instr.mapUpdate 64 (.map (some w.heap.size)) (.int .i64 (212)) (.func (.func 166) #[] #[])).run Tryz.prog (mp w ((LC0).take 15)) = .ok () (mp w ((LC0).take 16)) := put_take w (LC0) (ndC0) 15 (by simp [LC0])
  have p16 : (Instr.mapUpdate 64 (.map (some w.heap.size)) (.int .i64 (213)) (.func (.func 167) #[] #[])).run Tryz.prog (mp w ((LC0).take 16)) = .ok () (mp w (LC0)) := put_take w (LC0) (ndC0) 16 (by simp [LC0])
  go_enter Tryz.func41, Tryz.ntmps41
  go_wp2
  go_ret
  exact ⟨rfl, rfl⟩

def LE0 : List (Int × Nat) := [(224, 168), (225, 169), (226, 170), (227, 171), (228, 172), (229, 173), (230, 174), (231, 175), (232, 176), (233, 178), (234, 179), (235, 181), (236, 182), (237, 184), (238, 185), (239, 186), (244, 187), (245, 188), (246, 189), (247, 191), (248, 192), (249, 193), (250, 194), (251, 195), (252, 196), (253, 197), (254, 198), (255, 199)]

theorem ndE0 : (LE0.map Prod.fst).Nodup := by decide

set_option maxHeartbeats 2000000 in
theorem fromE0_ok (w : World) :
    Calls Tryz.prog 42 #[] w fun e w' => e = .returned (.map (some w.heap.size)) ∧ w' = mp w (LE0) := by
  have hmm := @run_makeMap Tryz.prog
  have p0 : (Instr.mapUpdate 64 (.map (some w.heap.size)) (.int .i64 (224)) (.func (.func 168) #[] #[])).run Tryz.prog (w.alloc (.map #[] 0)) = .ok () (mp w ((LE0).take 1)) := put_take w (LE0) (ndE0) 0 (by simp [LE0])
  have p1 : (Instr.mapUpdate 64 (.map (some w.heap.size)) (.int .i64 (225)) (.func (.func 169) #[] #[])).run Tryz.prog (mp w ((LE0).take 1)) = .ok () (mp w ((LE0).take 2)) := put_take w (LE0) (ndE0) 1 (by simp [LE0])
  have p2 : (Instr.mapUpdate 64 (.map (some w.heap.size)) (.int .i64 (226)) (.func (.func 170) #[] #[])).run Tryz.prog (mp w ((LE0).take 2)) = .ok () (mp w ((LE0).take 3)) := put_take w (LE0) (ndE0) 2 (by simp [LE0])
  have p3 : (Instr.mapUpdate 64 (.map (some w.heap.size)) (.int .i64 (227)) (.func (.func 171) #[] #[])).run Tryz.prog (mp w ((LE0).take 3)) = .ok () (mp w ((LE0).take 4)) := put_take w (LE0) (ndE0) 3 (by simp [LE0])
  have p4 : (Instr.mapUpdate 64 (.map (some w.heap.size)) (.int .i64 (228)) (.func (.func 172) #[] #[])).run Tryz.prog (mp w ((LE0).take 4)) = .ok () (mp w ((LE0).take 5)) := put_take w (LE0) (ndE0) 4 (by simp [LE0])
  have p5 : (Instr.mapUpdate 64 (.map (some w.heap.size)) (.int .i64 (229)) (.func (.func 173) #[] #[])).run Tryz.prog (mp w ((LE0).take 5)) = .ok () (mp w ((LE0).take 6)) := put_take w (LE0) (ndE0) 5 (by simp [LE0])
  have p6 : (Instr.mapUpdate 64 (.map (some w.heap.size)) (.int .i64 (230)) (.func (.func 174) #[] #[])).run Tryz.prog (mp w ((LE0).take 6)) = .ok () (mp w ((LE0).take 7)) := put_take w (LE0) (ndE0) 6 (by simp [LE0])
  have p7 : (Instr.mapUpdate 64 (.map (some w.heap.size)) (.int .i64 (231)) (.func (.func 175) #[] #[])).run Tryz.prog (mp w ((LE0).take 7)) = .ok () (mp w ((LE0).take 8)) := put_take w (LE0) (ndE0) 7 (by simp [LE0])
  have p8 : (Instr.mapUpdate 64 (.map (some w.heap.size)) (.int .i64 (232)) (.func (.func 176) #[] #[])).run Tryz.prog (mp w ((LE0).take 8)) = .ok () (mp w ((LE0).take 9)) := put_take w (LE0) (ndE0) 8 (by simp [LE0])
  have p9 : (Instr.mapUpdate 64 (.map (some w.heap.size)) (.int .i64 (233)) (.func (.func 178) #[] #[])).run Tryz.prog (mp w ((LE0).take 9)) = .ok () (mp w ((LE0).take 10)) := put_take w (LE0) (ndE0) 9 (by simp [LE0])
  have p10 : (Instr.mapUpdate 64 (.map (some w.heap.size)) (.int .i64 (234)) (.func (.func 179) #[] #[])).run Tryz.prog (mp w ((LE0).take 10)) = .ok () (mp w ((LE0).take 11)) := put_take w (LE0) (ndE0) 10 (by simp [LE0])
  have p11 : (Instr.mapUpdate 64 (.map (some w.heap.size)) (.int .i64 (235)) (.func (.func 181) #[] #[])).run Tryz.prog (mp w ((LE0).take 11)) = .ok () (mp w ((LE0).take 12)) := put_take w (LE0) (ndE0) 11 (by simp [LE0])
  have p12 : (Instr.mapUpdate 64 (.map (some w.heap.size)) (.int .i64 (236)) (.func (.func 182) #[] #[])).run Tryz.prog (mp w ((LE0).take 12)) = .ok () (mp w ((LE0).take 13)) := put_take w (LE0) (ndE0) 12 (by simp [LE0])
  have p13 : (Instr.mapUpdate 64 (.map (some w.heap.size)) (.int .i64 (237)) (.func (.func 184) #[] #[])).run Tryz.prog (mp w ((LE0).take 13)) = .ok () (mp w ((LE0).take 14)) := put_take w (LE0) (ndE0) 13 (by simp [LE0])
  have p14 : (Instr.mapUpdate 64 (.map (some w.heap.size)) (.int .i64 (238)) (.func (.func 185) #[] #[])).run Tryz.prog (mp w ((LE0).take 14)) = .ok () (mp w ((LE0).take 15)) := put_take w (LE0) (ndE0) 14 (by simp [LE0])
  have p15 : (Instr.mapUpdate 64 (.map (some w.heap.size)) (.int .i64 (239)) (.func (.func 186) #[] #[])).run Tryz.prog (mp w ((LE0).take 15)) = .ok () (mp w ((LE0).take 16)) := put_take w (LE0) (ndE0) 15 (by simp [LE0])
  have p16 : (Instr.mapUpdate 64 (.map (some w.heap.size)) (.int .i64 (244)) (.func (.func 187) #[] #[])).run Tryz.prog (mp w ((LE0).take 16)) = .ok () (mp w ((LE0).take 17)) := put_take w (LE0) (ndE0) 16 (by simp [LE0])
  have p17 : (Instr.mapUpdate 64 (.map (some w.heap.size)) (.int .i64 (245)) (.func (.func 188) #[] #[])).run Tryz.prog (mp w ((LE0).take 17)) = .ok () (mp w ((LE0).take 18)) := put_take w (LE0) (ndE0) 17 (by simp [LE0])
  have p18 : (Instr.mapUpdate 64 (.map (some w.heap.size)) (.int .i64 (246)) (.func (.func 189) #[] #[])).run Tryz.prog (mp w ((LE0).take 18)) = .ok () (mp w ((LE0).take 19)) := put_take w (LE0) (ndE0) 18 (by simp [LE0])
  have p19 : (Instr.mapUpdate 64 (.map (some w.heap.size)) (.int .i64 (247)) (.func (.func 191) #[] #[])).run Tryz.prog (mp w ((LE0).take 19)) = .ok () (mp w ((LE0).take 20)) := put_take w (LE0) (ndE0) 19 (by simp [LE0])
  have p20 : (Instr.mapUpdate 64 (.map (some w.heap.size)) (.int .i64 (248)) (.func (.func 192) #[] #[])).run Tryz.prog (mp w ((LE0).take 20)) = .ok () (mp w ((LE0).take 21)) := put_take w (LE0) (ndE0) 20 (by simp [LE0])
  have p21 : (Instr.mapUpdate 64 (.map (some w.heap.size)) (.int .i64 (249)) (.func (.func 193) #[] #[])).run Tryz.prog (mp w ((LE0).take 21)) = .ok () (mp w ((LE0).take 22)) := put_take w (LE0) (ndE0) 21 (by simp [LE0])
  have p22 : (Instr.mapUpdate 64 (.map (some w.heap.size)) (.int .i64 (250)) (.func (.func 194) #[] #[])).run Tryz.prog (mp w ((LE0).take 22)) = .ok () (mp w ((LE0).take 23)) := put_take w (LE0) (ndE0) 22 (by simp [LE0])
  have p23 : (Instr.mapUpdate 64 (.map (some w.heap.size)) (.int .i64 (251)) (.func (.func 195) #[] #[])).run Tryz.prog (mp w ((LE0).take 23)) = .ok () (mp w ((LE0).take 24)) := put_take w (LE0) (ndE0) 23 (by simp [LE0])
  have p24 : (Instr.mapUpdate 64 (.map (some w.heap.size)) (.int .i64 (252)) (.func (.func 196) #[] #[])).run Tryz.prog (mp w ((LE0).take 24)) = .ok () (mp w ((LE0).take 25)) := put_take w (LE0) (ndE0) 24 (by simp [LE0])
  have p25 : (Instr.mapUpdate 64 (.map (some w.heap.size)) (.int .i64 (253)) (.func (.func 197) #[] #[])).run Tryz.prog (mp w ((LE0).take 25)) = .ok () (mp w ((LE0).take 26)) := put_take w (LE0) (ndE0) 25 (by simp [LE0])
  have p26 : (Instr.mapUpdate 64 (.map (some w.heap.size)) (.int .i64 (254)) (.func (.func 198) #[] #[])).run Tryz.prog (mp w ((LE0).take 26)) = .ok () (mp w ((LE0).take 27)) := put_take w (LE0) (ndE0) 26 (by simp [LE0])
  have p27 : (Instr.mapUpdate 64 (.map (some w.heap.size)) (.int .i64 (255)) (.func (.func 199) #[] #[])).run Tryz.prog (mp w ((LE0).take 27)) = .ok () (mp w (LE0)) := put_take w (LE0) (ndE0) 27 (by simp [LE0])
  go_enter Tryz.func42, Tryz.ntmps42
  go_wp2
  go_ret
  exact ⟨rfl, rfl⟩

def L0F (r : Int) (c : Int) : List (Int × Nat) := [(3840, 200), (3841, 201), (3846, 202), (3872, 203), (3874, 206), (3904 + c, 207), (3968 + c, 208), (3984 + c, 209), (4000, 210), (4001, 211), (4003, 212), (4004, 213), (4005, 214), (4008, 215), (4009, 216), (4011, 217), (4012, 218), (4013, 219), (4015, 220), (4019, 221), (4022, 222), (4023, 224), (4026, 226), (4027, 227), (4028, 228), (4029, 229), (4030, 230), (4031, 231), (4040 + r, 232)]

theorem nd0F (r : Int) (c : Int) (h : r = 0 ∧ c = 0 ∨ r = 1 ∧ c = 1 ∨ r = 2 ∧ c = 2 ∨ r = 3 ∧ c = 3 ∨ r = 4 ∧ c = 4 ∨ r = 5 ∧ c = 5 ∨ r = 6 ∧ c = 6 ∨ r = 7 ∧ c = 7 ∨ r = 0 ∧ c = 8 ∨ r = 1 ∧ c = 9 ∨ r = 2 ∧ c = 10 ∨ r = 3 ∧ c = 11 ∨ r = 4 ∧ c = 12 ∨ r = 5 ∧ c = 13 ∨ r = 6 ∧ c = 14 ∨ r = 7 ∧ c = 15) : ((L0F r c).map Prod.fst).Nodup := by
  rcases h with ⟨rfl, rfl⟩ | ⟨rfl, rfl⟩ | ⟨rfl, rfl⟩ | ⟨rfl, rfl⟩ | ⟨rfl, rfl⟩ | ⟨rfl, rfl⟩ | ⟨rfl, rfl⟩ | ⟨rfl, rfl⟩ | ⟨rfl, rfl⟩ | ⟨rfl, rfl⟩ | ⟨rfl, rfl⟩ | ⟨rfl, rfl⟩ | ⟨rfl, rfl⟩ | ⟨rfl, rfl⟩ | ⟨rfl, rfl⟩ | ⟨rfl, rfl⟩ <;> decide

def ix0F : List Nat := [1, 2, 3, 4, 5, 8, 11, 14, 15, 16, 17, 18, 19, 20, 21, 22, 23, 24, 25, 26, 27, 28, 29, 30, 31, 32, 33, 34, 37]

def en0F (r : Int) (c : Int) (i : Nat) : Int × Nat := ([(0, 0), (3840, 200), (3841, 201), (3846, 202), (3872, 203), (3874, 206), (0, 0), (0, 0), (3904 + c, 207), (0, 0), (0, 0), (3968 + c, 208), (0, 0), (0, 0), (3984 + c, 209), (4000, 210), (4001, 211), (4003, 212), (4004, 213), (4005, 214), (4008, 215), (4009, 216), (4011, 217), (4012, 218), (4013, 219), (4015, 220), (4019, 221), (4022, 222), (4023, 224), (4026, 226), (4027, 227), (4028, 228), (4029, 229), (4030, 230), (4031, 231), (0, 0), (0, 0), (4040 + r, 232), (0, 0), (0, 0)] : List (Int × Nat)).getD i (0, 0)

def ff0F : Array Bool := #[true, true, true, true, true, true, true, true, true, true, true, true, true, true, true, true, true, true, true, true, true, true, true, true, true, true, true, true, true, true, true, true, true, true, true, true, true, true, false, false]

theorem ky0F (r : Int) (c : Int) (h : r = 0 ∧ c = 0 ∨ r = 1 ∧ c = 1 ∨ r = 2 ∧ c = 2 ∨ r = 3 ∧ c = 3 ∨ r = 4 ∧ c = 4 ∨ r = 5 ∧ c = 5 ∨ r = 6 ∧ c = 6 ∨ r = 7 ∧ c = 7 ∨ r = 0 ∧ c = 8 ∨ r = 1 ∧ c = 9 ∨ r = 2 ∧ c = 10 ∨ r = 3 ∧ c = 11 ∨ r = 4 ∧ c = 12 ∨ r = 5 ∧ c = 13 ∨ r = 6 ∧ c = 14 ∨ r = 7 ∧ c = 15) : ∀ i ∈ ix0F, ∀ j ∈ ix0F, (en0F r c i).1 = (en0F r c j).1 → i = j := by
  rcases h with ⟨rfl, rfl⟩ | ⟨rfl, rfl⟩ | ⟨rfl, rfl⟩ | ⟨rfl, rfl⟩ | ⟨rfl, rfl⟩ | ⟨rfl, rfl⟩ | ⟨rfl, rfl⟩ | ⟨rfl, rfl⟩ | ⟨rfl, rfl⟩ | ⟨rfl, rfl⟩ | ⟨rfl, rfl⟩ | ⟨rfl, rfl⟩ | ⟨rfl, rfl⟩ | ⟨rfl, rfl⟩ | ⟨rfl, rfl⟩ | ⟨rfl, rfl⟩ <;> decide

set_option maxHeartbeats 2000000 in
theorem from0F_ok (w : World) (op : Int) (r : Int) (c : Int) (h : r = 0 ∧ c = 0 ∨ r = 1 ∧ c = 1 ∨ r = 2 ∧ c = 2 ∨ r = 3 ∧ c = 3 ∨ r = 4 ∧ c = 4 ∨ r = 5 ∧ c = 5 ∨ r = 6 ∧ c = 6 ∨ r = 7 ∧ c = 7 ∨ r = 0 ∧ c = 8 ∨ r = 1 ∧ c = 9 ∨ r = 2 ∧ c = 10 ∨ r = 3 ∧ c = 11 ∨ r = 4 ∧ c = 12 ∨ r = 5 ∧ c = 13 ∨ r = 6 ∧ c = 14 ∨ r = 7 ∧ c = 15) (hr : bits .and .i64 op 7 = r) (r0 : 0 ≤ r) (r1 : r < 8) (hc : bits .and .i64 op 15 = c) (c0 : 0 ≤ c) (c1 : c < 16) :
    Calls Tryz.prog 43 #[.int .i64 op] w fun e w' => e = .returned (.map (some w.heap.size)) ∧ ∃ L, (∀ e, e ∈ L ↔ e ∈ L0F r c) ∧ (L.map Prod.fst).Nodup ∧ w' = md w L := by
  have hmm := @run_makeMap Tryz.prog
  have HK : Hid _ := ky0F r c h
  clear h
  go_enter Tryz.func43, Tryz.ntmps43
  go_wp2
  refine wp_region_any (by kernel_rfl) ?_
  refine wpAny_take (i := 6) (v := .int .i64 (c)) rfl (by kernel_rfl) (by kernel_rfl) (by kernel_rfl) (fun _ _ _ h => h) (Or.inl ⟨by rfl, by intro w; go_simp⟩) ?_
  refine wpAny_take (i := 7) (v := .int .i64 (3904 + c)) rfl (by kernel_rfl) (by kernel_rfl) (by kernel_rfl) (fun _ _ _ h => h) (Or.inl ⟨by rfl, by intro w; go_simp; exact IntWalk.i64_in _ ⟨by omega, by omega⟩⟩) ?_
  refine wpAny_take (i := 9) (v := .int .i64 (c)) rfl (by kernel_rfl) (by kernel_rfl) (by kernel_rfl) (fun _ _ _ h => h) (Or.inl ⟨by rfl, by intro w; go_simp⟩) ?_
  refine wpAny_take (i := 10) (v := .int .i64 (3968 + c)) rfl (by kernel_rfl) (by kernel_rfl) (by kernel_rfl) (fun _ _ _ h => h) (Or.inl ⟨by rfl, by intro w; go_simp; exact IntWalk.i64_in _ ⟨by omega, by omega⟩⟩) ?_
  refine wpAny_take (i := 12) (v := .int .i64 (c)) rfl (by kernel_rfl) (by kernel_rfl) (by kernel_rfl) (fun _ _ _ h => h) (Or.inl ⟨by rfl, by intro w; go_simp⟩) ?_
  refine wpAny_take (i := 13) (v := .int .i64 (3984 + c)) rfl (by kernel_rfl) (by kernel_rfl) (by kernel_rfl) (fun _ _ _ h => h) (Or.inl ⟨by rfl, by intro w; go_simp; exact IntWalk.i64_in _ ⟨by omega, by omega⟩⟩) ?_
  refine wpAny_take (i := 35) (v := .int .i64 (r)) rfl (by kernel_rfl) (by kernel_rfl) (by kernel_rfl) (fun _ _ _ h => h) (Or.inl ⟨by rfl, by intro w; go_simp⟩) ?_
  refine wpAny_take (i := 36) (v := .int .i64 (4040 + r)) rfl (by kernel_rfl) (by kernel_rfl) (by kernel_rfl) (fun _ _ _ h => h) (Or.inl ⟨by rfl, by intro w; go_simp; exact IntWalk.i64_in _ ⟨by omega, by omega⟩⟩) ?_
  refine wpAny_all (rs := [0]) (by kernel_rfl) (by simp) ?_
  intro i hi
  rw [List.mem_singleton] at hi
  subst hi
  refine step_make rfl rfl rfl rfl ?_
  refine ins_all (P := Tryz.prog) (md' := .any) _ w (en0F r c) ix0F ff0F _ (by kernel_rfl) rfl (by decide) HK.out (by kernel_rfl) (by kernel_rfl) ?_ 2 _ rfl ?_
  · intro i hi L K hL hK
    simp [ix0F] at hi
    rcases hi with rfl | rfl | rfl | rfl | rfl | rfl | rfl | rfl | rfl | rfl | rfl | rfl | rfl | rfl | rfl | rfl | rfl | rfl | rfl | rfl | rfl | rfl | rfl | rfl | rfl | rfl | rfl | rfl | rfl
    all_goals exact step_ins rfl rfl rfl rfl (by kernel_rfl) (by kernel_rfl) (by kernel_rfl) hL hK
  · intro L hL hLn
    refine wpAny_take (i := 38) (v := .map (some w.heap.size)) rfl (by kernel_rfl) (by kernel_rfl) (by kernel_rfl) (fun _ _ _ h => h) (Or.inl ⟨by rfl, by intro w; go_simp⟩) ?_
    refine wpAny_all (rs := [39]) (by kernel_rfl) (by simp) ?_
    intro i hi
    rw [List.mem_singleton] at hi
    subst hi
    refine step_put rfl rfl rfl ?_
    refine wpAny_done (by kernel_rfl) ?_ _
    have HL : Hid (∀ e, e ∈ L ↔ e ∈ L0F r c) := hL
    have HN : Hid _ := hLn
    clear hL hLn
    refine then_act (a := { tmps := #[.int .i64 op, undef, .map (some w.heap.size), .int .i64 r, .int .i64 c, .int .i64 op, .int .i64 r, .int .i64 op, .int .i64 c, .map (some w.heap.size), .int .i64 (c), .int .i64 (3904 + c), .int .i64 (c), .int .i64 (3968 + c), .int .i64 (c), .int .i64 (3984 + c), .int .i64 (r), .int .i64 (4040 + r), .map (some w.heap.size)], defers := [] }) (by kernel_rfl) ?_
    go_wp2
    go_ret
    exact ⟨rfl, L, HL.out, HN.out, rfl⟩

end Go.Proofs.YtolnaodlghahlaaGreatDoor
