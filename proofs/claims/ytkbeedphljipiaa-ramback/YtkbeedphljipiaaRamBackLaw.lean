/- The walk of the statement RamBack: what is written is read, whole and byte by byte, and with the gate closed at the address with bit 20 turned. -/
import Derived.Test.YtkbeedphljipiaaRamNamesLaw
namespace Go.Proofs.Ytkbeedphljipiaa
open Go.ChangeShapes Go.WideShapes Go.ChangeAt Go.RowKit
set_option linter.unusedVariables false

theorem place_low (M : Mem) {a : Int} (a0 : 0 ≤ a) (a1 : a < 1048576) : M.place a = a := by
  unfold Mem.place
  rw [if_neg (by omega)]

theorem place_high (M : Mem) (hc : M.closed = true) {a : Int} (a0 : 0 ≤ a) (a1 : a < 1048576) : M.place (a + 1048576) = a := by
  unfold Mem.place
  rw [if_pos ⟨hc, by omega⟩]
  omega

theorem lay_bytes (all : Bool) : ∀ (vs : List Int) (M : Mem) (a : Int), 0 ≤ a → a + vs.length ≤ 1048576 → M.n = 256 → (∀ i, M.only i = false) →
    ∀ x : Nat, (M.lay all a vs).byte x = if a.toNat ≤ x ∧ x < a.toNat + vs.length then vs.getD (x - a.toNat) 0 else M.byte x
  | [], M, a, _, _, _, _, x => by rw [if_neg (by simp)]; rfl
  | v :: r, M, a, a0, a1, hn, ho, x => by
    have hl : (v :: r).length = r.length + 1 := rfl
    rw [hl] at a1 ⊢
    have hp := place_low M a0 (by omega)
    have hput : M.put all a v = { M.note (a - a % 64) (a - a % 64 + 64) with byte := fun x => if x = a.toNat then v else M.byte x } := by
      unfold Mem.put
      rw [hp, if_pos ⟨by rw [hn]; omega, Or.inr (ho _)⟩]
    have e : (a + 1) % 4294967296 = a + 1 := by omega
    have ih := lay_bytes all r (M.put all a v) (a + 1) (by omega) (by omega) (by rw [put_n]; exact hn) (by rw [put_only]; exact ho) x
    show ((M.put all a v).lay all ((a + 1) % 4294967296) r).byte x = _
    rw [e, ih]
    by_cases c : (a + 1).toNat ≤ x ∧ x < (a + 1).toNat + r.length
    · rw [if_pos c, if_pos (by omega)]
      have : x - a.toNat = (x - (a + 1).toNat) + 1 := by omega
      rw [this]; simp
    · rw [if_neg c, hput]
      simp only
      by_cases d : x = a.toNat
      · subst d; rw [if_pos rfl, if_pos (by omega)]; simp
      · rw [if_neg d, if_neg (by omega)]

/-- Memory in which the bytes of v stand from a on. -/
structure Stands (M : Mem) (a v : Int) (n : Nat) : Prop where
  n256 : M.n = 256
  at_ : ∀ j : Nat, j < n → M.byte (a.toNat + j) = (bytesV v).getD j 0

theorem stands_lay (M : Mem) (a v : Int) (n : Nat) (hn : n ≤ 4) (a0 : 0 ≤ a) (a1 : a < 1048568) (h : M.n = 256) (ho : ∀ i, M.only i = false) : Stands (M.lay false a ((bytesV v).take n)) a v n := by
  refine ⟨by rw [(lay_same _ _ _ _).1, h], fun j hj => ?_⟩
  have hl : ((bytesV v).take n).length = n := by simp [bytesV]; omega
  rw [lay_bytes false _ M a a0 (by rw [hl]; omega) h ho, hl, if_pos (by omega)]
  have e : a.toNat + j - a.toNat = j := by omega
  rw [e]
  simp [List.getD_eq_getElem?_getD, List.getElem?_take_of_lt hj]

theorem Stands.rd {M : Mem} {a v : Int} {n : Nat} (h : Stands M a v n) (a0 : 0 ≤ a) (a1 : a < 1048568) (hn : n ≤ 4) (j : Nat) (hj : j < n) : M.rd ((a + j) % 4294967296) = (bytesV v).getD j 0 := by
  have e : (a + j) % 4294967296 = a + j := by omega
  unfold Mem.rd
  rw [e, place_low M (by omega) (by omega), h.n256, if_pos (by omega), ← h.at_ j hj]
  congr 1
  omega

theorem Stands.rdh {M : Mem} {a v : Int} {n : Nat} (h : Stands M a v n) (hc : M.closed = true) (a0 : 0 ≤ a) (a1 : a < 1048568) (hn : n ≤ 4) (j : Nat) (hj : j < n) : M.rd ((a + 1048576 + j) % 4294967296) = (bytesV v).getD j 0 := by
  have e : (a + 1048576 + j) % 4294967296 = a + j + 1048576 := by omega
  unfold Mem.rd
  rw [e, place_high M hc (by omega) (by omega), h.n256, if_pos (by omega), ← h.at_ j hj]
  congr 1
  omega

theorem read_of {M : Mem} {x v : Int} {n : Nat} (hn : n = 1 ∨ n = 2 ∨ n = 4) (v0 : 0 ≤ v) (v1 : v < 4294967296) (h : ∀ j : Nat, j < n → M.rd ((x + j) % 4294967296) = (bytesV v).getD j 0) : M.read x n = v % (2 ^ (8 * n) : Nat) := by
  unfold Mem.read cellB
  rcases hn with rfl | rfl | rfl
  · have h0 := h 0 (by omega)
    simp only [if_pos (by omega : 0 < 1), if_neg (by omega : ¬ 1 < 1), if_neg (by omega : ¬ 2 < 1), if_neg (by omega : ¬ 3 < 1)]
    rw [h0]
    simp [bytesV]
  · have h0 := h 0 (by omega)
    have h1 := h 1 (by omega)
    simp only [if_pos (by omega : 0 < 2), if_pos (by omega : 1 < 2), if_neg (by omega : ¬ 2 < 2), if_neg (by omega : ¬ 3 < 2)]
    rw [h0, h1]
    simp [bytesV]
    omega
  · have h0 := h 0 (by omega)
    have h1 := h 1 (by omega)
    have h2 := h 2 (by omega)
    have h3 := h 3 (by omega)
    simp only [if_pos (by omega : 0 < 4), if_pos (by omega : 1 < 4), if_pos (by omega : 2 < 4), if_pos (by omega : 3 < 4)]
    rw [h0, h1, h2, h3]
    simp [bytesV]
    omega

theorem read_byte {M : Mem} {a v : Int} {n : Nat} (h : Stands M a v n) (a0 : 0 ≤ a) (a1 : a < 1048568) (hn : n ≤ 4) (k : Nat) (hk : k < n) (x : Int) (hx : x = a + k) : M.read x ((1 : Int).toNat) = (bytesV v).getD k 0 := by
  have e : M.read x ((1 : Int).toNat) = M.rd ((a + k) % 4294967296) := by
    subst hx
    unfold Mem.read cellB
    simp
  rw [e]
  exact h.rd a0 a1 hn k hk

theorem RamBack_no (a0 : Int) (a1 : Int) (a2 : Int) (a3 : Bool) (w1 : (Lit.int .i64 a1).wf = true) (h : okS a1 = false) (w : World) :
    Calls Try.prog 5 #[.int .u32 a0, .int .i64 a1, .int .u32 a2, .bool a3] w fun e w' => e = .returned (.bool true) ∧ Below w.heap.size w w' := by
  have wf := bounds_i64 w1
  have s0 : -9223372036854775808 ≤ a1 := wf.1
  have s1 : a1 ≤ 9223372036854775807 := wf.2
  have ne : ¬ a1 = 1 ∧ ¬ a1 = 2 ∧ ¬ a1 = 4 := by simpa [okS] using h
  obtain ⟨n1, n2, n4⟩ := ne
  have e1 : (a1 != 1) = true := by simp [n1]
  have e2 : (a1 != 2) = true := by simp [n2]
  have e4 : (a1 != 4) = true := by simp [n4]
  clear n1 n2 n4 wf w1
  go_enter Try.func5, Try.ntmps5
  go_wp2_with fail
  refine (awake_any _).mono ?_; rintro e w1 ⟨rfl, k1⟩
  go_wp2_with fail
  refine (new_ok w1 256 (by omega) (by omega)).mono ?_; rintro e w2 ⟨rfl, h2, s2, b2⟩
  have k2 : Kp noB w w2 := k1.over (Kp.ofBelow (S := noB) b2 (fun k g1 g2 => by omega)) (fun _ _ f => f)
  go_wp2_with fail
  refine (write_no w2 ⟨w1.heap.size + 3, 0, none⟩ a0 a1 a2 s0 s1 h).mono ?_; rintro e w3 ⟨rfl, hw⟩; replace hw := hw.symm; subst hw
  go_wp2
  go_ret
  exact ⟨rfl, k2.all⟩

theorem get4 (v : Int) : (bytesV v).getD 0 0 = v % 256 ∧ (bytesV v).getD 1 0 = v / 256 % 256 ∧ (bytesV v).getD 2 0 = v / 65536 % 256 ∧ (bytesV v).getD 3 0 = v / 16777216 := ⟨rfl, rfl, rfl, rfl⟩


set_option maxRecDepth 100000 in
set_option maxHeartbeats 2000000 in
theorem RamBack_yes1 (a0 : Int) (a2 : Int) (a3 : Bool) (x0 : 0 ≤ a0) (x1 : a0 < 4294967296) (v0 : 0 ≤ a2) (v1 : a2 < 4294967296) (w : World) :
    Calls Try.prog 5 #[.int .u32 a0, .int .i64 1, .int .u32 a2, .bool a3] w fun e w' => e = .returned (.bool true) ∧ Below w.heap.size w w' := by
  obtain ⟨a, ha⟩ : ∃ a, a0 % 1048568 = a := ⟨_, rfl⟩
  have b0 : 0 ≤ a := by omega
  have b1 : a < 1048568 := by omega
  go_enter Try.func5, Try.ntmps5
  go_wp2_with fail
  refine (awake_any _).mono ?_; rintro e w1 ⟨rfl, k1⟩
  go_wp2_with fail
  refine (new_ok w1 256 (by omega) (by omega)).mono ?_; rintro e w2 ⟨rfl, h2, s2, b2⟩
  have hs1 := k1.size
  have k2 : Kp noB w w2 := k1.over (Kp.ofBelow (S := noB) b2 (fun k g1 g2 => by omega)) (fun _ _ f => f)
  obtain ⟨B, hB⟩ : ∃ B, B = w1.heap.size := ⟨_, rfl⟩
  rw [← hB] at h2 ⊢
  have up : ∀ j, j < w.heap.size → inRam B 256 j → noB j := fun j hj hi => by have := hi.1; omega
  clear hB s2 b2 hs1 k1
  have cG := gate_ok w2 B _ h2 (!a3)
  rw [Bool.not_not] at cG
  obtain ⟨M0, hM0⟩ : ∃ M0 : Mem, M0 = { mem0 256 with closed := a3 } := ⟨_, rfl⟩
  rw [← hM0] at cG
  have HM0 : Hid (M0 = { mem0 256 with closed := a3 }) := hM0
  clear hM0
  go_wp2_with fail
  refine cG.mono ?_; rintro e w3 ⟨rfl, h3, k3⟩
  replace k3 := k2.over k3 up
  clear k2 h2 cG
  have cW := write_ok w3 B M0 h3 a 1 a2 b0 (by omega) v0 v1 rfl
  have hst : Stands (M0.lay false a ((bytesV a2).take ((1 : Int).toNat))) a a2 1 := stands_lay M0 a a2 1 (by omega) b0 b1 (by rw [HM0.out]; rfl) (by rw [HM0.out]; intro i; rfl)
  have hcl : (M0.lay false a ((bytesV a2).take ((1 : Int).toNat))).closed = a3 := by rw [(lay_same _ _ _ _).2.2, HM0.out]
  have hnn : M0.n = 256 := by rw [HM0.out]; rfl
  rw [hnn] at cW
  generalize M0.lay false a ((bytesV a2).take ((1 : Int).toNat)) = N at cW hst hcl
  go_wp2_with fail
  refine cW.mono ?_; rintro e w4 ⟨rfl, h4, k4⟩
  replace k4 := k3.over k4 up
  clear k3 h3 cW hnn
  have cR := read_ok w4 B N h4 a 1 b0 (by omega) rfl
  have hv : N.read a (1 : Int).toNat = a2 % 256 := read_of (n := 1) (by omega) v0 v1 (fun j hj => hst.rd b0 b1 (by omega) j hj)
  rw [hv] at cR
  go_wp2_with fail
  refine cR.mono ?_; rintro e w5 ⟨rfl, k5⟩
  have h5 : RamAt w5 B N := RamAt.kp h4 k5 (fun _ _ f => f)
  replace k5 := k4.over k5 (fun _ _ f => f)
  clear k4 h4 cR hv
  go_wp2
  go_loopw [14] (fun i wr => ∃ k : Nat, k ≤ 1 ∧ i = .int .i64 k ∧ RamAt wr B N ∧ Kp noB w wr) (fun i _ => 1 - (intOf i).toNat)
  case atStart => exact ⟨0, Nat.zero_le _, rfl, h5, k5⟩
  case round =>
    obtain ⟨k, hk, rfl, hr, kr⟩ := hrel
    clear h5 k5
    rcases (by omega : k = 0 ∨ k = 1) with rfl | rfl
    · have cR := read_ok wr B N hr a 1 (by omega) (by omega) rfl
      have hv : N.read a (1 : Int).toNat = a2 % 256 := read_byte hst b0 b1 (by omega) 0 (by omega) _ (by omega)
      rw [hv] at cR
      clear hv
      go_wp2_with fail
      refine cR.mono ?_; rintro e w6 ⟨rfl, k6⟩
      have h6 : RamAt w6 B N := RamAt.kp hr k6 (fun _ _ f => f)
      replace k6 := kr.over k6 (fun _ _ f => f)
      clear cR kr hr
      go_wp2
      go_roundw
      case rel => exact ⟨1, by omega, by go_num, h6, k6⟩
      case measure => simp [intOf]
    · have cY := read_ok wr B N hr (a + 1048576) 1 (by omega) (by omega) rfl
      cases a3
      · go_wp2_with fail
        refine cY.mono ?_; rintro e w6 ⟨rfl, k6⟩
        replace k6 := kr.over k6 (fun _ _ f => f)
        go_wp2
        go_ret
        exact ⟨rfl, k6.all⟩
      · have hv : N.read (a + 1048576) (1 : Int).toNat = a2 % 256 := read_of (n := 1) (by omega) v0 v1 (fun j hj => hst.rdh hcl b0 b1 (by omega) j hj)
        rw [hv] at cY
        clear hv
        go_wp2_with fail
        refine cY.mono ?_; rintro e w6 ⟨rfl, k6⟩
        replace k6 := kr.over k6 (fun _ _ f => f)
        go_wp2
        go_ret
        exact ⟨rfl, k6.all⟩

set_option maxRecDepth 100000 in
set_option maxHeartbeats 2000000 in
theorem RamBack_yes2 (a0 : Int) (a2 : Int) (a3 : Bool) (x0 : 0 ≤ a0) (x1 : a0 < 4294967296) (v0 : 0 ≤ a2) (v1 : a2 < 4294967296) (w : World) :
    Calls Try.prog 5 #[.int .u32 a0, .int .i64 2, .int .u32 a2, .bool a3] w fun e w' => e = .returned (.bool true) ∧ Below w.heap.size w w' := by
  obtain ⟨a, ha⟩ : ∃ a, a0 % 1048568 = a := ⟨_, rfl⟩
  have b0 : 0 ≤ a := by omega
  have b1 : a < 1048568 := by omega
  go_enter Try.func5, Try.ntmps5
  go_wp2_with fail
  refine (awake_any _).mono ?_; rintro e w1 ⟨rfl, k1⟩
  go_wp2_with fail
  refine (new_ok w1 256 (by omega) (by omega)).mono ?_; rintro e w2 ⟨rfl, h2, s2, b2⟩
  have hs1 := k1.size
  have k2 : Kp noB w w2 := k1.over (Kp.ofBelow (S := noB) b2 (fun k g1 g2 => by omega)) (fun _ _ f => f)
  obtain ⟨B, hB⟩ : ∃ B, B = w1.heap.size := ⟨_, rfl⟩
  rw [← hB] at h2 ⊢
  have up : ∀ j, j < w.heap.size → inRam B 256 j → noB j := fun j hj hi => by have := hi.1; omega
  clear hB s2 b2 hs1 k1
  have cG := gate_ok w2 B _ h2 (!a3)
  rw [Bool.not_not] at cG
  obtain ⟨M0, hM0⟩ : ∃ M0 : Mem, M0 = { mem0 256 with closed := a3 } := ⟨_, rfl⟩
  rw [← hM0] at cG
  have HM0 : Hid (M0 = { mem0 256 with closed := a3 }) := hM0
  clear hM0
  go_wp2_with fail
  refine cG.mono ?_; rintro e w3 ⟨rfl, h3, k3⟩
  replace k3 := k2.over k3 up
  clear k2 h2 cG
  have cW := write_ok w3 B M0 h3 a 2 a2 b0 (by omega) v0 v1 rfl
  have hst : Stands (M0.lay false a ((bytesV a2).take ((2 : Int).toNat))) a a2 2 := stands_lay M0 a a2 2 (by omega) b0 b1 (by rw [HM0.out]; rfl) (by rw [HM0.out]; intro i; rfl)
  have hcl : (M0.lay false a ((bytesV a2).take ((2 : Int).toNat))).closed = a3 := by rw [(lay_same _ _ _ _).2.2, HM0.out]
  have hnn : M0.n = 256 := by rw [HM0.out]; rfl
  rw [hnn] at cW
  generalize M0.lay false a ((bytesV a2).take ((2 : Int).toNat)) = N at cW hst hcl
  go_wp2_with fail
  refine cW.mono ?_; rintro e w4 ⟨rfl, h4, k4⟩
  replace k4 := k3.over k4 up
  clear k3 h3 cW hnn
  have cR := read_ok w4 B N h4 a 2 b0 (by omega) rfl
  have hv : N.read a (2 : Int).toNat = a2 % 65536 := read_of (n := 2) (by omega) v0 v1 (fun j hj => hst.rd b0 b1 (by omega) j hj)
  rw [hv] at cR
  go_wp2_with fail
  refine cR.mono ?_; rintro e w5 ⟨rfl, k5⟩
  have h5 : RamAt w5 B N := RamAt.kp h4 k5 (fun _ _ f => f)
  replace k5 := k4.over k5 (fun _ _ f => f)
  clear k4 h4 cR hv
  go_wp2
  go_loopw [14] (fun i wr => ∃ k : Nat, k ≤ 2 ∧ i = .int .i64 k ∧ RamAt wr B N ∧ Kp noB w wr) (fun i _ => 2 - (intOf i).toNat)
  case atStart => exact ⟨0, Nat.zero_le _, rfl, h5, k5⟩
  case round =>
    obtain ⟨k, hk, rfl, hr, kr⟩ := hrel
    clear h5 k5
    rcases (by omega : k = 0 ∨ k = 1 ∨ k = 2) with rfl | rfl | rfl
    · have cR := read_ok wr B N hr a 1 (by omega) (by omega) rfl
      have hv : N.read a (1 : Int).toNat = a2 % 256 := read_byte hst b0 b1 (by omega) 0 (by omega) _ (by omega)
      rw [hv] at cR
      clear hv
      go_wp2_with fail
      refine cR.mono ?_; rintro e w6 ⟨rfl, k6⟩
      have h6 : RamAt w6 B N := RamAt.kp hr k6 (fun _ _ f => f)
      replace k6 := kr.over k6 (fun _ _ f => f)
      clear cR kr hr
      go_wp2
      go_roundw
      case rel => exact ⟨1, by omega, by go_num, h6, k6⟩
      case measure => simp [intOf]
    · have cR := read_ok wr B N hr (a + 1) 1 (by omega) (by omega) rfl
      have hv : N.read (a + 1) (1 : Int).toNat = a2 / 256 % 256 := read_byte hst b0 b1 (by omega) 1 (by omega) _ (by omega)
      rw [hv] at cR
      clear hv
      go_wp2_with fail
      refine cR.mono ?_; rintro e w6 ⟨rfl, k6⟩
      have h6 : RamAt w6 B N := RamAt.kp hr k6 (fun _ _ f => f)
      replace k6 := kr.over k6 (fun _ _ f => f)
      clear cR kr hr
      go_wp2
      go_roundw
      case rel => exact ⟨2, by omega, by go_num, h6, k6⟩
      case measure => simp [intOf]
    · have cY := read_ok wr B N hr (a + 1048576) 2 (by omega) (by omega) rfl
      cases a3
      · go_wp2_with fail
        refine cY.mono ?_; rintro e w6 ⟨rfl, k6⟩
        replace k6 := kr.over k6 (fun _ _ f => f)
        go_wp2
        go_ret
        exact ⟨rfl, k6.all⟩
      · have hv : N.read (a + 1048576) (2 : Int).toNat = a2 % 65536 := read_of (n := 2) (by omega) v0 v1 (fun j hj => hst.rdh hcl b0 b1 (by omega) j hj)
        rw [hv] at cY
        clear hv
        go_wp2_with fail
        refine cY.mono ?_; rintro e w6 ⟨rfl, k6⟩
        replace k6 := kr.over k6 (fun _ _ f => f)
        go_wp2
        go_ret
        exact ⟨rfl, k6.all⟩

set_option maxRecDepth 100000 in
set_option maxHeartbeats 2000000 in
theorem RamBack_yes4 (a0 : Int) (a2 : Int) (a3 : Bool) (x0 : 0 ≤ a0) (x1 : a0 < 4294967296) (v0 : 0 ≤ a2) (v1 : a2 < 4294967296) (w : World) :
    Calls Try.prog 5 #[.int .u32 a0, .int .i64 4, .int .u32 a2, .bool a3] w fun e w' => e = .returned (.bool true) ∧ Below w.heap.size w w' := by
  obtain ⟨a, ha⟩ : ∃ a, a0 % 1048568 = a := ⟨_, rfl⟩
  have b0 : 0 ≤ a := by omega
  have b1 : a < 1048568 := by omega
  go_enter Try.func5, Try.ntmps5
  go_wp2_with fail
  refine (awake_any _).mono ?_; rintro e w1 ⟨rfl, k1⟩
  go_wp2_with fail
  refine (new_ok w1 256 (by omega) (by omega)).mono ?_; rintro e w2 ⟨rfl, h2, s2, b2⟩
  have hs1 := k1.size
  have k2 : Kp noB w w2 := k1.over (Kp.ofBelow (S := noB) b2 (fun k g1 g2 => by omega)) (fun _ _ f => f)
  obtain ⟨B, hB⟩ : ∃ B, B = w1.heap.size := ⟨_, rfl⟩
  rw [← hB] at h2 ⊢
  have up : ∀ j, j < w.heap.size → inRam B 256 j → noB j := fun j hj hi => by have := hi.1; omega
  clear hB s2 b2 hs1 k1
  have cG := gate_ok w2 B _ h2 (!a3)
  rw [Bool.not_not] at cG
  obtain ⟨M0, hM0⟩ : ∃ M0 : Mem, M0 = { mem0 256 with closed := a3 } := ⟨_, rfl⟩
  rw [← hM0] at cG
  have HM0 : Hid (M0 = { mem0 256 with closed := a3 }) := hM0
  clear hM0
  go_wp2_with fail
  refine cG.mono ?_; rintro e w3 ⟨rfl, h3, k3⟩
  replace k3 := k2.over k3 up
  clear k2 h2 cG
  have cW := write_ok w3 B M0 h3 a 4 a2 b0 (by omega) v0 v1 rfl
  have hst : Stands (M0.lay false a ((bytesV a2).take ((4 : Int).toNat))) a a2 4 := stands_lay M0 a a2 4 (by omega) b0 b1 (by rw [HM0.out]; rfl) (by rw [HM0.out]; intro i; rfl)
  have hcl : (M0.lay false a ((bytesV a2).take ((4 : Int).toNat))).closed = a3 := by rw [(lay_same _ _ _ _).2.2, HM0.out]
  have hnn : M0.n = 256 := by rw [HM0.out]; rfl
  rw [hnn] at cW
  generalize M0.lay false a ((bytesV a2).take ((4 : Int).toNat)) = N at cW hst hcl
  go_wp2_with fail
  refine cW.mono ?_; rintro e w4 ⟨rfl, h4, k4⟩
  replace k4 := k3.over k4 up
  clear k3 h3 cW hnn
  have cR := read_ok w4 B N h4 a 4 b0 (by omega) rfl
  have hv : N.read a (4 : Int).toNat = a2 % 4294967296 := read_of (n := 4) (by omega) v0 v1 (fun j hj => hst.rd b0 b1 (by omega) j hj)
  rw [hv] at cR
  go_wp2_with fail
  refine cR.mono ?_; rintro e w5 ⟨rfl, k5⟩
  have h5 : RamAt w5 B N := RamAt.kp h4 k5 (fun _ _ f => f)
  replace k5 := k4.over k5 (fun _ _ f => f)
  clear k4 h4 cR hv
  go_wp2
  go_loopw [14] (fun i wr => ∃ k : Nat, k ≤ 4 ∧ i = .int .i64 k ∧ RamAt wr B N ∧ Kp noB w wr) (fun i _ => 4 - (intOf i).toNat)
  case atStart => exact ⟨0, Nat.zero_le _, rfl, h5, k5⟩
  case round =>
    obtain ⟨k, hk, rfl, hr, kr⟩ := hrel
    clear h5 k5
    rcases (by omega : k = 0 ∨ k = 1 ∨ k = 2 ∨ k = 3 ∨ k = 4) with rfl | rfl | rfl | rfl | rfl
    · have cR := read_ok wr B N hr a 1 (by omega) (by omega) rfl
      have hv : N.read a (1 : Int).toNat = a2 % 256 := read_byte hst b0 b1 (by omega) 0 (by omega) _ (by omega)
      rw [hv] at cR
      clear hv
      go_wp2_with fail
      refine cR.mono ?_; rintro e w6 ⟨rfl, k6⟩
      have h6 : RamAt w6 B N := RamAt.kp hr k6 (fun _ _ f => f)
      replace k6 := kr.over k6 (fun _ _ f => f)
      clear cR kr hr
      go_wp2
      go_roundw
      case rel => exact ⟨1, by omega, by go_num, h6, k6⟩
      case measure => simp [intOf]
    · have cR := read_ok wr B N hr (a + 1) 1 (by omega) (by omega) rfl
      have hv : N.read (a + 1) (1 : Int).toNat = a2 / 256 % 256 := read_byte hst b0 b1 (by omega) 1 (by omega) _ (by omega)
      rw [hv] at cR
      clear hv
      go_wp2_with fail
      refine cR.mono ?_; rintro e w6 ⟨rfl, k6⟩
      have h6 : RamAt w6 B N := RamAt.kp hr k6 (fun _ _ f => f)
      replace k6 := kr.over k6 (fun _ _ f => f)
      clear cR kr hr
      go_wp2
      go_roundw
      case rel => exact ⟨2, by omega, by go_num, h6, k6⟩
      case measure => simp [intOf]
    · have cR := read_ok wr B N hr (a + 2) 1 (by omega) (by omega) rfl
      have hv : N.read (a + 2) (1 : Int).toNat = a2 / 65536 % 256 := read_byte hst b0 b1 (by omega) 2 (by omega) _ (by omega)
      rw [hv] at cR
      clear hv
      go_wp2_with fail
      refine cR.mono ?_; rintro e w6 ⟨rfl, k6⟩
      have h6 : RamAt w6 B N := RamAt.kp hr k6 (fun _ _ f => f)
      replace k6 := kr.over k6 (fun _ _ f => f)
      clear cR kr hr
      go_wp2
      go_roundw
      case rel => exact ⟨3, by omega, by go_num, h6, k6⟩
      case measure => simp [intOf]
    · have cR := read_ok wr B N hr (a + 3) 1 (by omega) (by omega) rfl
      have hv : N.read (a + 3) (1 : Int).toNat = a2 / 16777216 := read_byte hst b0 b1 (by omega) 3 (by omega) _ (by omega)
      rw [hv] at cR
      clear hv
      go_wp2_with fail
      refine cR.mono ?_; rintro e w6 ⟨rfl, k6⟩
      have h6 : RamAt w6 B N := RamAt.kp hr k6 (fun _ _ f => f)
      replace k6 := kr.over k6 (fun _ _ f => f)
      clear cR kr hr
      go_wp2
      go_roundw
      case rel => exact ⟨4, by omega, by go_num, h6, k6⟩
      case measure => simp [intOf]
    · have cY := read_ok wr B N hr (a + 1048576) 4 (by omega) (by omega) rfl
      cases a3
      · go_wp2_with fail
        refine cY.mono ?_; rintro e w6 ⟨rfl, k6⟩
        replace k6 := kr.over k6 (fun _ _ f => f)
        go_wp2
        go_ret
        exact ⟨rfl, k6.all⟩
      · have hv : N.read (a + 1048576) (4 : Int).toNat = a2 % 4294967296 := read_of (n := 4) (by omega) v0 v1 (fun j hj => hst.rdh hcl b0 b1 (by omega) j hj)
        rw [hv] at cY
        clear hv
        go_wp2_with fail
        refine cY.mono ?_; rintro e w6 ⟨rfl, k6⟩
        replace k6 := kr.over k6 (fun _ _ f => f)
        go_wp2
        go_ret
        exact ⟨rfl, k6.all⟩

theorem RamBack_walk (a0 : Int) (a1 : Int) (a2 : Int) (a3 : Bool) (w0 : (Lit.int .u32 a0).wf = true) (w1 : (Lit.int .i64 a1).wf = true) (w2 : (Lit.int .u32 a2).wf = true) (w : World) :
    Calls Try.prog 5 #[.int .u32 a0, .int .i64 a1, .int .u32 a2, .bool a3] w fun e w' => e = .returned (.bool true) ∧ Below w.heap.size w w' := by
  have b0 := bounds_u32 w0
  have b2 := bounds_u32 w2
  cases h : okS a1 with
  | false => exact RamBack_no a0 a1 a2 a3 w1 h w
  | true =>
    have hs : a1 = 1 ∨ a1 = 2 ∨ a1 = 4 := by simpa [okS] using h
    rcases hs with rfl | rfl | rfl
    · exact RamBack_yes1 a0 a2 a3 b0.1 (by omega) b2.1 (by omega) w
    · exact RamBack_yes2 a0 a2 a3 b0.1 (by omega) b2.1 (by omega) w
    · exact RamBack_yes4 a0 a2 a3 b0.1 (by omega) b2.1 (by omega) w
end Go.Proofs.Ytkbeedphljipiaa
