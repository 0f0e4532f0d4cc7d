/- The walk of the statement RamPlays: however it is used, memory tells what the document's own tells. -/
import Derived.Test.YtankfdcpnhociaaAskedAny
import Derived.Deep.LoopGhost
namespace Go.Proofs.Ytankfdcpnhociaa
open Go.ChangeShapes Go.WideShapes Go.ChangeAt Go.RowKit Go.Maps Go.Shelf
set_option linter.unusedVariables false

/-- The i-th call of a script that came in. -/
def CallAt (w : World) (x : Option Addr) (i : Nat) : Prop :=
  ∃ (blk off : Nat) (k a s v : Int) (p : Option Addr) (S o L c : Nat) (b : Bool) (vs : List Int), x = some ⟨blk, off, none⟩ ∧ blk < w.heap.size ∧
    (w.cell? ⟨blk, off + 6 * i, none⟩ = some (.int .i64 k) ∧ w.cell? ⟨blk, off + 6 * i + 1, none⟩ = some (.int .u32 a) ∧ w.cell? ⟨blk, off + 6 * i + 2, none⟩ = some (.int .i64 s) ∧ w.cell? ⟨blk, off + 6 * i + 3, none⟩ = some (.int .u32 v) ∧ w.cell? ⟨blk, off + 6 * i + 4, none⟩ = some (.slice p L c) ∧ w.cell? ⟨blk, off + 6 * i + 5, none⟩ = some (.bool b)) ∧
    (0 ≤ a ∧ a < 4294967296 ∧ -9223372036854775808 ≤ s ∧ s ≤ 9223372036854775807 ∧ 0 ≤ v ∧ v < 4294967296) ∧ ByIn w (fun q => q < w.heap.size) p S o L c vs

theorem CallAt.kp {w w' : World} {x : Option Addr} {i : Nat} (h : CallAt w x i) (k : Kp noB w w') : ∃ (blk off : Nat) (k a s v : Int) (p : Option Addr) (S o L c : Nat) (b : Bool) (vs : List Int), x = some ⟨blk, off, none⟩ ∧
    (w'.cell? ⟨blk, off + 6 * i, none⟩ = some (.int .i64 k) ∧ w'.cell? ⟨blk, off + 6 * i + 1, none⟩ = some (.int .u32 a) ∧ w'.cell? ⟨blk, off + 6 * i + 2, none⟩ = some (.int .i64 s) ∧ w'.cell? ⟨blk, off + 6 * i + 3, none⟩ = some (.int .u32 v) ∧ w'.cell? ⟨blk, off + 6 * i + 4, none⟩ = some (.slice p L c) ∧ w'.cell? ⟨blk, off + 6 * i + 5, none⟩ = some (.bool b)) ∧
    (0 ≤ a ∧ a < 4294967296 ∧ -9223372036854775808 ≤ s ∧ s ≤ 9223372036854775807 ∧ 0 ≤ v ∧ v < 4294967296) ∧ ByIn w' (fun q => q < w.heap.size) p S o L c vs := by
  obtain ⟨blk, off, kk, a, s, v, p, S, o, L, c, b, vs, hx, hb, ⟨c0, c1, c2, c3, c4, c5⟩, hbd, h1, h2, h3, h4⟩ := h
  refine ⟨blk, off, kk, a, s, v, p, S, o, L, c, b, vs, hx, ⟨cell_kept c0 k (fun f => f), cell_kept c1 k (fun f => f), cell_kept c2 k (fun f => f), cell_kept c3 k (fun f => f), cell_kept c4 k (fun f => f), cell_kept c5 k (fun f => f)⟩, hbd, h1, h2, fun q => ?_, h4⟩
  obtain ⟨q1, q2, q3, q4, q5⟩ := h3 q
  exact ⟨q1, q2, q3, by have := k.size; omega, fun j hj => cell_kept (q5 j hj) k (fun f => f)⟩

/-- While the script goes on. -/
def PlL (w : World) (B : Nat) (R : Rf) (n L k : Nat) (s : Value) (wr : World) : Prop :=
  ∃ (i : Nat) (M : Mem), s = .int .i64 i ∧ i ≤ L ∧ L - i ≤ k ∧ M.n = n ∧ Both wr B R M ∧ Kp noB w wr

set_option maxRecDepth 100000 in
set_option maxHeartbeats 2000000 in
theorem plays_none (w : World) (pg : Int) (x : Option Addr) (L c : Nat) (h : pg < 1 ∨ 256 < pg) :
    Calls Try.prog 4 #[.int .i64 pg, .slice x L c] w fun e w' => e = .returned (.bool true) ∧ Below w.heap.size w w' := by
  have HN : Hid (∀ w, _) := fun w => new_no w pg h
  have HR : Hid (∀ w, _) := fun w => refNew_no w pg h
  clear h
  go_enter Try.func4, Try.ntmps4
  go_wp2_with fail
  refine (awake_any _).mono ?_; rintro e w1 ⟨rfl, k1⟩
  go_wp2_with fail
  refine (HN.out _).mono ?_; rintro e w2 ⟨rfl, hw⟩
  replace hw := hw.symm
  subst hw
  go_wp2_with fail
  refine (HR.out _).mono ?_; rintro e w2 ⟨rfl, hw⟩
  replace hw := hw.symm
  subst hw
  go_wp2
  go_ret
  exact ⟨rfl, k1.all⟩

/-- The last question: as long as each other, and the same noted. -/
def WrPost (W : World) (B : Nat) (M : Mem) (ts : List Int) (e : Ending) (w' : World) : Prop :=
  ∃ p c, e = .returned (.slice p ts.length c) ∧ SlP (fun b => W.heap.size ≤ b) w' p ts ∧ RamAt w' B M.asked ∧ Kp (inRam B M.n) W w'

theorem written_as (W : World) (B : Nat) (M : Mem) (h : RamAt W B M) : Calls Try.prog 14 #[.pointer (some ⟨B + 3, 0, none⟩)] W (WrPost W B M (wantL M.nt (64 * M.n))) := by
  refine (written_all W B M h).mono ?_
  rintro e w2 ⟨vv, ts, rfl, hnd, hm, hpw, hlen, hrow, hr2, k2⟩
  have hts := noted_eq h hnd hm hpw
  subst hts
  obtain ⟨p, c, hv, hsl⟩ := hrow.slP
  subst hv
  exact ⟨p, c, rfl, hsl, hr2, k2⟩

set_option maxRecDepth 100000 in
set_option maxHeartbeats 4000000 in
theorem plays_some (w : World) (n : Nat) (n0 : 1 ≤ n) (n1 : n ≤ 256) (x : Option Addr) (L c : Nat) (hL : L ≤ 4611686018427387904) (hs : ∀ i, i < L → CallAt w x i) :
    Calls Try.prog 4 #[.int .i64 n, .slice x L c] w fun e w' => e = .returned (.bool true) ∧ Below w.heap.size w w' := by
  have HN : Hid (∀ w, _) := fun w => new_ok w n n0 n1
  have HR : Hid (∀ w, _) := fun w => refNew_ok w n n0 n1
  have HS : Hid (∀ i, i < L → CallAt w x i) := hs
  clear hs
  go_enter Try.func4, Try.ntmps4
  go_wp2_with fail
  refine (awake_any _).mono ?_; rintro e w1 ⟨rfl, k1⟩
  go_wp2_with fail
  refine (HN.out _).mono ?_; rintro e w2 ⟨rfl, hr2, hz2, kb2⟩
  go_wp2_with fail
  refine (HR.out _).mono ?_; rintro e w3 ⟨R, rfl, hf3, hout, k3⟩
  obtain ⟨B, hB⟩ : ∃ B, B = w1.heap.size := ⟨_, rfl⟩
  rw [← hB] at hr2 hz2 ⊢
  have hsz1 := k1.size
  have hB3 : Both w3 B R (mem0 n) := ⟨hr2.kp k3 (fun _ _ f => f), hf3, fun j hj f => by have := hout j hj; have := f.2; have e : (mem0 n).n = n := rfl; rw [e] at this; omega⟩
  have kk3 : Kp noB w w3 := k1.over (Kp.ofBelow (S := noB) kb2 (fun j h1 h2 => absurd h1 (by omega)) |>.trans k3) (fun j hj f => f)
  have HO : Hid (∀ j, both B n R j → w.heap.size ≤ j) := fun j hj => by
    rcases hj with f | f
    · have := f.1; omega
    · have := hout j f; omega
  clear HN HR hout kb2 k3 hf3 hr2 hz2 hsz1 hB
  go_wp2_with fail
  go_loopg [10] L (PlL w B R n L)
  case atStart => exact ⟨0, mem0 n, rfl, Nat.zero_le _, Nat.le_refl _, rfl, hB3, kk3⟩
  case round =>
    clear hB3 kk3
    obtain ⟨i, M, rfl, hi1, hik, hMn, hBo, kk⟩ := hrel
    by_cases hlt : (i : Int) < (L : Int)
    · have hi' : i < L := by omega
      obtain ⟨blk, off, k, a, s, v, p, S, o, Lb, cb, b, vs, rfl, ⟨c0, c1, c2, c3, c4, c5⟩, ⟨a0, a1, s0, s1, v0, v1⟩, hby⟩ := (HS.out i hi').kp kk
      rw [Nat.mul_comm 6 i] at c0 c1 c2 c3 c4 c5
      have hby2 : ByIn wr (fun q => ¬ both B M.n R q) p S o Lb cb vs := ⟨hby.1, hby.2.1, fun q => by
        obtain ⟨q1, q2, q3, q4, q5⟩ := hby.2.2.1 q
        exact ⟨q1, q2, fun f => by rw [hMn] at f; have := HO.out S f; omega, q4, q5⟩, hby.2.2.2⟩
      have cA := asked_any wr B R M hBo k a s v p S o Lb cb b vs a0 a1 s0 s1 v0 v1 hby2
      unfold opCells at cA
      clear hby hby2
      obtain ⟨j, hj⟩ : ∃ j, j = i + 1 := ⟨_, rfl⟩
      have HJ : Hid (j = i + 1) := hj
      have HK : Hid (L - i ≤ gk) := hik
      clear hj hik
      go_wp2_with fail
      refine cA.mono ?_
      rintro e w4 ⟨rfl, M', hn', hB', k4⟩
      go_wp2_with fail
      go_roundg (L - j)
      case measure => have := HJ.out; have := HK.out; omega
      case rel => exact ⟨j, M', by rw [HJ.out]; rfl, by have := HJ.out; omega, Nat.le_refl _, hn'.trans hMn, hB', kk.over k4 (fun t ht f => by rw [hMn] at f; have := HO.out t f; omega)⟩
    · clear hik
      have c0 := hBo.ref.c0
      rw [hMn] at c0
      have HLn : Hid (∀ W, RamAt W B M → Calls Try.prog 12 #[.pointer (some ⟨B + 3, 0, none⟩)] W fun e w' => e = .returned (.int .i64 (4096 * n)) ∧ w' = W) := fun W hW => by have := len_ok W B M hW; rw [hMn] at this; exact this
      have HWc : Hid (∀ W, RamAt W B M → Calls Try.prog 14 #[.pointer (some ⟨B + 3, 0, none⟩)] W (WrPost W B M (wantL M.nt (64 * M.n)))) := fun W hW => written_as W B M hW
      have HWr : Hid (∀ W, RefAt W R M → Calls Try.prog 15 #[.pointer (some ⟨R.r, 0, none⟩)] W (WtPost W R M)) := fun W hW => refWritten_ok W R M hW
      have hwl : (wantL M.nt (64 * M.n)).length ≤ 4611686018427387904 := by have := want_len M.nt (64 * M.n); have := hBo.ram.le; omega
      have hrD : RamAt wr.drew B M := hBo.ram.drewN 1
      have hfD : RefAt wr.drew R M := hBo.ref.drewN 1
      have hSD : wr.drew.cell? ⟨R.r, 0, none⟩ = some (.slice (some ⟨R.b, 0, none⟩) (4096 * n) (4096 * n)) := c0
      have HA1 : Hid (∀ W, Kp (inRam B M.n) wr.drew W → RefAt W R M ∧ W.cell? ⟨R.r, 0, none⟩ = some (.slice (some ⟨R.b, 0, none⟩) (4096 * n) (4096 * n))) := fun W kW => by
        have hW := hfD.kp kW (fun j hj f => hBo.ap j hj f)
        have hc := hW.c0
        rw [hMn] at hc
        exact ⟨hW, hc⟩
      have HA2 : Hid (∀ W, RefAt W R M.asked → W.cell? ⟨R.r, 0, none⟩ = some (.slice (some ⟨R.b, 0, none⟩) (4096 * n) (4096 * n))) := fun W hW => by
        have hc := hW.c0
        have e : M.asked.n = n := hMn
        rw [e] at hc
        exact hc
      have HA3 : Hid (∀ (W W' : World) (p : Option Addr) (ts : List Int), SlP (fun b => wr.drew.heap.size ≤ b) W p ts → Kp R.has W W' → SlP (fun b => wr.drew.heap.size ≤ b) W' p ts) := fun W W' p ts hp kW => hp.kp kW (fun j hj f => by have := hfD.lt f; omega)
      have HF : Hid (∀ W1 W2 W3, Kp (inRam B M.n) wr.drew W1 → Kp R.has W1 W2 → Kp noB W2 W3 → Below w.heap.size w W3) := fun W1 W2 W3 q1 q2 q3 =>
        (((kk.drewN 1).over q1 (fun t ht f => by rw [hMn] at f; have := HO.out t (.inl f); omega)).over q2 (fun t ht f => by have := HO.out t (.inr f); omega) |>.trans q3).all
      obtain ⟨ts, hts⟩ : ∃ ts, ts = wantL M.nt (64 * M.n) := ⟨_, rfl⟩
      have HT : Hid (WtPost = fun w R M e w' => ∃ p c, e = .returned (.slice p (wantL M.nt (64 * M.n)).length c) ∧ SlP (fromL w.heap.size) w' p (wantL M.nt (64 * M.n)) ∧ RefAt w' R M.asked ∧ Kp R.has w w') := rfl
      have HWr2 : Hid (∀ W, RefAt W R M → Calls Try.prog 15 #[.pointer (some ⟨R.r, 0, none⟩)] W (Wt2 W R M ts)) := fun W hW => by
        refine (HWr.out W hW).mono ?_
        rintro e w' ⟨q, d, h1, h2, h3⟩
        rw [← hts] at h1 h2
        exact ⟨q, d, h1, h2, h3⟩
      rw [← hts] at hwl
      have HWc2 : Hid (∀ W, RamAt W B M → Calls Try.prog 14 #[.pointer (some ⟨B + 3, 0, none⟩)] W (WrPost W B M ts)) := fun W hW => by rw [hts]; exact HWc.out W hW
      have HSm : Hid (∀ (W : World) (p q : Option Addr) (c c' : Nat) (T U : Nat → Prop), SlP T W p ts → SlP U W q ts → Calls Try.prog 13 #[.slice p ts.length c, .slice q ts.length c'] W fun e w' => e = .returned (.bool true) ∧ Kp noB W w') := fun W p q c c' T U h1 h2 => same_eq W T U p q c c' ts h1 h2 hwl
      clear HWr HWc HT hts hwl hBo kk c0
      go_upto_region 14 with fail
      go_region_held3 (fun W => W.cell? ⟨R.r, 0, none⟩ = some (.slice (some ⟨R.b, 0, none⟩) (4096 * n) (4096 * n)))
        (first | assumption | exact (HA1.out _ (by assumption)).2 | exact HA2.out _ (by assumption) | (exact cell_kept (by assumption) (by assumption : Kp noB _ _) (fun f => f)))
        (first
          | (go_at_call 12; refine (HLn.out _ (by assumption)).mono ?_; rintro e w5 ⟨rfl, rfl⟩)
          | (go_at_call 14; refine (HWc2.out _ (by assumption)).mono ?_; rintro e w5 ⟨p5, q5, rfl, hs5, hr5, k5⟩; have hf5 := (HA1.out _ k5).1)
          | (go_at_call 15; refine (HWr2.out _ (by assumption)).mono ?_; rintro e w6 ⟨p6, q6, rfl, hs6, hf6, k6⟩; have hs56 := HA3.out _ _ _ _ hs5 k6)
          | (go_at_call 13; refine (HSm.out _ _ _ _ _ _ _ hs56 hs6).mono ?_; rintro e w7 ⟨rfl, k7⟩))
      go_wp2
      go_ret
      exact ⟨rfl, HF.out _ _ _ k5 k6 k7⟩

theorem RamPlays_walk (w : World) (pg : Int) (x : Option Addr) (L c : Nat) (hL : L ≤ 1048576) (hs : ∀ i, i < L → CallAt w x i) :
    Calls Try.prog 4 #[.int .i64 pg, .slice x L c] w fun e w' => e = .returned (.bool true) ∧ Below w.heap.size w w' := by
  by_cases h : 1 ≤ pg ∧ pg ≤ 256
  · obtain ⟨n, rfl⟩ : ∃ n : Nat, pg = n := ⟨pg.toNat, by omega⟩
    exact plays_some w n (by omega) (by omega) x L c (by omega) hs
  · exact plays_none w pg x L c (by omega)
end Go.Proofs.Ytankfdcpnhociaa
