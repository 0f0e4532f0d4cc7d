/- The walk of the statement RamNotes: of watched granules just those are noted that were written to. -/
import Derived.Test.YtankfdcpnhociaaRamHits
import Derived.Test.YtankfdcpnhociaaRamNamesLaw
import Derived.Deep.LoopGhost
import Derived.Deep.Cut
namespace Go.Proofs.Ytankfdcpnhociaa
open Go.ChangeShapes Go.WideShapes Go.ChangeAt Go.RowKit Go.Maps Go.Shelf
set_option linter.unusedVariables false

def atL (n b : Nat) : Prop := b < n
def fromL (n b : Nat) : Prop := n ≤ b

/-- Ahead of all writing. -/
def StA (w : World) (B : Nat) (only : Bool) (M : Mem) (wr : World) : Prop := NM only M ∧ (∀ x, M.nt x = false) ∧ RamAt wr B M ∧ Kp noB w wr
def Cut1 (w : World) (B : Nat) (only : Bool) (wr : World) : Prop := ∃ M, StA w B only M wr
def L1 (w : World) (B L : Nat) (only : Bool) (k : Nat) (s : Value) (wr : World) : Prop := ∃ (i : Nat) (M : Mem), s = .int .i64 i ∧ i ≤ L ∧ L - i ≤ k ∧ StA w B only M wr
def L2 (w : World) (B n0 : Nat) (only : Bool) (M : Mem) (ys : List Int) (k : Nat) (v s : Value) (wr : World) : Prop :=
  ∃ i : Nat, s = .int .u32 (64 * i : Nat) ∧ i ≤ 128 ∧ 128 - i ≤ k ∧ wr.ownsRow n0 32 1 v (wantL (fun g => M.wt g && hit only ys g) i).length ((wantL (fun g => M.wt g && hit only ys g) i).map (Value.int .u32)) ∧ n0 ≤ wr.heap.size ∧ RamAt wr B M ∧ Kp noB w wr
def L3 (only : Bool) (ys : List Int) (L : Nat) (g : Int) (W : World) (k : Nat) (h s : Value) (wr : World) : Prop := ∃ j : Nat, s = .int .i64 j ∧ j ≤ L ∧ L - j ≤ k ∧ h = .bool (hit only (ys.take j) g) ∧ wr = W
def L4 (w : World) (B L : Nat) (only : Bool) (M : Mem) (ys : List Int) (q : Option Addr) (n0 : Nat) (us : List Int) (k : Nat) (s : Value) (wr : World) : Prop :=
  ∃ (i : Nat) (M' : Mem), s = .int .i64 i ∧ i ≤ L ∧ L - i ≤ k ∧ NM only M' ∧ (∀ x, M'.wt x = (M.wt x && !hit only (ys.take i) x)) ∧ (∀ x, M'.nt x = (M.wt x && hit only (ys.take i) x)) ∧ RamAt wr B M' ∧ SlP (fromL n0) wr q us ∧ Kp noB w wr
def L5 (w : World) (B L : Nat) (M : Mem) (p : Option Addr) (n1 : Nat) (ts : List Int) (k : Nat) (s : Value) (wr : World) : Prop :=
  ∃ i : Nat, s = .int .i64 i ∧ i ≤ L ∧ L - i ≤ k ∧ RamAt wr B M ∧ SlP (fromL n1) wr p ts ∧ Kp noB w wr

theorem StA.watch {w wr w' : World} {B : Nat} {only : Bool} {M : Mem} (h : StA w B only M wr) (hB : w.heap.size ≤ B) (x : Int) (hr : RamAt w' B { M with wt := fun y => M.wt y || decide (y = M.place x - M.place x % 64) }) (k : Kp (inRam B M.n) wr w') :
    StA w B only { M with wt := fun y => M.wt y || decide (y = M.place x - M.place x % 64) } w' :=
  ⟨⟨h.1.n, h.1.closed, h.1.o0, h.1.o1, h.1.b0⟩, h.2.1, hr, h.2.2.2.over k (fun j hj e => by have := e.1; omega)⟩

theorem owns_kp {S : Nat → Prop} {w w' : World} {base e size n : Nat} {v : Value} {xs : List Value} (h : w.ownsRow base e size v n xs) (k : Kp S w w') (hS : ∀ b, base ≤ b → ¬ S b) : w'.ownsRow base e size v n xs := by
  refine ⟨h.1, ?_⟩
  rcases h.2 with h1 | ⟨g, cap, cur, h1, hb, hg, r⟩
  · exact .inl h1
  · exact .inr ⟨g, cap, cur, h1, hb, (k.block g (Array.getElem?_eq_some_iff.1 hg).1 (hS g hb)).trans hg, r⟩

theorem kp_grown {w w' : World} {base e size n : Nat} {v : Value} {xs : List Value} (h : w.ownsRow base e size v n xs) (g : w.grownBy w' v.ownBlock) : Kp (fromL base) w w' :=
  ⟨g.os, g.tape, g.output, g.size, fun k hk hs => g.block k hk (fun e => by
    rcases h.2 with ⟨h1, _⟩ | ⟨b, cap, cur, h1, hb, _⟩
    · rw [h1] at e; simp [Value.ownBlock] at e
    · rw [h1] at e; simp [Value.ownBlock] at e; subst e; exact hs hb)⟩

set_option maxRecDepth 100000 in
set_option maxHeartbeats 4000000 in
theorem RamNotes_walk (w : World) (p q : Option Addr) (cp cq : Nat) (xs ys : List Int) (only : Bool) (hp : SlP (atL w.heap.size) w p xs) (hq : SlP (atL w.heap.size) w q ys) (lx : xs.length ≤ 9223372036854775807) (ly : ys.length ≤ 9223372036854775807)
    (bx : ∀ j, j < xs.length → 0 ≤ xs.getD j 0 ∧ xs.getD j 0 < 4294967296) (by_ : ∀ j, j < ys.length → 0 ≤ ys.getD j 0 ∧ ys.getD j 0 < 4294967296) :
    Calls Try.prog 7 #[.slice p xs.length cp, .slice q ys.length cq, .bool only] w fun e w' => e = .returned (.bool true) ∧ Below w.heap.size w w' := by
  obtain ⟨La, hLa⟩ : ∃ La, La = xs.length := ⟨_, rfl⟩
  obtain ⟨Lb, hLb⟩ : ∃ Lb, Lb = ys.length := ⟨_, rfl⟩
  obtain ⟨i0, hi, hz0, hz1, hz2⟩ := info_parts info32
  rw [← hLa] at lx ⊢
  rw [← hLb] at ly ⊢
  have HA : Hid (La = xs.length) := hLa
  have HB : Hid (Lb = ys.length) := hLb
  clear hLa hLb
  go_enter Try.func7, Try.ntmps7
  go_wp2_with fail
  refine (awake_any _).mono ?_; rintro e w1 ⟨rfl, k1⟩
  go_wp2_with fail
  refine (new_ok w1 2 (by omega) (by omega)).mono ?_; rintro e w2 ⟨rfl, h2, s2, b2⟩
  have k2 : Kp noB w w2 := k1.over (Kp.ofBelow (S := noB) b2 (fun k g1 g2 => by omega)) (fun _ _ f => f)
  obtain ⟨B, hB⟩ : ∃ B, B = w1.heap.size := ⟨_, rfl⟩
  have hwB : w.heap.size ≤ B := by rw [hB]; exact k1.size
  rw [← hB] at h2 s2 ⊢
  clear hB b2 k1
  go_upto_if 37 with fail
  go_cut [] from 22 (Cut1 w B only)
  case first =>
    cases only
    · go_wp2_with fail
      go_meet
      case rel => exact ⟨mem0 2, ⟨rfl, rfl, rfl, rfl, fun f => by cases f⟩, fun _ => rfl, h2, k2⟩
    · have c := rom_ok w2 B (mem0 2) h2 0 true (by decide)
      go_wp2_with fail
      refine c.mono ?_; rintro e w3 ⟨rfl, h3, k3⟩
      go_wp2_with fail
      go_meet
      case rel => exact ⟨_, ⟨rfl, rfl, rfl, rfl, fun f => rfl⟩, fun _ => rfl, h3, k2.over k3 (fun j hj e => by have := e.1; omega)⟩
  case rest =>
    obtain ⟨M0, hS0⟩ := hcut
    clear h2 s2 k2
    go_wp2_with fail
    go_loopg [10] La (L1 w B La only)
    case atStart => exact ⟨0, M0, rfl, Nat.zero_le _, Nat.le_refl _, hS0⟩
    case round =>
      clear hS0 M0
      obtain ⟨i, M, rfl, hi1, hik, hS⟩ := hrel
      by_cases hlt : (i : Int) < (La : Int)
      · have hi' : i < xs.length := by have := HA.out; omega
        obtain ⟨b1, o1, rfl, t1, e1⟩ := hp.kp hS.2.2.2 (fun _ _ f => f) i hi'
        obtain ⟨v0, v1⟩ := bx i hi'
        obtain ⟨v, hv⟩ : ∃ v, v = xs.getD i 0 := ⟨_, rfl⟩
        rw [← hv] at e1 v0 v1
        clear hv
        have cW := watch_ok wr B M hS.2.2.1 (v % 8192) (by omega) (by omega) (by rw [hS.1.place, hS.1.n]; omega)
        go_wp2_with fail
        refine cW.mono ?_; rintro e w3 ⟨rfl, h3, k3⟩
        have hS3 := hS.watch hwB _ h3 k3
        have e1' : w3.cell? ⟨b1, o1 + i, none⟩ = some (.int .u32 v) := cell_kept e1 k3 (fun f => by have := f.1; unfold atL at t1; omega)
        have cR := read_ok w3 B _ h3 (v % 8192) 1 (by omega) (by omega) rfl
        clear e1 h3 k3 hS
        go_wp2_with fail
        refine cR.mono ?_; rintro e w4 ⟨rfl, k4⟩
        go_wp2_with fail
        go_roundg (La - (i + 1))
        case measure => omega
        case rel => exact ⟨i + 1, _, by go_num, by omega, Nat.le_refl _, hS3.1, hS3.2.1, hS3.2.2.1.kp k4 (fun _ _ f => f), hS3.2.2.2.over k4 (fun _ _ f => f)⟩
      · have hS0 := hS
        obtain ⟨hnm, hnt, hra, hkp⟩ := hS
        obtain ⟨n0, hn0⟩ : ∃ n0, n0 = wr.heap.size := ⟨_, rfl⟩
        have hn1 : B + 4 + 2 ≤ n0 := by have := hra.lt; rw [hnm.n] at this; omega
        have hn2 : n0 ≤ wr.heap.size := by omega
        have hn3 : w.heap.size ≤ n0 := by omega
        have HWB : Hid (∀ x, M.wt x = true → 0 ≤ x ∧ x < 8192 ∧ x % 64 = 0) := fun x hx => by have := hra.wb x hx; rw [hnm.n] at this; omega
        clear hn0
        go_wp2_with fail
        go_loopg [11, 12] 128 (L2 w B n0 only M ys)
        case atStart => exact ⟨0, rfl, by omega, by omega, World.ownsRow_nil _ _ _ _, hn2, hra, hkp⟩
        case round =>
          clear hra hkp hn2 hS0 hlt hik
          obtain ⟨k, rfl, hk1, hk2, hown, hsz, hr, kk⟩ := hrel
          obtain ⟨g, hg⟩ : ∃ g : Nat, g = 64 * k := ⟨_, rfl⟩
          rw [← hg]
          by_cases hkl : k < 128
          · have hgl : (g : Int) < 8192 := by omega
            have cW := watched_ok wr B M hr (g : Int) (by omega) (by omega)
            rw [hnm.place, show (g : Int) - (g : Int) % 64 = (g : Int) by omega] at cW
            obtain ⟨b1, hb1⟩ : ∃ b1, b1 = M.wt (g : Int) := ⟨_, rfl⟩
            rw [← hb1] at cW
            have HB1 : Hid (b1 = M.wt (g : Int)) := hb1
            clear hb1
            have HG : Hid (g = 64 * k) := hg
            clear hg
            go_wp2_with fail
            refine cW.mono ?_; rintro e w3 ⟨rfl, k3⟩
            have hr3 := hr.kp k3 (fun _ _ f => f)
            have hown3 := owns_kp hown k3 (fun _ _ f => f)
            have kk3 := kk.over k3 (fun _ _ f => f)
            have hsz3 := k3.size
            clear cW hr hown kk k3
            go_wp2_with fail
            go_loopg [14, 15] Lb (L3 only ys Lb g w3)
            case atStart => exact ⟨0, rfl, Nat.zero_le _, Nat.le_refl _, rfl, rfl⟩
            case round =>
              obtain ⟨j, rfl, hj1, hj2, rfl, hw⟩ := hrel
              replace hw := hw.symm
              subst hw
              by_cases hjl : (j : Int) < (Lb : Int)
              · have hj' : j < ys.length := by have := HB.out; omega
                obtain ⟨b2, o2, rfl, t2, e2⟩ := hq.kp kk3 (fun _ _ f => f) j hj'
                obtain ⟨v0, v1⟩ := by_ j hj'
                have hst := hit_succ only ys j hj' g
                obtain ⟨v, hv⟩ : ∃ v, v = ys.getD j 0 := ⟨_, rfl⟩
                rw [← hv] at e2 v0 v1 hst
                obtain ⟨t, ht⟩ : ∃ t, v % 8192 = t := ⟨_, rfl⟩
                have t0 : 0 ≤ t := by omega
                have t1 : t < 8192 := by omega
                have hh1 : hit1 only v g = (decide (t - t % 64 = g) && (!only || decide (4096 ≤ t))) := by unfold hit1; rw [ht]
                rw [hh1] at hst
                have HST : Hid (hit only (ys.take (j + 1)) g = (hit only (ys.take j) g || (decide (t - t % 64 = g) && (!only || decide (4096 ≤ t))))) := hst
                obtain ⟨hb, hhb⟩ : ∃ hb, hb = hit only (ys.take j) g := ⟨_, rfl⟩
                have HHB : Hid (hb = hit only (ys.take j) g) := hhb
                rw [← hhb]
                clear hv hst hh1 hhb
                obtain ⟨u, hu⟩ : ∃ u, t - t % 64 = u := ⟨_, rfl⟩
                have u0 : 0 ≤ u ∧ u < 8192 := by omega
                obtain ⟨u1, u2⟩ := u0
                cases only <;> by_cases c1 : u = (g : Int) <;> by_cases c2 : (4096 : Int) ≤ t <;>
                  (go_wp2_with fail
                   go_roundg (Lb - (j + 1))
                   case measure => omega
                   case rel => exact ⟨j + 1, by go_num, by omega, Nat.le_refl _, by rw [HST.out, ← HHB.out, hu]; simp [c1, c2] <;> (intro hx; omega), rfl⟩)
              · have hjL : j = ys.length := by have := HB.out; omega
                rw [hjL, List.take_length]
                obtain ⟨h2, hh2⟩ : ∃ h2, h2 = hit only ys (g : Int) := ⟨_, rfl⟩
                rw [← hh2]
                have HF : Hid ((M.wt (64 * k : Int) && hit only ys (64 * k : Int)) = (b1 && h2)) := by
                  have : (64 * k : Int) = (g : Int) := by have := HG.out; omega
                  show (M.wt (64 * k : Int) && hit only ys (64 * k : Int)) = (b1 && h2)
                  rw [HB1.out, hh2, this]
                have hwl := want_len (fun g => M.wt g && hit only ys g) k
                clear hh2
                have hu32 : (g : Int) + 64 = ((64 * (k + 1) : Nat) : Int) := by have := HG.out; omega
                have kA : ∀ o : Obj, Kp noB w3 (w3.alloc o) := fun o => Kp.alloc _ _ _
                by_cases hcc : b1 = true ∧ h2 = true
                · obtain ⟨rfl, rfl⟩ := hcc
                  have HU : Hid ((g : Int) + 64 = ((64 * (k + 1) : Nat) : Int)) := hu32
                  clear hu32
                  go_wp2_with (at_builtin; refine wpList_append_own _ rfl _ _ 41 rfl n0 32 i0 (.int .u32 0) 1 4 slice32T hi hz0 hz1 hz2 rfl (by decide) _ _ _ rfl (hown3.alloc _) ⟨w3.heap.size, 0, none⟩ 1 1 [.int .u32 g] rfl rfl (cell_one_new _ _ _) (by simp [Value.oneCell']) (by unfold maxLen; omega) (by omega) (by simp; omega) ?_; intro v' w5 hown' hgrow _)
                  have kg := kp_grown (hown3.alloc _) hgrow
                  have hsg := hgrow.size
                  go_roundg (128 - (k + 1))
                  case measure => omega
                  case rel =>
                    refine ⟨k + 1, congrArg _ HU.out, by omega, Nat.le_refl _, ?_, ?_, ?_, ?_⟩
                    · have e : wantL (fun g => M.wt g && hit only ys g) (k + 1) = wantL (fun g => M.wt g && hit only ys g) k ++ [(g : Int)] := by
                        show wantL (fun g => M.wt g && hit only ys g) k ++ (if (M.wt (64 * k : Int) && hit only ys (64 * k : Int)) = true then [(64 * k : Int)] else []) = _
                        rw [HF.out, if_pos (show (true && true) = true from rfl), show (64 * k : Int) = (g : Int) by have := HG.out; omega]
                      rw [e]
                      simpa using hown'
                    · simp at hsg; omega
                    · exact (hr3.alloc _).kp kg (fun b hb f => by have := hb.2; rw [hnm.n] at this; unfold fromL at f; omega)
                    · exact (kk3.over (kA _) (fun _ _ f => f)).over kg (fun b hb f => by unfold fromL at f; omega)
                · have HU : Hid ((g : Int) + 64 = ((64 * (k + 1) : Nat) : Int)) := hu32
                  clear hu32
                  have e : wantL (fun g => M.wt g && hit only ys g) (k + 1) = wantL (fun g => M.wt g && hit only ys g) k := by
                    show wantL (fun g => M.wt g && hit only ys g) k ++ (if (M.wt (64 * k : Int) && hit only ys (64 * k : Int)) = true then [(64 * k : Int)] else []) = _
                    rw [HF.out, if_neg (by simpa using hcc), List.append_nil]
                  have hown4 := hown3
                  rw [← e] at hown4
                  have HO : Hid (w3.ownsRow n0 32 1 u11 (wantL (fun g => M.wt g && hit only ys g) (k + 1)).length ((wantL (fun g => M.wt g && hit only ys g) (k + 1)).map (Value.int .u32))) := hown4
                  clear e hown4
                  cases b1
                  · go_wp2_with fail
                    go_roundg (128 - (k + 1))
                    case measure => omega
                    case rel => exact ⟨k + 1, congrArg _ HU.out, by omega, Nat.le_refl _, HO.out, by omega, hr3, kk3⟩
                  · cases h2
                    · go_wp2_with fail
                      go_roundg (128 - (k + 1))
                      case measure => omega
                      case rel => exact ⟨k + 1, congrArg _ HU.out, by omega, Nat.le_refl _, HO.out, by omega, hr3, kk3⟩
                    · exact absurd ⟨rfl, rfl⟩ hcc
          · have hk : k = 128 := by omega
            subst hk
            obtain ⟨us, hus⟩ : ∃ us, us = wantL (fun g => M.wt g && hit only ys g) 128 := ⟨_, rfl⟩
            rw [← hus] at hown
            obtain ⟨q', c', hv, hsl⟩ := owns_slP hown
            have HUS : Hid (us = wantL (fun g => M.wt g && hit only ys g) 128) := hus
            have hul : us.length ≤ 128 := by rw [hus]; exact want_len _ _
            clear hus hown
            subst hv
            have hgl : ¬ (g : Int) < 8192 := by omega
            clear hg
            go_wp2_with fail
            go_loopg [17] Lb (L4 w B Lb only M ys q' n0 us)
            case atStart => exact ⟨0, M, rfl, Nat.zero_le _, Nat.le_refl _, hnm, fun x => by simp [hit], fun x => by simp [hit, hnt], hr, hsl, kk⟩
            case round =>
              clear hr hsl kk
              obtain ⟨j, M', rfl, hj1, hj2, hnm', hwt, hnt', hr, hsl, kk⟩ := hrel
              by_cases hjl : (j : Int) < (Lb : Int)
              · have hj' : j < ys.length := by have := HB.out; omega
                obtain ⟨b2, o2, rfl, t2, e2⟩ := hq.kp kk (fun _ _ f => f) j hj'
                obtain ⟨v0, v1⟩ := by_ j hj'
                have hst := hit_succ only ys j hj'
                obtain ⟨v, hv⟩ : ∃ v, v = ys.getD j 0 := ⟨_, rfl⟩
                rw [← hv] at e2 v0 v1 hst
                clear hv
                have cW := write_ok wr B M' hr (v % 8192) 1 7 (by omega) (by omega) (by omega) (by omega) rfl
                go_wp2_with fail
                refine cW.mono ?_; rintro e w4 ⟨rfl, h4, k4⟩
                have eput : M'.lay false (v % 8192) ((bytesV 7).take (1 : Int).toNat) = M'.put false (v % 8192) 7 := rfl
                rw [eput] at h4
                obtain ⟨z1, z2, z3⟩ := hnm'.put (fun x hx => (hr.wb x hx).2.2) v
                clear cW eput
                go_wp2_with fail
                go_roundg (Lb - (j + 1))
                case measure => omega
                case rel =>
                  refine ⟨j + 1, _, by go_num, by omega, Nat.le_refl _, z1, fun x => ?_, fun x => ?_, h4, hsl.kp k4 (fun b hb f => by have := f.2; rw [hnm'.n] at this; unfold fromL at hb; omega), kk.over k4 (fun b hb f => by have := f.1; omega)⟩
                  · rw [z2, hwt, hst]; cases M.wt x <;> cases hit only (ys.take j) x <;> cases hit1 only v x <;> rfl
                  · rw [z3, hwt, hnt', hst]; cases M.wt x <;> cases hit only (ys.take j) x <;> cases hit1 only v x <;> rfl
              · have hjL : j = ys.length := by have := HB.out; omega
                rw [hjL, List.take_length] at hwt hnt'
                have cW := written_all wr B M' hr
                go_wp2_with fail
                refine cW.mono ?_; rintro e w4 ⟨v, ts, rfl, hnd, hmem, hpw, hlen, hrow, hr4, k4⟩
                have hts : ts = us := by
                  refine sorted_eq _ _ (strict_of hpw hnd) (by rw [HUS.out]; exact want_sorted _ _) fun x => ?_
                  rw [hmem, hnt', HUS.out, want_mem]
                  constructor
                  · intro hx
                    have hx1 : M.wt x = true := by cases h : M.wt x with | true => rfl | false => rw [h] at hx; cases hx
                    have hb := HWB.out x hx1
                    exact ⟨hb.1, by omega, hb.2.2, hx⟩
                  · exact fun hx => hx.2.2.2
                subst hts
                obtain ⟨p4, c4, hv, hslt⟩ := hrow.slP
                subst hv
                have hsl4 := hsl.kp k4 (fun b hb f => by have := f.2; rw [hnm'.n] at this; unfold fromL at hb; omega)
                have kk4 := kk.over k4 (fun b hb f => by have := f.1; omega)
                have cS := same_eq w4 _ _ p4 q' c4 c' ts hslt hsl4 (by omega)
                have hmz : ∀ x, x ∈ ts → x % 64 = 0 ∧ 0 ≤ x ∧ x < 8192 ∧ M'.wt x = false := fun x hx => by
                  have h1 := hx
                  rw [HUS.out, want_mem] at h1
                  have h2 := h1.2.2.2
                  refine ⟨h1.2.2.1, h1.1, by omega, ?_⟩
                  rw [hwt]
                  revert h2
                  cases M.wt x <;> cases hit only ys x <;> simp
                have HMZ : Hid (∀ x, x ∈ ts → x % 64 = 0 ∧ 0 ≤ x ∧ x < 8192 ∧ M'.wt x = false) := hmz
                obtain ⟨U, hU⟩ : ∃ U, U = ts.length := ⟨_, rfl⟩
                rw [← hU] at cS hul ⊢
                have HU : Hid (U = ts.length) := hU
                have hbase : B + 4 + 2 ≤ wr.heap.size := by have := hr.lt; rw [hnm'.n] at this; exact this
                clear hmz hU cW hmem hpw hnd hlen hrow hwt hnt' hsl kk k4 hr hnt
                go_wp2_with fail
                refine cS.mono ?_; rintro e w5 ⟨rfl, k5⟩
                have hr5 := hr4.kp k5 (fun _ _ f => f)
                have cW := written_all w5 B _ hr5
                go_wp2_with fail
                refine cW.mono ?_; rintro e w6 ⟨v2, t2, rfl, _, hm2, _, _, hrow2, hr6, k6⟩
                have ht2 : t2 = [] := by
                  cases t2 with
                  | nil => rfl
                  | cons a l => have := (hm2 a).1 (by simp); cases this
                subst ht2
                have hv2 : v2 = .slice none 0 0 := by
                  rcases hrow2 with h | ⟨h, _⟩
                  · exact h.2
                  · exact absurd rfl h
                subst hv2
                have kk6 := (kk4.over k5 (fun _ _ f => f)).over k6 (fun b hb f => by have := f.1; omega)
                have hsl6 : SlP (fromL wr.heap.size) w6 p4 ts := (hslt.kp k5 (fun _ _ f => f)).kp k6 (fun b hb f => by have := f.2; have e : M'.asked.n = M'.n := rfl; rw [e, hnm'.n] at this; omega)
                have hnz : NM only M'.asked.asked := ⟨hnm'.n, hnm'.closed, hnm'.o0, hnm'.o1, hnm'.b0⟩
                have HWZ : Hid (∀ x, x ∈ ts → x % 64 = 0 ∧ 0 ≤ x ∧ x < 8192 ∧ M'.asked.asked.wt x = false) := HMZ.out
                obtain ⟨Mz, hMz⟩ : ∃ Mz, Mz = M'.asked.asked := ⟨_, rfl⟩
                rw [← hMz] at hr6 hnz HWZ
                clear hMz hrow2 hm2 k6 cW hr5 k5 cS hsl4 hslt kk4 hr4 HMZ
                go_wp2_with fail
                go_loopg [19] U (L5 w B U Mz p4 wr.heap.size ts)
                case atStart => exact ⟨0, rfl, Nat.zero_le _, Nat.le_refl _, hr6, hsl6, kk6⟩
                case round =>
                  clear hr6 hsl6 kk6
                  obtain ⟨i5, rfl, hi51, hi52, hr7, hsl7, kk7⟩ := hrel
                  by_cases hil : (i5 : Int) < (U : Int)
                  · have hi' : i5 < ts.length := by have := HU.out; omega
                    obtain ⟨b7, o7, rfl, _, e7⟩ := hsl7 i5 hi'
                    have hmx : ts.getD i5 0 ∈ ts := by rw [List.getD_eq_getElem?_getD, List.getElem?_eq_getElem hi']; exact List.getElem_mem hi'
                    obtain ⟨y1, y2, y3, y4⟩ := HWZ.out _ hmx
                    obtain ⟨x, hx⟩ : ∃ x, x = ts.getD i5 0 := ⟨_, rfl⟩
                    rw [← hx] at e7 y1 y2 y3 y4
                    clear hx hmx
                    have cD := watched_ok wr B Mz hr7 x y2 (by omega)
                    rw [hnz.place, show x - x % 64 = x by omega, y4] at cD
                    go_wp2_with fail
                    refine cD.mono ?_; rintro e w8 ⟨rfl, k8⟩
                    go_wp2_with fail
                    go_roundg (U - (i5 + 1))
                    case measure => omega
                    case rel => exact ⟨i5 + 1, by go_num, by omega, Nat.le_refl _, hr7.kp k8 (fun _ _ f => f), hsl7.kp k8 (fun _ _ f => f), kk7.over k8 (fun _ _ f => f)⟩
                  · have cR := read_ok wr B Mz hr7 0 1 (by omega) (by omega) rfl
                    have hz : only = true → Mz.read 0 (1 : Int).toNat = 0 := fun ho => by
                      have e : Mz.read 0 (1 : Int).toNat = Mz.rd 0 := by unfold Mem.read cellB; simp
                      rw [e]
                      unfold Mem.rd
                      rw [hnz.place, if_pos (by rw [hnz.n]; omega)]
                      exact hnz.b0 ho
                    obtain ⟨rv, hrv⟩ : ∃ rv, rv = Mz.read 0 (1 : Int).toNat := ⟨_, rfl⟩
                    rw [← hrv] at cR hz
                    clear hrv
                    go_wp2_with fail
                    refine cR.mono ?_; rintro e w8 ⟨rfl, k8⟩
                    have k9 := kk7.over k8 (fun _ _ f => f)
                    cases only
                    · go_wp2
                      go_ret
                      exact ⟨rfl, k9.all⟩
                    · have hz' := hz rfl
                      subst hz'
                      go_wp2
                      go_ret
                      exact ⟨rfl, k9.all⟩
end Go.Proofs.Ytankfdcpnhociaa
