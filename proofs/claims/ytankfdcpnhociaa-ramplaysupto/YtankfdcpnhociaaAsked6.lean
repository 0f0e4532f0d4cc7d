/- A call of both memories: what was noted is asked for. -/
import Derived.Test.YtankfdcpnhociaaAsked1
namespace Go.Proofs.Ytankfdcpnhociaa
open Go.ChangeShapes Go.WideShapes Go.ChangeAt Go.RowKit Go.Maps Go.Shelf
set_option linter.unusedVariables false

theorem noted_eq {w : World} {B : Nat} {M : Mem} (h : RamAt w B M) {ts : List Int} (hnd : ts.Nodup) (hm : ∀ x : Int, x ∈ ts ↔ M.nt x = true) (hp : ts.Pairwise (· ≤ ·)) : ts = wantL M.nt (64 * M.n) := by
  refine sorted_eq _ _ (strict_of hp hnd) (want_sorted _ _) fun x => ?_
  rw [hm, want_mem]
  constructor
  · intro hx
    have hb := h.nb x hx
    exact ⟨hb.1, by omega, hb.2.2, hx⟩
  · exact fun hx => hx.2.2.2

def Wt2 (w : World) (R : Rf) (M : Mem) (ts : List Int) (e : Ending) (w' : World) : Prop :=
  ∃ p c, e = .returned (.slice p ts.length c) ∧ SlP (fromL w.heap.size) w' p ts ∧ RefAt w' R M.asked ∧ Kp R.has w w'

set_option maxRecDepth 100000 in
set_option maxHeartbeats 1000000 in
theorem asked_6 (w : World) (B : Nat) (R : Rf) (M : Mem) (h : Both w B R M) (a s v : Int) (sl : Value) (b : Bool) (hsl : sl.oneCell' = true) :
    Calls Try.prog 11 #[.pointer (some ⟨B + 3, 0, none⟩), .pointer (some ⟨R.r, 0, none⟩), .agg (opCells 6 a s v sl b)] w (AskPost w B R M.n) := by
  obtain ⟨w1, hw1⟩ : ∃ w1, w1 = w.alloc (.cells (opCells 6 a s v sl b) 35) := ⟨_, rfl⟩
  have k1 : Kp noB w w1 := by rw [hw1]; exact Kp.alloc _ _ _
  have h1 : Both w1 B R M := h.kp k1 (fun _ _ f => f)
  have cC := written_all w1 B M h1.ram
  rw [hw1] at cC
  have HW : Hid (w1 = w.alloc (.cells (opCells 6 a s v sl b) 35)) := hw1
  clear hw1
  unfold opCells at *
  go_enter Try.func11, Try.ntmps11
  go_wp2_with fail
  refine cC.mono ?_; rintro e w2 ⟨vv, ts, rfl, hnd, hm, hpw, hlen, hrow, hr2, k2⟩
  rw [← HW.out] at hrow k2
  clear cC
  have hts := noted_eq h1.ram hnd hm hpw
  have hf2 : RefAt w2 R M := h1.ref.kp k2 (fun j hj f => h1.ap j hj f)
  have cR : Calls Try.prog 15 #[.pointer (some ⟨R.r, 0, none⟩)] w2 (Wt2 w2 R M ts) := by
    refine (refWritten_ok w2 R M hf2).mono ?_
    rintro e w' ⟨q, d, h1, h2, h3⟩
    rw [← hts] at h1 h2
    exact ⟨q, d, h1, h2, h3⟩
  clear hts
  obtain ⟨p, c, hv, hsl2⟩ := hrow.slP
  subst hv
  go_wp2_with fail
  refine cR.mono ?_; rintro e w3 ⟨p3, c3, rfl, hsl3, hf3, k3⟩
  clear cR
  have hsl4 := hsl2.kp k3 (fun j hj f => by have := h1.ref.lt f; omega)
  have cS := same_eq w3 _ _ p p3 c c3 ts hsl4 hsl3 (by omega)
  have hr3 : RamAt w3 B M.asked := hr2.kp k3 (fun j hj f => h1.ap j f hj)
  clear hnd hm hpw hrow hsl2 hsl3 hsl4
  go_wp2_with fail
  refine cS.mono ?_; rintro e w4 ⟨rfl, k4⟩
  clear cS
  go_wp2
  go_ret
  exact ⟨rfl, M.asked, rfl, ⟨hr3.kp k4 (fun _ _ f => f), hf3.kp k4 (fun _ _ f => f), h1.ap⟩, (((k1.mono (T := both B M.n R) (fun _ _ f => f.elim)).over k2 (fun j hj f => .inl f)).over k3 (fun j hj f => .inr f)).over k4 (fun _ _ f => f.elim)⟩
end Go.Proofs.Ytankfdcpnhociaa
