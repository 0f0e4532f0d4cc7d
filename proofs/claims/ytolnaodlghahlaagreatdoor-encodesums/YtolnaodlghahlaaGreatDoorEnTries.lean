/- encode.tries: what it tells, one behind the other. -/
import Derived.Test.YtolnaodlghahlaaGreatDoorEnRange
import Derived.Shelf.Abstract
import Derived.Shelf.RegionOpen
import Derived.OwnWalkIn
import Derived.TacticsInMore
import Derived.LoopNIn
import Derived.LoopIn
namespace Go.Proofs.YtolnaodlghahlaaGreatDoor
open Go.ChangeShapes Go.WideShapes Go.ChangeAt Go.RowKit
set_option linter.unusedVariables false
set_option maxRecDepth 20000
attribute [local go_sem] Oper.semAt_some

def triesL (PL BL : List (List Int)) : List (List Int) := PL.flatMap (fun a => BL.map (fun b => a ++ b))
def accT (PL BL : List (List Int)) (i : Nat) : List (List Int) := triesL (PL.take i) BL
def accU (PL BL : List (List Int)) (i : Nat) (a : List Int) (j : Nat) : List (List Int) := accT PL BL i ++ (BL.take j).map (fun b => a ++ b)

theorem accU_succ {PL BL : List (List Int)} {i j : Nat} {a b : List Int} (h : BL[j]? = some b) : accU PL BL i a (j + 1) = accU PL BL i a j ++ [a ++ b] := by
  unfold accU
  rw [List.take_add_one, h]
  simp
theorem accU_0 (PL BL : List (List Int)) (i : Nat) (a : List Int) : accU PL BL i a 0 = accT PL BL i := by simp [accU]
theorem accU_end {PL BL : List (List Int)} {i : Nat} {a : List Int} (h : PL[i]? = some a) : accU PL BL i a BL.length = accT PL BL (i + 1) := by
  unfold accU accT triesL
  rw [List.take_length, List.take_add_one, h]
  simp
theorem accT_end (PL BL : List (List Int)) : accT PL BL PL.length = triesL PL BL := by unfold accT; rw [List.take_length]

theorem BB.over {W W' : World} {v : Value} {L : List (List Int)} {Y : Nat → Prop} {base : Nat} (h : BB W v L) (hf : Fr base v) (hY : NoBytes Y W) (hb : ∀ k, Y k → k < base) (k : Kp Y W W') : BB W' v L := by
  obtain ⟨p, c, rfl, h⟩ := h
  refine ⟨p, c, rfl, ?_⟩
  rcases h with h | ⟨g, o, rfl, hg, hc⟩
  · exact .inl h
  · have hn : ¬ Y g := fun f => by have := hb g f; have : base ≤ g := hf ⟨g, o, none⟩ _ _ rfl; omega
    refine .inr ⟨g, o, rfl, Nat.lt_of_lt_of_le hg k.size, fun j x hx => ?_⟩
    obtain ⟨u, h1, h2⟩ := hc j x hx
    refine ⟨u, ?_, h2.over hY k⟩
    have e := k.block g hg hn
    unfold World.cell? at h1 ⊢
    simp only [e]
    exact h1

set_option maxRecDepth 100000 in
set_option maxHeartbeats 4000000 in
theorem tries_seq (x : Ins) (q : Nat) (w0 : World) (PL BL : List (List Int)) (hx : w0.heap[q]? = some (.cells (insV x) 28 (0, 0)))
    (HB : ∀ W, Calls Tryz.prog 33 #[.agg (insV x)] W fun e w' => ∃ v, e = .returned v ∧ BB w' v BL ∧ Fr W.heap.size v ∧ Kp noB W w')
    (HP : ∀ W, Calls Tryz.prog 34 #[.agg (insV x)] W fun e w' => ∃ v, e = .returned v ∧ BB w' v PL ∧ Fr W.heap.size v ∧ Kp noB W w')
    (ok : ∀ a ∈ PL, ∀ b ∈ BL, OkB (a ++ b) ∧ a.length ≤ 100 ∧ b.length ≤ 100) (hl1 : PL.length ≤ 64) (hl2 : BL.length ≤ 64) : SeqB 32 #[.pointer (some ⟨q, 0, none⟩)] (triesL PL BL) w0 := by
  intro n l Y J W k0 hY hJ hYt hyield h0
  obtain ⟨T, nI, Z, fsI, psI, h⟩ := vlF
  obtain ⟨vl, vs, vb, va, ve⟩ := h.ops
  have hT : T = 28 := h.v.t
  have v1 := h.agg
  have v2 := h.size
  have v4 := h.under
  have v5 := h.map
  have hxW : W.heap[q]? = some (.cells (insV x) T (0, 0)) := by rw [hT]; exact heap_kept hx k0 id
  have l0 := h.get hxW
  have HBB : Hid (∀ W, CallsIn Fence.wide (n - 1) Tryz.prog 33 #[.agg (insV x)] W fun e w' => ∃ v, e = .returned v ∧ BB w' v BL ∧ Fr W.heap.size v ∧ Kp noB W w') := fun W => callsIn_wide.2 (HB W)
  have HPP : Hid (∀ W, CallsIn Fence.wide (n - 1) Tryz.prog 34 #[.agg (insV x)] W fun e w' => ∃ v, e = .returned v ∧ BB w' v PL ∧ Fr W.heap.size v ∧ Kp noB W w') := fun W => callsIn_wide.2 (HP W)
  have HGet : Hid (∀ W', Kp noB W W' → (loadCellsFrom ⟨q, 0, none⟩ 0 nI #[]).run Tryz.prog W' = .ok (insV x) W') := fun W' k => h.get (heap_kept hxW k id)
  have HOk : Hid _ := ok
  have HYl : Hid _ := hyield
  have HJ : Hid _ := hJ
  have HYt : Hid _ := hYt
  have HY : Hid _ := hY
  clear HB HP ok hyield hJ hYt hY hx hxW k0 h
  refine callsIn_of_wp Tryz.func32 rfl trivial ?_ rfl
  simp only [Tryz.ntmps32, List.size_toArray, List.length_cons, List.length_nil, Nat.reduceAdd, Nat.reduceSub, Array.replicate_succ, Array.replicate_zero, List.push_toArray, List.append_toArray, List.nil_append, List.cons_append]
  simp only [vl]
  clear vl vs vb va ve hT
  gi_wp2_with fail
  refine ⟨trivial, (fun h => by cases h), CallsIn.mono (HBB.out _) ?_⟩; rintro e w1 ⟨vB, rfl, hbb1, hfr1, k1⟩
  have l1 := HGet.out w1 k1
  have hJ1 := HJ.out _ _ _ h0 k1
  clear l0 h0
  obtain ⟨pB, cB, rfl, hcB⟩ := id hbb1
  clear hcB
  gi_wp2_with fail
  refine ⟨trivial, (fun h => by cases h), CallsIn.mono (HPP.out _) ?_⟩; rintro e w2 ⟨vP, rfl, hbb2, hfr2, k2⟩
  obtain ⟨pP, cP, rfl, hcP⟩ := id hbb2
  clear hcP
  have hJ2 := HJ.out _ _ _ hJ1 k2
  have hB2 := hbb1.kp k2
  have hF2 : Fr W.heap.size (.slice pP PL.length cP) := fun a l c e => Nat.le_trans k1.size (hfr2 a l c e)
  clear l1 hJ1 hbb1 hfr2 k1 k2
  have HF1 : Hid (Fr W.heap.size (.slice pB BL.length cB)) := hfr1
  have HF2 : Hid _ := hF2
  clear hF2 hfr1
  gi_wp2_with fail
  gi_loopw [13] (fun s13 wr => ∃ i : Nat, s13 = .int .i64 i ∧ i ≤ PL.length ∧ J (accT PL BL i) wr ∧ BB wr (.slice pB BL.length cB) BL ∧ BB wr (.slice pP PL.length cP) PL) (fun s13 _ => ((PL.length : Int) - intOf s13).toNat)
  case atStart => exact ⟨0, rfl, Nat.zero_le _, hJ2, hB2, hbb2⟩
  case round =>
    clear hJ2 hB2 hbb2
    obtain ⟨i, rfl, hi, hJi, hB, hP⟩ := hrel
    by_cases hlt : i < PL.length
    · obtain ⟨a, ha⟩ : ∃ a, PL[i]? = some a := ⟨_, List.getElem?_eq_getElem hlt⟩
      have hP0 := hP
      obtain ⟨p', c', e', hcase⟩ := hP0
      injection e' with e1 e2 e3
      subst e1
      clear e2 e3
      obtain ⟨gP, oP, rfl, hgP, hcP⟩ : ∃ g o, pP = some ⟨g, o, none⟩ ∧ g < wr.heap.size ∧ ∀ j b, PL[j]? = some b → ∃ u, wr.cell? ⟨g, o + j, none⟩ = some u ∧ BSl wr u b := by
        rcases hcase with ⟨_, e, _⟩ | h
        · rw [e] at hlt; simp at hlt
        · exact h
      obtain ⟨ua, hua, hsa⟩ := hcP i a ha
      obtain ⟨pa, ca, rfl, hca⟩ := id hsa
      have HA : Hid (PL[i]? = some a) := ha
      have HOka : Hid (∀ b ∈ BL, OkB (a ++ b) ∧ a.length ≤ 100 ∧ b.length ≤ 100) := HOk.out a (List.mem_of_getElem? ha)
      have g1 : (i : Int) < (PL.length : Int) := by omega
      have HJi : Hid (J (accU PL BL i a 0) wr) := by show J (accU PL BL i a 0) wr; rw [accU_0]; exact hJi
      have HSA : Hid _ := hsa
      have HPi : Hid _ := hP
      have HBi : Hid _ := hB
      clear hcase hcP hgP hca hsa hJi hP hB ha
      gi_wp2_with fail
      clear hua
      gi_loopw [19] (fun s19 wz => ∃ j : Nat, s19 = .int .i64 j ∧ j ≤ BL.length ∧ J (accU PL BL i a j) wz ∧ BB wz (.slice pB BL.length cB) BL ∧ BB wz (.slice (some ⟨gP, oP, none⟩) PL.length cP) PL ∧ BSl wz (.slice pa a.length ca) a) (fun s19 _ => ((BL.length : Int) - intOf s19).toNat)
      case atStart => exact ⟨0, rfl, Nat.zero_le _, HJi.out, HBi.out, HPi.out, HSA.out⟩
      case round =>
        clear HJi HSA HPi HBi
        obtain ⟨j, rfl, hj, hJj, hB, hP, hS⟩ := hrel
        by_cases hlt2 : j < BL.length
        · obtain ⟨b, hbj⟩ : ∃ b, BL[j]? = some b := ⟨_, List.getElem?_eq_getElem hlt2⟩
          have hB0 := hB
          obtain ⟨p', c', e', hcase⟩ := hB0
          injection e' with e1 e2 e3
          subst e1
          clear e2 e3
          obtain ⟨gB, oB, rfl, hgB, hcB⟩ : ∃ g o, pB = some ⟨g, o, none⟩ ∧ g < wr.heap.size ∧ ∀ j b, BL[j]? = some b → ∃ u, wr.cell? ⟨g, o + j, none⟩ = some u ∧ BSl wr u b := by
            rcases hcase with ⟨_, e, _⟩ | h
            · rw [e] at hlt2; simp at hlt2
            · exact h
          obtain ⟨ub, hub, hsb⟩ := hcB j b hbj
          obtain ⟨pb, cb, rfl, hcb⟩ := id hsb
          obtain ⟨okb, la, lb⟩ := HOka.out b (List.mem_of_getElem? hbj)
          have HC : Hid _ := cat2 wr _ _ a b hS hsb la lb
          have HCI : Hid (CallsIn Fence.wide (n - 1) Tryz.prog 35 #[.slice (some ⟨wr.heap.size, 0, none⟩) 2 2] (wr.alloc (.cells #[.slice pa a.length ca, .slice pb b.length cb] 23)) fun e w' => ∃ p l k, e = .returned (.slice p l k) ∧ BSl w' (.slice p l k) (a ++ b) ∧ Kp noB wr w') := callsIn_wide.2 HC.out
          have HE : Hid (accU PL BL i a (j + 1) = accU PL BL i a j ++ [a ++ b]) := accU_succ hbj
          have HOkb : Hid (OkB (a ++ b)) := okb
          have g2 : (j : Int) < (BL.length : Int) := by omega
          have HJj : Hid _ := hJj
          have HBj : Hid _ := hB
          have HPj : Hid _ := hP
          have HSj : Hid _ := hS
          clear hcase hcB hgB hcb hsb hJj hB hP hS hbj okb HC
          gi_wp2_with fail
          refine ⟨trivial, (fun h => by cases h), CallsIn.mono HCI.out ?_⟩; rintro e w3 ⟨p3, l3, k3, rfl, hb3, kk3⟩
          have hJ3 := HJ.out _ _ _ HJj.out kk3
          have hB3 : BB w3 (.slice (some ⟨gB, oB, none⟩) BL.length cB) BL := BB.kp HBj.out kk3
          have hP3 : BB w3 (.slice (some ⟨gP, oP, none⟩) PL.length cP) PL := BB.kp HPj.out kk3
          have hS3 : BSl w3 (.slice pa a.length ca) a := BSl.kp HSj.out kk3
          obtain ⟨fn, tmps, assign, body, hy, hR⟩ := HYl.out _ _ _ _ hJ3 hb3 HOkb.out
          have HR : Hid _ := hR
          have HNB : Hid _ := HYt.out _ _ hJ3
          have HB3 : Hid _ := hB3
          have HP3 : Hid _ := hP3
          have HS3 : Hid _ := hS3
          clear hR hJ3 hB3 hP3 hS3 hb3 kk3 HCI HJj HBj HPj HSj hub
          gi_wp2
          refine ⟨(fun h => by cases h), RoundIn.mono HR.out ?_⟩
          rintro e w4 ⟨rfl, hJ4, kY⟩
          have hB4 := BB.over HB3.out HF1.out HNB.out HY.out kY
          have hP4 := BB.over HP3.out HF2.out HNB.out HY.out kY
          have hS4 := BSl.over HS3.out HNB.out kY
          rw [← HE.out] at hJ4
          gi_wp2
          go_roundw
          case rel => exact ⟨j + 1, by go_num, by omega, hJ4, hB4, hP4, hS4⟩
          case measure => simp [intOf]; omega
        · obtain rfl : j = BL.length := by omega
          rw [accU_end HA.out] at hJj
          gi_wp2
          go_roundw
          case rel => exact ⟨i + 1, by go_num, by omega, hJj, hB, hP⟩
          case measure => simp [intOf]; omega
    · obtain rfl : i = PL.length := by omega
      rw [accT_end] at hJi
      gi_wp2
      go_end0
      exact ⟨⟨_, rfl⟩, hJi⟩
end Go.Proofs.YtolnaodlghahlaaGreatDoor
