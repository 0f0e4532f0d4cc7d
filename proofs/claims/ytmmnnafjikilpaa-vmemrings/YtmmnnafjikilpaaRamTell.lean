/- Reading: the contracts of fill and tell. -/
import Derived.Test.YtmmnnafjikilpaaRamNote
namespace Go.Proofs.Ytmmnnafjikilpaa
open Go.ChangeShapes Go.WideShapes Go.ChangeAt Go.RowKit Go.Maps
set_option linter.unusedVariables false

/-- cur' is cur with the cells f 0, f 1 .. laid at the L places from o on. -/
def Laid (cur cur' : Array Value) (o L : Nat) (f : Nat → Value) : Prop := cur'.size = cur.size ∧ ∀ j, cur'[j]? = if o ≤ j ∧ j < o + L then some (f (j - o)) else cur[j]?

theorem Laid.none (cur : Array Value) (o : Nat) (f : Nat → Value) : Laid cur cur o 0 f := ⟨rfl, fun j => by rw [if_neg (by omega)]⟩

theorem Laid.then {c1 c2 c3 : Array Value} {o L K : Nat} {f g : Nat → Value} (h : Laid c1 c2 o L f) (k : Laid c2 c3 (o + L) K g) (e : ∀ j, j < K → g j = f (L + j)) : Laid c1 c3 o (L + K) f := by
  refine ⟨k.1.trans h.1, fun j => ?_⟩
  rw [k.2 j]
  by_cases a : o + L ≤ j ∧ j < o + L + K
  · rw [if_pos a, if_pos (by omega), e _ (by omega)]; congr 2; omega
  · rw [if_neg a, h.2 j]
    by_cases b : o ≤ j ∧ j < o + L
    · rw [if_pos b, if_pos (by omega)]
    · rw [if_neg b, if_neg (by omega)]

theorem Laid.one {cur : Array Value} {o : Nat} (ho : o < cur.size) (v : Value) : Laid cur (cur.setIfInBounds o v) o 1 (fun _ => v) := by
  refine ⟨by simp, fun j => ?_⟩
  rw [Array.getElem?_setIfInBounds]
  by_cases e : o = j
  · subst e; rw [if_pos rfl, if_pos ho, if_pos (by omega)]
  · rw [if_neg e, if_neg (by omega)]

theorem Laid.splice {cur : Array Value} {o : Nat} {cs : List Value} (ho : o + cs.length ≤ cur.size) (f : Nat → Value) (hf : ∀ j, j < cs.length → cs[j]? = some (f j)) :
    Laid cur (cur.toList.take o ++ cs ++ cur.toList.drop (o + cs.length)).toArray o cs.length f := by
  refine ⟨by simp; omega, fun j => ?_⟩
  rw [List.getElem?_toArray]
  by_cases a : j < o
  · rw [if_neg (by omega), List.append_assoc, List.getElem?_append_left (by simp; omega), List.getElem?_take_of_lt a, Array.getElem?_toList]
  · by_cases b : j < o + cs.length
    · rw [if_pos (by omega), List.getElem?_append_left (by simp; omega), List.getElem?_append_right (by simp; omega)]
      have e : j - (cur.toList.take o).length = j - o := by simp; omega
      rw [e, hf _ (by omega)]
    · rw [if_neg (by omega), List.getElem?_append_right (by simp; omega)]
      have e : j - (cur.toList.take o ++ cs).length = j - (o + cs.length) := by simp; omega
      rw [e, List.getElem?_drop, Array.getElem?_toList]
      congr 1; omega

theorem heap_setCell_at {w : World} {S o : Nat} {cur : Array Value} {t : TypeId} (h : w.heap[S]? = some (.cells cur t (0, 0))) (v : Value) : (w.setCell ⟨S, o, none⟩ v).heap[S]? = some (.cells (cur.setIfInBounds o v) t (0, 0)) := by
  rw [setCell_eq_setRow w S o cur t (0, 0) v h]
  exact setRow_heap w S cur _ t _ h

theorem cell_at {w : World} {S o : Nat} {cur : Array Value} {t : TypeId} (h : w.heap[S]? = some (.cells cur t (0, 0))) : w.cell? ⟨S, o, none⟩ = cur[o]? := by simp [World.cell?, h]
theorem frozen_at {w : World} {S o : Nat} {cur : Array Value} {t : TypeId} (h : w.heap[S]? = some (.cells cur t (0, 0))) : w.frozen? ⟨S, o, none⟩ = false := by simp [World.frozen?, h]

theorem fill_any (w : World) (S o L c : Nat) (v : Int) (cur : Array Value) (t : TypeId) (h : w.heap[S]? = some (.cells cur t (0, 0))) (ho : o + L ≤ cur.size) (hL : L < 9223372036854775808) (hc : L ≤ c) :
    Calls Try.prog 60 #[.slice (some ⟨S, o, none⟩) L c, .int .u8 v] w fun e w' => e = .returned (.tuple #[]) ∧ (∃ cur', w'.heap[S]? = some (.cells cur' t (0, 0)) ∧ Laid cur cur' o L (fun _ => .int .u8 v)) ∧ Kp (fun j => j = S) w w' := by
  go_enter Try.func60, Try.ntmps60
  go_wp2
  go_loopw [7] (fun i wr => ∃ k : Nat, k ≤ L ∧ i = .int .i64 k ∧ (∃ cur', wr.heap[S]? = some (.cells cur' t (0, 0)) ∧ Laid cur cur' o k (fun _ => .int .u8 v)) ∧ Kp (fun j => j = S) w wr) (fun i _ => L - (intOf i).toNat)
  case atStart => exact ⟨0, Nat.zero_le _, rfl, ⟨cur, h, Laid.none _ _ _⟩, Kp.refl _ _⟩
  case round =>
    obtain ⟨k, hk, rfl, ⟨cur', hh, hl⟩, hkp⟩ := hrel
    have hcell : k < L → ∃ u, wr.cell? ⟨S, o + k, none⟩ = some u := fun hkL => by
      rw [cell_at hh]; have := hl.1; exact ⟨_, Array.getElem?_eq_getElem (by omega)⟩
    have hfz := frozen_at (o := o + k) hh
    by_cases hkL : k < L
    · obtain ⟨u, hu⟩ := hcell hkL
      clear hcell
      have R : ∃ cur'', (wr.setCell ⟨S, o + k, none⟩ (.int .u8 v)).heap[S]? = some (.cells cur'' t (0, 0)) ∧ Laid cur cur'' o (k + 1) (fun _ => .int .u8 v) :=
        ⟨_, heap_setCell_at hh _, hl.then (Laid.one (by have := hl.1; omega) _) (fun _ _ => rfl)⟩
      have hkp' : Kp (fun j => j = S) w (wr.setCell ⟨S, o + k, none⟩ (.int .u8 v)) := hkp.trans (Kp.setCell (S := fun j => j = S) wr (p := ⟨S, o + k, none⟩) rfl _)
      go_wp2
      go_roundw
      case rel => exact ⟨k + 1, by omega, by go_num, R, hkp'⟩
      case measure => simp [intOf]; omega
    · clear hcell
      have e : k = L := by omega
      subst e
      go_wp2
      go_end0
      exact ⟨rfl, ⟨cur', hh, hl⟩, hkp⟩

/-- How long a slice is. -/
def slLen : Value → Nat | .slice _ l _ => l | _ => 0

/-- The byte that is read at an address. -/
def Mem.rd (M : Mem) (a : Int) : Int := if M.place a < 4096 * M.n then M.byte (M.place a).toNat else 255

theorem byteT : (Try.prog.info? 5).map (·.size) = some 1 := by kernel_rfl
theorem bytesT : Try.prog.underlying 51 = some (.slice 5) := by kernel_rfl

theorem arrayT : Try.prog.underlying 98 = some (.array 4096 5) := by kernel_rfl
theorem run_pageSlice (w : World) (b q : Nat) (h : q < 4096) : (Instr.sliceAt 98 (.pointer (some ⟨b, 0, none⟩)) (some (.int .u32 q)) none none).run Try.prog w = .ok (.slice (some ⟨b, q, none⟩) (4096 - q) (4096 - q)) w := by
  have hq : ¬ 4096 = q := by omega
  have hz : q = 0 → 0 = q := fun e => e.symm
  have h2 : (q : Int) ≤ 4096 := by omega
  cases hi : Try.prog.info? 5 with
  | none => have := byteT; rw [hi] at this; cases this
  | some i =>
    have hs : i.size = 1 := by have := byteT; rw [hi] at this; simpa using this
    simp [Instr.sliceAt, Instr.sureAddr, run_underlying arrayT, Instr.sliceBounds, run_sliceBound, sizeOf, typeInfo, hi, hs, hq, h2, Addr.add]
    exact hz

theorem place_add (M : Mem) {a : Int} (a0 : 0 ≤ a) (a1 : a < 4294967296) (j : Nat) (h : M.place a % 4096 + j < 4096) : M.place ((a + j) % 4294967296) = M.place a + j := by
  unfold Mem.place at h ⊢
  by_cases c : M.closed = true
  · simp only [c, true_and] at h ⊢
    split at h
    · rw [if_pos (by omega), if_pos (by omega)]; omega
    · rw [if_neg (by omega), if_neg (by omega)]; omega
  · simp only [c] at h ⊢
    simp at h ⊢
    omega

theorem rd_in (M : Mem) {at_ a : Int} {k j : Nat} (ha : a = (at_ + k) % 4294967296) (j0 : M.place a % 4096 + j < 4096) (i q : Nat) (hq : q < 4096) (hi : M.place a = 4096 * i + q) (hn : i < M.n) : M.rd ((at_ + (k + j : Nat)) % 4294967296) = M.byte (4096 * i + (q + j)) := by
  have e : (at_ + (k + j : Nat)) % 4294967296 = (a + j) % 4294967296 := by omega
  have p := place_add M (a := a) (by omega) (by omega) j j0
  unfold Mem.rd
  rw [e, p, hi, if_pos (by omega)]
  congr 1
  omega

theorem rd_out (M : Mem) {at_ a : Int} {k j : Nat} (ha : a = (at_ + k) % 4294967296) (j0 : M.place a % 4096 + j < 4096) (hn : 4096 * M.n ≤ M.place a) : M.rd ((at_ + (k + j : Nat)) % 4294967296) = 255 := by
  have e : (at_ + (k + j : Nat)) % 4294967296 = (a + j) % 4294967296 := by omega
  have p := place_add M (a := a) (by omega) (by omega) j j0
  unfold Mem.rd
  rw [e, p, if_neg (by omega)]

/-- A copy of bytes. -/
theorem copy_any (w : World) (S o dLen dCap b q sLen sCap n : Nat) (hn : n = Nat.min sLen dLen) (cur : Array Value) (t : TypeId) (hS : w.heap[S]? = some (.cells cur t (0, 0))) (ho : o + n ≤ cur.size) (f : Nat → Int)
    (hsrc : ∀ j, j < n → w.cell? ⟨b, q + j, none⟩ = some (.int .u8 (f j))) :
    ∃ w2, (Builtin.copy_ #[51, 51] 3 #[.slice (some ⟨S, o, none⟩) dLen dCap, .slice (some ⟨b, q, none⟩) sLen sCap]).run Try.prog w = .ok (.int .i64 n) w2 ∧
      (∃ cur', w2.heap[S]? = some (.cells cur' t (0, 0)) ∧ Laid cur cur' o n (fun j => .int .u8 (f j))) ∧ Kp (fun j => j = S) w w2 := by
  obtain ⟨cs, hcs⟩ : ∃ cs : List Value, cs = (List.range n).map (fun j => Value.int .u8 (f j)) := ⟨_, rfl⟩
  have hlen : cs.length = n := by rw [hcs]; simp
  have hget : ∀ j, j < cs.length → cs[j]? = some (.int .u8 (f j)) := fun j hj => by
    rw [hlen] at hj
    rw [hcs, List.getElem?_map, List.getElem?_range hj]
    rfl
  have hl := Laid.splice (cur := cur) (o := o) (cs := cs) (by omega) (fun j => .int .u8 (f j)) hget
  have hrun := run_copy_row Try.prog w 51 51 3 5 S o dLen dCap ⟨b, q, none⟩ sLen sCap cur t cs bytesT byteT hS (by omega) (fun j v hv => by
      have hj : j < cs.length := (List.getElem?_eq_some_iff.1 hv).1
      rw [hget j hj] at hv
      cases hv
      have e : (⟨b, q, none⟩ : Addr).add j = ⟨b, q + j, none⟩ := by unfold Addr.add; split <;> simp_all
      rw [e]
      exact hsrc j (by omega)) (by omega) (fun v hv => by rw [hcs] at hv; simp at hv; obtain ⟨j, _, rfl⟩ := hv; rfl)
  rw [hlen] at hrun hl
  refine ⟨_, hrun, ⟨_, setRow_heap w S _ _ t _ hS, hl⟩, Kp.setRow (S := fun j => j = S) w rfl _⟩

set_option maxRecDepth 100000 in
theorem tell_any (w : World) (B : Nat) (M : Mem) (h : RamAt w B M) (at_ : Int) (a0 : 0 ≤ at_) (a1 : at_ < 4294967296) (S o L c : Nat) (cur : Array Value) (t : TypeId) (hS : w.heap[S]? = some (.cells cur t (0, 0))) (ho : o + L ≤ cur.size) (hL : L < 4611686018427387904) (hc : L ≤ c) (hn : ¬ inRam B M.n S) :
    Calls Try.prog 34 #[.pointer (some ⟨B + 3, 0, none⟩), .int .u32 at_, .slice (some ⟨S, o, none⟩) L c] w fun e w' => e = .returned (.tuple #[]) ∧ (∃ cur', w'.heap[S]? = some (.cells cur' t (0, 0)) ∧ Laid cur cur' o L (fun i => .int .u8 (M.rd ((at_ + i) % 4294967296)))) ∧ Kp (fun j => j = S) w w' := by
  go_enter Try.func34, Try.ntmps34
  go_wp2
  go_loopw [1, 2] (fun a sl wr => ∃ k : Nat, k ≤ L ∧ a = .int .u32 ((at_ + k) % 4294967296) ∧ (∃ p c', sl = .slice p (L - k) c' ∧ (k < L → p = some ⟨S, o + k, none⟩ ∧ L - k ≤ c')) ∧ (∃ cur', wr.heap[S]? = some (.cells cur' t (0, 0)) ∧ Laid cur cur' o k (fun i => .int .u8 (M.rd ((at_ + i) % 4294967296)))) ∧ Kp (fun j => j = S) w wr) (fun _ sl _ => slLen sl)
  case atStart => exact ⟨0, Nat.zero_le _, by simp; omega, ⟨_, c, rfl, fun _ => ⟨rfl, hc⟩⟩, ⟨cur, hS, Laid.none _ _ _⟩, Kp.refl _ _⟩
  case round =>
    obtain ⟨k, hk, rfl, ⟨p, c', rfl, hp⟩, ⟨cur', hh, hl⟩, hkp⟩ := hrel
    have hr : RamAt wr B M := h.kp hkp (fun j hj e => hn (e ▸ hj))
    by_cases hkL : k < L
    · obtain ⟨rfl, hc'⟩ := hp hkL
      obtain ⟨a, ha⟩ : ∃ a, a = (at_ + k) % 4294967296 := ⟨_, rfl⟩
      rw [← ha]
      have b0 : 0 ≤ a := by omega
      have b1 : a < 4294967296 := by omega
      have HA : Hid (a = (at_ + k) % 4294967296) := ha
      clear ha
      have pb := M.place_bd b0 b1
      obtain ⟨pl, hpl⟩ : ∃ pl, pl = M.place a := ⟨_, rfl⟩
      have cP := place_any wr B M hr a b0 b1
      rw [← hpl] at cP pb
      have HP : Hid (pl = M.place a) := hpl
      clear hpl
      obtain ⟨p0, p1⟩ := pb
      obtain ⟨n, hn⟩ : ∃ n : Nat, n = (min ((L - k : Nat) : Int) (4096 - pl % 4096)).toNat := ⟨_, rfl⟩
      have cL := lengthInPage_any wr pl (L - k : Nat) p0 p1 (by omega) (by omega)
      have en : min ((L - k : Nat) : Int) (4096 - pl % 4096) = n := by omega
      rw [en] at cL
      have n0 : 1 ≤ n := by omega
      have n1 : n ≤ L - k := by omega
      have n2 : n ≤ 4096 := by omega
      obtain ⟨q, hq⟩ : ∃ q : Nat, pl % 4096 = q := ⟨(pl % 4096).toNat, by omega⟩
      have q1 : q + n ≤ 4096 := by omega
      have q2 : q < 4096 := by omega
      clear hn en
      by_cases hpn : pl < 4096 * M.n
      · have cO := pageOf_some wr B M hr pl p0 p1 hpn
        obtain ⟨i, hi⟩ : ∃ i : Nat, i = (pl / 4096).toNat := ⟨_, rfl⟩
        rw [← hi] at cO
        have HI : Hid (pl = 4096 * i + q) := show _ = _ by omega
        obtain ⟨cs, hcs, hz, hby, hon⟩ := hr.pg i (by omega)
        have HIN : Hid (i < M.n) := show _ < _ by omega
        clear hi hpn
        have hsl := run_pageSlice wr (B + 4 + i) q q2
        obtain ⟨w2, hcp, ⟨cur2, hh2, hl2⟩, hk2⟩ := copy_any wr S (o + k) n c' (B + 4 + i) q (4096 - q) (4096 - q) n (Nat.min_eq_right (by omega)).symm cur' t hh (by have := hl.1; omega) (fun j => M.byte (4096 * i + (q + j))) (fun j hj => by rw [cell_at hcs]; exact hby _ (by omega))
        have hkp2 := hkp.trans hk2
        have hlF := hl.then hl2 (fun j hj => by
          show Value.int .u8 _ = Value.int .u8 _
          congr 1
          have e2 := HP.out
          have e3 := HI.out
          exact (rd_in M HA.out (by rw [← e2]; omega) i q q2 (by rw [← e2]; exact e3) HIN.out).symm)
        clear hl2 hl hk2 hh hcs hz hby hon hr
        go_wp2_with fail
        refine cP.mono ?_; rintro e w' ⟨rfl, hw⟩; replace hw := hw.symm; subst hw
        go_wp2_with fail
        refine cL.mono ?_; rintro e w' ⟨rfl, hw⟩; replace hw := hw.symm; subst hw
        go_wp2_with fail
        refine cO.mono ?_; rintro e w' ⟨rfl, hw⟩; replace hw := hw.symm; subst hw
        go_wp2
        go_roundw
        case rel =>
          refine ⟨k + n, by omega, ?_, ?_, ⟨cur2, hh2, hlF⟩, hkp2⟩
          · congr 1; have := HA.out; omega
          · refine ⟨_, _, by congr 1; omega, fun hlt => ?_⟩
            rw [if_neg (by omega)]
            exact ⟨by congr 2; omega, by omega⟩
        case measure => simp [slLen]; omega
      · have cO := pageOf_none wr B M hr pl p0 p1 (by omega)
        have cF := fill_any wr S (o + k) n c' 255 cur' t hh (by have := hl.1; omega) (by omega) (by omega)
        have HPN : Hid (4096 * M.n ≤ pl) := show _ ≤ _ by omega
        clear hpn
        go_wp2_with fail
        refine cP.mono ?_; rintro e w' ⟨rfl, hw⟩; replace hw := hw.symm; subst hw
        go_wp2_with fail
        refine cL.mono ?_; rintro e w' ⟨rfl, hw⟩; replace hw := hw.symm; subst hw
        go_wp2_with fail
        refine cO.mono ?_; rintro e w' ⟨rfl, hw⟩; replace hw := hw.symm; subst hw
        go_wp2_with fail
        refine cF.mono ?_; rintro e w2 ⟨rfl, ⟨cur2, hh2, hl2⟩, hk2⟩
        have hkp2 := hkp.trans hk2
        have hlF := hl.then hl2 (fun j hj => by
          show Value.int .u8 _ = Value.int .u8 _
          congr 1
          have e2 := HP.out
          exact (rd_out M HA.out (by rw [← e2]; omega) (by rw [← e2]; exact HPN.out)).symm)
        clear hl2 hl hk2 hh hr
        go_wp2
        go_roundw
        case rel =>
          refine ⟨k + n, by omega, ?_, ?_, ⟨cur2, hh2, hlF⟩, hkp2⟩
          · congr 1; have := HA.out; omega
          · refine ⟨_, _, by congr 1; omega, fun hlt => ?_⟩
            rw [if_neg (by omega)]
            exact ⟨by congr 2; omega, by omega⟩
        case measure => simp [slLen]; omega
    · have e : k = L := by omega
      subst e
      clear hp
      go_wp2
      go_end0
      exact ⟨rfl, ⟨cur', hh, hl⟩, hkp⟩
end Go.Proofs.Ytmmnnafjikilpaa
