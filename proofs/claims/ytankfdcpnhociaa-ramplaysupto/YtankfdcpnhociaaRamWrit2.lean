/- The contract of Written, whatever it has noted. -/
import Derived.Test.YtankfdcpnhociaaRamPdq
import Derived.Test.YtankfdcpnhociaaRamWrit
namespace Go.Proofs.Ytankfdcpnhociaa
open Go.ChangeShapes Go.WideShapes Go.ChangeAt Go.RowKit Go.Maps Go.Shelf
open Go.Sort (ltInt PermIn SortedIn)
set_option linter.unusedVariables false

theorem sort_any (w : World) (blk cap : Nat) (d : Array Int) (h : Rw w blk d) (h0 : 1 ≤ d.size) (hs : d.size ≤ 16384) :
    Calls Try.prog 42 #[.slice (some ⟨blk, 0, none⟩) d.size cap] w (PdqPost w blk 0 d.size d) := by
  have cl := len_mid w d.size h0 hs
  go_enter Try.func42, Try.ntmps42
  go_wp2_with fail
  refine cl.mono ?_; rintro e w' ⟨⟨k, rfl, hk⟩, hw⟩; replace hw := hw.symm; subst hw
  have hk1 := hk.1
  go_wp2_with fail
  refine (pdq_any (d.size + 1) w blk cap 0 d.size k d (by omega) h (by omega) (Nat.le_refl _) hs (by omega) (Or.inl rfl)).mono ?_; rintro e w' ⟨rfl, hp⟩
  go_wp2
  go_end0
  exact ⟨rfl, hp⟩

theorem permIn_whole {d d' : Array Int} (h : PermIn 0 d.size d d') : d'.toList.Perm d.toList := by
  have h3 := h.2.2
  have e := h.1
  rw [Array.extract_size] at h3
  rw [← e, Array.extract_size] at h3
  exact h3

theorem sorted_whole {d : Array Int} (h : SortedIn ltInt 0 d.size d) : d.toList.Pairwise (· ≤ ·) := by
  rw [List.pairwise_iff_getElem]
  intro i j hi hj hij
  have hi' : i < d.size := by simpa using hi
  have hj' : j < d.size := by simpa using hj
  have := h i j (Nat.zero_le _) hij hj'
  simp [ltInt, hi', hj'] at this
  simpa using this

/-- A slice of numbers in a block of its own, from the block base on; of none: nil. -/
def Row (w : World) (base : Nat) (v : Value) (ts : List Int) : Prop :=
  (ts = [] ∧ v = .slice none 0 0) ∨ (ts ≠ [] ∧ ∃ blk cap, v = .slice (some ⟨blk, 0, none⟩) ts.length cap ∧ base ≤ blk ∧ ts.length ≤ cap ∧ Rw w blk ts.toArray)

theorem Row.kp {S : Nat → Prop} {w w' : World} {base : Nat} {v : Value} {ts : List Int} (h : Row w base v ts) (hk : Kp S w w') (hS : ∀ k, base ≤ k → ¬ S k) : Row w' base v ts := by
  rcases h with h | ⟨h1, blk, cap, h2, h3, h4, h5⟩
  · exact .inl h
  · exact .inr ⟨h1, blk, cap, h2, h3, h4, h5.heap (hk.block blk h5.lt (hS _ h3))⟩

theorem Row.mono {w : World} {base b' : Nat} {v : Value} {ts : List Int} (h : Row w base v ts) (hb : b' ≤ base) : Row w b' v ts := by
  rcases h with h | ⟨h1, blk, cap, h2, h3, h4⟩
  · exact .inl h
  · exact .inr ⟨h1, blk, cap, h2, by omega, h4⟩

set_option maxHeartbeats 1000000 in
theorem sorted_all (Bm b m : Nat) (D : DataW Unit) (w : World) (hBm : Bm < w.heap.size) (hm : w.cell? ⟨Bm, 0, none⟩ = some (.map (some b))) (hown : w.ownsMap Try.prog 32 unitElem b m D) (hsz : Maps.size D ≤ 16384) :
    Calls Try.prog 31 #[.func (.func 43) #[] #[.pointer (some ⟨Bm, 0, none⟩)]] w fun e W' => ∃ (v : Value) (ts : List Int), e = .returned v ∧ ts.Nodup ∧ (∀ x : Int, x ∈ ts ↔ Maps.has D (.int .u32 x) = true) ∧ ts.Pairwise (· ≤ ·) ∧ ts.length ≤ 16384 ∧ Row W' w.heap.size v ts ∧ Kp noB w W' := by
  have c := collect_any Bm b m D w hBm hm hown hsz
  go_enter Try.func31, Try.ntmps31
  go_wp2_with fail
  refine c.mono ?_; rintro e W ⟨v, ss, rfl, ⟨hnd, hS⟩, hl, hrow, hnil, hbl⟩
  have hN := owns_cells hrow hnil
  have hk : Kp noB w W := Kp.ofBelow hbl (fun k h1 h2 => by omega)
  rcases hN with ⟨rfl, rfl⟩ | ⟨hne, blk, cap, cur, rfl, hbase, hh, h5, h6, h7⟩
  · have cs := sort_few W none 0 0 (by omega)
    go_wp2_with fail
    refine cs.mono ?_; rintro e w' ⟨rfl, hw⟩; replace hw := hw.symm; subst hw
    go_wp2
    go_ret
    exact ⟨_, [], rfl, List.nodup_nil, hS, List.Pairwise.nil, by simp, .inl ⟨rfl, rfl⟩, hk⟩
  · have hlen : 1 ≤ ss.length := by cases ss with | nil => exact absurd rfl hne | cons a l => simp
    have hR : Rw W blk ss.toArray := by
      refine ⟨cur, hh, by simp; omega, fun j hj => ?_⟩
      have hj' : j < ss.length := by simpa using hj
      rw [h7 j hj']
      simp [hj']
    have cs := sort_any W blk cap ss.toArray hR (by simpa using hlen) (by simpa using hl)
    rw [List.size_toArray] at cs
    go_wp2_with fail
    refine cs.mono ?_; rintro e w' ⟨rfl, d', hp, hso, hr', hk2⟩
    have hz : d'.size = ss.length := by have := hp.1; simpa using this
    have hpm := permIn_whole (d := ss.toArray) (by simpa using hp)
    rw [List.toList_toArray] at hpm
    rw [← hz] at hso
    have hpw := sorted_whole hso
    go_wp2
    go_ret
    refine ⟨_, d'.toList, rfl, hpm.nodup_iff.2 hnd, fun x => by rw [hpm.mem_iff]; exact hS x, hpw, by rw [hpm.length_eq]; exact hl, .inr ⟨fun e => hne ?_, blk, cap, by rw [hpm.length_eq]; rfl, hbase, by rw [hpm.length_eq]; exact h5, by rw [Array.toArray_toList]; exact hr'⟩, hk.over hk2 (fun j hj e => by unfold oneB at e; omega)⟩
    rw [e] at hpm
    exact hpm.symm.eq_nil

set_option maxHeartbeats 1000000 in
theorem written_all (w : World) (B : Nat) (M : Mem) (h : RamAt w B M) :
    Calls Try.prog 14 #[.pointer (some ⟨B + 3, 0, none⟩)] w fun e w' => ∃ (v : Value) (ts : List Int), e = .returned v ∧ ts.Nodup ∧ (∀ x : Int, x ∈ ts ↔ M.nt x = true) ∧ ts.Pairwise (· ≤ ·) ∧ ts.length ≤ 16384 ∧ Row w' w.heap.size v ts ∧ RamAt w' B M.asked ∧ Kp (inRam B M.n) w w' := by
  have hle := h.le
  have c3 := h.c3
  have cK := keys_any (some (B + 2)) w
  obtain ⟨D, hown, hD⟩ := h.nm
  have hown1 := hown.alloc (.cells #[.map (some (B + 2))] 59)
  have hsz := set_size hown _ hD (fun x hx => by have := h.nb x hx; omega)
  have cS := sorted_all w.heap.size (B + 2) 16384 D (w.alloc (.cells #[.map (some (B + 2))] 59)) (by simp) (Boxed.new w _ _).cell hown1 hsz
  have hr1 := h.alloc (.cells #[.map (some (B + 2))] 59)
  have hk1 : Kp noB w (w.alloc (.cells #[.map (some (B + 2))] 59)) := Kp.alloc _ _ _
  clear hown hown1 hsz
  go_enter Try.func14, Try.ntmps14
  go_wp2_with fail
  refine cK.mono ?_; rintro e w1 ⟨rfl, rfl⟩
  go_wp2_with fail
  refine cS.mono ?_; rintro e w2 ⟨v, ts, rfl, hnd, hS, hpw, hlen, hN, hk2⟩
  have hr2 : RamAt w2 B M := hr1.kp hk2 (fun _ _ f => f)
  have c3' := hr2.c3
  obtain ⟨D2, ⟨es, clock, hb2, hrest⟩, hD2⟩ := hr2.nm
  have hcl := run_clear hb2
  have R := ram_clear hr2 hb2
  have hk3 : Kp (inRam B M.n) w2 (ChangeMaps.setBlock w2 (B + 2) (.map #[] clock)) := kp_setBlock hb2 _ ⟨by omega, by omega⟩
  have hlt := h.lt
  have hN3 : Row (ChangeMaps.setBlock w2 (B + 2) (.map #[] clock)) w.heap.size v ts := (hN.mono (by simp)).kp hk3 (fun k hk hi => by have := hi.2; omega)
  have hk4 : Kp (inRam B M.n) w (ChangeMaps.setBlock w2 (B + 2) (.map #[] clock)) := ((hk1.trans hk2).mono (fun _ _ f => f.elim)).trans hk3
  clear hk1 hk2 hk3 hr2 hr1 hb2 hrest hN
  go_wp2
  go_ret
  exact ⟨v, ts, rfl, hnd, fun x => by rw [hS, hD], hpw, hlen, hN3, R, hk4⟩
end Go.Proofs.Ytankfdcpnhociaa
