/- The contracts of setWord, identify, command. -/
import Derived.Test.YtddalplpmgmplaaIdMid
import Derived.Test.YtddalplpmgmplaaIdZero
import Derived.Laws.CopyOwn
import Derived.Deep.RegionLaw
import Derived.Outline
namespace Go.Proofs.Ytddalplpmgmplaa
open Go.ChangeShapes Go.WideShapes Go.ChangeAt Go.RowKit
set_option linter.unusedVariables false

/-- A whole buffer: the type's number and its size are letters. -/
structure VlB (T : TypeId) (n : Nat) (Z : Array Value) : Prop where
  t : T = 43
  s : n = 512
  z : Z = (zr 512).toArray
  agg : ∀ w, (isAgg T).run Try.prog w = .ok true w
  size : ∀ w, (sizeOf T).run Try.prog w = .ok n w
  zero : ∀ w, (zeroValue T).run Try.prog w = .ok (.agg Z) w
  under : ∀ w, (underlying T).run Try.prog w = .ok (.array n 5) w
  zs : Z.size = n

theorem vlB : ∃ T n Z, VlB T n Z :=
  ⟨_, _, _, rfl, rfl, rfl, fun w => by kernel_rfl, fun w => by kernel_rfl, fun w => by simp [zeroValue, typeInfo, show Try.prog.info? 43 = some Try.t43 from Try.type43, zero43], fun w => by kernel_rfl, by rw [List.size_toArray, zr_len]⟩

theorem VlB.ops {T : TypeId} {n : Nat} {Z : Array Value} (h : VlB T n Z) : (∀ x, Op.build 43 x = Op.build T x) ∧ (∀ x y, Op.store 43 x y = Op.store T x y) ∧ (∀ x, Op.load 43 x = Op.load T x) ∧ Op.alloc 43 = Op.alloc T := by
  rw [h.t]
  exact ⟨fun _ => rfl, fun _ _ => rfl, fun _ => rfl, rfl⟩

theorem z8_one : ∀ v ∈ zr 512, v.oneCell' = true := by
  intro v hv
  unfold zr at hv
  rw [List.eq_of_mem_replicate hv]
  rfl

theorem VlB.put {T : TypeId} {n : Nat} {Z : Array Value} (h : VlB T n Z) {w : World} {B : Nat} {cur : Array Value} {t : TypeId} (hb : w.heap[B]? = some (.cells cur t (0, 0))) (o : Nat) (ho : o + 512 ≤ cur.size) :
    ∃ w2, (storeCells ⟨B, o, none⟩ Z.toList).run Try.prog w = .ok () w2 ∧ (∃ cur', w2.heap[B]? = some (.cells cur' t (0, 0)) ∧ Laid cur cur' o 512 (fun _ => .int .u8 0)) ∧ Kp (isB B) w w2 := by
  have e := run_storeCells_at Try.prog B o t (zr 512) 0 cur w hb (by rw [zr_len]; omega) z8_one
  have hl := Laid.splice (cur := cur) (o := o) (cs := zr 512) (by rw [zr_len]; exact ho) (fun _ => .int .u8 0) (fun j hj => by rw [zr_len] at hj; exact zr_get hj)
  rw [zr_len] at hl
  rw [h.z, List.toList_toArray, e, Nat.add_zero, zr_len]
  exact ⟨_, rfl, ⟨_, setRow_heap w B _ _ t _ hb, hl⟩, Kp.setRow (S := isB B) w rfl _⟩

section
variable {w : World} {B : Nat} {dn : Int} {sv : Value} {d : Id}

def twoF (a b : Int) (j : Nat) : Int := if j = 0 then a else b

theorem setWord_ok (h : IAt w B dn sv d) (i : Nat) (hi : i < 256) (v : Int) (v0 : 0 ≤ v) (v1 : v < 65536) : Calls Try.prog 44 #[.pointer (some ⟨B, 0, none⟩), .int .i64 i, .int .i64 v] w fun e w' => e = .returned (.tuple #[]) ∧ IAt w' B dn sv { d with buf := layB d.buf (2 * i) 2 (twoF (v % 256) (v / 256)) } ∧ Kp (isB B) w w' := by
  have h1 := (h.raw).kept (w' := (w.alloc (.cells #[.int .u8 (v % 256), .int .u8 (v / 256)] 62)).drew) (Kp.alloc noB w _).drew id (fun _ _ => id)
  have hq : (w.alloc (.cells #[.int .u8 (v % 256), .int .u8 (v / 256)] 62)).drew.heap[w.heap.size]? = some (.cells #[.int .u8 (v % 256), .int .u8 (v / 256)] 62 (0, 0)) := heap_new w _
  obtain ⟨cur, hb, hs, hc⟩ := h1.blk
  obtain ⟨w2, hcp, ⟨cur2, hh2, hl2⟩, hk2⟩ := copy_any _ B (32778 + 2 * i) (512 - 2 * i) (512 - 2 * i) w.heap.size 0 2 2 2 (Nat.min_eq_left (by omega)).symm cur _ hb (by omega) (twoF (v % 256) (v / 256)) (fun j hj => by
    rw [cell_at hq]
    rcases (by omega : j = 0 ∨ j = 1) with rfl | rfl <;> rfl)
  have r2 := h1.laybuf (o := 2 * i) hb hh2 (by omega) hl2 hk2
  have H : Hid (IAt w2 B dn sv { d with buf := layB d.buf (2 * i) 2 (twoF (v % 256) (v / 256)) } ∧ Kp (isB B) w w2) :=
    ⟨r2.id _ rfl rfl rfl rfl rfl rfl rfl h.fl, ((Kp.alloc (isB B) w _).drew).trans hk2⟩

  have b0 : IntKind.i64.wrap (2 * (i : Int)) = 2 * (i : Int) := by rw [IntKind.wrap_i64]; omega
  have b1 : ∀ w, (Instr.sliceAt 43 (.pointer (some ⟨B, 32778, none⟩)) (some (.int .i64 (2 * (i : Int)))) none none).run Try.prog w = .ok (.slice (some ⟨B, 32778 + 2 * i, none⟩) (512 - 2 * i) (512 - 2 * i)) w := fun w => run_buf w B 32778 (2 * i) (by omega)
  clear h h1 hq hb hs hc hh2 hl2 hk2 r2 hi
  go_enter Try.func44, Try.ntmps44
  go_wp2
  go_region
  go_wp2
  go_end0
  exact ⟨rfl, H.out⟩
theorem ec_is (n : Nat) (hn : n ≤ 64) (b : Nat → Int) (i : Nat) (hi : i < 512) : layB (layB (layB (layB b 0 512 (fun _ => 0)) (2 * 0) 2 (twoF (64 % 256) (64 / 256))) (2 * 49) 2 (twoF (512 % 256) (512 / 256))) (2 * 60) 2 (twoF ((n : Int) % 256) ((n : Int) / 256)) i = ecB n i := by
  unfold layB ecB twoF
  by_cases a : i = 0
  · subst a; rfl
  · by_cases b : i = 99
    · subst b; rfl
    · by_cases c : i = 120
      · subst c; rfl
      · rw [if_neg a, if_neg b, if_neg c]
        by_cases q : i = 121
        · subst q
          show (n : Int) / 256 = 0
          omega
        · rw [if_neg (by omega)]
          by_cases q2 : i = 98
          · subst q2; rfl
          · rw [if_neg (by omega)]
            by_cases q3 : i = 1
            · subst q3; rfl
            · rw [if_neg (by omega), if_pos (by omega)]

theorem identify_ok (h : IAt w B dn sv d) (k : d.Ok) : Calls Try.prog 32 #[.pointer (some ⟨B, 0, none⟩)] w fun e w' => e = .returned (.tuple #[]) ∧ DOk w B sv { d with buf := ecB d.n, mode := 3, don := 0, mark := true } w' := by
  obtain ⟨T, n, Z, V⟩ := vlB
  obtain ⟨cur, hb, hs, hc⟩ := h.blk
  obtain ⟨w1, hst, ⟨cur1, hh1, hl1⟩, hk1⟩ := V.put hb 32778 (by omega)
  have r1 := h.raw.laybuf (o := 0) (g := fun _ => 0) hb hh1 (by omega) hl1 hk1
  have h1 : IAt w1 B dn sv { d with buf := layB d.buf 0 512 (fun _ => 0) } := r1.id _ rfl rfl rfl rfl rfl rfl rfl h.fl
  have HW : Hid _ := setWord_ok h1 0 (by decide) 64 (by decide) (by decide)
  have K1 : Hid (Kp (isB B) w w1) := hk1
  have hf : Hid (d.n ≤ 64) := k.few
  have hF : Hid _ := h.fl
  have o1 := V.ops
  have e1 := V.agg
  have e2 := V.size
  have e3 := V.zero
  have e4 := V.under
  have e5 := V.zs
  clear V hb hs hc hh1 hl1 hk1 r1 h1 h k
  go_enter Try.func32, Try.ntmps32
  simp only [o1.1, o1.2.1]
  go_wp2_with fail
  refine Calls.mono HW.out ?_; rintro e w2 ⟨rfl, h2, k2⟩
  have HX : Hid _ := setWord_ok h2 49 (by decide) 512 (by decide) (by decide)
  have K2 : Hid (Kp (isB B) w w2) := K1.out.trans k2
  clear h2 k2 K1 HW
  go_wp2_with fail
  refine Calls.mono HX.out ?_; rintro e w3 ⟨rfl, h3, k3⟩
  have cn : w3.cell? ⟨B, 32768, none⟩ = some (.int .i64 d.n) := h3.cn
  have HY : Hid _ := setWord_ok h3 60 (by decide) d.n (by omega) (by have := hf.out; omega)
  have K3 : Hid (Kp (isB B) w w3) := K2.out.trans k3
  clear h3 k3 K2 HX
  go_wp2_with fail
  refine Calls.mono HY.out ?_; rintro e w4 ⟨rfl, h4, k4⟩
  have cg := h4.cgo
  have cd := h4.cdn
  have cm := h4.cmk
  have z1 := h4.fz 33290
  have z2 := h4.fz 33291
  have z3 := h4.fz 33292
  have H : Hid (DOk w B sv { d with buf := ecB d.n, mode := 3, don := 0, mark := true } (((w4.setCell ⟨B, 33291, none⟩ (.int .i64 2)).setCell ⟨B, 33290, none⟩ (.int .i64 0)).setCell ⟨B, 33292, none⟩ (.bool true))) :=
    ⟨0, ((((h4.raw.setgo 2).setdn 0).setmk true).same (b' := ecB d.n) (fun i hi => ec_is d.n hf.out d.buf i hi)).id _ rfl rfl rfl rfl rfl rfl rfl hF.out, fun _ => rfl, K3.out.trans (k4.trans (((kpB B _ _ _).trans (kpB B _ _ _)).trans (kpB B _ _ _)))⟩
  clear h4 k4 K3 HY
  go_wp2
  go_end0
  exact ⟨rfl, H.out⟩

theorem clear_ok (h : IAt w B dn sv d) : IAt (((w.setCell ⟨B, 33292, none⟩ (.bool false)).setCell ⟨B, 32770, none⟩ (.int .u8 0)).setCell ⟨B, 33291, none⟩ (.int .i64 0)) B dn sv d.clear :=
  (((h.raw.setmk false).setR 1 (by decide) 32770 rfl 0).setgo 0).id _ rfl rfl rfl (reg_1 (d := { d with mark := false, failed := false, mode := 0 }) 0).symm rfl rfl rfl rfl

theorem command_off (h : IAt w B dn sv d) (k : d.Ok) (hd : Dn d dn) (ho : d.off = true) (v : Int) : Calls Try.prog 22 #[.pointer (some ⟨B, 0, none⟩), .int .u8 v] w fun e w' => e = .returned (.tuple #[]) ∧ DOk w B sv (d.command v) w' := by
  have HO : Hid _ := isOther_any h k
  rw [ho] at HO
  have H : Hid (DOk w B sv (d.command v) w) := by
    unfold Id.command
    rw [if_pos ho]
    exact h.ok hd
  clear h k ho hd
  go_enter Try.func22, Try.ntmps22
  go_wp2_with fail
  refine Calls.mono HO.out ?_; rintro e w1 ⟨rfl, hw⟩; replace hw := hw.symm; subst hw
  go_wp2
  refine bodyPost_ret (results_none rfl _ _ _) rfl ?_
  exact ⟨rfl, H.out⟩

theorem command_on (h : IAt w B dn sv d) (k : d.Ok) (ho : d.off = false) (v : Int) : Calls Try.prog 22 #[.pointer (some ⟨B, 0, none⟩), .int .u8 v] w fun e w' => e = .returned (.tuple #[]) ∧ DOk w B sv (d.command v) w' := by
  have HO : Hid _ := isOther_any h k
  rw [ho] at HO
  have c1 := h.c1
  have cg := h.cgo
  have cm := h.cmk
  have z1 := h.fz 32770
  have z2 := h.fz 33291
  have z3 := h.fz 33292
  have hc := clear_ok h
  have hk := k.clear
  have HB1 : Hid _ := begin_ok hc hk 1 (.inl rfl)
  have HB2 : Hid _ := begin_ok hc hk 2 (.inr rfl)
  have HI : Hid _ := identify_ok hc hk
  have HF : Hid _ := fail_ok hc 4 (.inl rfl)
  rw [show goV 1 = 1 from rfl] at HB1
  rw [show goV 2 = 3 from rfl] at HB2
  have hcl : Hid (IAt (((w.setCell ⟨B, 33292, none⟩ (.bool false)).setCell ⟨B, 32770, none⟩ (.int .u8 0)).setCell ⟨B, 33291, none⟩ (.int .i64 0)) B dn sv d.clear) := hc
  have hk3 : Hid (Kp (isB B) w (((w.setCell ⟨B, 33292, none⟩ (.bool false)).setCell ⟨B, 32770, none⟩ (.int .u8 0)).setCell ⟨B, 33291, none⟩ (.int .i64 0))) := ((kpB B _ _ _).trans (kpB B _ _ _)).trans (kpB B _ _ _)
  have mt : d.clear.meant = d.meant := rfl
  rw [mt] at HB1 HB2
  have ho' : Hid (d.off = false) := ho
  clear h k ho hc hk mt
  by_cases v20 : v = 32 ∨ v = 33
  · have E : Hid (d.command v = if d.meant = true then d.clear.begin 1 else d.clear.fail 4) := by
      show _ = _
      unfold Id.command
      rw [if_neg (by rw [ho'.out]; decide), if_pos (by omega)]
      simp only [if_pos (show v < 48 by omega)]
    have fin : ∀ w4, DOk (((w.setCell ⟨B, 33292, none⟩ (.bool false)).setCell ⟨B, 32770, none⟩ (.int .u8 0)).setCell ⟨B, 33291, none⟩ (.int .i64 0)) B sv (if d.meant = true then d.clear.begin 1 else d.clear.fail 4) w4 → DOk w B sv (d.command v) w4 := by
      rintro w4 ⟨dn4, h4, d4, k4⟩
      rw [E.out]
      exact ⟨dn4, h4, d4, hk3.out.trans k4⟩
    have FIN : Hid _ := fin
    clear fin E hcl hk3 HI HF HB2
    rcases v20 with rfl | rfl
    all_goals
      go_enter Try.func22, Try.ntmps22
      go_wp2_with fail
      refine Calls.mono HO.out ?_; rintro e w1 ⟨rfl, hw⟩; replace hw := hw.symm; subst hw
      go_wp2_with fail
      refine Calls.mono HB1.out ?_; rintro e w4 ⟨rfl, h4⟩
      have H := FIN.out w4 h4
      have H' : Hid _ := H
      clear H h4 FIN HB1
      go_wp2
      go_end0
      exact ⟨rfl, H'.out⟩
  · by_cases v30 : v = 48 ∨ v = 49
    · have E : Hid (d.command v = if d.meant = true then d.clear.begin 2 else d.clear.fail 4) := by
        show _ = _
        unfold Id.command
        rw [if_neg (by rw [ho'.out]; decide), if_pos (by omega)]
        simp only [if_neg (show ¬ v < 48 by omega)]
      have fin : ∀ w4, DOk (((w.setCell ⟨B, 33292, none⟩ (.bool false)).setCell ⟨B, 32770, none⟩ (.int .u8 0)).setCell ⟨B, 33291, none⟩ (.int .i64 0)) B sv (if d.meant = true then d.clear.begin 2 else d.clear.fail 4) w4 → DOk w B sv (d.command v) w4 := by
        rintro w4 ⟨dn4, h4, d4, k4⟩
        rw [E.out]
        exact ⟨dn4, h4, d4, hk3.out.trans k4⟩
      have FIN : Hid _ := fin
      clear fin E hcl hk3 HI HF HB1 v20
      rcases v30 with rfl | rfl
      all_goals
        go_enter Try.func22, Try.ntmps22
        go_wp2_with fail
        refine Calls.mono HO.out ?_; rintro e w1 ⟨rfl, hw⟩; replace hw := hw.symm; subst hw
        go_wp2_with fail
        refine Calls.mono HB2.out ?_; rintro e w4 ⟨rfl, h4⟩
        have H := FIN.out w4 h4
        have H' : Hid _ := H
        clear H h4 FIN HB2
        go_wp2
        go_end0
        exact ⟨rfl, H'.out⟩
    · have nb : ¬ (v = 32 ∨ v = 33 ∨ v = 48 ∨ v = 49) := by omega
      by_cases vec : v = 236
      · subst vec
        have FIN : Hid (∀ w4, DOk (((w.setCell ⟨B, 33292, none⟩ (.bool false)).setCell ⟨B, 32770, none⟩ (.int .u8 0)).setCell ⟨B, 33291, none⟩ (.int .i64 0)) B sv { d.clear with buf := ecB d.clear.n, mode := 3, don := 0, mark := true } w4 → DOk w B sv (d.command 236) w4) := by
          rintro w4 ⟨dn4, h4, d4, k4⟩
          unfold Id.command
          rw [if_neg (by rw [ho'.out]; decide), if_neg nb, if_pos rfl]
          exact ⟨dn4, h4, d4, hk3.out.trans k4⟩
        clear hcl hk3 HF HB1 HB2 v20 v30 nb
        go_enter Try.func22, Try.ntmps22
        go_wp2_with fail
        refine Calls.mono HO.out ?_; rintro e w1 ⟨rfl, hw⟩; replace hw := hw.symm; subst hw
        go_wp2_with fail
        refine Calls.mono HI.out ?_; rintro e w4 ⟨rfl, h4⟩
        have H := FIN.out w4 h4
        have H' : Hid _ := H
        clear H h4 FIN HI
        go_wp2
        go_end0
        exact ⟨rfl, H'.out⟩
      · by_cases vm : v = 231 ∨ v = 145
        · have H : Hid (DOk w B sv (d.command v) ((((w.setCell ⟨B, 33292, none⟩ (.bool false)).setCell ⟨B, 32770, none⟩ (.int .u8 0)).setCell ⟨B, 33291, none⟩ (.int .i64 0)).setCell ⟨B, 33292, none⟩ (.bool true))) := by
            show DOk _ _ _ _ _
            unfold Id.command
            rw [if_neg (by rw [ho'.out]; decide), if_neg nb, if_neg vec, if_pos vm]
            exact ⟨dn, (hcl.out.raw.setmk true).id _ rfl rfl rfl rfl rfl rfl rfl rfl, Dn.none rfl, hk3.out.trans (kpB B _ _ _)⟩
          clear hcl hk3 HF HB1 HB2 HI v20 v30 nb vec
          rcases vm with rfl | rfl
          all_goals
            go_enter Try.func22, Try.ntmps22
            go_wp2_with fail
            refine Calls.mono HO.out ?_; rintro e w1 ⟨rfl, hw⟩; replace hw := hw.symm; subst hw
            go_wp2
            go_end0
            exact ⟨rfl, H.out⟩
        · have FIN : Hid (∀ w4, DOk (((w.setCell ⟨B, 33292, none⟩ (.bool false)).setCell ⟨B, 32770, none⟩ (.int .u8 0)).setCell ⟨B, 33291, none⟩ (.int .i64 0)) B sv (d.clear.fail 4) w4 → DOk w B sv (d.command v) w4) := by
            rintro w4 ⟨dn4, h4, d4, k4⟩
            unfold Id.command
            rw [if_neg (by rw [ho'.out]; decide), if_neg nb, if_neg vec, if_neg vm]
            exact ⟨dn4, h4, d4, hk3.out.trans k4⟩
          have q1 : (v == 32) = false := by rw [beq_eq_false_iff_ne]; omega
          have q2 : (v == 33) = false := by rw [beq_eq_false_iff_ne]; omega
          have q3 : (v == 48) = false := by rw [beq_eq_false_iff_ne]; omega
          have q4 : (v == 49) = false := by rw [beq_eq_false_iff_ne]; omega
          have q5 : (v == 236) = false := by rw [beq_eq_false_iff_ne]; omega
          have q6 : (v == 231) = false := by rw [beq_eq_false_iff_ne]; omega
          have q7 : (v == 145) = false := by rw [beq_eq_false_iff_ne]; omega
          clear hcl hk3 HB1 HB2 HI v20 v30 nb vec vm
          go_enter Try.func22, Try.ntmps22
          go_wp2_with fail
          refine Calls.mono HO.out ?_; rintro e w1 ⟨rfl, hw⟩; replace hw := hw.symm; subst hw
          go_wp2_with fail
          refine Calls.mono HF.out ?_; rintro e w4 ⟨rfl, h4⟩
          have H := FIN.out w4 h4
          have H' : Hid _ := H
          clear H h4 FIN HF
          go_wp2
          go_end0
          exact ⟨rfl, H'.out⟩

theorem command_ok (h : IAt w B dn sv d) (k : d.Ok) (hd : Dn d dn) (v : Int) : Calls Try.prog 22 #[.pointer (some ⟨B, 0, none⟩), .int .u8 v] w fun e w' => e = .returned (.tuple #[]) ∧ DOk w B sv (d.command v) w' := by
  cases ho : d.off
  · exact command_on h k ho v
  · exact command_off h k hd ho v
end
end Go.Proofs.Ytddalplpmgmplaa
