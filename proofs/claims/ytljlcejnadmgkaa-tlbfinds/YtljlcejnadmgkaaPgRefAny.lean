/- The document's own walk, all ways joined. -/
import Derived.Test.YtljlcejnadmgkaaPgRefFindA
import Derived.Test.YtljlcejnadmgkaaPgRefFindB
import Derived.Test.YtljlcejnadmgkaaPgRefFindC
import Derived.Test.YtljlcejnadmgkaaPgRefFindD
namespace Go.Proofs.Ytljlcejnadmgkaa
open Go.ChangeShapes Go.WideShapes Go.ChangeAt Go.RowKit Go.Maps
set_option linter.unusedVariables false

def RdPost (w : World) (R : Rf) (M : Mem) (c l : Int) (wr us wp : Bool) (e : Ending) (w' : World) : Prop :=
  e = .returned (.tuple #[fWalk M c l wr us wp, .int .i64 (fCode M c l wr us wp)]) ∧ RefAt w' R (fMem M c l wr us wp) ∧ Kp R.has w w'

theorem fl_of {R : Rf} {M : Mem} (hb : RdB M) (c l : Int) (wr : Bool) (c0 : 0 ≤ c) (c1 : c < 4294967296) (l0 : 0 ≤ l) (l1 : l < 4294967296) :
    FL R M (markM M (pdeA c l) false) (markM (markM M (pdeA c l) false) (fPte M c l) wr) c l (pdeA c l) (fPte M c l) (fOne M c l) (fTwo M c l) (fFr M c l) (hasF (fOne M c l) 1) (hasF (fTwo M c l) 1) (hasF (fOne M c l) 2) (hasF (fTwo M c l) 2) (hasF (fOne M c l) 4) (hasF (fTwo M c l) 4) wr := by
  obtain ⟨o0, o1⟩ := fOne_bd hb c l
  obtain ⟨t0, t1⟩ := fTwo_bd hb c l
  obtain ⟨p0, p1⟩ := pdeA_bd c0 c1 l0 l1
  obtain ⟨q0, q1⟩ := fPte_bd hb c l l0 l1
  have hb1 := hb.mark (pdeA c l) false
  exact {
    c0 := c0
    c1 := c1
    l0 := l0
    l1 := l1
    p0 := p0
    p1 := p1
    q0 := q0
    q1 := q1
    o0 := o0
    o1 := o1
    t0 := t0
    t1 := t1
    ep := rfl
    eq := rfl
    ef := rfl
    rp := fun W hW => refRead_ok W R M hW hb _ 4 p0 p1 rfl
    rq := fun W hW => refRead_ok W R M hW hb _ 4 q0 q1 rfl
    ho := fun W => refHas0 W _ o0 o1
    ht := fun W => refHas0 W _ t0 t1
    ho1 := fun W => refHas1 W _ o0 o1
    ht1 := fun W => refHas1 W _ t0 t1
    ho2 := fun W => refHas2 W _ o0 o1
    ht2 := fun W => refHas2 W _ t0 t1
    mk1 := fun W Y hW hY h5 => refMark_r W R M hW hb _ p0 p1 Y hY h5
    mk2r := fun e W Y hW hY h5 => by subst e; exact refMark_r W R _ hW hb1 _ q0 q1 Y hY h5
    mk2w := fun e W Y hW hY h5 h6 => by subst e; exact refMark_w W R _ hW hb1 _ q0 q1 Y hY h5 h6 }

/-- What all ways come to. -/
def joinP (w : World) (R : Rf) (M M2 : Mem) (p q fr : Int) (h1 h2 o2 t2 o4 t4 wr us wp : Bool) (e : Ending) (w' : World) : Prop :=
  e = .returned (.tuple #[if ((h1 && h2) && letsB (o2 && t2) (o4 && t4) wr us wp) = true then walkV fr p q (o2 && t2) (o4 && t4) else walkV 0 0 0 false false, .int .i64 (if (h1 && h2) = true then (if letsB (o2 && t2) (o4 && t4) wr us wp = true then -1 else 1 + codeW wr us) else codeW wr us)]) ∧ RefAt w' R (if ((h1 && h2) && letsB (o2 && t2) (o4 && t4) wr us wp) = true then M2 else M) ∧ Kp R.has w w'

theorem rfind_ff (w : World) (R : Rf) (M M1 M2 : Mem) (c l p q o t fr : Int) (h1 h2 o2 t2 o4 t4 wp : Bool) (h : RefAt w R M) (F : FL R M M1 M2 c l p q o t fr h1 h2 o2 t2 o4 t4 false) :
    Calls Try.prog 13 #[.pointer (some ⟨R.r, 0, none⟩), .int .u32 c, .int .u32 l, wayV false false wp] w (joinP w R M M2 p q fr h1 h2 o2 t2 o4 t4 false false wp) := by
  cases h1
  · exact rfind_no1_ff w R M M1 M2 c l p q o t fr wp h2 o2 t2 o4 t4 h F
  cases h2
  · exact rfind_no2_ff w R M M1 M2 c l p q o t fr wp false o2 t2 o4 t4 h F
  cases o2
  · cases o4
    · exact rfind_ff_f_f w R M M1 M2 c l p q o t fr wp t2 t4 h F
    cases t4
    · exact rfind_ff_f_tf w R M M1 M2 c l p q o t fr wp t2 false h F
    · exact rfind_ff_f_tt w R M M1 M2 c l p q o t fr wp t2 true h F
  cases t2
  · cases o4
    · exact rfind_ff_tf_f w R M M1 M2 c l p q o t fr wp false t4 h F
    cases t4
    · exact rfind_ff_tf_tf w R M M1 M2 c l p q o t fr wp false false h F
    · exact rfind_ff_tf_tt w R M M1 M2 c l p q o t fr wp false true h F
  · cases o4
    · exact rfind_ff_tt_f w R M M1 M2 c l p q o t fr wp true t4 h F
    cases t4
    · exact rfind_ff_tt_tf w R M M1 M2 c l p q o t fr wp true false h F
    · exact rfind_ff_tt_tt w R M M1 M2 c l p q o t fr wp true true h F

theorem rfind_ft (w : World) (R : Rf) (M M1 M2 : Mem) (c l p q o t fr : Int) (h1 h2 o2 t2 o4 t4 wp : Bool) (h : RefAt w R M) (F : FL R M M1 M2 c l p q o t fr h1 h2 o2 t2 o4 t4 false) :
    Calls Try.prog 13 #[.pointer (some ⟨R.r, 0, none⟩), .int .u32 c, .int .u32 l, wayV false true wp] w (joinP w R M M2 p q fr h1 h2 o2 t2 o4 t4 false true wp) := by
  cases h1
  · exact rfind_no1_ft w R M M1 M2 c l p q o t fr wp h2 o2 t2 o4 t4 h F
  cases h2
  · exact rfind_no2_ft w R M M1 M2 c l p q o t fr wp false o2 t2 o4 t4 h F
  cases o2
  · cases o4
    · exact rfind_ft_f_f w R M M1 M2 c l p q o t fr wp t2 t4 h F
    cases t4
    · exact rfind_ft_f_tf w R M M1 M2 c l p q o t fr wp t2 false h F
    · exact rfind_ft_f_tt w R M M1 M2 c l p q o t fr wp t2 true h F
  cases t2
  · cases o4
    · exact rfind_ft_tf_f w R M M1 M2 c l p q o t fr wp false t4 h F
    cases t4
    · exact rfind_ft_tf_tf w R M M1 M2 c l p q o t fr wp false false h F
    · exact rfind_ft_tf_tt w R M M1 M2 c l p q o t fr wp false true h F
  · cases o4
    · exact rfind_ft_tt_f w R M M1 M2 c l p q o t fr wp true t4 h F
    cases t4
    · exact rfind_ft_tt_tf w R M M1 M2 c l p q o t fr wp true false h F
    · exact rfind_ft_tt_tt w R M M1 M2 c l p q o t fr wp true true h F

theorem rfind_tf (w : World) (R : Rf) (M M1 M2 : Mem) (c l p q o t fr : Int) (h1 h2 o2 t2 o4 t4 wp : Bool) (h : RefAt w R M) (F : FL R M M1 M2 c l p q o t fr h1 h2 o2 t2 o4 t4 true) :
    Calls Try.prog 13 #[.pointer (some ⟨R.r, 0, none⟩), .int .u32 c, .int .u32 l, wayV true false wp] w (joinP w R M M2 p q fr h1 h2 o2 t2 o4 t4 true false wp) := by
  cases h1
  · exact rfind_no1_tf w R M M1 M2 c l p q o t fr wp h2 o2 t2 o4 t4 h F
  cases h2
  · exact rfind_no2_tf w R M M1 M2 c l p q o t fr wp false o2 t2 o4 t4 h F
  cases wp
  · cases o2
    · cases o4
      · exact rfind_tff_f_f w R M M1 M2 c l p q o t fr false t2 t4 h F
      cases t4
      · exact rfind_tff_f_tf w R M M1 M2 c l p q o t fr false t2 false h F
      · exact rfind_tff_f_tt w R M M1 M2 c l p q o t fr false t2 true h F
    cases t2
    · cases o4
      · exact rfind_tff_tf_f w R M M1 M2 c l p q o t fr false false t4 h F
      cases t4
      · exact rfind_tff_tf_tf w R M M1 M2 c l p q o t fr false false false h F
      · exact rfind_tff_tf_tt w R M M1 M2 c l p q o t fr false false true h F
    · cases o4
      · exact rfind_tff_tt_f w R M M1 M2 c l p q o t fr false true t4 h F
      cases t4
      · exact rfind_tff_tt_tf w R M M1 M2 c l p q o t fr false true false h F
      · exact rfind_tff_tt_tt w R M M1 M2 c l p q o t fr false true true h F
  · cases o2
    · cases o4
      · exact rfind_tft_f_f w R M M1 M2 c l p q o t fr true t2 t4 h F
      cases t4
      · exact rfind_tft_f_tf w R M M1 M2 c l p q o t fr true t2 false h F
      · exact rfind_tft_f_tt w R M M1 M2 c l p q o t fr true t2 true h F
    cases t2
    · cases o4
      · exact rfind_tft_tf_f w R M M1 M2 c l p q o t fr true false t4 h F
      cases t4
      · exact rfind_tft_tf_tf w R M M1 M2 c l p q o t fr true false false h F
      · exact rfind_tft_tf_tt w R M M1 M2 c l p q o t fr true false true h F
    · cases o4
      · exact rfind_tft_tt_f w R M M1 M2 c l p q o t fr true true t4 h F
      cases t4
      · exact rfind_tft_tt_tf w R M M1 M2 c l p q o t fr true true false h F
      · exact rfind_tft_tt_tt w R M M1 M2 c l p q o t fr true true true h F

theorem rfind_tt (w : World) (R : Rf) (M M1 M2 : Mem) (c l p q o t fr : Int) (h1 h2 o2 t2 o4 t4 wp : Bool) (h : RefAt w R M) (F : FL R M M1 M2 c l p q o t fr h1 h2 o2 t2 o4 t4 true) :
    Calls Try.prog 13 #[.pointer (some ⟨R.r, 0, none⟩), .int .u32 c, .int .u32 l, wayV true true wp] w (joinP w R M M2 p q fr h1 h2 o2 t2 o4 t4 true true wp) := by
  cases h1
  · exact rfind_no1_tt w R M M1 M2 c l p q o t fr wp h2 o2 t2 o4 t4 h F
  cases h2
  · exact rfind_no2_tt w R M M1 M2 c l p q o t fr wp false o2 t2 o4 t4 h F
  cases o2
  · cases o4
    · exact rfind_tt_f_f w R M M1 M2 c l p q o t fr wp t2 t4 h F
    cases t4
    · exact rfind_tt_f_tf w R M M1 M2 c l p q o t fr wp t2 false h F
    · exact rfind_tt_f_tt w R M M1 M2 c l p q o t fr wp t2 true h F
  cases t2
  · cases o4
    · exact rfind_tt_tf_f w R M M1 M2 c l p q o t fr wp false t4 h F
    cases t4
    · exact rfind_tt_tf_tf w R M M1 M2 c l p q o t fr wp false false h F
    · exact rfind_tt_tf_tt w R M M1 M2 c l p q o t fr wp false true h F
  · cases o4
    · exact rfind_tt_tt_f w R M M1 M2 c l p q o t fr wp true t4 h F
    cases t4
    · exact rfind_tt_tt_tf w R M M1 M2 c l p q o t fr wp true false h F
    · exact rfind_tt_tt_tt w R M M1 M2 c l p q o t fr wp true true h F

theorem rfind_any (w : World) (R : Rf) (M : Mem) (h : RefAt w R M) (hb : RdB M) (c l : Int) (wr us wp : Bool) (c0 : 0 ≤ c) (c1 : c < 4294967296) (l0 : 0 ≤ l) (l1 : l < 4294967296) :
    Calls Try.prog 13 #[.pointer (some ⟨R.r, 0, none⟩), .int .u32 c, .int .u32 l, wayV wr us wp] w (RdPost w R M c l wr us wp) := by
  have F := fl_of (R := R) hb c l wr c0 c1 l0 l1
  cases wr <;> cases us
  · exact rfind_ff w R M _ _ c l _ _ _ _ _ _ _ _ _ _ _ wp h F
  · exact rfind_ft w R M _ _ c l _ _ _ _ _ _ _ _ _ _ _ wp h F
  · exact rfind_tf w R M _ _ c l _ _ _ _ _ _ _ _ _ _ _ wp h F
  · exact rfind_tt w R M _ _ c l _ _ _ _ _ _ _ _ _ _ _ wp h F
end Go.Proofs.Ytljlcejnadmgkaa
