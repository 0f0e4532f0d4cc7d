/- The code's memory and the document's in one world: a call of either. -/
import Derived.Test.YtmmnnafjikilpaaGreatVpCalls
import Derived.Test.YtmmnnafjikilpaaGreatVj
import Derived.Laws.StructEq
import Derived.DeepKeys
import Derived.MapViews
namespace Go.Proofs.YtmmnnafjikilpaaGreat
open Go.ChangeShapes Go.WideShapes Go.ChangeAt Go.RowKit Go.Maps
set_option linter.unusedVariables false
set_option maxRecDepth 20000

/-- A processor is equal to itself. -/
theorem cpu_eq {H : Type} {enc : TypeId × Value → H} {W : World} {base : Nat} {sp : Nat → Bool} {held : Bool} {n : Nat} {cs : Array Value} {x : DataW H × List MemPlace} (h : DataW.trod enc Tryz.prog W base sp held n 35 cs.toList = some x) (hs : cs.size = 83) (w : World) :
    (Op.equalIn 10000 35 (.agg cs) (.agg cs)).run Tryz.prog w = .ok true w := by
  have hk : Tryz.prog.keyTypeAt 5 35 = true := by kernel_rfl
  have e := (keyLits_of_trod 5 _ hk _ _ _ h).1
  have hf : (Value.agg cs).formed Tryz.prog 35 = true := by
    unfold Value.formed
    rw [Tryz.underlying35]
    show (cs.size == Tryz.prog.cellsOf 35) = true
    rw [hs, cpu_size]
    rfl
  obtain ⟨r, hr, hi⟩ := run_equalIn_deep 9995 5 35 hk w 5 5 (.agg cs) (.agg cs) _ _ hf hf e e
  rw [hi.2 rfl] at hr
  exact hr

theorem qput_n16 (q : Qy) (v : Int) : (q.put v).n = q.m.n := by
  unfold Qy.put
  split
  · rfl
  · exact (wrK_same q.m q.s v _).1

structure TwV (w : World) (V K B : Nat) (R : Rf) (pl tn : Nat) (M N : Mem) : Prop where
  v : VmAt w V K B pl tn M
  r : RefAt w R N
  ap : ∀ j, R.has j → ¬ inVm V K B 16 j
  n : M.n = 16
  m : N.n = 16

def askS (K B : Nat) (R : Rf) (j : Nat) : Prop := modVm K B 16 j ∨ R.has j

theorem TwV.kp0 {w w' : World} {V K B : Nat} {R : Rf} {pl tn : Nat} {M N : Mem} (h : TwV w V K B R pl tn M N) (k : Kp noB w w') : TwV w' V K B R pl tn M N :=
  ⟨h.v.kp0 k, h.r.kp k (fun _ _ f => f), h.ap, h.n, h.m⟩
theorem TwV.lt {w : World} {V K B : Nat} {R : Rf} {pl tn : Nat} {M N : Mem} (h : TwV w V K B R pl tn M N) {j : Nat} (hj : askS K B R j) : j < w.heap.size := by
  rcases hj with f | f
  · exact h.v.in_lt (by rw [h.n]; exact f)
  · exact h.r.lt f
/-- Behind a call of the code's. -/
theorem TwV.left {w w' : World} {V K B : Nat} {R : Rf} {pl tn : Nat} {M N M' : Mem} (h : TwV w V K B R pl tn M N) (hn : M'.n = M.n) (p : VmP w V K B pl tn M' 2 w') : ∃ tn', tn' ≤ tn + 2 ∧ TwV w' V K B R pl tn' M' N ∧ Kp (askS K B R) w w' := by
  obtain ⟨⟨tn', ht, hv⟩, k⟩ := p
  have e : M'.n = 16 := hn.trans h.n
  rw [e] at k
  exact ⟨tn', ht, ⟨hv, h.r.kp k (fun j hj f => h.ap j hj (.inr f)), h.ap, e, h.m⟩, k.mono (fun j _ f => .inl f)⟩
/-- Behind a call of the document's. -/
theorem TwV.right {w w' : World} {V K B : Nat} {R : Rf} {pl tn : Nat} {M N N' : Mem} (h : TwV w V K B R pl tn M N) (hn : N'.n = N.n) (r : RefAt w' R N') (k : Kp R.has w w') : TwV w' V K B R pl tn M N' ∧ Kp (askS K B R) w w' :=
  ⟨⟨h.v.kp k (fun j hj f => h.ap j f (by rw [h.n] at hj; exact hj)), r, h.ap, h.n, hn.trans h.m⟩, k.mono (fun j _ f => .inr f)⟩

theorem TwV.load {w : World} {V K B : Nat} {R : Rf} {pl tn : Nat} {M N : Mem} (h : TwV w V K B R pl tn M N) {X : Nat} {cs : Array Value} (p : PAt w X cs) {c : Cp} (hc : CpC cs c) (ok : c.Ok) (hX : ¬ askS K B R X) (ht : tn < 18446744073709551613) (k off z : Int) (o0 : 0 ≤ off) (o1 : off < 4294967296) :
    Calls Tryz.prog 12 #[.pointer (some ⟨V, 0, none⟩), .pointer (some ⟨X, 0, none⟩), .int .i64 k, .int .u32 off, .int .i64 z] w fun e w' => e = .returned (.tuple #[.int .u32 (segQ M c k off z false).val, (segQ M c k off z false).ft.val]) ∧ ∃ tn', tn' ≤ tn + 2 ∧ TwV w' V K B R pl tn' (segQ M c k off z false).m N ∧ Kp (askS K B R) w w' :=
  (load_any w V K B pl tn X M h.v c (p.cp hc ok) (by rw [h.n]; exact fun f => hX (.inl f)) k off z o0 o1 ht).mono fun e w' ⟨a, b⟩ => ⟨a, h.left (segQ_n M c k off z false) b⟩
theorem TwV.dLoad {w : World} {V K B : Nat} {R : Rf} {pl tn : Nat} {M N : Mem} (h : TwV w V K B R pl tn M N) (hb : RdB N) {cs : Array Value} (wf : WfC cs) {c : Cp} (hc : CpC cs c) (ok : c.Ok) (k off z : Int) (o0 : 0 ≤ off) (o1 : off < 4294967296) :
    Calls Tryz.prog 20 #[.pointer (some ⟨R.r, 0, none⟩), .agg cs, .int .i64 k, .int .u32 off, .int .i64 z] w fun e w' => e = .returned (.tuple #[.int .u32 (segQ N c k off z false).val, (segQ N c k off z false).ft.val]) ∧ TwV w' V K B R pl tn M (segQ N c k off z false).m ∧ Kp (askS K B R) w w' :=
  (dLoad_any w R N h.r cs wf c hc ok hb k off z o0 o1).mono fun e w' ⟨a, b, kq⟩ => ⟨a, h.right (segQ_n N c k off z false) b kq⟩

theorem TwV.store {w : World} {V K B : Nat} {R : Rf} {pl tn : Nat} {M N : Mem} (h : TwV w V K B R pl tn M N) {X : Nat} {cs : Array Value} (p : PAt w X cs) {c : Cp} (hc : CpC cs c) (ok : c.Ok) (hX : ¬ askS K B R X) (ht : tn < 18446744073709551613) (k off z x : Int) (o0 : 0 ≤ off) (o1 : off < 4294967296) (x0 : 0 ≤ x) (x1 : x < 4294967296) :
    Calls Tryz.prog 11 #[.pointer (some ⟨V, 0, none⟩), .pointer (some ⟨X, 0, none⟩), .int .i64 k, .int .u32 off, .int .i64 z, .int .u32 x] w fun e w' => e = .returned ((segQ M c k off z true).ft.val) ∧ ∃ tn', tn' ≤ tn + 2 ∧ TwV w' V K B R pl tn' ((segQ M c k off z true).put x) N ∧ Kp (askS K B R) w w' :=
  (store_any w V K B pl tn X M h.v c (p.cp hc ok) (by rw [h.n]; exact fun f => hX (.inl f)) k off z x o0 o1 x0 x1 ht).mono fun e w' ⟨a, b⟩ => ⟨a, h.left ((qput_n16 _ _).trans (segQ_n M c k off z true)) b⟩
theorem TwV.dStore {w : World} {V K B : Nat} {R : Rf} {pl tn : Nat} {M N : Mem} (h : TwV w V K B R pl tn M N) (hb : RdB N) {cs : Array Value} (wf : WfC cs) {c : Cp} (hc : CpC cs c) (ok : c.Ok) (k off z x : Int) (o0 : 0 ≤ off) (o1 : off < 4294967296) (x0 : 0 ≤ x) (x1 : x < 4294967296) :
    Calls Tryz.prog 21 #[.pointer (some ⟨R.r, 0, none⟩), .agg cs, .int .i64 k, .int .u32 off, .int .i64 z, .int .u32 x] w fun e w' => e = .returned ((segQ N c k off z true).ft.val) ∧ TwV w' V K B R pl tn M ((segQ N c k off z true).put x) ∧ Kp (askS K B R) w w' :=
  (dStore_any w R N h.r cs wf c hc ok hb k off z x o0 o1 x0 x1).mono fun e w' ⟨a, b, kq⟩ => ⟨a, h.right ((qput_n16 _ _).trans (segQ_n N c k off z true)) b kq⟩

theorem TwV.check {w : World} {V K B : Nat} {R : Rf} {pl tn : Nat} {M N : Mem} (h : TwV w V K B R pl tn M N) {X : Nat} {cs : Array Value} (p : PAt w X cs) {c : Cp} (hc : CpC cs c) (ok : c.Ok) (hX : ¬ askS K B R X) (ht : tn < 18446744073709551613) (k off z : Int) (o0 : 0 ≤ off) (o1 : off < 4294967296) :
    Calls Tryz.prog 22 #[.pointer (some ⟨V, 0, none⟩), .pointer (some ⟨X, 0, none⟩), .int .i64 k, .int .u32 off, .int .i64 z] w fun e w' => e = .returned ((segQ M c k off z true).ft.val) ∧ ∃ tn', tn' ≤ tn + 2 ∧ TwV w' V K B R pl tn' (segQ M c k off z true).m N ∧ Kp (askS K B R) w w' :=
  (check_any w V K B pl tn X M h.v c (p.cp hc ok) (by rw [h.n]; exact fun f => hX (.inl f)) k off z o0 o1 ht).mono fun e w' ⟨a, b⟩ => ⟨a, h.left (segQ_n M c k off z true) b⟩
theorem TwV.dCheck {w : World} {V K B : Nat} {R : Rf} {pl tn : Nat} {M N : Mem} (h : TwV w V K B R pl tn M N) (hb : RdB N) {cs : Array Value} (wf : WfC cs) {c : Cp} (hc : CpC cs c) (ok : c.Ok) (k off z : Int) (o0 : 0 ≤ off) (o1 : off < 4294967296) :
    Calls Tryz.prog 23 #[.pointer (some ⟨R.r, 0, none⟩), .agg cs, .int .i64 k, .int .u32 off, .int .i64 z] w fun e w' => e = .returned ((segQ N c k off z true).ft.val) ∧ TwV w' V K B R pl tn M (segQ N c k off z true).m ∧ Kp (askS K B R) w w' :=
  (dCheck_any w R N h.r cs wf c hc ok hb k off z o0 o1).mono fun e w' ⟨a, b, kq⟩ => ⟨a, h.right (segQ_n N c k off z true) b kq⟩

theorem TwV.sys {w : World} {V K B : Nat} {R : Rf} {pl tn : Nat} {M N : Mem} (h : TwV w V K B R pl tn M N) {X : Nat} {cs : Array Value} (p : PAt w X cs) {c : Cp} (hc : CpC cs c) (ok : c.Ok) (hX : ¬ askS K B R X) (ht : tn < 18446744073709551613) (l z : Int) (l0 : 0 ≤ l) (l1 : l < 4294967296) :
    Calls Tryz.prog 24 #[.pointer (some ⟨V, 0, none⟩), .pointer (some ⟨X, 0, none⟩), .int .u32 l, .int .i64 z] w fun e w' => e = .returned (.tuple #[.int .u32 (sysQ M c l z false).val, (sysQ M c l z false).ft.val]) ∧ ∃ tn', tn' ≤ tn + 2 ∧ TwV w' V K B R pl tn' (sysQ M c l z false).m N ∧ Kp (askS K B R) w w' :=
  (sys_any w V K B pl tn X M h.v c (p.cp hc ok) (by rw [h.n]; exact fun f => hX (.inl f)) l z l0 l1 ht).mono fun e w' ⟨a, b⟩ => ⟨a, h.left (sysQ_n M c l z false) b⟩
theorem TwV.dSys {w : World} {V K B : Nat} {R : Rf} {pl tn : Nat} {M N : Mem} (h : TwV w V K B R pl tn M N) (hb : RdB N) {cs : Array Value} (wf : WfC cs) {c : Cp} (hc : CpC cs c) (ok : c.Ok) (l z : Int) (l0 : 0 ≤ l) (l1 : l < 4294967296) :
    Calls Tryz.prog 25 #[.pointer (some ⟨R.r, 0, none⟩), .agg cs, .int .u32 l, .int .i64 z] w fun e w' => e = .returned (.tuple #[.int .u32 (sysQ N c l z false).val, (sysQ N c l z false).ft.val]) ∧ TwV w' V K B R pl tn M (sysQ N c l z false).m ∧ Kp (askS K B R) w w' :=
  (dSys_any w R N h.r cs wf c hc ok hb l z l0 l1).mono fun e w' ⟨a, b, kq⟩ => ⟨a, h.right (sysQ_n N c l z false) b kq⟩

theorem TwV.setSys {w : World} {V K B : Nat} {R : Rf} {pl tn : Nat} {M N : Mem} (h : TwV w V K B R pl tn M N) {X : Nat} {cs : Array Value} (p : PAt w X cs) {c : Cp} (hc : CpC cs c) (ok : c.Ok) (hX : ¬ askS K B R X) (ht : tn < 18446744073709551613) (l z x : Int) (l0 : 0 ≤ l) (l1 : l < 4294967296) (x0 : 0 ≤ x) (x1 : x < 4294967296) :
    Calls Tryz.prog 26 #[.pointer (some ⟨V, 0, none⟩), .pointer (some ⟨X, 0, none⟩), .int .u32 l, .int .i64 z, .int .u32 x] w fun e w' => e = .returned ((sysQ M c l z true).ft.val) ∧ ∃ tn', tn' ≤ tn + 2 ∧ TwV w' V K B R pl tn' ((sysQ M c l z true).put x) N ∧ Kp (askS K B R) w w' :=
  (setSys_any w V K B pl tn X M h.v c (p.cp hc ok) (by rw [h.n]; exact fun f => hX (.inl f)) l z x l0 l1 x0 x1 ht).mono fun e w' ⟨a, b⟩ => ⟨a, h.left ((qput_n16 _ _).trans (sysQ_n M c l z true)) b⟩
theorem TwV.dSetSys {w : World} {V K B : Nat} {R : Rf} {pl tn : Nat} {M N : Mem} (h : TwV w V K B R pl tn M N) (hb : RdB N) {cs : Array Value} (wf : WfC cs) {c : Cp} (hc : CpC cs c) (ok : c.Ok) (l z x : Int) (l0 : 0 ≤ l) (l1 : l < 4294967296) (x0 : 0 ≤ x) (x1 : x < 4294967296) :
    Calls Tryz.prog 27 #[.pointer (some ⟨R.r, 0, none⟩), .agg cs, .int .u32 l, .int .i64 z, .int .u32 x] w fun e w' => e = .returned ((sysQ N c l z true).ft.val) ∧ TwV w' V K B R pl tn M ((sysQ N c l z true).put x) ∧ Kp (askS K B R) w w' :=
  (dSetSys_any w R N h.r cs wf c hc ok hb l z x l0 l1 x0 x1).mono fun e w' ⟨a, b, kq⟩ => ⟨a, h.right ((qput_n16 _ _).trans (sysQ_n N c l z true)) b kq⟩

theorem TwV.code {w : World} {V K B : Nat} {R : Rf} {pl tn : Nat} {M N : Mem} (h : TwV w V K B R pl tn M N) {X : Nat} {cs : Array Value} (p : PAt w X cs) {c : Cp} (hc : CpC cs c) (ok : c.Ok) (hX : ¬ askS K B R X) (ht : tn < 18446744073709551613) (off : Int) (o0 : 0 ≤ off) (o1 : off < 4294967296) :
    Calls Tryz.prog 28 #[.pointer (some ⟨V, 0, none⟩), .pointer (some ⟨X, 0, none⟩), .int .u32 off] w fun e w' => e = .returned (.tuple #[.int .u8 (codQ M c off).val, .int .u32 (codQ M c off).place, (codQ M c off).ft.val]) ∧ ∃ tn', tn' ≤ tn + 2 ∧ TwV w' V K B R pl tn' (codQ M c off).m N ∧ Kp (askS K B R) w w' :=
  (cde_any w V K B pl tn X M h.v c (p.cp hc ok) (by rw [h.n]; exact fun f => hX (.inl f)) off o0 o1 ht).mono fun e w' ⟨a, b⟩ => ⟨a, h.left (codQ_n M c off) b⟩
theorem TwV.dCode {w : World} {V K B : Nat} {R : Rf} {pl tn : Nat} {M N : Mem} (h : TwV w V K B R pl tn M N) (hb : RdB N) {cs : Array Value} (wf : WfC cs) {c : Cp} (hc : CpC cs c) (ok : c.Ok) (off : Int) (o0 : 0 ≤ off) (o1 : off < 4294967296) :
    Calls Tryz.prog 29 #[.pointer (some ⟨R.r, 0, none⟩), .agg cs, .int .u32 off] w fun e w' => e = .returned (.tuple #[.int .u8 (codQ N c off).val, .int .u32 (codQ N c off).place, (codQ N c off).ft.val]) ∧ TwV w' V K B R pl tn M (codQ N c off).m ∧ Kp (askS K B R) w w' :=
  (dCode_any w R N h.r cs wf c hc ok hb off o0 o1).mono fun e w' ⟨a, b, kq⟩ => ⟨a, h.right (codQ_n N c off) b kq⟩

theorem TwV.flush {w : World} {V K B : Nat} {R : Rf} {pl tn : Nat} {M N : Mem} (h : TwV w V K B R pl tn M N) : Calls Tryz.prog 30 #[.pointer (some ⟨V, 0, none⟩)] w fun e w' => e = .returned (.tuple #[]) ∧ ∃ tn', tn' ≤ tn + 2 ∧ TwV w' V K B R pl tn' M N ∧ Kp (askS K B R) w w' :=
  (vFlush_ok w V K B pl tn M h.v).mono fun e w' ⟨a, b⟩ => ⟨a, h.left rfl b⟩
theorem TwV.drop {w : World} {V K B : Nat} {R : Rf} {pl tn : Nat} {M N : Mem} (h : TwV w V K B R pl tn M N) (l : Int) (l0 : 0 ≤ l) (l1 : l < 4294967296) : Calls Tryz.prog 31 #[.pointer (some ⟨V, 0, none⟩), .int .u32 l] w fun e w' => e = .returned (.tuple #[]) ∧ ∃ tn', tn' ≤ tn + 2 ∧ TwV w' V K B R pl tn' M N ∧ Kp (askS K B R) w w' :=
  (vDrop_ok w V K B pl tn M h.v l l0 l1).mono fun e w' ⟨a, b⟩ => ⟨a, h.left rfl b⟩
end Go.Proofs.YtmmnnafjikilpaaGreat
