/- The bus and its devices: SegFitD, SegCode, XcSel, XcStk, XcStack, XcGate. -/
import Derived.Test.YtacgmoikegcopaaGreatDoorEc11
import Derived.BigQuiet
namespace Go.Proofs.YtacgmoikegcopaaGreatDoor.Sg
open Go.ChangeShapes Go.WideShapes Go.ChangeAt Go.RowKit
set_option linter.unusedVariables false
set_option maxRecDepth 20000
def fdX (R F p:Bool) (r d c:Int):Int:=if R=true∧(F=true∨c≤d∧r≤d) then presB p 11 else 13
set_option maxHeartbeats 1000000 in
theorem fd_1 (b l t:Int) (s:Bool) (d:Int) (p g:Bool) (x r c:Int) (w:World) (C F R Wt D:Bool)
  (H:Hid (∀ w:World,Calls Tryz.prog 192 #[.agg #[.int .u32 b,.int .u32 l,.int .i64 t,.bool s,.int .i64 d,.bool p,.bool g]] w fun e w'=>e=.returned (.agg #[.bool C,.bool F,.bool R,.bool Wt,.bool D])∧Grown w w')) (HR:Hid (∀ w:World,Calls Tryz.prog 194 #[.int .u16 x] w fun e w'=>e=.returned (.int .i64 r)∧w'=w))
  (h1:d < c):
  Calls Tryz.prog 237 #[.int .u16 x,.agg #[.int .u32 b,.int .u32 l,.int .i64 t,.bool s,.int .i64 d,.bool p,.bool g],.int .i64 c] w fun e w'=>e=.returned (.int .i64 (fdX R F p r d c))∧Grown w w':=by
 have e1:decide (d < c)=true:=by simpa using h1
 go_enter Tryz.func237,Tryz.ntmps237
 go_wp2_with fail
 refine (H.out _).mono ?_;rintro e w1 ⟨rfl,hg⟩
 have c0:w1.cell? ⟨w.heap.size,0,none⟩=some (.int .u32 b):=Grown.holds hg (by simp [go_sem])
 have c1:w1.cell? ⟨w.heap.size,1,none⟩=some (.int .u32 l):=Grown.holds hg (by simp [go_sem])
 have c2:w1.cell? ⟨w.heap.size,2,none⟩=some (.int .i64 t):=Grown.holds hg (by simp [go_sem])
 have c3:w1.cell? ⟨w.heap.size,3,none⟩=some (.bool s):=Grown.holds hg (by simp [go_sem])
 have c4:w1.cell? ⟨w.heap.size,4,none⟩=some (.int .i64 d):=Grown.holds hg (by simp [go_sem])
 have c5:w1.cell? ⟨w.heap.size,5,none⟩=some (.bool p):=Grown.holds hg (by simp [go_sem])
 have c6:w1.cell? ⟨w.heap.size,6,none⟩=some (.bool g):=Grown.holds hg (by simp [go_sem])
 have hlt:w.heap.size < w1.heap.size:=by have:=hg.2.2;simp at this;omega
 have hG:Grown w w1:=Grown.trans (Grown.alloc (Grown.refl _) _ _) hg
 cases R<;>cases F
 all_goals
  go_wp2
  go_quiet ((go_at_call 194;exact Calls.quiet_of_same (HR.out _)))
  go_wp2_with (go_at_call 195;refine (ifPresent_any _ _ _ _ _ _ _ _ _).mono ?_;rintro e w2 ⟨rfl,hg2⟩)
  all_goals go_ret
  all_goals first
   | (refine ⟨ret_int ?_,Grown.trans (Grown.alloc hG _ _) hg2⟩;simp [fdX];done)
   | (refine ⟨ret_int ?_,Grown.trans (Grown.alloc hG _ _) hg2⟩;simp [fdX];omega)
   | (refine ⟨ret_int ?_,Grown.alloc hG _ _⟩;simp [fdX];done)
   | (refine ⟨ret_int ?_,Grown.alloc hG _ _⟩;simp [fdX];omega)
set_option maxHeartbeats 1000000 in
theorem fd_2 (b l t:Int) (s:Bool) (d:Int) (p g:Bool) (x r c:Int) (w:World) (C F R Wt D:Bool)
  (H:Hid (∀ w:World,Calls Tryz.prog 192 #[.agg #[.int .u32 b,.int .u32 l,.int .i64 t,.bool s,.int .i64 d,.bool p,.bool g]] w fun e w'=>e=.returned (.agg #[.bool C,.bool F,.bool R,.bool Wt,.bool D])∧Grown w w')) (HR:Hid (∀ w:World,Calls Tryz.prog 194 #[.int .u16 x] w fun e w'=>e=.returned (.int .i64 r)∧w'=w))
  (h1:¬ d < c) (h2:d < r):
  Calls Tryz.prog 237 #[.int .u16 x,.agg #[.int .u32 b,.int .u32 l,.int .i64 t,.bool s,.int .i64 d,.bool p,.bool g],.int .i64 c] w fun e w'=>e=.returned (.int .i64 (fdX R F p r d c))∧Grown w w':=by
 have e1:decide (d < c)=false:=by simpa using h1
 have e2:decide (d < r)=true:=by simpa using h2
 go_enter Tryz.func237,Tryz.ntmps237
 go_wp2_with fail
 refine (H.out _).mono ?_;rintro e w1 ⟨rfl,hg⟩
 have c0:w1.cell? ⟨w.heap.size,0,none⟩=some (.int .u32 b):=Grown.holds hg (by simp [go_sem])
 have c1:w1.cell? ⟨w.heap.size,1,none⟩=some (.int .u32 l):=Grown.holds hg (by simp [go_sem])
 have c2:w1.cell? ⟨w.heap.size,2,none⟩=some (.int .i64 t):=Grown.holds hg (by simp [go_sem])
 have c3:w1.cell? ⟨w.heap.size,3,none⟩=some (.bool s):=Grown.holds hg (by simp [go_sem])
 have c4:w1.cell? ⟨w.heap.size,4,none⟩=some (.int .i64 d):=Grown.holds hg (by simp [go_sem])
 have c5:w1.cell? ⟨w.heap.size,5,none⟩=some (.bool p):=Grown.holds hg (by simp [go_sem])
 have c6:w1.cell? ⟨w.heap.size,6,none⟩=some (.bool g):=Grown.holds hg (by simp [go_sem])
 have hlt:w.heap.size < w1.heap.size:=by have:=hg.2.2;simp at this;omega
 have hG:Grown w w1:=Grown.trans (Grown.alloc (Grown.refl _) _ _) hg
 cases R<;>cases F
 all_goals
  go_wp2
  go_quiet ((go_at_call 194;exact Calls.quiet_of_same (HR.out _)))
  go_wp2_with (go_at_call 195;refine (ifPresent_any _ _ _ _ _ _ _ _ _).mono ?_;rintro e w2 ⟨rfl,hg2⟩)
  all_goals go_ret
  all_goals first
   | (refine ⟨ret_int ?_,Grown.trans (Grown.alloc hG _ _) hg2⟩;simp [fdX];done)
   | (refine ⟨ret_int ?_,Grown.trans (Grown.alloc hG _ _) hg2⟩;simp [fdX];omega)
   | (refine ⟨ret_int ?_,Grown.alloc hG _ _⟩;simp [fdX];done)
   | (refine ⟨ret_int ?_,Grown.alloc hG _ _⟩;simp [fdX];omega)
set_option maxHeartbeats 1000000 in
theorem fd_3 (b l t:Int) (s:Bool) (d:Int) (p g:Bool) (x r c:Int) (w:World) (C F R Wt D:Bool)
  (H:Hid (∀ w:World,Calls Tryz.prog 192 #[.agg #[.int .u32 b,.int .u32 l,.int .i64 t,.bool s,.int .i64 d,.bool p,.bool g]] w fun e w'=>e=.returned (.agg #[.bool C,.bool F,.bool R,.bool Wt,.bool D])∧Grown w w')) (HR:Hid (∀ w:World,Calls Tryz.prog 194 #[.int .u16 x] w fun e w'=>e=.returned (.int .i64 r)∧w'=w))
  (h1:¬ d < c) (h2:¬ d < r):
  Calls Tryz.prog 237 #[.int .u16 x,.agg #[.int .u32 b,.int .u32 l,.int .i64 t,.bool s,.int .i64 d,.bool p,.bool g],.int .i64 c] w fun e w'=>e=.returned (.int .i64 (fdX R F p r d c))∧Grown w w':=by
 have e1:decide (d < c)=false:=by simpa using h1
 have e2:decide (d < r)=false:=by simpa using h2
 go_enter Tryz.func237,Tryz.ntmps237
 go_wp2_with fail
 refine (H.out _).mono ?_;rintro e w1 ⟨rfl,hg⟩
 have c0:w1.cell? ⟨w.heap.size,0,none⟩=some (.int .u32 b):=Grown.holds hg (by simp [go_sem])
 have c1:w1.cell? ⟨w.heap.size,1,none⟩=some (.int .u32 l):=Grown.holds hg (by simp [go_sem])
 have c2:w1.cell? ⟨w.heap.size,2,none⟩=some (.int .i64 t):=Grown.holds hg (by simp [go_sem])
 have c3:w1.cell? ⟨w.heap.size,3,none⟩=some (.bool s):=Grown.holds hg (by simp [go_sem])
 have c4:w1.cell? ⟨w.heap.size,4,none⟩=some (.int .i64 d):=Grown.holds hg (by simp [go_sem])
 have c5:w1.cell? ⟨w.heap.size,5,none⟩=some (.bool p):=Grown.holds hg (by simp [go_sem])
 have c6:w1.cell? ⟨w.heap.size,6,none⟩=some (.bool g):=Grown.holds hg (by simp [go_sem])
 have hlt:w.heap.size < w1.heap.size:=by have:=hg.2.2;simp at this;omega
 have hG:Grown w w1:=Grown.trans (Grown.alloc (Grown.refl _) _ _) hg
 cases R<;>cases F
 all_goals
  go_wp2
  go_quiet ((go_at_call 194;exact Calls.quiet_of_same (HR.out _)))
  go_wp2_with (go_at_call 195;refine (ifPresent_any _ _ _ _ _ _ _ _ _).mono ?_;rintro e w2 ⟨rfl,hg2⟩)
  all_goals go_ret
  all_goals first
   | (refine ⟨ret_int ?_,Grown.trans (Grown.alloc hG _ _) hg2⟩;simp [fdX];done)
   | (refine ⟨ret_int ?_,Grown.trans (Grown.alloc hG _ _) hg2⟩;simp [fdX];omega)
   | (refine ⟨ret_int ?_,Grown.alloc hG _ _⟩;simp [fdX];done)
   | (refine ⟨ret_int ?_,Grown.alloc hG _ _⟩;simp [fdX];omega)
set_option maxHeartbeats 1000000 in
theorem fd_any (b l t:Int) (s:Bool) (d:Int) (p g:Bool) (x r c:Int) (w:World) (C F R Wt D:Bool)
  (H:Hid (∀ w:World,Calls Tryz.prog 192 #[.agg #[.int .u32 b,.int .u32 l,.int .i64 t,.bool s,.int .i64 d,.bool p,.bool g]] w fun e w'=>e=.returned (.agg #[.bool C,.bool F,.bool R,.bool Wt,.bool D])∧Grown w w')) (HR:Hid (∀ w:World,Calls Tryz.prog 194 #[.int .u16 x] w fun e w'=>e=.returned (.int .i64 r)∧w'=w))
   :
  Calls Tryz.prog 237 #[.int .u16 x,.agg #[.int .u32 b,.int .u32 l,.int .i64 t,.bool s,.int .i64 d,.bool p,.bool g],.int .i64 c] w fun e w'=>e=.returned (.int .i64 (fdX R F p r d c))∧Grown w w':=by
 by_cases h1:d < c
 ·exact fd_1 b l t s d p g x r c w C F R Wt D H HR h1
 ·by_cases h2:d < r
  ·exact fd_2 b l t s d p g x r c w C F R Wt D H HR h1 h2
  ·exact fd_3 b l t s d p g x r c w C F R Wt D H HR h1 h2
theorem fitX_s (t d:Int) (s p:Bool) (r c:Int):fsX (rW s t) p r d c=fitS t d s p r c:=rfl
theorem fitX_d (t d:Int) (s p:Bool) (r c:Int):fdX (rR s t) (rF s t) p r d c=fitD t d s p r c:=rfl
set_option maxHeartbeats 1000000 in
theorem fit_any (b l t:Int) (s:Bool) (d:Int) (p g:Bool) (n x c:Int) (w:World) (t0:-9223372036854775808≤t) (t1:t < 9223372036854775808) (x0:0≤x) (x1:x < 65536):
  Calls Tryz.prog 196 #[.int .i64 n,.int .u16 x,.agg #[.int .u32 b,.int .u32 l,.int .i64 t,.bool s,.int .i64 d,.bool p,.bool g],.int .i64 c] w fun e w'=>e=.returned (.int .i64 (fitB n t d s p (x%4) c))∧Grown w w':=by
 have H:Hid _:=fun w=>rights_any b l t s d p g w t0 t1
 have HR:Hid _:=fun w=>ringOf_any x w x0 x1
 have HS:Hid (∀ w,_):=fun w=>fs_any b l t s d p g x (x%4) c w (isC s t) (rF s t) (rR s t) (rW s t) (rD s t) H HR
 have HD:Hid (∀ w,_):=fun w=>fd_any b l t s d p g x (x%4) c w (isC s t) (rF s t) (rR s t) (rW s t) (rD s t) H HR
 clear H HR
 rw [fitX_s] at HS
 rw [fitX_d] at HD
 unfold fitB
 generalize fitS t d s p (x%4) c=fs at HS
 generalize fitD t d s p (x%4) c=fd at HD
 by_cases h2:n=2
 ·subst h2
  rw [if_pos rfl]
  go_enter Tryz.func196,Tryz.ntmps196
  go_wp2_with (go_at_call 236;refine (HS.out _).mono ?_;rintro e w2 ⟨rfl,hg2⟩)
  go_ret
  exact ⟨rfl,Grown.trans (Grown.alloc (Grown.refl _) _ _) hg2⟩
 ·rw [if_neg h2]
  have e2:(n==2)=false:=by simpa using h2
  by_cases hn:n=0∨n=3∨n=4∨n=5
  ·rw [if_pos hn]
   rcases hn with rfl | rfl | rfl | rfl
   all_goals
    go_enter Tryz.func196,Tryz.ntmps196
    go_wp2_with (go_at_call 237;refine (HD.out _).mono ?_;rintro e w2 ⟨rfl,hg2⟩)
    go_ret
    exact ⟨rfl,Grown.trans (Grown.alloc (Grown.refl _) _ _) hg2⟩
  ·rw [if_neg hn]
   have f0:(n==0)=false:=by simp;omega
   have f3:(n==3)=false:=by simp;omega
   have f4:(n==4)=false:=by simp;omega
   have f5:(n==5)=false:=by simp;omega
   go_enter Tryz.func196,Tryz.ntmps196
   go_wp2
   go_ret
   exact ⟨rfl,Grown.alloc (Grown.refl _) _ _⟩
def cdX (C g p q:Bool):Int:=if C=true∧g=true∧q=true then presB p 11 else 13
set_option maxHeartbeats 1000000 in
theorem cd_core (b l t:Int) (s:Bool) (d:Int) (p g:Bool) (x r c:Int) (q:Bool) (w:World) (C F R Wt D:Bool)
  (H:Hid (∀ w:World,Calls Tryz.prog 192 #[.agg #[.int .u32 b,.int .u32 l,.int .i64 t,.bool s,.int .i64 d,.bool p,.bool g]] w fun e w'=>e=.returned (.agg #[.bool C,.bool F,.bool R,.bool Wt,.bool D])∧Grown w w')) (HR:Hid (∀ w:World,Calls Tryz.prog 194 #[.int .u16 x] w fun e w'=>e=.returned (.int .i64 r)∧w'=w))
  (HL:Hid (∀ w:World,Calls Tryz.prog 193 #[.bool F,.int .i64 r,.int .i64 d,.int .i64 c] w fun e w'=>e=.returned (.bool q)∧w'=w)):
  Calls Tryz.prog 147 #[.int .u16 x,.agg #[.int .u32 b,.int .u32 l,.int .i64 t,.bool s,.int .i64 d,.bool p,.bool g],.int .i64 c] w fun e w'=>e=.returned (.int .i64 (cdX C g p q))∧Grown w w':=by
 go_enter Tryz.func147,Tryz.ntmps147
 go_wp2_with fail
 refine (H.out _).mono ?_;rintro e w1 ⟨rfl,hg⟩
 have c0:w1.cell? ⟨w.heap.size,0,none⟩=some (.int .u32 b):=Grown.holds hg (by simp [go_sem])
 have c1:w1.cell? ⟨w.heap.size,1,none⟩=some (.int .u32 l):=Grown.holds hg (by simp [go_sem])
 have c2:w1.cell? ⟨w.heap.size,2,none⟩=some (.int .i64 t):=Grown.holds hg (by simp [go_sem])
 have c3:w1.cell? ⟨w.heap.size,3,none⟩=some (.bool s):=Grown.holds hg (by simp [go_sem])
 have c4:w1.cell? ⟨w.heap.size,4,none⟩=some (.int .i64 d):=Grown.holds hg (by simp [go_sem])
 have c5:w1.cell? ⟨w.heap.size,5,none⟩=some (.bool p):=Grown.holds hg (by simp [go_sem])
 have c6:w1.cell? ⟨w.heap.size,6,none⟩=some (.bool g):=Grown.holds hg (by simp [go_sem])
 have hlt:w.heap.size < w1.heap.size:=by have:=hg.2.2;simp at this;omega
 have hG:Grown w w1:=Grown.trans (Grown.alloc (Grown.refl _) _ _) hg
 cases C<;>cases g<;>cases q
 all_goals
  go_wp2
  go_quiet (first | (go_at_call 194;exact Calls.quiet_of_same (HR.out _)) | (go_at_call 193;exact Calls.quiet_of_same (HL.out _)))
  go_wp2_with (go_at_call 195;refine (ifPresent_any _ _ _ _ _ _ _ _ _).mono ?_;rintro e w2 ⟨rfl,hg2⟩)
  all_goals go_ret
  all_goals first
   | (refine ⟨ret_int ?_,Grown.trans (Grown.alloc hG _ _) hg2⟩;simp [cdX];done)
   | (refine ⟨ret_int ?_,Grown.alloc hG _ _⟩;simp [cdX];done)
theorem code_any (b l t:Int) (s:Bool) (d:Int) (p g:Bool) (x c:Int) (w:World) (t0:-9223372036854775808≤t) (t1:t < 9223372036854775808) (x0:0≤x) (x1:x < 65536):
  Calls Tryz.prog 147 #[.int .u16 x,.agg #[.int .u32 b,.int .u32 l,.int .i64 t,.bool s,.int .i64 d,.bool p,.bool g],.int .i64 c] w fun e w'=>e=.returned (.int .i64 (codeB t d s p g (x%4) c))∧Grown w w':=by
 have H:Hid _:=fun w=>rights_any b l t s d p g w t0 t1
 have HR:Hid _:=fun w=>ringOf_any x w x0 x1
 have HL:Hid _:=fun w=>ringsLet_any (rF s t) (x%4) d c w
 exact cd_core b l t s d p g x (x%4) c _ w (isC s t) (rF s t) (rR s t) (rW s t) (rD s t) H HR HL
end Go.Proofs.YtacgmoikegcopaaGreatDoor.Sg
namespace Go.Proofs.YtacgmoikegcopaaGreatDoor.Rm
open Go.ChangeShapes Go.WideShapes Go.ChangeAt Go.RowKit Go.Maps
set_option linter.unusedVariables false
set_option maxRecDepth 20000
theorem findO_ft {M:Mem} {x:Cu} {s:Int} {f:Ft} (h:(findO M x s).r=.inl f):Ft3 f:=by
 unfold findO at h
 split at h
 ·cases h;unfold Ft3;simp
 ·unfold sysO Qy.ou Ou.bind at h
  dsimp only at h
  split at h
  ·rename_i f' he
   cases h
   split at he
   ·rename_i g hg;cases he;exact sysQ_ft hg
   ·cases he
  ·split at h
   ·rename_i f' he
    cases h
    split at he
    ·rename_i g hg;cases he;exact sysQ_ft hg
    ·cases he
   ·cases h
theorem tfind_no (w:World) (c:Ev) (tn T:Nat) (x n:Cu) (M:Mem) (h:Tn w c tn T x n M) (s v cd:Int) (hs:U16 s) (hb:cdO s=0∨farS s x.gl=true):
  Calls Tryz.prog 146 #[.pointer (some ⟨T,0,none⟩),.int .u16 s,.int .i64 v,.int .i64 cd] w fun e w'=>e=.panicked (pan ⟨v,cd,0⟩)∧Kp noB w w':=by
 unfold pan Ft.val
 have k0:=Kp.alloc noB w (.cells #[.int .u32 0,.int .u32 0,.int .i64 0,.bool false,.int .i64 0,.bool false,.bool false] 26)
 obtain ⟨W0,hW0⟩:∃ W,W=w.alloc (.cells #[.int .u32 0,.int .u32 0,.int .i64 0,.bool false,.int .i64 0,.bool false,.bool false] 26):=⟨_,rfl⟩
 rw [← hW0] at k0
 have h0:=h.kp0 k0
 have HN:Hid _:=cNull_any s W0 hs
 have HWas:Hid (Calls Tryz.prog 85 #[.pointer (some ⟨T,0,none⟩)] W0 fun e w'=>e=.returned (.pointer (some ⟨c.E,0,none⟩))∧w'=W0):=cWas_any W0 T c.E h0.t.e h0.a.lt
 have q4:=s_and4 hs
 have q7:=s_or7 hs
 have cg:=h0.a.c (k:=68) rfl
 have HK:Hid _:=k0
 unfold farS at hb
 by_cases hn:cdO s=0
 ·rw [decide_eq_true hn] at HN
  clear q4 q7 hb
  go_enter Tryz.func146,Tryz.ntmps146
  go_wp2_with fail
  rw [← hW0]
  clear hW0
  refine Calls.mono HN.out ?_;rintro e w' ⟨rfl,hw⟩;replace hw:=hw.symm;subst hw
  go_wp2_with (go_at_call 143;refine Calls.mono (cFault_any _ _ _) ?_;rintro e w2 ⟨rfl,k2⟩)
  exact ⟨rfl,rfl,HK.out.trans k2⟩
 ·rw [decide_eq_false hn] at HN
  by_cases h4:s / 4%2=1
  ·rw [decide_eq_true h4] at q4
   clear q7 hb
   go_enter Tryz.func146,Tryz.ntmps146
   go_wp2_with fail
   rw [← hW0]
   clear hW0
   refine Calls.mono HN.out ?_;rintro e w' ⟨rfl,hw⟩;replace hw:=hw.symm;subst hw
   go_wp2_with (go_at_call 143;refine Calls.mono (cFault_any _ _ _) ?_;rintro e w2 ⟨rfl,k2⟩)
   exact ⟨rfl,rfl,HK.out.trans k2⟩
  ·rw [decide_eq_false h4] at q4
   have h7:decide (x.gl < s - s%8+7)=true:=by simpa [hn,h4] using hb
   clear hb
   go_enter Tryz.func146,Tryz.ntmps146
   go_wp2_with fail
   rw [← hW0]
   clear hW0
   refine Calls.mono HN.out ?_;rintro e w' ⟨rfl,hw⟩;replace hw:=hw.symm;subst hw
   go_wp2_with fail
   refine Calls.mono HWas.out ?_;rintro e w' ⟨rfl,hw⟩;replace hw:=hw.symm;subst hw
   go_wp2_with (go_at_call 143;refine Calls.mono (cFault_any _ _ _) ?_;rintro e w2 ⟨rfl,k2⟩)
   exact ⟨rfl,rfl,HK.out.trans k2⟩
theorem tfind_ok (w:World) (c:Ev) (tn T:Nat) (x n:Cu) (M:Mem) (h:Tn w c tn T x n M) (s v cd:Int) (hs:U16 s) (hn:cdO s≠0) (hb:farS s x.gl=false) (htn:tn < 18446744073709551600):
  Calls Tryz.prog 146 #[.pointer (some ⟨T,0,none⟩),.int .u16 s,.int .i64 v,.int .i64 cd] w fun e w'=>e=OE Dsc.val (findO M x s)∧Px w c tn T x n (findO M x s).m 4 w':=by
 have k0:=Kp.alloc noB w (.cells #[.int .u32 0,.int .u32 0,.int .i64 0,.bool false,.int .i64 0,.bool false,.bool false] 26)
 obtain ⟨W0,hW0⟩:∃ W,W=w.alloc (.cells #[.int .u32 0,.int .u32 0,.int .i64 0,.bool false,.int .i64 0,.bool false,.bool false] 26):=⟨_,rfl⟩
 obtain ⟨D,hDe⟩:∃ D,D=w.heap.size:=⟨_,rfl⟩
 have dA:DsAt W0 D zD:=by rw [hW0,hDe];exact (MapKept.heap_alloc w _).1
 rw [← hW0] at k0
 have h0:=h.kp0 k0
 have HN:Hid _:=cNull_any s W0 hs
 have HWas:Hid (Calls Tryz.prog 85 #[.pointer (some ⟨T,0,none⟩)] W0 fun e w'=>e=.returned (.pointer (some ⟨c.E,0,none⟩))∧w'=W0):=cWas_any W0 T c.E h0.t.e h0.a.lt
 have HFi:Hid _:=xFind_any W0 c tn x M h0.a s hs htn
 have q4:=s_and4 hs
 have q7:=s_or7 hs
 have cg:=h0.a.c (k:=68) rfl
 have ct:=h0.t.e
 unfold ptr at ct
 rw [decide_eq_false hn] at HN
 unfold farS at hb
 have h4:¬ s / 4%2=1:=by intro h4;simp [h4] at hb
 have h7:decide (x.gl < s - s%8+7)=false:=by simpa [h4] using hb
 rw [decide_eq_false h4] at q4
 have HD:Hid (DsAt W0 D zD∧¬ c.md D∧w.heap.size≤D∧(∀ j,c.all j→j≠D)∧c.E≠D∧T≠D∧¬ c.md T):=⟨dA,fun f=>(by have:=h.a.in_md f;omega),by omega,fun j hj=>(by have:=h.a.in_all hj;omega),by have:=h.a.lt;omega,by have:=h.t.lt;omega,fun f=>h.nV (.inr f)⟩
 have HT:Hid _:=h0
 have HK0:Hid _:=k0
 clear dA h h0 k0 hs hb h4
 go_enter Tryz.func146,Tryz.ntmps146
 go_wp2_with fail
 rw [← hW0,← hDe]
 clear hW0 hDe
 refine Calls.mono HN.out ?_;rintro e w' ⟨rfl,hw⟩;replace hw:=hw.symm;subst hw
 go_wp2_with fail
 refine Calls.mono HWas.out ?_;rintro e w' ⟨rfl,hw⟩;replace hw:=hw.symm;subst hw
 go_wp2_with fail
 refine Calls.mono HFi.out ?_;rintro e w2 ⟨rfl,p2⟩
 have HX2:Hid (Px W0 c tn T x n (findO M x s).m 4 w2):=by
  obtain ⟨⟨t,a,b⟩,kk⟩:=p2
  exact ⟨⟨t,a,⟨b,HT.out.t.kp kk HD.out.2.2.2.2.2.2,HT.out.nE,HT.out.nV,HT.out.ok⟩⟩,kk⟩
 have D2:Hid (DsAt w2 D zD):=HD.out.1.kp p2.2 HD.out.2.1
 clear HFi HWas HN p2
 clear ct cg q4 q7 h7
 cases hr:(findO M x s).r with
 | inl f=>
  have hv:fdV (findO M x s)=.tuple #[.agg #[.int .u32 0,.int .u32 0,.int .i64 0,.bool false,.int .i64 0,.bool false,.bool false],.agg #[.int .i64 f.vec,.int .i64 f.code,.int .u32 f.cr2]]:=by unfold fdV;rw [hr];rfl
  rw [hv]
  have HR:Hid (∀ W,Calls Tryz.prog 154 #[f.val] W fun e w'=>e=.panicked (pan f)∧Kp noB W w'):=fun W=>cRaise_no W f (findO_ft hr).ne
  unfold Ft.val at HR
  have HR1:Hid _:=hr
  clear hr hv
  go_wp2_with (go_at_call 154;refine Calls.mono (HR.out _) ?_;rintro e w3 ⟨rfl,k3⟩)
  refine ⟨rfl,by unfold OE;rw [HR1.out],?_⟩
  obtain ⟨⟨t,a,b⟩,kk⟩:=HX2.out
  have k4:=((Kp.alloc noB w2 _).trans (Kp.alloc noB _ _)).trans k3
  exact ⟨⟨t,a,b.kp0 k4⟩,((HK0.out.mono (fun _ _ f=>f.elim)).trans kk).trans (k4.mono (fun _ _ f=>f.elim))⟩
 | inr d=>
  have hv:fdV (findO M x s)=.tuple #[.agg #[.int .u32 d.b,.int .u32 d.l,.int .i64 d.t,.bool d.s,.int .i64 d.d,.bool d.p,.bool d.g],.agg #[.int .i64 (-1),.int .i64 (-1),.int .u32 0]]:=by unfold fdV;rw [hr];rfl
  rw [hv]
  have HR:Hid (∀ W,Calls Tryz.prog 154 #[noFt.val] W fun e w'=>e=.returned (.tuple #[])∧Kp noB W w'):=fun W=>cRaise_ok W
  unfold Ft.val noFt at HR
  have HR1:Hid _:=hr
  clear hr hv
  obtain ⟨F,hF⟩:∃ F,F=w2.heap.size:=⟨_,rfl⟩
  obtain ⟨W3,hW3⟩:∃ W,W=w2.alloc (.cells #[.int .u32 d.b,.int .u32 d.l,.int .i64 d.t,.bool d.s,.int .i64 d.d,.bool d.p,.bool d.g] 26):=⟨_,rfl⟩
  have d3:DsAt W3 F d:=by rw [hW3,hF];exact (MapKept.heap_alloc w2 _).1
  obtain ⟨W4,hW4⟩:∃ W,W=W3.alloc (.cells #[.int .i64 (-1),.int .i64 (-1),.int .u32 0] 44):=⟨_,rfl⟩
  have k23:Kp noB w2 W3:=by rw [hW3];exact Kp.alloc _ _ _
  have k34:Kp noB W3 W4:=by rw [hW4];exact Kp.alloc _ _ _
  go_wp2_with fail
  rw [← hW3,← hW4,← hF]
  refine Calls.mono (HR.out _) ?_;rintro e w5 ⟨rfl,k5⟩
  have kq:=(k23.trans k34).trans k5
  have e5:=d3.kp (k34.trans k5) id
  have D5:=DsAt.kp D2.out kq id
  obtain ⟨g0,g1,g2,g3,g4,g5,g6⟩:=e5.c
  obtain ⟨u0,u1,u2,u3,u4,u5,u6⟩:=D5.c
  unfold zD at u0 u1 u2 u3 u4 u5 u6
  have f0:=D5.fz 0;have f1:=D5.fz 1;have f2:=D5.fz 2;have f3:=D5.fz 3;have f4:=D5.fz 4;have f5:=D5.fz 5;have f6:=D5.fz 6
  have dE:=D5.set d
  have kE:=kp_putD w5 D d
  obtain ⟨v0,v1,v2,v3,v4,v5,v6⟩:=dE.c
  have HP:Hid (Px w c tn T x n (findO M x s).m 4 (putD w5 D d)):=by
   obtain ⟨⟨t,a,b⟩,kk⟩:=HX2.out
   obtain ⟨_,h1,h2,h3,h4,h5,h6⟩:=HD.out
   exact ⟨⟨t,a,(b.kp0 kq).kp kE h4 h5 h3⟩,(((HK0.out.mono (fun _ _ f=>f.elim)).trans kk).trans (kq.mono (fun _ _ f=>f.elim))).over kE (fun j hj e=>absurd hj (by omega))⟩
  unfold putD at v0 v1 v2 v3 v4 v5 v6 HP
  clear e5 D5 dE kE kq k23 k34 k5 d3 hW3 hW4 hF HR D2 HX2
  go_wp2
  refine bodyPost_ret (v:=d.val) (by unfold Dsc.val;simp [results,Tryz.results146,go_sem,v0,v1,v2,v3,v4,v5,v6]) rfl ⟨by unfold OE;rw [HR1.out],HP.out⟩
theorem tfind_any (w:World) (c:Ev) (tn T:Nat) (x n:Cu) (M:Mem) (h:Tn w c tn T x n M) (s v cd:Int) (hs:U16 s) (htn:tn < 18446744073709551600):
  Calls Tryz.prog 146 #[.pointer (some ⟨T,0,none⟩),.int .u16 s,.int .i64 v,.int .i64 cd] w fun e w'=>e=OE Dsc.val (tfindO M x s v cd)∧Px w c tn T x n (tfindO M x s v cd).m 4 w':=by
 by_cases hb:cdO s=0∨farS s x.gl=true
 ·have e:tfindO M x s v cd=⟨M,.inl ⟨v,cd,0⟩⟩:=by unfold tfindO;rw [if_pos hb];rfl
  rw [e]
  refine (tfind_no w c tn T x n M h s v cd hs hb).mono ?_
  rintro e w' ⟨rfl,k⟩
  exact ⟨rfl,⟨tn,by omega,h.kp0 k⟩,k.mono (fun _ _ f=>f.elim)⟩
 ·have e:tfindO M x s v cd=findO M x s:=by unfold tfindO;rw [if_neg hb]
  rw [e]
  exact tfind_ok w c tn T x n M h s v cd hs (fun e=>hb (.inl e)) (by cases h:farS s x.gl with | true=>exact absurd (.inr h) hb | false=>rfl) htn
theorem fQ_rdb {M:Mem} (h:RdB M) (pg:Bool) (c l:Int) (n:Nat) (wr us wp:Bool):RdB (findQ M pg c l n wr us wp).m:=by
 unfold findQ
 split
 ·exact h
 split
 ·exact h
 split
 ·exact h.find _ _ _ _ _
 split
 ·exact h.find _ _ _ _ _
 ·exact (h.find _ _ _ _ _).find _ _ _ _ _
theorem sQ_rdb {M:Mem} (h:RdB M) (c:Cp) (l z:Int) (wr:Bool):RdB (sysQ M c l z wr).m:=by
 unfold sysQ
 split
 ·exact h
 ·exact fQ_rdb h _ _ _ _ _ _ _
theorem gQ_rdb {M:Mem} (h:RdB M) (c:Cp) (k off z:Int) (wr:Bool):RdB (segQ M c k off z wr).m:=by
 unfold segQ
 split
 ·exact h
 split
 ·exact h
 ·exact fQ_rdb h _ _ _ _ _ _ _
structure Fine {α:Type} (P:α→Prop) (o:Ou α):Prop where
 rd:RdB o.m
 no:∀ f,o.r=.inl f→Ft3 f∨f.vec=8
 ok:∀ a,o.r=.inr a→P a
theorem Fine.bind {α β:Type} {P:α→Prop} {Q:β→Prop} {o:Ou α} (h:Fine P o) {g:Mem→α→Ou β} (hg:∀ M a,RdB M→P a→Fine Q (g M a)):Fine Q (o.bind g):=by
 unfold Ou.bind
 cases hr:o.r with
 | inl f=>exact ⟨h.rd,fun f' e=>(by cases e;exact h.no f hr),fun a e=>by cases e⟩
 | inr a=>exact hg o.m a h.rd (h.ok a hr)
theorem Fine.ret {α:Type} {P:α→Prop} {M:Mem} (h:RdB M) {a:α} (ha:P a):Fine P (Ou.ok M a):=⟨h,fun f e=>(by cases e),fun b e=>by cases e;exact ha⟩
theorem Fine.bad {α:Type} {P:α→Prop} {M:Mem} (h:RdB M) {v c:Int} (hv:Ft3 ⟨v,c,0⟩∨v=8):Fine P (Ou.no (α:=α) M v c):=⟨h,fun f e=>(by cases e;exact hv),fun b e=>by cases e⟩
theorem fine_sys {M:Mem} (h:RdB M) (c:Cp) (l z:Int):Fine U32 (sysO M c l z):=by
 have hr:=sQ_rdb h c l z false
 unfold sysO
 cases hf:(sysQ M c l z false).f with
 | some f=>rw [ou_no hf];exact ⟨hr,fun f' e=>(by cases e;exact .inl (sysQ_ft hf)),fun a e=>by cases e⟩
 | none=>rw [ou_ok hf];exact ⟨hr,fun f' e=>(by cases e),fun a e=>by cases e;exact qval_bd hr⟩
theorem fine_lod {M:Mem} (h:RdB M) (c:Cp) (l z:Int):Fine U32 (lodO M c l z):=by
 have hr:=gQ_rdb h c 2 l z false
 unfold lodO
 cases hf:(segQ M c 2 l z false).f with
 | some f=>rw [ou_no hf];exact ⟨hr,fun f' e=>(by cases e;exact .inl (segQ_ft hf)),fun a e=>by cases e⟩
 | none=>rw [ou_ok hf];exact ⟨hr,fun f' e=>(by cases e),fun a e=>by cases e;exact qval_bd hr⟩
theorem ft3_13 (c:Int):Ft3 ⟨13,c,0⟩:=by unfold Ft3;simp
theorem fine_find {M:Mem} (h:RdB M) (x:Cu) (s:Int):Fine Dsc.Ok (findO M x s):=by
 unfold findO
 split
 ·exact .bad h (.inl (ft3_13 _))
 ·exact (fine_sys h _ _ _).bind (fun M a hM ha=>(fine_sys hM _ _ _).bind (fun M b hM hb=>.ret hM (parseD_ok ha hb)))
theorem fine_tfind {M:Mem} (h:RdB M) (x:Cu) (s v c:Int) (hv:Ft3 ⟨v,c,0⟩):Fine Dsc.Ok (tfindO M x s v c):=by
 unfold tfindO
 split
 ·exact .bad h (.inl hv)
 ·exact fine_find h x s
theorem gateD_ok {lo hi:Int} (hl:U32 lo) (hh:U32 hi):(gateD lo hi).Ok where
 s:=by have:=hl.1;have:=hl.2;unfold gateD U16;dsimp only;omega
 pl:=by
  have a:=and_bd hh.1 hh.2 (b:=4294901760) (by decide) (by decide)
  have b:=and_bd hl.1 hl.2 (b:=65535) (by decide) (by decide)
  exact or_bd a.1 a.2 b.1 b.2
theorem fine_gate {M:Mem} (h:RdB M) (x:Cu) (v:Int) (so:Bool) (c:Int):Fine Gt.Ok (gateO M x v so c):=by
 unfold gateO
 split
 ·exact .bad h (.inl (ft3_13 _))
 ·refine (fine_sys h _ _ _).bind (fun M a hM ha=>(fine_sys hM _ _ _).bind (fun M b hM hb=>?_))
  split
  ·exact .bad hM (.inl (ft3_13 _))
  split
  ·exact .bad hM (.inl (by unfold Ft3;simp))
  ·exact .ret hM (gateD_ok ha hb)
theorem codeB_v (t d:Int) (s p g:Bool) (r k:Int):Sg.codeB t d s p g r k=-1∨Sg.codeB t d s p g r k=11∨Sg.codeB t d s p g r k=13:=by
 unfold Sg.codeB Sg.presB
 split
 ·cases p<;>simp
 ·simp
theorem fine_hand {M:Mem} (h:RdB M) (x:Cu) (g:Gt) (o:Int):Fine Dsc.Ok (handO M x g o):=by
 unfold handO
 refine (fine_tfind h x _ _ _ (ft3_13 _)).bind (fun M d hM hd=>?_)
 split
 ·rename_i hv
  refine .bad hM (.inl ?_)
  rcases codeB_v d.t d.d d.s d.p d.g 0 (min d.d x.rg) with e | e | e
  ·omega
  ·unfold Ft3;simp only;omega
  ·unfold Ft3;simp only;omega
 split
 ·exact .bad hM (.inl (ft3_13 _))
 ·exact .ret hM hd
theorem fine_stack {M:Mem} (h:RdB M) (x:Cu) (s r v c:Int) (hs:U16 s) (hv:Ft3 ⟨v,c,0⟩):Fine SgR.Wf (stackO M x s r v c):=by
 unfold stackO
 refine (fine_tfind h x _ _ _ hv).bind (fun M d hM hd=>?_)
 split
 ·exact .bad hM (.inl hv)
 split
 ·exact .bad hM (.inl (by unfold Ft3;simp))
 ·exact .ret hM (hd.sg hs)
def SgR.val (s:SgR):Value:=.agg #[.int .u16 s.sel,.bool s.nl,.int .u32 s.b,.int .u32 s.l,.int .i64 s.t,.bool s.s,.int .i64 s.d,.bool s.p,.bool s.g]
def zS:SgR:=⟨0,false,0,0,0,false,0,false,false⟩
def SrAt (w:World) (b:Nat) (s:SgR):Prop:=w.heap[b]?=some (.cells #[.int .u16 s.sel,.bool s.nl,.int .u32 s.b,.int .u32 s.l,.int .i64 s.t,.bool s.s,.int .i64 s.d,.bool s.p,.bool s.g] 28 (0,0))
def putS (w:World) (b:Nat) (s:SgR):World:=((((((((w.setCell ⟨b,0,none⟩ (.int .u16 s.sel)).setCell ⟨b,1,none⟩ (.bool s.nl)).setCell ⟨b,2,none⟩ (.int .u32 s.b)).setCell ⟨b,3,none⟩ (.int .u32 s.l)).setCell ⟨b,4,none⟩ (.int .i64 s.t)).setCell ⟨b,5,none⟩ (.bool s.s)).setCell ⟨b,6,none⟩ (.int .i64 s.d)).setCell ⟨b,7,none⟩ (.bool s.p)).setCell ⟨b,8,none⟩ (.bool s.g)
theorem SrAt.lt {w:World} {b:Nat} {s:SgR} (h:SrAt w b s):b < w.heap.size:=(Array.getElem?_eq_some_iff.1 h).1
theorem SrAt.kp {S:Nat→Prop} {w w':World} {b:Nat} {s:SgR} (h:SrAt w b s) (k:Kp S w w') (hS:¬ S b):SrAt w' b s:=(k.block b h.lt hS).trans h
theorem SrAt.set {w:World} {b:Nat} {s:SgR} (h:SrAt w b s) (e:SgR):SrAt (putS w b e) b e:=by
 have q:(((((((((#[.int .u16 s.sel,.bool s.nl,.int .u32 s.b,.int .u32 s.l,.int .i64 s.t,.bool s.s,.int .i64 s.d,.bool s.p,.bool s.g]:Array Value).setIfInBounds 0 (.int .u16 e.sel)).setIfInBounds 1 (.bool e.nl)).setIfInBounds 2 (.int .u32 e.b)).setIfInBounds 3 (.int .u32 e.l)).setIfInBounds 4 (.int .i64 e.t)).setIfInBounds 5 (.bool e.s)).setIfInBounds 6 (.int .i64 e.d)).setIfInBounds 7 (.bool e.p)).setIfInBounds 8 (.bool e.g)=#[.int .u16 e.sel,.bool e.nl,.int .u32 e.b,.int .u32 e.l,.int .i64 e.t,.bool e.s,.int .i64 e.d,.bool e.p,.bool e.g]:=by kernel_rfl
 unfold SrAt putS
 rw [← q]
 exact heap_nine h _ _ _ _ _ _ _ _ _ _ _ _ _ _ _ _ _ _
theorem SrAt.c {w:World} {q:Nat} {s:SgR} (h:SrAt w q s):w.cell? ⟨q,0,none⟩=some (.int .u16 s.sel)∧w.cell? ⟨q,1,none⟩=some (.bool s.nl)∧w.cell? ⟨q,2,none⟩=some (.int .u32 s.b)∧w.cell? ⟨q,3,none⟩=some (.int .u32 s.l)∧w.cell? ⟨q,4,none⟩=some (.int .i64 s.t)∧w.cell? ⟨q,5,none⟩=some (.bool s.s)∧w.cell? ⟨q,6,none⟩=some (.int .i64 s.d)∧w.cell? ⟨q,7,none⟩=some (.bool s.p)∧w.cell? ⟨q,8,none⟩=some (.bool s.g):=by
 unfold SrAt at h
 simp only [cell_at h]
 exact ⟨rfl,rfl,rfl,rfl,rfl,rfl,rfl,rfl,rfl⟩
theorem SrAt.fz {w:World} {q:Nat} {s:SgR} (h:SrAt w q s) (j:Nat):w.frozen? ⟨q,j,none⟩=false:=frozen_at h
theorem kp_putS (w:World) (q:Nat) (s:SgR):Kp (fun j=>j=q) w (putS w q s):=by
 have k:∀ (W:World) (o:Nat) (v:Value),Kp (fun j=>j=q) W (W.setCell ⟨q,o,none⟩ v):=fun W o v=>Kp.setCell (S:=fun j=>j=q) W (p:=⟨q,o,none⟩) rfl v
 exact ((((((((k _ _ _).trans (k _ _ _)).trans (k _ _ _)).trans (k _ _ _)).trans (k _ _ _)).trans (k _ _ _)).trans (k _ _ _)).trans (k _ _ _)).trans (k _ _ _)
theorem Px.kp0 {w w1 w2:World} {c:Ev} {tn T k:Nat} {x n:Cu} {M:Mem} (h:Px w c tn T x n M k w1) (k2:Kp noB w1 w2):Px w c tn T x n M k w2:=by
 obtain ⟨⟨t,a,b⟩,kk⟩:=h
 exact ⟨⟨t,a,b.kp0 k2⟩,kk.trans (k2.mono (fun _ _ f=>f.elim))⟩
theorem Px.pre {w0 w w1:World} {c:Ev} {tn T k:Nat} {x n:Cu} {M:Mem} (k0:Kp noB w0 w) (h:Px w c tn T x n M k w1):Px w0 c tn T x n M k w1:=⟨h.1,(k0.mono (fun _ _ f=>f.elim)).trans h.2⟩
theorem Px.own {w w1 w2:World} {c:Ev} {tn T k:Nat} {x n:Cu} {M:Mem} (h:Px w c tn T x n M k w1) {X:Nat} (hX:w.heap.size≤X) (h0:∀ j,c.all j→j < w.heap.size) (hE:c.E < w.heap.size) (hT:T < w.heap.size) (kX:Kp (fun j=>j=X) w1 w2):Px w c tn T x n M k w2:=by
 obtain ⟨⟨t,a,b⟩,kk⟩:=h
 exact ⟨⟨t,a,b.kp kX (by omega) (by omega) (fun j hj=>by have:=h0 j hj;omega)⟩,kk.over kX (fun j hj e=>absurd hj (by omega))⟩
theorem Px.more {w w1:World} {c:Ev} {tn T k k':Nat} {x n:Cu} {M:Mem} (h:Px w c tn T x n M k w1) (hk:k≤k'):Px w c tn T x n M k' w1:=by
 obtain ⟨⟨t,a,b⟩,kk⟩:=h
 exact ⟨⟨t,by omega,b⟩,kk⟩
theorem stack_any (w:World) (c:Ev) (tn T:Nat) (x n:Cu) (M:Mem) (h:Tn w c tn T x n M) (s r v cd:Int) (hs:U16 s) (hv:Ft3 ⟨v,cd,0⟩) (htn:tn < 18446744073709551600):
  Calls Tryz.prog 148 #[.pointer (some ⟨T,0,none⟩),.int .u16 s,.int .i64 r,.int .i64 v,.int .i64 cd] w fun e w'=>e=OE SgR.val (stackO M x s r v cd)∧Px w c tn T x n (stackO M x s r v cd).m 4 w':=by
 obtain ⟨X,hX⟩:∃ X,X=w.heap.size:=⟨_,rfl⟩
 obtain ⟨W0,hW0⟩:∃ W,W=w.alloc (.cells #[.int .u16 0,.bool false,.int .u32 0,.int .u32 0,.int .i64 0,.bool false,.int .i64 0,.bool false,.bool false] 28):=⟨_,rfl⟩
 have sA:SrAt W0 X zS:=by rw [hW0,hX];exact (MapKept.heap_alloc w _).1
 have k0:Kp noB w W0:=by rw [hW0];exact Kp.alloc _ _ _
 have h0:=h.kp0 k0
 have HC:=tfind_any W0 c tn T x n M h0 s v cd hs htn
 have hfn:=fine_tfind h.a.v.ram.rdB x s v cd hv
 obtain ⟨o,ho⟩:∃ o,o=tfindO M x s v cd:=⟨_,rfl⟩
 have HS:Hid (stackO M x s r v cd=o.bind fun M d=>if Sg.fitB 2 d.t d.d d.s d.p (s%4) r=13 then .no M v cd else if Sg.fitB 2 d.t d.d d.s d.p (s%4) r=12 then .no M 12 cd else .ok M (d.sg s)):=by rw [ho];rfl
 rw [← ho] at HC hfn
 have HX:Hid (SrAt W0 X zS∧w.heap.size≤X∧¬ c.md X∧(∀ j,c.all j→j < w.heap.size)∧c.E < w.heap.size∧T < w.heap.size):=⟨sA,by omega,fun f=>(by have:=h.a.in_md f;omega),fun j hj=>h.a.in_all hj,h.a.lt,h.t.lt⟩
 have HK0:Hid _:=k0
 cases hr:o.r with
 | inl f=>
  have HC1:Hid (Calls Tryz.prog 146 #[.pointer (some ⟨T,0,none⟩),.int .u16 s,.int .i64 v,.int .i64 cd] W0 fun e w'=>e=.panicked (pan f)∧Px W0 c tn T x n o.m 4 w'):=HC.mono (fun e w' ⟨a,p⟩=>⟨by rw [a];unfold OE;rw [hr],p⟩)
  have hS:stackO M x s r v cd=⟨o.m,.inl f⟩:=by rw [HS.out];unfold Ou.bind;rw [hr]
  rw [hS]
  clear HC hfn h h0 k0 sA hS ho
  go_enter Tryz.func148,Tryz.ntmps148
  go_wp2_with fail
  rw [← hW0]
  refine Calls.mono HC1.out ?_;rintro e w2 ⟨rfl,p2⟩
  exact ⟨rfl,rfl,p2.pre HK0.out⟩
 | inr d=>
  have HC1:Hid (Calls Tryz.prog 146 #[.pointer (some ⟨T,0,none⟩),.int .u16 s,.int .i64 v,.int .i64 cd] W0 fun e w'=>e=.returned (.agg #[.int .u32 d.b,.int .u32 d.l,.int .i64 d.t,.bool d.s,.int .i64 d.d,.bool d.p,.bool d.g])∧Px W0 c tn T x n o.m 4 w'):=HC.mono (fun e w' ⟨a,p⟩=>⟨by rw [a];unfold OE;rw [hr];rfl,p⟩)
  have hd:=hfn.ok d hr
  have t0:=hd.t.1;have t1:=hd.t.2
  have HFit:Hid (∀ W,_):=fun W=>Sg.fit_any d.b d.l d.t d.s d.d d.p d.g 2 s r W (by omega) (by omega) hs.1 hs.2
  obtain ⟨fv,hfv⟩:∃ fv,fv=Sg.fitB 2 d.t d.d d.s d.p (s%4) r:=⟨_,rfl⟩
  have hS:stackO M x s r v cd=if fv=13 then .no o.m v cd else if fv=12 then .no o.m 12 cd else .ok o.m (d.sg s):=by rw [HS.out];unfold Ou.bind;rw [hr,hfv]
  rw [← hfv] at HFit
  have HS2:Hid _:=hS
  clear HC hfn h h0 k0 sA hS ho hfv hd t0 t1 HS
  go_enter Tryz.func148,Tryz.ntmps148
  go_wp2_with fail
  rw [← hW0,← hX]
  clear hW0 hX
  refine Calls.mono HC1.out ?_;rintro e w2 ⟨rfl,p2⟩
  obtain ⟨F,hF⟩:∃ F,F=w2.heap.size:=⟨_,rfl⟩
  obtain ⟨W3,hW3⟩:∃ W,W=w2.alloc (.cells #[.int .u32 d.b,.int .u32 d.l,.int .i64 d.t,.bool d.s,.int .i64 d.d,.bool d.p,.bool d.g] 26):=⟨_,rfl⟩
  have d3:DsAt W3 F d:=by rw [hW3,hF];exact (MapKept.heap_alloc w2 _).1
  have k23:Kp noB w2 W3:=by rw [hW3];exact Kp.alloc _ _ _
  have HP3:Hid (Px W0 c tn T x n o.m 4 W3):=p2.kp0 k23
  obtain ⟨g0,g1,g2,g3,g4,g5,g6⟩:=d3.c
  go_wp2_with fail
  rw [← hW3,← hF]
  clear hW3 hF
  refine Calls.mono (HFit.out _) ?_;rintro e w4 ⟨rfl,q4⟩
  have k4:=kp_grown q4
  have p4:=HP3.out.kp0 k4
  have d4:=d3.kp k4 id
  have s4:=HX.out.1.kp p4.2 HX.out.2.2.1
  clear g0 g1 g2 g3 g4 g5 g6 d3 k23 q4 HP3 HFit HC1 p2
  by_cases h13:fv=13
  ·have HS3:Hid (stackO M x s r v cd=.no o.m v cd):=HS2.out.trans (if_pos h13)
   subst h13
   have HP:Hid (Px W0 c tn T x n o.m 4 w4):=p4
   go_wp2_with (go_at_call 143;refine Calls.mono (cFault_any _ _ _) ?_;rintro e w5 ⟨rfl,k5⟩)
   exact ⟨rfl,by rw [HS3.out];rfl,by rw [HS3.out];exact Px.pre HK0.out (Px.kp0 HP.out k5)⟩
  by_cases h12:fv=12
  ·have HS3:Hid (stackO M x s r v cd=.no o.m 12 cd):=HS2.out.trans ((if_neg h13).trans (if_pos h12))
   subst h12
   have HP:Hid (Px W0 c tn T x n o.m 4 w4):=p4
   go_wp2_with (go_at_call 143;refine Calls.mono (cFault_any _ _ _) ?_;rintro e w5 ⟨rfl,k5⟩)
   exact ⟨rfl,by rw [HS3.out];rfl,by rw [HS3.out];exact Px.pre HK0.out (Px.kp0 HP.out k5)⟩
  have b13:(fv==13)=false:=by simpa using h13
  have b12:(fv==12)=false:=by simpa using h12
  obtain ⟨g0,g1,g2,g3,g4,g5,g6⟩:=d4.c
  obtain ⟨u0,u1,u2,u3,u4,u5,u6,u7,u8⟩:=SrAt.c s4
  unfold zS at u0 u1 u2 u3 u4 u5 u6 u7 u8
  have f0:=SrAt.fz s4 0;have f1:=SrAt.fz s4 1;have f2:=SrAt.fz s4 2;have f3:=SrAt.fz s4 3;have f4:=SrAt.fz s4 4;have f5:=SrAt.fz s4 5;have f6:=SrAt.fz s4 6;have f7:=SrAt.fz s4 7;have f8:=SrAt.fz s4 8
  have sE:=SrAt.set s4 (d.sg s)
  have kE:=kp_putS w4 X (d.sg s)
  obtain ⟨v0,v1,v2,v3,v4,v5,v6,v7,v8⟩:=sE.c
  have HP:Hid (Px w c tn T x n o.m 4 (putS w4 X (d.sg s))):=(p4.pre HK0.out).own HX.out.2.1 HX.out.2.2.2.1 HX.out.2.2.2.2.1 HX.out.2.2.2.2.2 kE
  unfold putS at v0 v1 v2 v3 v4 v5 v6 v7 v8 HP
  unfold Dsc.sg at v0 v1 v2 v3 v4 v5 v6 v7 v8 HP
  clear sE kE s4 d4 p4 k4
  go_wp2
  refine bodyPost_ret (v:=(d.sg s).val) (by unfold SgR.val Dsc.sg;simp [results,Tryz.results148,go_sem,v0,v1,v2,v3,v4,v5,v6,v7,v8]) rfl ⟨by rw [HS2.out,if_neg h13,if_neg h12];rfl,by rw [HS2.out,if_neg h13,if_neg h12];exact HP.out⟩
def GtAt (w:World) (b:Nat) (g:Gt):Prop:=w.heap[b]?=some (.cells #[.int .u16 g.s,.int .u32 g.pl,.int .i64 g.k,.int .i64 g.r,.bool g.p] 156 (0,0))
def zG:Gt:=⟨0,0,0,0,false⟩
def putG (w:World) (b:Nat) (g:Gt):World:=((((w.setCell ⟨b,0,none⟩ (.int .u16 g.s)).setCell ⟨b,1,none⟩ (.int .u32 g.pl)).setCell ⟨b,2,none⟩ (.int .i64 g.k)).setCell ⟨b,3,none⟩ (.int .i64 g.r)).setCell ⟨b,4,none⟩ (.bool g.p)
theorem GtAt.lt {w:World} {b:Nat} {g:Gt} (h:GtAt w b g):b < w.heap.size:=(Array.getElem?_eq_some_iff.1 h).1
theorem GtAt.kp {S:Nat→Prop} {w w':World} {b:Nat} {g:Gt} (h:GtAt w b g) (k:Kp S w w') (hS:¬ S b):GtAt w' b g:=(k.block b h.lt hS).trans h
theorem GtAt.set {w:World} {b:Nat} {g:Gt} (h:GtAt w b g) (e:Gt):GtAt (putG w b e) b e:=heap_setCell_at (heap_setCell_at (heap_setCell_at (heap_setCell_at (heap_setCell_at h _) _) _) _) _
theorem GtAt.c {w:World} {q:Nat} {g:Gt} (h:GtAt w q g):w.cell? ⟨q,0,none⟩=some (.int .u16 g.s)∧w.cell? ⟨q,1,none⟩=some (.int .u32 g.pl)∧w.cell? ⟨q,2,none⟩=some (.int .i64 g.k)∧w.cell? ⟨q,3,none⟩=some (.int .i64 g.r)∧w.cell? ⟨q,4,none⟩=some (.bool g.p):=by
 unfold GtAt at h
 simp only [cell_at h]
 exact ⟨rfl,rfl,rfl,rfl,rfl⟩
theorem GtAt.fz {w:World} {q:Nat} {g:Gt} (h:GtAt w q g) (j:Nat):w.frozen? ⟨q,j,none⟩=false:=frozen_at h
theorem kp_putG (w:World) (q:Nat) (g:Gt):Kp (fun j=>j=q) w (putG w q g):=by
 have k:∀ (W:World) (o:Nat) (v:Value),Kp (fun j=>j=q) W (W.setCell ⟨q,o,none⟩ v):=fun W o v=>Kp.setCell (S:=fun j=>j=q) W (p:=⟨q,o,none⟩) rfl v
 exact ((((k _ _ _).trans (k _ _ _)).trans (k _ _ _)).trans (k _ _ _)).trans (k _ _ _)
set_option maxHeartbeats 4000000 in
theorem gate_any (w:World) (c:Ev) (tn T:Nat) (x n:Cu) (M:Mem) (h:Tn w c tn T x n M) (v cd:Int) (so:Bool) (hv:0≤v∧v < 256) (htn:tn < 18446744073709551500):
  Calls Tryz.prog 71 #[.pointer (some ⟨T,0,none⟩),.int .i64 v,.bool so,.int .i64 cd] w fun e w'=>e=OE Gt.val (gateO M x v so cd)∧Px w c tn T x n (gateO M x v so cd).m 4 w':=by
 obtain ⟨X,hX⟩:∃ X,X=w.heap.size:=⟨_,rfl⟩
 obtain ⟨W0,hW0⟩:∃ W,W=w.alloc (.cells #[.int .u16 0,.int .u32 0,.int .i64 0,.int .i64 0,.bool false] 156):=⟨_,rfl⟩
 have gA:GtAt W0 X zG:=by rw [hW0,hX];exact (MapKept.heap_alloc w _).1
 have kA:Kp noB w W0:=by rw [hW0];exact Kp.alloc _ _ _
 have hA:=h.kp0 kA
 have HWas:Hid (Calls Tryz.prog 85 #[.pointer (some ⟨T,0,none⟩)] W0 fun e w'=>e=.returned (.pointer (some ⟨c.E,0,none⟩))∧w'=W0):=cWas_any W0 T c.E hA.t.e hA.a.lt
 have ci:=hA.a.c (k:=69) rfl
 have cl:=hA.a.c (k:=70) rfl
 obtain ⟨W1,hW1⟩:∃ W,W=W0.alloc (.cells #[.int .u32 x.ib,.int .u16 x.il] 31):=⟨_,rfl⟩
 have k1:Kp noB W0 W1:=by rw [hW1];exact Kp.alloc _ _ _
 have g1:=gA.kp k1 id
 have h1:=hA.kp0 k1
 have hl0:=h.a.ok.il.1;have hl1:=h.a.ok.il.2
 have ww:IntKind.i64.wrap x.il=x.il:=by have:=IntKind.wrap_i64 x.il;omega
 have w8:IntKind.i64.wrap (8*v)=8*v:=by have:=IntKind.wrap_i64 (8*v);omega
 have w9:IntKind.i64.wrap (8*v+7)=8*v+7:=by have:=IntKind.wrap_i64 (8*v+7);omega
 have u1:IntKind.u32.wrap v=v:=by have:=IntKind.wrap_u32 v;omega
 have u2:IntKind.u32.wrap (8*v)=8*v:=by have:=IntKind.wrap_u32 (8*v);omega
 have u3:=a32_wrap x.ib (8*v)
 have HX:Hid (GtAt W1 X zG∧w.heap.size≤X∧¬ c.md X∧(∀ j,c.all j→j < w.heap.size)∧c.E < w.heap.size∧T < w.heap.size):=⟨g1,by omega,fun f=>(by have:=h.a.in_md f;omega),fun j hj=>h.a.in_all hj,h.a.lt,h.t.lt⟩
 have HK:Hid (Kp noB w W1):=kA.trans k1
 have HH:Hid (Tn W1 c tn T x n M):=h1
 by_cases hlim:x.il < 8*v+7
 ·have e:gateO M x v so cd=⟨M,.inl ⟨13,cd,0⟩⟩:=by unfold gateO;rw [if_pos hlim];rfl
  have hd:decide (x.il < 8*v+7)=true:=decide_eq_true hlim
  rw [e]
  clear h hA h1 g1 gA kA k1 hv hlim e
  go_enter Tryz.func71,Tryz.ntmps71
  go_wp2_with fail
  rw [← hW0]
  clear hW0
  refine Calls.mono HWas.out ?_;rintro e w' ⟨rfl,hw⟩;replace hw:=hw.symm;subst hw
  go_wp2_with fail
  rw [← hW1]
  refine Calls.mono (cFault_any _ _ _) ?_;rintro e w5 ⟨rfl,k5⟩
  go_wp2
  exact ⟨rfl,rfl,⟨tn,by omega,HH.out.kp0 k5⟩,(HK.out.trans k5).mono (fun _ _ f=>f.elim)⟩
 ·have hd:decide (x.il < 8*v+7)=false:=decide_eq_false hlim
  obtain ⟨at1,hat⟩:∃ a,a=a32 x.ib (8*v):=⟨_,rfl⟩
  have ha1:U32 at1:=by rw [hat];exact a32_bd _ _
  rw [← hat] at u3
  have u4:=a32_wrap at1 4
  have HO1:=own_any W1 c tn T x n M h1 at1 4 ha1 (by omega)
  have HO2:Hid (∀ W t N,t≤tn+2→Tn W c t T x n N→Calls Tryz.prog 144 #[.pointer (some ⟨T,0,none⟩),.int .u32 (a32 at1 4),.int .i64 4] W fun e w'=>e=OE vI32 (sysO N x.cp (a32 at1 4) 4)∧Px W c t T x n (sysO N x.cp (a32 at1 4) 4).m 2 w'):=fun W t N ht q=>own_any W c t T x n N q (a32 at1 4) 4 (a32_bd _ _) (by have:=htn;clear ww w8 w9 u1 u2;omega)
  have HG:gateO M x v so cd=(sysO M x.cp at1 4).bind fun M lo=>(sysO M x.cp (a32 at1 4) 4).bind fun M hi=>if badG (gateD lo hi) so x.rg then .no M 13 cd else if (gateD lo hi).p=false then .no M 11 cd else .ok M (gateD lo hi):=by unfold gateO;rw [if_neg hlim,hat]
  have f1:=fine_sys h.a.v.ram.rdB x.cp at1 4
  obtain ⟨o1,ho1⟩:∃ o,o=sysO M x.cp at1 4:=⟨_,rfl⟩
  rw [← ho1] at HG HO1 f1
  clear h hA h1 g1 gA kA k1 hv hlim hl0 hl1 hat ha1 ho1
  cases hr1:o1.r with
  | inl f=>
   have HC:Hid (Calls Tryz.prog 144 #[.pointer (some ⟨T,0,none⟩),.int .u32 at1,.int .i64 4] W1 fun e w'=>e=.panicked (pan f)∧Px W1 c tn T x n o1.m 2 w'):=HO1.mono (fun e w' ⟨a,p⟩=>⟨by rw [a];unfold OE;rw [hr1],p⟩)
   have HS:Hid (gateO M x v so cd=⟨o1.m,.inl f⟩):=by rw [HG];unfold Ou.bind;rw [hr1];exact rfl
   clear HG HO1 f1 HO2 hr1
   go_enter Tryz.func71,Tryz.ntmps71
   go_wp2_with fail
   rw [← hW0]
   clear hW0
   refine Calls.mono HWas.out ?_;rintro e w' ⟨rfl,hw⟩;replace hw:=hw.symm;subst hw
   go_wp2_with fail
   rw [← hW1]
   refine Calls.mono HC.out ?_;rintro e w2 ⟨rfl,p2⟩
   exact ⟨rfl,by rw [HS.out];rfl,by rw [HS.out];exact (p2.pre HK.out).more (by omega)⟩
  | inr lo=>
   have HC:Hid (Calls Tryz.prog 144 #[.pointer (some ⟨T,0,none⟩),.int .u32 at1,.int .i64 4] W1 fun e w'=>e=.returned (.int .u32 lo)∧Px W1 c tn T x n o1.m 2 w'):=HO1.mono (fun e w' ⟨a,p⟩=>⟨by rw [a];unfold OE;rw [hr1];rfl,p⟩)
   have hlo:=f1.ok lo hr1
   have f2:=fine_sys f1.rd x.cp (a32 at1 4) 4
   obtain ⟨o2,ho2⟩:∃ o,o=sysO o1.m x.cp (a32 at1 4) 4:=⟨_,rfl⟩
   have HG2:gateO M x v so cd=o2.bind fun M hi=>if badG (gateD lo hi) so x.rg then .no M 13 cd else if (gateD lo hi).p=false then .no M 11 cd else .ok M (gateD lo hi):=by rw [HG,ho2];unfold Ou.bind;rw [hr1]
   replace HO2:Hid (∀ W t,t≤tn+2→Tn W c t T x n o1.m→Calls Tryz.prog 144 #[.pointer (some ⟨T,0,none⟩),.int .u32 (a32 at1 4),.int .i64 4] W fun e w'=>e=OE vI32 o2∧Px W c t T x n o2.m 2 w'):=fun W t ht q=>by rw [ho2];exact HO2.out W t o1.m ht q
   rw [← ho2] at f2
   clear HG HO1 f1 hr1 ho2
   cases hr2:o2.r with
   | inl f=>
    replace HO2:Hid (∀ W t,t≤tn+2→Tn W c t T x n o1.m→Calls Tryz.prog 144 #[.pointer (some ⟨T,0,none⟩),.int .u32 (a32 at1 4),.int .i64 4] W fun e w'=>e=.panicked (pan f)∧Px W c t T x n o2.m 2 w'):=fun W t ht q=>(HO2.out W t ht q).mono (fun e w' ⟨a,p⟩=>⟨by rw [a];unfold OE;rw [hr2],p⟩)
    have HS:Hid (gateO M x v so cd=⟨o2.m,.inl f⟩):=by rw [HG2];unfold Ou.bind;rw [hr2];exact rfl
    clear HG2 hr2 f2
    go_enter Tryz.func71,Tryz.ntmps71
    go_wp2_with fail
    rw [← hW0]
    clear hW0
    refine Calls.mono HWas.out ?_;rintro e w' ⟨rfl,hw⟩;replace hw:=hw.symm;subst hw
    go_wp2_with fail
    rw [← hW1]
    refine Calls.mono HC.out ?_;rintro e w2 ⟨rfl,p2⟩
    clear hW1
    obtain ⟨⟨t2,ht2,hT2⟩,kk2⟩:=p2
    have HC2:=HO2.out w2 t2 ht2 hT2
    go_wp2_with fail
    refine Calls.mono HC2 ?_;rintro e w3 ⟨rfl,p3⟩
    have HP:Hid (Px w c tn T x n o2.m 4 w3):=by
     obtain ⟨⟨t3,ht3,hT3⟩,kk3⟩:=p3
     exact ⟨⟨t3,by omega,hT3⟩,((HK.out.mono (fun _ _ f=>f.elim)).trans kk2).trans kk3⟩
    exact ⟨rfl,by rw [HS.out];rfl,by rw [HS.out];exact HP.out⟩
   | inr hi=>
    replace HO2:Hid (∀ W t,t≤tn+2→Tn W c t T x n o1.m→Calls Tryz.prog 144 #[.pointer (some ⟨T,0,none⟩),.int .u32 (a32 at1 4),.int .i64 4] W fun e w'=>e=.returned (.int .u32 hi)∧Px W c t T x n o2.m 2 w'):=fun W t ht q=>(HO2.out W t ht q).mono (fun e w' ⟨a,p⟩=>⟨by rw [a];unfold OE;rw [hr2];rfl,p⟩)
    have hhi:=f2.ok hi hr2
    obtain ⟨g,hg⟩:∃ g,g=gateD lo hi:=⟨_,rfl⟩
    have gok:g.Ok:=by rw [hg];exact gateD_ok hlo hhi
    have hS:gateO M x v so cd=if badG g so x.rg then .no o2.m 13 cd else if g.p=false then .no o2.m 11 cd else .ok o2.m g:=by rw [HG2,hg];unfold Ou.bind;rw [hr2]
    have HS:Hid _:=hS
    clear HG2 hr2 f2 hS
    have l0:=hlo.1;have l1:=hlo.2;have i0:=hhi.1;have i1:=hhi.2
    have q1:IntKind.u16.wrap (lo / 65536)=g.s:=by have:=IntKind.wrap_u16 (lo / 65536);rw [hg];show _=lo / 65536;omega
    have q2:bits .or .u32 (bits .and .u32 hi 4294901760) (bits .and .u32 lo 65535)=g.pl:=by rw [hg];rfl
    have q3:bits .and .u32 (hi / 256) 31=g.k:=by rw [hg];exact Sg.and_low (by omega) (by omega) 31 5 (by decide) (by decide)
    have q4:bits .and .u32 (hi / 8192) 3=g.r:=by rw [hg];exact Sg.and_low (by omega) (by omega) 3 2 (by decide) (by decide)
    have q5:(bits .and .u32 (hi / 32768) 1 != 0)=g.p:=by
     rw [hg,Sg.and_low (by omega) (by omega) 1 1 (by decide) (by decide)]
     show _=decide (hi / 32768%2=1)
     rw [Bool.eq_iff_iff,bne_iff_ne,decide_eq_true_iff]
     omega
    have q6:IntKind.i64.wrap g.k=g.k:=by have:=IntKind.wrap_i64 g.k;rw [hg] at this ⊢;unfold gateD at this ⊢;dsimp only at this ⊢;omega
    have q7:IntKind.i64.wrap g.r=g.r:=by have:=IntKind.wrap_i64 g.r;rw [hg] at this ⊢;unfold gateD at this ⊢;dsimp only at this ⊢;omega
    have HRg:Hid (∀ W,Kp c.md W1 W→(∃ t,Tn W c t T x n o2.m)→Calls Tryz.prog 73 #[.pointer (some ⟨T,0,none⟩)] W fun e w'=>e=.returned (.int .i64 x.rg)∧w'=W):=fun W k ⟨t,q⟩=>cRg_any W T c.E _ ⟨(q.a.ok.sg 1 (by decide)).ok.s0,(q.a.ok.sg 1 (by decide)).ok.s1⟩ q.t.e (q.a.c rfl) q.a.lt
    clear hg hlo hhi l0 l1 i0 i1
    go_enter Tryz.func71,Tryz.ntmps71
    go_wp2_with fail
    rw [← hW0,← hX]
    clear hW0 hX
    refine Calls.mono HWas.out ?_;rintro e w' ⟨rfl,hw⟩;replace hw:=hw.symm;subst hw
    go_wp2_with fail
    rw [← hW1]
    refine Calls.mono HC.out ?_;rintro e w2 ⟨rfl,p2⟩
    clear hW1
    obtain ⟨⟨t2,ht2,hT2⟩,kk2⟩:=p2
    have HC2:=HO2.out w2 t2 ht2 hT2
    go_wp2_with fail
    refine Calls.mono HC2 ?_;rintro e w3 ⟨rfl,p3⟩
    obtain ⟨G,hGe⟩:∃ G,G=w3.heap.size:=⟨_,rfl⟩
    obtain ⟨W4,hW4⟩:∃ W,W=w3.alloc (.cells #[.int .u16 g.s,.int .u32 g.pl,.int .i64 g.k,.int .i64 g.r,.bool g.p] 156):=⟨_,rfl⟩
    have g4:GtAt W4 G g:=by rw [hW4,hGe];exact (MapKept.heap_alloc w3 _).1
    have k34:Kp noB w3 W4:=by rw [hW4];exact Kp.alloc _ _ _
    have HP:Hid (Px w c tn T x n o2.m 4 W4∧GtAt W4 X zG):=by
     obtain ⟨⟨t3,ht3,hT3⟩,kk3⟩:=p3
     refine ⟨⟨⟨t3,by omega,hT3.kp0 k34⟩,(((HK.out.mono (fun _ _ f=>f.elim)).trans kk2).trans kk3).trans (k34.mono (fun _ _ f=>f.elim))⟩,?_⟩
     exact ((HX.out.1.kp kk2 HX.out.2.2.1).kp kk3 HX.out.2.2.1).kp k34 id
    have HKN:Hid (∀ k,Kp noB W4 (W4.drewN k)):=fun k=>⟨rfl,rfl,rfl,Nat.le_refl _,fun _ _ _=>rfl⟩
    have HRr:Hid (∀ k,Calls Tryz.prog 73 #[.pointer (some ⟨T,0,none⟩)] (W4.drewN k) fun e w'=>e=.returned (.int .i64 x.rg)∧w'=W4.drewN k):=fun k=>by
     obtain ⟨⟨t,_,q⟩,_⟩:=HP.out.1
     have q':=q.kp0 (HKN.out k)
     exact cRg_any _ T c.E _ ⟨(q'.a.ok.sg 1 (by decide)).ok.s0,(q'.a.ok.sg 1 (by decide)).ok.s1⟩ q'.t.e (q'.a.c rfl) q'.a.lt
    obtain ⟨m0,m1,m2,m3,m4⟩:=g4.c
    clear HC2 hT2 ht2 kk2 p3 HO2 HC HWas HRg
    go_upto_region 8 with fail
    rw [← hW4,← hGe]
    clear hW4 hGe
    cases hbad:badG g so x.rg with
    | true=>
     have HS3:Hid (gateO M x v so cd=.no o2.m 13 cd):=HS.out.trans (if_pos hbad)
     have h3:(g.k≠14∧g.k≠15)∨(so=true∧g.r < x.rg∧(g.k=14∨g.k=15)):=by
      unfold badG at hbad
      by_cases hk:g.k≠14∧g.k≠15
      ·exact .inl hk
      ·rw [decide_eq_false hk,Bool.false_or,Bool.and_eq_true,decide_eq_true_iff] at hbad
       exact .inr ⟨hbad.1,hbad.2,by omega⟩
     clear hbad HS HK HX HH
     rcases h3 with ⟨a,b⟩ | ⟨hso,hr,hk | hk⟩
     ·have b1:(g.k != 14)=true:=by simpa using a
      have b2:(g.k != 15)=true:=by simpa using b
      clear a b
      go_quiet ((go_at_call 73;exact Calls.quiet_of_same (HRr.out _)))
      go_wp2_with (go_at_call 143;refine Calls.mono (cFault_any _ _ _) ?_;rintro e w5 ⟨rfl,k5⟩)
      exact ⟨rfl,by rw [HS3.out];rfl,by rw [HS3.out];exact HP.out.1.kp0 ((HKN.out _).trans k5)⟩
     ·have b1:(g.k != 14)=false:=by simpa using hk
      have b3:decide (g.r < x.rg)=true:=decide_eq_true hr
      clear hk hr
      subst hso
      go_quiet ((go_at_call 73;exact Calls.quiet_of_same (HRr.out _)))
      go_wp2_with (go_at_call 143;refine Calls.mono (cFault_any _ _ _) ?_;rintro e w5 ⟨rfl,k5⟩)
      exact ⟨rfl,by rw [HS3.out];rfl,by rw [HS3.out];exact HP.out.1.kp0 ((HKN.out _).trans k5)⟩
     ·have b1:(g.k != 14)=true:=by rw [hk];rfl
      have b2:(g.k != 15)=false:=by simpa using hk
      have b3:decide (g.r < x.rg)=true:=decide_eq_true hr
      clear hk hr
      subst hso
      go_quiet ((go_at_call 73;exact Calls.quiet_of_same (HRr.out _)))
      go_wp2_with (go_at_call 143;refine Calls.mono (cFault_any _ _ _) ?_;rintro e w5 ⟨rfl,k5⟩)
      exact ⟨rfl,by rw [HS3.out];rfl,by rw [HS3.out];exact HP.out.1.kp0 ((HKN.out _).trans k5)⟩
    | false=>
     have HS3:Hid (gateO M x v so cd=if g.p=false then .no o2.m 11 cd else .ok o2.m g):=HS.out.trans (if_neg (by rw [hbad];decide))
     have h3:(g.k=14∨g.k=15)∧(so=true→¬ g.r < x.rg):=by
      unfold badG at hbad
      rw [Bool.or_eq_false_iff,decide_eq_false_iff_not,Bool.and_eq_false_iff,decide_eq_false_iff_not] at hbad
      refine ⟨by omega,fun e=>hbad.2.elim (fun f=>?_) id⟩
      rw [e] at f;cases f
     have HW:Hid (w.heap.size≤X∧(∀ j,c.all j→j < w.heap.size)∧c.E < w.heap.size∧T < w.heap.size):=⟨HX.out.2.1,HX.out.2.2.2.1,HX.out.2.2.2.2.1,HX.out.2.2.2.2.2⟩
     clear hbad HS HK HX HH
     have HSn:g.p=false→Hid (gateO M x v so cd=.no o2.m 11 cd):=fun e=>HS3.out.trans (if_pos e)
     have HSy:g.p=true→Hid (gateO M x v so cd=.ok o2.m g):=fun e=>HS3.out.trans (if_neg (by rw [e];decide))
     clear HS3
     have x4:=HP.out.2
     obtain ⟨u0,u1',u2',u3',u4'⟩:=GtAt.c x4
     unfold zG at u0 u1' u2' u3' u4'
     have f0:=GtAt.fz x4 0;have f1:=GtAt.fz x4 1;have f2:=GtAt.fz x4 2;have f3:=GtAt.fz x4 3;have f4:=GtAt.fz x4 4
     have HV:∀ k,GtAt (putG (W4.drewN k) X g) X g:=fun k=>GtAt.set (w:=W4.drewN k) (x4.kp (HKN.out k) id) g
     have v0:=fun k=>(HV k).c.1
     have v1:=fun k=>(HV k).c.2.1
     have v2:=fun k=>(HV k).c.2.2.1
     have v3:=fun k=>(HV k).c.2.2.2.1
     have v4:=fun k=>(HV k).c.2.2.2.2
     have HPE:Hid (∀ k,Px w c tn T x n o2.m 4 (putG (W4.drewN k) X g)):=fun k=>(HP.out.1.kp0 (HKN.out k)).own HW.out.1 HW.out.2.1 HW.out.2.2.1 HW.out.2.2.2 (kp_putG (W4.drewN k) X g)
     unfold putG at v0 v1 v2 v3 v4 HPE
     clear x4 HV
     obtain ⟨hk,hr⟩:=h3
     have HGP:Hid (g.p=false∨g.p=true):=by
      cases hp:g.p
      ·exact .inl rfl
      ·exact .inr rfl
     rcases hk with hk | hk
     ·have b1:(g.k != 14)=false:=by simpa using hk
      clear hk
      cases so with
      | false=>
       go_quiet ((go_at_call 73;exact Calls.quiet_of_same (HRr.out _)))
       rcases HGP.out with hp | hp
       ·have HS4:=HSn hp
        rw [hp] at m4
        clear HSn HSy
        go_wp2_with (go_at_call 143;refine Calls.mono (cFault_any _ _ _) ?_;rintro e w5 ⟨rfl,k5⟩)
        exact ⟨rfl,by rw [HS4.out];rfl,by rw [HS4.out];exact HP.out.1.kp0 ((HKN.out _).trans k5)⟩
       ·have HS4:=HSy hp
        clear HSn HSy
        rw [hp] at m4
        simp only [hp] at v0 v1 v2 v3 v4 HPE
        go_wp2
        refine bodyPost_ret (v:=g.val) (by unfold Gt.val;rw [hp];simp [results,Tryz.results71,go_sem,v0,v1,v2,v3,v4]) rfl ⟨by rw [HS4.out];rfl,by rw [HS4.out];exact HPE.out _⟩
      | true=>
       have b3:decide (g.r < x.rg)=false:=decide_eq_false (hr rfl)
       go_quiet ((go_at_call 73;exact Calls.quiet_of_same (HRr.out _)))
       rcases HGP.out with hp | hp
       ·have HS4:=HSn hp
        rw [hp] at m4
        clear HSn HSy
        go_wp2_with (go_at_call 143;refine Calls.mono (cFault_any _ _ _) ?_;rintro e w5 ⟨rfl,k5⟩)
        exact ⟨rfl,by rw [HS4.out];rfl,by rw [HS4.out];exact HP.out.1.kp0 ((HKN.out _).trans k5)⟩
       ·have HS4:=HSy hp
        clear HSn HSy
        rw [hp] at m4
        simp only [hp] at v0 v1 v2 v3 v4 HPE
        go_wp2
        refine bodyPost_ret (v:=g.val) (by unfold Gt.val;rw [hp];simp [results,Tryz.results71,go_sem,v0,v1,v2,v3,v4]) rfl ⟨by rw [HS4.out];rfl,by rw [HS4.out];exact HPE.out _⟩
     ·have b1:(g.k != 14)=true:=by rw [hk];rfl
      have b2:(g.k != 15)=false:=by simpa using hk
      clear hk
      cases so with
      | false=>
       go_quiet ((go_at_call 73;exact Calls.quiet_of_same (HRr.out _)))
       rcases HGP.out with hp | hp
       ·have HS4:=HSn hp
        rw [hp] at m4
        clear HSn HSy
        go_wp2_with (go_at_call 143;refine Calls.mono (cFault_any _ _ _) ?_;rintro e w5 ⟨rfl,k5⟩)
        exact ⟨rfl,by rw [HS4.out];rfl,by rw [HS4.out];exact HP.out.1.kp0 ((HKN.out _).trans k5)⟩
       ·have HS4:=HSy hp
        clear HSn HSy
        rw [hp] at m4
        simp only [hp] at v0 v1 v2 v3 v4 HPE
        go_wp2
        refine bodyPost_ret (v:=g.val) (by unfold Gt.val;rw [hp];simp [results,Tryz.results71,go_sem,v0,v1,v2,v3,v4]) rfl ⟨by rw [HS4.out];rfl,by rw [HS4.out];exact HPE.out _⟩
      | true=>
       have b3:decide (g.r < x.rg)=false:=decide_eq_false (hr rfl)
       go_quiet ((go_at_call 73;exact Calls.quiet_of_same (HRr.out _)))
       rcases HGP.out with hp | hp
       ·have HS4:=HSn hp
        rw [hp] at m4
        clear HSn HSy
        go_wp2_with (go_at_call 143;refine Calls.mono (cFault_any _ _ _) ?_;rintro e w5 ⟨rfl,k5⟩)
        exact ⟨rfl,by rw [HS4.out];rfl,by rw [HS4.out];exact HP.out.1.kp0 ((HKN.out _).trans k5)⟩
       ·have HS4:=HSy hp
        clear HSn HSy
        rw [hp] at m4
        simp only [hp] at v0 v1 v2 v3 v4 HPE
        go_wp2
        refine bodyPost_ret (v:=g.val) (by unfold Gt.val;rw [hp];simp [results,Tryz.results71,go_sem,v0,v1,v2,v3,v4]) rfl ⟨by rw [HS4.out];rfl,by rw [HS4.out];exact HPE.out _⟩
end Go.Proofs.YtacgmoikegcopaaGreatDoor.Rm
