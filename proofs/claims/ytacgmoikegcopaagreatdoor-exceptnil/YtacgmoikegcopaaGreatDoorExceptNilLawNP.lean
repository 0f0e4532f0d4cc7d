/- ExceptNil: of no environment, or of one that has no memory and no bus, all is refused, or does nothing. -/
import Derived.Test.YtacgmoikegcopaaGreatDoorEc35
import Derived.Test.YtacgmoikegcopaaGreatDoorXcEqNP
import Derived.Test.YtacgmoikegcopaaGreatDoorEc07
namespace Go.Proofs.YtacgmoikegcopaaGreatDoor.Rm
open Go.ChangeShapes Go.WideShapes Go.ChangeAt Go.RowKit Go.Maps
set_option linter.unusedVariables false
set_option maxRecDepth 20000
theorem built_nil1 {P:Program} {t:TypeId} {z:Array Value} {pl:List (Nat × Nat)} (h:Bs.shapeOf P t=some (z,(0,83)::(83,1)::(84,1)::pl)) (hz:85≤z.size) (cs:Array Value) (hs:cs.size=83):
  P.built t [(0,.agg cs)]=some (cs++(z.toList.drop 83).toArray):=by
 have e:(cs.zipIdx.foldl (fun cs (x:Value × Nat)=>cs.setIfInBounds (0+x.2) x.1) z)=cs++(z.toList.drop 83).toArray:=by
  apply Array.toList_inj.1
  rw [← Array.foldl_toList,Array.toList_zipIdx,Bs.fold_at0 cs.toList 0 z (by simp [hs];omega)]
  simp [hs]
 have e':Array.foldl (fun cs x=>cs.setIfInBounds x.snd x.fst) z cs.zipIdx 0 83=cs++(z.toList.drop 83).toArray:=by simpa [hs] using e
 have h1:¬ z.size < 83:=by omega
 rw [Bs.built_of h]
 simp [Instr.fill,Value.cells,hs,e',h1]
theorem built_env1 (cs:Array Value) (hs:cs.size=83):Tryz.prog.built 54 [(0,.agg cs)]=some (cs++#[.pointer none,.pointer none]):=by
 have h:(Bs.shapeOf Tryz.prog 54).map (fun p=>(p.1.size,p.1.toList.drop 83,p.2))=some (85,[.pointer none,.pointer none],[(0,83),(83,1),(84,1)]):=by kernel_rfl
 obtain ⟨⟨z,pl⟩,h1,h2⟩:=Option.map_eq_some_iff.1 h
 simp only [Prod.mk.injEq] at h2
 obtain ⟨hz,hd,rfl⟩:=h2
 have:=built_nil1 h1 (by omega) cs hs
 rw [hd] at this
 exact this
def RowP (w:World) (q:Nat) (kd vec cod:Int) (so:Bool) (cr:Int):Prop:=w.heap[q]?=some (.cells #[.int .i64 kd,.int .i64 vec,.int .i64 cod,.bool so,.int .u32 cr] 42 (0,0))
theorem RowP.kp0 {w w':World} {q:Nat} {kd vec cod:Int} {so:Bool} {cr:Int} (h:RowP w q kd vec cod so cr) (k:Kp noB w w'):RowP w' q kd vec cod so cr:=(k.block q (Array.getElem?_eq_some_iff.1 h).1 id).trans h
theorem RowP.c {w:World} {q:Nat} {kd vec cod:Int} {so:Bool} {cr:Int} (h:RowP w q kd vec cod so cr):w.cell? ⟨q,1,none⟩=some (.int .i64 vec)∧w.cell? ⟨q,2,none⟩=some (.int .i64 cod)∧w.cell? ⟨q,3,none⟩=some (.bool so):=by
 refine ⟨?_,?_,?_⟩<;>(rw [cell_at h];rfl)
set_option maxHeartbeats 16000000 in
theorem ExceptNil_walk (w:World) (hC:Cls w) (x:Cu) (hx:x.Bd) (kd vec cod:Int) (so:Bool) (cr:Int):Calls Tryz.prog 6 #[.agg x.cs,.agg #[.int .i64 kd,.int .i64 vec,.int .i64 cod,.bool so,.int .u32 cr]] w fun e w'=>e=.returned (.bool true)∧Below w.heap.size w w':=by
 obtain ⟨T,nn,Z,hV⟩:=vlP
 obtain ⟨vl,vs,va,vb⟩:=hV.ops
 have vq:∀ x y,Op.binOp .eql 33 x y 33=Op.binOp .eql T x y T:=by rw [hV.t];exact fun _ _=>rfl
 have g1:=hV.agg;have g2:=hV.size;have g3:=hV.zero
 have hwf:=cu_wf x
 have hq:=cu_equal hx
 obtain ⟨cz,hcz⟩:∃ q,q=x.cs:=⟨_,rfl⟩
 rw [← hcz] at hwf hq ⊢
 clear hcz hx
 have gE:∀ w,(Op.equalIn 10000 T (.agg cz) (.agg cz)).run Tryz.prog w=.ok true w:=by rw [hV.t];exact hq
 have gG:Tryz.prog.eqGuardType Tryz.prog.depth T=false:=by rw [hV.t];kernel_rfl
 have g6:cz.size=nn:=by rw [hwf.s,hV.s]
 obtain ⟨X,hX⟩:∃ X,w.heap.size=X:=⟨_,rfl⟩
 obtain ⟨W0,hW0⟩:∃ W,W=(w.alloc (.cells cz T)).alloc (.cells #[.int .i64 kd,.int .i64 vec,.int .i64 cod,.bool so,.int .u32 cr] 42):=⟨_,rfl⟩
 have s1:(w.alloc (.cells cz T)).heap.size=X+1:=by rw [World.size_alloc,hX]
 have k0:Kp noB w W0:=by rw [hW0];exact (Kp.alloc noB w _).trans (Kp.alloc noB _ _)
 have pX:PAt W0 X cz:=by rw [hW0,← hX];exact (hV.at hwf w).kp (Kp.alloc noB _ _) id
 have rO:RowP W0 (X+1) kd vec cod so cr:=by
  have:=(MapKept.heap_alloc (w.alloc (.cells cz T)) (.cells #[.int .i64 kd,.int .i64 vec,.int .i64 cod,.bool so,.int .u32 cr] 42)).1
  rw [s1] at this
  rw [hW0];exact this
 have HA:Hid _:=awake18 W0 (hC.kp0 k0)
 have HK0:Hid (Kp noB w W0):=k0
 have HP0:Hid (PAt W0 X cz∧RowP W0 (X+1) kd vec cod so cr):=⟨pX,rO⟩
 have HV:Hid _:=hV
 have HWF:Hid (WfC cz):=hwf
 clear hV hC k0 pX rO hwf hq s1
 go_enter Tryz.func6,Tryz.ntmps6
 simp only [vl,vb,vq]
 go_wp2_with fail
 rw [← hW0]
 clear hW0 hX
 refine Calls.mono HA.out ?_;rintro e w1 ⟨rfl,k1⟩
 have HK1:Hid (Kp noB w w1):=HK0.out.trans k1
 have HP1:Hid (PAt w1 X cz∧RowP w1 (X+1) kd vec cod so cr):=⟨HP0.out.1.kp k1 id,HP0.out.2.kp0 k1⟩
 clear k1 HK0 HP0 HA
 go_upto_region 5 with fail
 obtain ⟨B,hB⟩:∃ B,B=w1.heap.size:=⟨_,rfl⟩
 obtain ⟨W2,hW2⟩:∃ W,W=w1.alloc (.cells #[.int .i64 13,.int .i64 0,.int .u32 0] 44):=⟨_,rfl⟩
 have rB:RowT W2 B ⟨13,0,0⟩:=by rw [hW2,hB];exact (MapKept.heap_alloc w1 _).1
 have k2:Kp noB w1 W2:=by rw [hW2];exact Kp.alloc _ _ _
 have HK2:Hid (Kp noB w W2):=HK1.out.trans k2
 have HP2:Hid (PAt W2 X cz∧RowP W2 (X+1) kd vec cod so cr∧RowT W2 B ⟨13,0,0⟩):=⟨HP1.out.1.kp k2 id,HP1.out.2.kp0 k2,rB⟩
 rw [← hW2,← hB]
 clear hW2 hB rB k2 HK1 HP1
 obtain ⟨c1,c2,c3⟩:=HP2.out.2.1.c
 have HFn:Hid (Calls Tryz.prog 13 #[.pointer none,.agg #[.int .i64 vec,.int .i64 0,.int .u32 0]] W2 _):=Fault_none W2 none ⟨vec,0,0⟩ (fun W _=>cLacks_nil W)
 go_wp2_with fail
 refine Calls.mono HFn.out ?_;rintro e w3 ⟨rfl,k3⟩
 have HK3:Hid (Kp noB w w3):=HK2.out.trans k3
 have HP3:Hid (PAt w3 X cz∧RowP w3 (X+1) kd vec cod so cr∧RowT w3 B ⟨13,0,0⟩):=⟨HP2.out.1.kp k3 id,HP2.out.2.1.kp0 k3,HP2.out.2.2.kp k3 id⟩
 clear HK2 HP2 HFn k3 c1 c2 c3
 go_upto_region 6 with fail
 refine wp_region_list ?_
 have hld:=HV.out.get HP3.out.1
 rw [wpList,if_pos (by kernel_rfl)]
 left
 go_simp
 clear hld
 rw [wpList,if_pos (by kernel_rfl)]
 left
 refine OrdFree.wp_of_run (Bs.run_of_build (ps:=#[(0,.agg cz)]) rfl (by kernel_rfl) (run_build _ _ _ _ (built_env1 cz HWF.out.s))) ?_
 rw [wpList,if_pos (by kernel_rfl)]
 left
 refine OrdFree.wp_of_run (v:=.pointer (some ⟨w3.heap.size,0,none⟩)) (w':=w3.alloc (.cells (cz++#[.pointer none,.pointer none]) 54)) (by kernel_rfl) ?_
 obtain ⟨E,hE⟩:∃ E,E=w3.heap.size:=⟨_,rfl⟩
 obtain ⟨W4,hW4⟩:∃ W,W=w3.alloc (.cells (cz++#[.pointer none,.pointer none]) 54):=⟨_,rfl⟩
 have rE:EAt W4 E cz (.pointer none) (.pointer none):=⟨by rw [hW4,hE];exact (MapKept.heap_alloc w3 _).1,HWF.out⟩
 have k4:Kp noB w3 W4:=by rw [hW4];exact Kp.alloc _ _ _
 have HK4:Hid (Kp noB w W4):=HK3.out.trans k4
 have HP4:Hid (PAt W4 X cz∧RowP W4 (X+1) kd vec cod so cr∧RowT W4 B ⟨13,0,0⟩∧EAt W4 E cz (.pointer none) (.pointer none)):=⟨HP3.out.1.kp k4 id,HP3.out.2.1.kp0 k4,HP3.out.2.2.kp k4 id,rE⟩
 rw [← hE,← hW4]
 clear hE hW4 rE k4 HK3 HP3
 rw [wpList,if_pos (by kernel_rfl)]
 left
 go_simp
 obtain ⟨c1,c2,c3⟩:=HP4.out.2.1.c
 have HFn:Hid (Calls Tryz.prog 13 #[.pointer (some ⟨E,0,none⟩),.agg #[.int .i64 vec,.int .i64 0,.int .u32 0]] W4 _):=Fault_none W4 (some ⟨E,0,none⟩) ⟨vec,0,0⟩ (fun W k=>cLacks_mem W E cz _ (HP4.out.2.2.2.kp0 k))
 go_wp2_with fail
 refine Calls.mono HFn.out ?_;rintro e w5 ⟨rfl,k5⟩
 have HK5:Hid (Kp noB w w5):=HK4.out.trans k5
 have HP5:Hid (PAt w5 X cz∧RowP w5 (X+1) kd vec cod so cr∧RowT w5 B ⟨13,0,0⟩∧EAt w5 E cz (.pointer none) (.pointer none)):=⟨HP4.out.1.kp k5 id,HP4.out.2.1.kp0 k5,HP4.out.2.2.1.kp k5 id,HP4.out.2.2.2.kp0 k5⟩
 clear HK4 HP4 HFn k5 c1 c2 c3
 go_upto_region 8 with fail
 have HLx:Hid (∀ W,Kp noB w5 W→(loadCellsFrom ⟨X,0,none⟩ 0 nn #[]).run Tryz.prog W=.ok cz W):=fun W k=>HV.out.get (HP5.out.1.kp k id)
 have HLe:Hid (∀ W,Kp noB w5 W→(loadCellsFrom ⟨E,0,none⟩ 0 nn #[]).run Tryz.prog W=.ok cz W):=fun W k=>(HP5.out.2.2.2.kp0 k).get HV.out
 have HLo:Hid (∀ W,Kp noB w5 W→W.cell? ⟨X+1,1,none⟩=some (.int .i64 vec)∧W.cell? ⟨X+1,2,none⟩=some (.int .i64 cod)∧W.cell? ⟨X+1,3,none⟩=some (.bool so)):=fun W k=>(HP5.out.2.1.kp0 k).c
 have HLb:Hid (∀ W,Kp noB w5 W→W.cell? ⟨B,0,none⟩=some (.int .i64 13)∧W.cell? ⟨B,1,none⟩=some (.int .i64 0)∧W.cell? ⟨B,2,none⟩=some (.int .u32 0)):=fun W k=>by have r:=HP5.out.2.2.1.kp k id;exact ⟨r.c0,r.c1,r.c2⟩
 have HE0:Hid (∀ W,Kp noB w5 W→Calls Tryz.prog 11 #[.pointer none,.int .i64 vec,.int .i64 cod,.bool so] W _):=fun W k=>Enter_none W none vec cod so (fun W _=>cLacks_nil W)
 have HR0:Hid (∀ W,Kp noB w5 W→Calls Tryz.prog 15 #[.pointer none,.int .i64 cod] W _):=fun W k=>Return_none W none cod (fun W _=>cLacks_nil W)
 have HE1:Hid (∀ W,Kp noB w5 W→Calls Tryz.prog 11 #[.pointer (some ⟨E,0,none⟩),.int .i64 vec,.int .i64 cod,.bool so] W _):=fun W k=>Enter_none W (some ⟨E,0,none⟩) vec cod so (fun W' k'=>cLacks_mem W' E cz _ ((HP5.out.2.2.2.kp0 k).kp0 k'))
 have HR1:Hid (∀ W,Kp noB w5 W→Calls Tryz.prog 15 #[.pointer (some ⟨E,0,none⟩),.int .i64 cod] W _):=fun W k=>Return_none W (some ⟨E,0,none⟩) cod (fun W' k'=>cLacks_mem W' E cz _ ((HP5.out.2.2.2.kp0 k).kp0 k'))
 refine OrdG.region_vals (τ:=Unit) (fun _=>[(.pointer (some ⟨E,0,none⟩)),(.pointer (some ⟨E,0,none⟩)),(.pointer (some ⟨E,0,none⟩)),(.agg cz),(.agg cz),(.bool true),(.bool true),(.pointer (some ⟨(X+1),1,none⟩)),(.int .i64 vec),(.pointer (some ⟨(X+1),2,none⟩)),(.int .i64 cod),(.pointer (some ⟨(X+1),3,none⟩)),(.bool so),(.agg #[.int .i64 13,.int .i64 0,.int .u32 0]),(.agg #[.int .i64 13,.int .i64 0,.int .u32 0]),(.bool true),(.bool true),(.bool true),(.pointer (some ⟨(X+1),2,none⟩)),(.int .i64 cod),(.agg #[.int .i64 13,.int .i64 0,.int .u32 0]),(.agg #[.int .i64 13,.int .i64 0,.int .u32 0]),(.bool true),(.bool true),(.bool true),(.pointer (some ⟨E,0,none⟩)),(.pointer (some ⟨(X+1),1,none⟩)),(.int .i64 vec),(.pointer (some ⟨(X+1),2,none⟩)),(.int .i64 cod),(.pointer (some ⟨(X+1),3,none⟩)),(.bool so),(.agg #[.int .i64 13,.int .i64 0,.int .u32 0]),(.agg #[.int .i64 13,.int .i64 0,.int .u32 0]),(.bool true),(.bool true),(.bool true),(.pointer (some ⟨E,0,none⟩)),(.pointer (some ⟨(X+1),2,none⟩)),(.int .i64 cod),(.agg #[.int .i64 13,.int .i64 0,.int .u32 0]),(.agg #[.int .i64 13,.int .i64 0,.int .u32 0]),(.bool true),(.bool true),(.bool true)]) (fun _ _ W=>Kp noB w5 W) () (by kernel_rfl) (by kernel_rfl) (by kernel_rfl) (by kernel_rfl) (fun _=>rfl) (fun t=>by simp only [OrdG.puts,Act.put,List.setIfInBounds_toArray,List.set_cons_zero,List.set_cons_succ];rfl) (fun _=>by kernel_rfl) (Kp.refl noB w5).drew ?_ ?_
 ·refine ⟨?_,?_,?_,?_,?_,?_,?_,?_,?_,?_,?_,?_,?_,?_,?_,?_,?_,?_,?_,?_,?_,?_,?_,?_,?_,?_,?_,?_,?_,?_,?_,?_,?_,?_,?_,?_,?_,?_,?_,?_,?_,?_,?_,?_,?_,trivial⟩
  all_goals (intro t listed W hz hSh hl hI hb K hK hK0;change Kp noB w5 W at hI)
  ·go_simp
   exact hK0 _ hI
  ·go_simp
   exact hK0 _ hI
  ·go_simp
   exact hK0 _ hI
  ·have hld:=HLe.out W hI
   go_simp
   exact hK0 _ hI
  ·have hld:=HLx.out W hI
   go_simp
   exact hK0 _ hI
  ·go_simp
   exact hK0 _ hI
  ·go_simp
   exact hK0 _ hI
  ·go_simp
   exact hK0 _ hI
  ·obtain ⟨c1,c2,c3⟩:=HLo.out W hI
   go_simp
   exact hK0 _ hI
  ·go_simp
   exact hK0 _ hI
  ·obtain ⟨c1,c2,c3⟩:=HLo.out W hI
   go_simp
   exact hK0 _ hI
  ·go_simp
   exact hK0 _ hI
  ·obtain ⟨c1,c2,c3⟩:=HLo.out W hI
   go_simp
   exact hK0 _ hI
  ·have HC:Hid _:=HE0.out W hI
   go_simp
   refine Calls.mono HC.out ?_;rintro e w' ⟨rfl,k⟩
   exact hK0 _ (hI.trans k)
  ·obtain ⟨c1,c2,c3⟩:=HLb.out W hI
   go_simp
   exact hK0 _ hI
  ·go_simp
   exact hK0 _ hI
  ·go_simp
   exact hK0 _ hI
  ·go_simp
   exact hK0 _ hI
  ·go_simp
   exact hK0 _ hI
  ·obtain ⟨c1,c2,c3⟩:=HLo.out W hI
   go_simp
   exact hK0 _ hI
  ·have HC:Hid _:=HR0.out W hI
   go_simp
   refine Calls.mono HC.out ?_;rintro e w' ⟨rfl,k⟩
   exact hK0 _ (hI.trans k)
  ·obtain ⟨c1,c2,c3⟩:=HLb.out W hI
   go_simp
   exact hK0 _ hI
  ·go_simp
   exact hK0 _ hI
  ·go_simp
   exact hK0 _ hI
  ·go_simp
   exact hK0 _ hI
  ·go_simp
   exact hK0 _ hI
  ·go_simp
   exact hK0 _ hI
  ·obtain ⟨c1,c2,c3⟩:=HLo.out W hI
   go_simp
   exact hK0 _ hI
  ·go_simp
   exact hK0 _ hI
  ·obtain ⟨c1,c2,c3⟩:=HLo.out W hI
   go_simp
   exact hK0 _ hI
  ·go_simp
   exact hK0 _ hI
  ·obtain ⟨c1,c2,c3⟩:=HLo.out W hI
   go_simp
   exact hK0 _ hI
  ·have HC:Hid _:=HE1.out W hI
   go_simp
   refine Calls.mono HC.out ?_;rintro e w' ⟨rfl,k⟩
   exact hK0 _ (hI.trans k)
  ·obtain ⟨c1,c2,c3⟩:=HLb.out W hI
   go_simp
   exact hK0 _ hI
  ·go_simp
   exact hK0 _ hI
  ·go_simp
   exact hK0 _ hI
  ·go_simp
   exact hK0 _ hI
  ·go_simp
   exact hK0 _ hI
  ·go_simp
   exact hK0 _ hI
  ·obtain ⟨c1,c2,c3⟩:=HLo.out W hI
   go_simp
   exact hK0 _ hI
  ·have HC:Hid _:=HR1.out W hI
   go_simp
   refine Calls.mono HC.out ?_;rintro e w' ⟨rfl,k⟩
   exact hK0 _ (hI.trans k)
  ·obtain ⟨c1,c2,c3⟩:=HLb.out W hI
   go_simp
   exact hK0 _ hI
  ·go_simp
   exact hK0 _ hI
  ·go_simp
   exact hK0 _ hI
  ·go_simp
   exact hK0 _ hI
 rename_i Kx hKx
 rintro t listed W hal hI
 have HF:Hid (Kp noB w W):=HK5.out.trans hI
 clear hI
 refine hKx _ _ ?_
 go_wp2
 go_ret
 exact ⟨rfl,kBelow HF.out⟩
end Go.Proofs.YtacgmoikegcopaaGreatDoor.Rm
