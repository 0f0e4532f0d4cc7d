/- The bus and its devices: RcLine, RcSim, RcAll, RcS, PtAwake, RtBase, RtVal. -/
import Derived.Test.YtacgmoikegcopaaGreatDoorEc27
import Derived.Maps.AppendAt
import Derived.OwnWalk
import Derived.Test.YtacgmoikegcopaaGreatDoorEc25
import Derived.Laws.CopyRow
import Derived.Deep.MidRow
namespace Go.Proofs.YtacgmoikegcopaaGreatDoor.Pc
open Go.ChangeShapes Go.WideShapes Go.ChangeAt Go.RowKit
set_option linter.unusedVariables false
set_option maxRecDepth 20000
def RC.line (r:RC) (k:Nat) (u:Bool):RC:={ r with asks:=if u then (if r.up k then r.asks else upd r.asks k true) else upd r.asks k false,up:=upd r.up k u }
theorem Rel.line {r:RC} {c:Ch} {s:Bool} (h:Rel r c s) (ok:c.Ok) {k:Nat} (hk:k < 8) (h2:s=true→k≠2) (u:Bool):Rel (r.line k u) (c.line (k:Int) u) s:=by
 obtain ⟨c1,c2,c3,c4,c5,c6⟩:=line_keep c (k:Int) u
 refine ⟨fun j hj f=>?_,fun j hj=>by rw [c1];exact h.srv j hj,fun j hj=>by rw [c2];exact h.msk j hj,fun j hj f=>?_,h.base.trans c3.symm,h.told.trans c5.symm,h.ends.trans c6.symm⟩
 ·rw [line_asks ok hk]
  show (if u then (if r.up k then r.asks else upd r.asks k true) else upd r.asks k false) j=_
  rw [h.up k hk h2]
  cases u
  ·unfold upd
   by_cases e:j=k
   ·simp [e]
   ·simp [e,h.asks j hj f]
  ·cases eu:tb c.up k
   ·unfold upd
    by_cases e:j=k
    ·simp [e]
    ·simp [e,h.asks j hj f]
   ·by_cases e:j=k
    ·subst e;simp [h.asks j hj f]
    ·simp [e,h.asks j hj f]
 ·rw [line_up ok hk]
  show upd r.up k u j=_
  unfold upd
  by_cases e:j=k
  ·simp [e]
  ·simp [e,h.up j hj f]
section
variable {T:TypeId} {n:Nat} {Z:Array Value} {fs:Array Field} {ps:Array (Nat × Nat)}
theorem VlC.getNew (h:VlC T n Z fs ps) (r:RC) (W:World):(loadCellsFrom ⟨W.heap.size,0,none⟩ 0 n #[]).run Tryz.prog (W.alloc (.cells (chV r) T))=.ok (chV r) (W.alloc (.cells (chV r) T)):=h.get (h.at r W)
end
set_option maxRecDepth 20000 in
set_option maxHeartbeats 1000000 in
theorem rline_a0 (w:World) (R:Nat) (a b:RC) (h:RAt w R a b) (k:Nat) (hk:k < 8) (h2:k≠2) (x:Int) (hx:x=k):Calls Tryz.prog 139 #[.pointer (some ⟨R,0,none⟩),.int .i64 x,.bool false] w fun e w'=>e=.returned (.int .i64 0)∧RAt w' R ({ asks:=upd a.asks k false,srv:=a.srv,msk:=a.msk,up:=upd a.up k false,base:=a.base,told:=a.told,ends:=a.ends,wp:=a.wp,wl:=a.wl,wc:=a.wc:RC }) b∧Kp (isB R) w w':=by
 obtain ⟨T,nI,Z,fs,ps,V⟩:=vlC
 obtain ⟨vl,vs,va,vb⟩:=V.ops
 have v1:=V.agg
 have v2:=V.size
 have v3:=V.zero
 have v4:=V.under
 have v5:=V.map
 have v6:=V.zs
 have vG:=V.getNew
 have vN:=V.new
 have L:=V.getA h
 have lR:=h.lt
 have HR:Hid (RAt w R a b):=h
 have x0:0≤x:=by omega
 have x1:x < 16:=by omega
 have g0:decide (x < 0)=false:=by simp;omega
 have g1:decide (x > 15)=false:=by simp;omega
 have x2:(x==2)=false:=by simp;omega
 have d1:x.tdiv 8=0:=by rw [Int.tdiv_eq_ediv_of_nonneg x0];omega
 have d2:x.tmod 8=(k:Int):=by rw [Int.tmod_eq_emod_of_nonneg x0];omega
 have cu:∀ r:RC,(chV r)[24+k]?=some (.bool (r.up k)):=fun r=>ch_up r hk
 have ca:∀ r:RC,(chV r)[k]?=some (.bool (r.asks k)):=fun r=>ch_asks r hk
 have su:∀ (r:RC) b,(chV r).setIfInBounds (24+k) (.bool b)=chV { r with up:=upd r.up k b }:=fun r b=>set_up r hk b
 have sa:∀ (r:RC) b,(chV r).setIfInBounds k (.bool b)=chV { r with asks:=upd r.asks k b }:=fun r b=>set_asks r hk b
 have cs:∀ r:RC,(chV r).size=nI:=fun r=>by rw [V.s];rfl
 have HV:Hid (VlC T nI Z fs ps):=V
 clear h hx V
 go_enter Tryz.func139,Tryz.ntmps139
 simp only [vl,vs,va]
 clear vl vs va vb
 go_wp2
 have h1:Hid (RAt (w.alloc (.cells (chV ({ asks:=upd a.asks k false,srv:=a.srv,msk:=a.msk,up:=upd a.up k false,base:=a.base,told:=a.told,ends:=a.ends,wp:=a.wp,wl:=a.wl,wc:=a.wc:RC })) T)) R a b):=HR.out.kept (Kp.alloc noB _ _) id
 have h2:Hid (CAt (w.alloc (.cells (chV ({ asks:=upd a.asks k false,srv:=a.srv,msk:=a.msk,up:=upd a.up k false,base:=a.base,told:=a.told,ends:=a.ends,wp:=a.wp,wl:=a.wl,wc:=a.wc:RC })) T)) w.heap.size ({ asks:=upd a.asks k false,srv:=a.srv,msk:=a.msk,up:=upd a.up k false,base:=a.base,told:=a.told,ends:=a.ends,wp:=a.wp,wl:=a.wl,wc:=a.wc:RC })):=HV.out.at _ w
 have k1:Hid (Kp (isB R) w (w.alloc (.cells (chV ({ asks:=upd a.asks k false,srv:=a.srv,msk:=a.msk,up:=upd a.up k false,base:=a.base,told:=a.told,ends:=a.ends,wp:=a.wp,wl:=a.wl,wc:=a.wc:RC })) T))):=Kp.alloc _ _ _
 clear vG vN L lR
 generalize w.alloc (.cells (chV ({ asks:=upd a.asks k false,srv:=a.srv,msk:=a.msk,up:=upd a.up k false,base:=a.base,told:=a.told,ends:=a.ends,wp:=a.wp,wl:=a.wl,wc:=a.wc:RC })) T)=w1 at h1 h2 k1 ⊢
 have L1:=HV.out.get h2.out
 have L2:=HV.out.get (h2.out.kept (Kp.refl noB w1).drew id)
 have S1:=put_A h1.out ({ asks:=upd a.asks k false,srv:=a.srv,msk:=a.msk,up:=upd a.up k false,base:=a.base,told:=a.told,ends:=a.ends,wp:=a.wp,wl:=a.wl,wc:=a.wc:RC })
 have S2:=put_A (h1.out.kept (Kp.refl noB w1).drew id) ({ asks:=upd a.asks k false,srv:=a.srv,msk:=a.msk,up:=upd a.up k false,base:=a.base,told:=a.told,ends:=a.ends,wp:=a.wp,wl:=a.wl,wc:=a.wc:RC })
 have E1:Hid (RAt (w1.setRow R (chV ({ asks:=upd a.asks k false,srv:=a.srv,msk:=a.msk,up:=upd a.up k false,base:=a.base,told:=a.told,ends:=a.ends,wp:=a.wp,wl:=a.wl,wc:=a.wc:RC })++chV b)) R ({ asks:=upd a.asks k false,srv:=a.srv,msk:=a.msk,up:=upd a.up k false,base:=a.base,told:=a.told,ends:=a.ends,wp:=a.wp,wl:=a.wl,wc:=a.wc:RC }) b):=h1.out.putA _
 have E2:Hid (RAt (w1.drew.setRow R (chV ({ asks:=upd a.asks k false,srv:=a.srv,msk:=a.msk,up:=upd a.up k false,base:=a.base,told:=a.told,ends:=a.ends,wp:=a.wp,wl:=a.wl,wc:=a.wc:RC })++chV b)) R ({ asks:=upd a.asks k false,srv:=a.srv,msk:=a.msk,up:=upd a.up k false,base:=a.base,told:=a.told,ends:=a.ends,wp:=a.wp,wl:=a.wl,wc:=a.wc:RC }) b):=(h1.out.kept (Kp.refl noB w1).drew id).putA _
 go_region
 all_goals
  go_wp2
  go_ret
  first
   | exact ⟨rfl,E1.out,k1.out.trans (Kp.setRow (S:=isB R) _ rfl _)⟩
   | exact ⟨rfl,E1.out.kept (Kp.refl noB _).drew id,(k1.out.trans (Kp.setRow (S:=isB R) _ rfl _)).drew⟩
   | exact ⟨rfl,E2.out,k1.out.drew.trans (Kp.setRow (S:=isB R) _ rfl _)⟩
set_option maxRecDepth 20000 in
set_option maxHeartbeats 1000000 in
theorem rline_a1 (w:World) (R:Nat) (a b:RC) (h:RAt w R a b) (k:Nat) (hk:k < 8) (h2:k≠2) (x:Int) (hx:x=k) (hu:a.up k=false):Calls Tryz.prog 139 #[.pointer (some ⟨R,0,none⟩),.int .i64 x,.bool true] w fun e w'=>e=.returned (.int .i64 0)∧RAt w' R ({ asks:=upd a.asks k true,srv:=a.srv,msk:=a.msk,up:=upd a.up k true,base:=a.base,told:=a.told,ends:=a.ends,wp:=a.wp,wl:=a.wl,wc:=a.wc:RC }) b∧Kp (isB R) w w':=by
 obtain ⟨T,nI,Z,fs,ps,V⟩:=vlC
 obtain ⟨vl,vs,va,vb⟩:=V.ops
 have v1:=V.agg
 have v2:=V.size
 have v3:=V.zero
 have v4:=V.under
 have v5:=V.map
 have v6:=V.zs
 have vG:=V.getNew
 have vN:=V.new
 have L:=V.getA h
 have lR:=h.lt
 have HR:Hid (RAt w R a b):=h
 have x0:0≤x:=by omega
 have x1:x < 16:=by omega
 have g0:decide (x < 0)=false:=by simp;omega
 have g1:decide (x > 15)=false:=by simp;omega
 have x2:(x==2)=false:=by simp;omega
 have d1:x.tdiv 8=0:=by rw [Int.tdiv_eq_ediv_of_nonneg x0];omega
 have d2:x.tmod 8=(k:Int):=by rw [Int.tmod_eq_emod_of_nonneg x0];omega
 have cu:∀ r:RC,(chV r)[24+k]?=some (.bool (r.up k)):=fun r=>ch_up r hk
 have ca:∀ r:RC,(chV r)[k]?=some (.bool (r.asks k)):=fun r=>ch_asks r hk
 have su:∀ (r:RC) b,(chV r).setIfInBounds (24+k) (.bool b)=chV { r with up:=upd r.up k b }:=fun r b=>set_up r hk b
 have sa:∀ (r:RC) b,(chV r).setIfInBounds k (.bool b)=chV { r with asks:=upd r.asks k b }:=fun r b=>set_asks r hk b
 have cs:∀ r:RC,(chV r).size=nI:=fun r=>by rw [V.s];rfl
 have HV:Hid (VlC T nI Z fs ps):=V
 clear h hx V
 go_enter Tryz.func139,Tryz.ntmps139
 simp only [vl,vs,va]
 clear vl vs va vb
 go_wp2
 have h1:Hid (RAt (w.alloc (.cells (chV ({ asks:=upd a.asks k true,srv:=a.srv,msk:=a.msk,up:=upd a.up k true,base:=a.base,told:=a.told,ends:=a.ends,wp:=a.wp,wl:=a.wl,wc:=a.wc:RC })) T)) R a b):=HR.out.kept (Kp.alloc noB _ _) id
 have h2:Hid (CAt (w.alloc (.cells (chV ({ asks:=upd a.asks k true,srv:=a.srv,msk:=a.msk,up:=upd a.up k true,base:=a.base,told:=a.told,ends:=a.ends,wp:=a.wp,wl:=a.wl,wc:=a.wc:RC })) T)) w.heap.size ({ asks:=upd a.asks k true,srv:=a.srv,msk:=a.msk,up:=upd a.up k true,base:=a.base,told:=a.told,ends:=a.ends,wp:=a.wp,wl:=a.wl,wc:=a.wc:RC })):=HV.out.at _ w
 have k1:Hid (Kp (isB R) w (w.alloc (.cells (chV ({ asks:=upd a.asks k true,srv:=a.srv,msk:=a.msk,up:=upd a.up k true,base:=a.base,told:=a.told,ends:=a.ends,wp:=a.wp,wl:=a.wl,wc:=a.wc:RC })) T))):=Kp.alloc _ _ _
 clear vG vN L lR
 generalize w.alloc (.cells (chV ({ asks:=upd a.asks k true,srv:=a.srv,msk:=a.msk,up:=upd a.up k true,base:=a.base,told:=a.told,ends:=a.ends,wp:=a.wp,wl:=a.wl,wc:=a.wc:RC })) T)=w1 at h1 h2 k1 ⊢
 have L1:=HV.out.get h2.out
 have L2:=HV.out.get (h2.out.kept (Kp.refl noB w1).drew id)
 have S1:=put_A h1.out ({ asks:=upd a.asks k true,srv:=a.srv,msk:=a.msk,up:=upd a.up k true,base:=a.base,told:=a.told,ends:=a.ends,wp:=a.wp,wl:=a.wl,wc:=a.wc:RC })
 have S2:=put_A (h1.out.kept (Kp.refl noB w1).drew id) ({ asks:=upd a.asks k true,srv:=a.srv,msk:=a.msk,up:=upd a.up k true,base:=a.base,told:=a.told,ends:=a.ends,wp:=a.wp,wl:=a.wl,wc:=a.wc:RC })
 have E1:Hid (RAt (w1.setRow R (chV ({ asks:=upd a.asks k true,srv:=a.srv,msk:=a.msk,up:=upd a.up k true,base:=a.base,told:=a.told,ends:=a.ends,wp:=a.wp,wl:=a.wl,wc:=a.wc:RC })++chV b)) R ({ asks:=upd a.asks k true,srv:=a.srv,msk:=a.msk,up:=upd a.up k true,base:=a.base,told:=a.told,ends:=a.ends,wp:=a.wp,wl:=a.wl,wc:=a.wc:RC }) b):=h1.out.putA _
 have E2:Hid (RAt (w1.drew.setRow R (chV ({ asks:=upd a.asks k true,srv:=a.srv,msk:=a.msk,up:=upd a.up k true,base:=a.base,told:=a.told,ends:=a.ends,wp:=a.wp,wl:=a.wl,wc:=a.wc:RC })++chV b)) R ({ asks:=upd a.asks k true,srv:=a.srv,msk:=a.msk,up:=upd a.up k true,base:=a.base,told:=a.told,ends:=a.ends,wp:=a.wp,wl:=a.wl,wc:=a.wc:RC }) b):=(h1.out.kept (Kp.refl noB w1).drew id).putA _
 go_region
 all_goals
  go_wp2
  go_ret
  first
   | exact ⟨rfl,E1.out,k1.out.trans (Kp.setRow (S:=isB R) _ rfl _)⟩
   | exact ⟨rfl,E1.out.kept (Kp.refl noB _).drew id,(k1.out.trans (Kp.setRow (S:=isB R) _ rfl _)).drew⟩
   | exact ⟨rfl,E2.out,k1.out.drew.trans (Kp.setRow (S:=isB R) _ rfl _)⟩
set_option maxRecDepth 20000 in
set_option maxHeartbeats 1000000 in
theorem rline_a2 (w:World) (R:Nat) (a b:RC) (h:RAt w R a b) (k:Nat) (hk:k < 8) (h2:k≠2) (x:Int) (hx:x=k) (hu:a.up k=true):Calls Tryz.prog 139 #[.pointer (some ⟨R,0,none⟩),.int .i64 x,.bool true] w fun e w'=>e=.returned (.int .i64 0)∧RAt w' R ({ asks:=a.asks,srv:=a.srv,msk:=a.msk,up:=upd a.up k true,base:=a.base,told:=a.told,ends:=a.ends,wp:=a.wp,wl:=a.wl,wc:=a.wc:RC }) b∧Kp (isB R) w w':=by
 obtain ⟨T,nI,Z,fs,ps,V⟩:=vlC
 obtain ⟨vl,vs,va,vb⟩:=V.ops
 have v1:=V.agg
 have v2:=V.size
 have v3:=V.zero
 have v4:=V.under
 have v5:=V.map
 have v6:=V.zs
 have vG:=V.getNew
 have vN:=V.new
 have L:=V.getA h
 have lR:=h.lt
 have HR:Hid (RAt w R a b):=h
 have x0:0≤x:=by omega
 have x1:x < 16:=by omega
 have g0:decide (x < 0)=false:=by simp;omega
 have g1:decide (x > 15)=false:=by simp;omega
 have x2:(x==2)=false:=by simp;omega
 have d1:x.tdiv 8=0:=by rw [Int.tdiv_eq_ediv_of_nonneg x0];omega
 have d2:x.tmod 8=(k:Int):=by rw [Int.tmod_eq_emod_of_nonneg x0];omega
 have cu:∀ r:RC,(chV r)[24+k]?=some (.bool (r.up k)):=fun r=>ch_up r hk
 have ca:∀ r:RC,(chV r)[k]?=some (.bool (r.asks k)):=fun r=>ch_asks r hk
 have su:∀ (r:RC) b,(chV r).setIfInBounds (24+k) (.bool b)=chV { r with up:=upd r.up k b }:=fun r b=>set_up r hk b
 have sa:∀ (r:RC) b,(chV r).setIfInBounds k (.bool b)=chV { r with asks:=upd r.asks k b }:=fun r b=>set_asks r hk b
 have cs:∀ r:RC,(chV r).size=nI:=fun r=>by rw [V.s];rfl
 have HV:Hid (VlC T nI Z fs ps):=V
 clear h hx V
 go_enter Tryz.func139,Tryz.ntmps139
 simp only [vl,vs,va]
 clear vl vs va vb
 go_wp2
 have h1:Hid (RAt (w.alloc (.cells (chV ({ asks:=a.asks,srv:=a.srv,msk:=a.msk,up:=upd a.up k true,base:=a.base,told:=a.told,ends:=a.ends,wp:=a.wp,wl:=a.wl,wc:=a.wc:RC })) T)) R a b):=HR.out.kept (Kp.alloc noB _ _) id
 have h2:Hid (CAt (w.alloc (.cells (chV ({ asks:=a.asks,srv:=a.srv,msk:=a.msk,up:=upd a.up k true,base:=a.base,told:=a.told,ends:=a.ends,wp:=a.wp,wl:=a.wl,wc:=a.wc:RC })) T)) w.heap.size ({ asks:=a.asks,srv:=a.srv,msk:=a.msk,up:=upd a.up k true,base:=a.base,told:=a.told,ends:=a.ends,wp:=a.wp,wl:=a.wl,wc:=a.wc:RC })):=HV.out.at _ w
 have k1:Hid (Kp (isB R) w (w.alloc (.cells (chV ({ asks:=a.asks,srv:=a.srv,msk:=a.msk,up:=upd a.up k true,base:=a.base,told:=a.told,ends:=a.ends,wp:=a.wp,wl:=a.wl,wc:=a.wc:RC })) T))):=Kp.alloc _ _ _
 clear vG vN L lR
 generalize w.alloc (.cells (chV ({ asks:=a.asks,srv:=a.srv,msk:=a.msk,up:=upd a.up k true,base:=a.base,told:=a.told,ends:=a.ends,wp:=a.wp,wl:=a.wl,wc:=a.wc:RC })) T)=w1 at h1 h2 k1 ⊢
 have L1:=HV.out.get h2.out
 have L2:=HV.out.get (h2.out.kept (Kp.refl noB w1).drew id)
 have S1:=put_A h1.out ({ asks:=a.asks,srv:=a.srv,msk:=a.msk,up:=upd a.up k true,base:=a.base,told:=a.told,ends:=a.ends,wp:=a.wp,wl:=a.wl,wc:=a.wc:RC })
 have S2:=put_A (h1.out.kept (Kp.refl noB w1).drew id) ({ asks:=a.asks,srv:=a.srv,msk:=a.msk,up:=upd a.up k true,base:=a.base,told:=a.told,ends:=a.ends,wp:=a.wp,wl:=a.wl,wc:=a.wc:RC })
 have E1:Hid (RAt (w1.setRow R (chV ({ asks:=a.asks,srv:=a.srv,msk:=a.msk,up:=upd a.up k true,base:=a.base,told:=a.told,ends:=a.ends,wp:=a.wp,wl:=a.wl,wc:=a.wc:RC })++chV b)) R ({ asks:=a.asks,srv:=a.srv,msk:=a.msk,up:=upd a.up k true,base:=a.base,told:=a.told,ends:=a.ends,wp:=a.wp,wl:=a.wl,wc:=a.wc:RC }) b):=h1.out.putA _
 have E2:Hid (RAt (w1.drew.setRow R (chV ({ asks:=a.asks,srv:=a.srv,msk:=a.msk,up:=upd a.up k true,base:=a.base,told:=a.told,ends:=a.ends,wp:=a.wp,wl:=a.wl,wc:=a.wc:RC })++chV b)) R ({ asks:=a.asks,srv:=a.srv,msk:=a.msk,up:=upd a.up k true,base:=a.base,told:=a.told,ends:=a.ends,wp:=a.wp,wl:=a.wl,wc:=a.wc:RC }) b):=(h1.out.kept (Kp.refl noB w1).drew id).putA _
 go_region
 all_goals
  go_wp2
  go_ret
  first
   | exact ⟨rfl,E1.out,k1.out.trans (Kp.setRow (S:=isB R) _ rfl _)⟩
   | exact ⟨rfl,E1.out.kept (Kp.refl noB _).drew id,(k1.out.trans (Kp.setRow (S:=isB R) _ rfl _)).drew⟩
   | exact ⟨rfl,E2.out,k1.out.drew.trans (Kp.setRow (S:=isB R) _ rfl _)⟩
set_option maxRecDepth 20000 in
set_option maxHeartbeats 1000000 in
theorem rline_b0 (w:World) (R:Nat) (a b:RC) (h:RAt w R a b) (k:Nat) (hk:k < 8) (x:Int) (hx:x=k+8):Calls Tryz.prog 139 #[.pointer (some ⟨R,0,none⟩),.int .i64 x,.bool false] w fun e w'=>e=.returned (.int .i64 0)∧RAt w' R a ({ asks:=upd b.asks k false,srv:=b.srv,msk:=b.msk,up:=upd b.up k false,base:=b.base,told:=b.told,ends:=b.ends,wp:=b.wp,wl:=b.wl,wc:=b.wc:RC })∧Kp (isB R) w w':=by
 obtain ⟨T,nI,Z,fs,ps,V⟩:=vlC
 obtain ⟨vl,vs,va,vb⟩:=V.ops
 have v1:=V.agg
 have v2:=V.size
 have v3:=V.zero
 have v4:=V.under
 have v5:=V.map
 have v6:=V.zs
 have vG:=V.getNew
 have vN:=V.new
 have L:=V.getB h
 have lR:=h.lt
 have HR:Hid (RAt w R a b):=h
 have x0:0≤x:=by omega
 have x1:x < 16:=by omega
 have g0:decide (x < 0)=false:=by simp;omega
 have g1:decide (x > 15)=false:=by simp;omega
 have x2:(x==2)=false:=by simp;omega
 have d1:x.tdiv 8=1:=by rw [Int.tdiv_eq_ediv_of_nonneg x0];omega
 have d2:x.tmod 8=(k:Int):=by rw [Int.tmod_eq_emod_of_nonneg x0];omega
 have cu:∀ r:RC,(chV r)[24+k]?=some (.bool (r.up k)):=fun r=>ch_up r hk
 have ca:∀ r:RC,(chV r)[k]?=some (.bool (r.asks k)):=fun r=>ch_asks r hk
 have su:∀ (r:RC) b,(chV r).setIfInBounds (24+k) (.bool b)=chV { r with up:=upd r.up k b }:=fun r b=>set_up r hk b
 have sa:∀ (r:RC) b,(chV r).setIfInBounds k (.bool b)=chV { r with asks:=upd r.asks k b }:=fun r b=>set_asks r hk b
 have cs:∀ r:RC,(chV r).size=nI:=fun r=>by rw [V.s];rfl
 have HV:Hid (VlC T nI Z fs ps):=V
 clear h hx V
 go_enter Tryz.func139,Tryz.ntmps139
 simp only [vl,vs,va]
 clear vl vs va vb
 go_wp2
 have h1:Hid (RAt (w.alloc (.cells (chV ({ asks:=upd b.asks k false,srv:=b.srv,msk:=b.msk,up:=upd b.up k false,base:=b.base,told:=b.told,ends:=b.ends,wp:=b.wp,wl:=b.wl,wc:=b.wc:RC })) T)) R a b):=HR.out.kept (Kp.alloc noB _ _) id
 have h2:Hid (CAt (w.alloc (.cells (chV ({ asks:=upd b.asks k false,srv:=b.srv,msk:=b.msk,up:=upd b.up k false,base:=b.base,told:=b.told,ends:=b.ends,wp:=b.wp,wl:=b.wl,wc:=b.wc:RC })) T)) w.heap.size ({ asks:=upd b.asks k false,srv:=b.srv,msk:=b.msk,up:=upd b.up k false,base:=b.base,told:=b.told,ends:=b.ends,wp:=b.wp,wl:=b.wl,wc:=b.wc:RC })):=HV.out.at _ w
 have k1:Hid (Kp (isB R) w (w.alloc (.cells (chV ({ asks:=upd b.asks k false,srv:=b.srv,msk:=b.msk,up:=upd b.up k false,base:=b.base,told:=b.told,ends:=b.ends,wp:=b.wp,wl:=b.wl,wc:=b.wc:RC })) T))):=Kp.alloc _ _ _
 clear vG vN L lR
 generalize w.alloc (.cells (chV ({ asks:=upd b.asks k false,srv:=b.srv,msk:=b.msk,up:=upd b.up k false,base:=b.base,told:=b.told,ends:=b.ends,wp:=b.wp,wl:=b.wl,wc:=b.wc:RC })) T)=w1 at h1 h2 k1 ⊢
 have L1:=HV.out.get h2.out
 have L2:=HV.out.get (h2.out.kept (Kp.refl noB w1).drew id)
 have S1:=put_B h1.out ({ asks:=upd b.asks k false,srv:=b.srv,msk:=b.msk,up:=upd b.up k false,base:=b.base,told:=b.told,ends:=b.ends,wp:=b.wp,wl:=b.wl,wc:=b.wc:RC })
 have S2:=put_B (h1.out.kept (Kp.refl noB w1).drew id) ({ asks:=upd b.asks k false,srv:=b.srv,msk:=b.msk,up:=upd b.up k false,base:=b.base,told:=b.told,ends:=b.ends,wp:=b.wp,wl:=b.wl,wc:=b.wc:RC })
 have E1:Hid (RAt (w1.setRow R (chV a++chV ({ asks:=upd b.asks k false,srv:=b.srv,msk:=b.msk,up:=upd b.up k false,base:=b.base,told:=b.told,ends:=b.ends,wp:=b.wp,wl:=b.wl,wc:=b.wc:RC }))) R a ({ asks:=upd b.asks k false,srv:=b.srv,msk:=b.msk,up:=upd b.up k false,base:=b.base,told:=b.told,ends:=b.ends,wp:=b.wp,wl:=b.wl,wc:=b.wc:RC })):=h1.out.putB _
 have E2:Hid (RAt (w1.drew.setRow R (chV a++chV ({ asks:=upd b.asks k false,srv:=b.srv,msk:=b.msk,up:=upd b.up k false,base:=b.base,told:=b.told,ends:=b.ends,wp:=b.wp,wl:=b.wl,wc:=b.wc:RC }))) R a ({ asks:=upd b.asks k false,srv:=b.srv,msk:=b.msk,up:=upd b.up k false,base:=b.base,told:=b.told,ends:=b.ends,wp:=b.wp,wl:=b.wl,wc:=b.wc:RC })):=(h1.out.kept (Kp.refl noB w1).drew id).putB _
 go_region
 all_goals
  go_wp2
  go_ret
  first
   | exact ⟨rfl,E1.out,k1.out.trans (Kp.setRow (S:=isB R) _ rfl _)⟩
   | exact ⟨rfl,E1.out.kept (Kp.refl noB _).drew id,(k1.out.trans (Kp.setRow (S:=isB R) _ rfl _)).drew⟩
   | exact ⟨rfl,E2.out,k1.out.drew.trans (Kp.setRow (S:=isB R) _ rfl _)⟩
set_option maxRecDepth 20000 in
set_option maxHeartbeats 1000000 in
theorem rline_b1 (w:World) (R:Nat) (a b:RC) (h:RAt w R a b) (k:Nat) (hk:k < 8) (x:Int) (hx:x=k+8) (hu:b.up k=false):Calls Tryz.prog 139 #[.pointer (some ⟨R,0,none⟩),.int .i64 x,.bool true] w fun e w'=>e=.returned (.int .i64 0)∧RAt w' R a ({ asks:=upd b.asks k true,srv:=b.srv,msk:=b.msk,up:=upd b.up k true,base:=b.base,told:=b.told,ends:=b.ends,wp:=b.wp,wl:=b.wl,wc:=b.wc:RC })∧Kp (isB R) w w':=by
 obtain ⟨T,nI,Z,fs,ps,V⟩:=vlC
 obtain ⟨vl,vs,va,vb⟩:=V.ops
 have v1:=V.agg
 have v2:=V.size
 have v3:=V.zero
 have v4:=V.under
 have v5:=V.map
 have v6:=V.zs
 have vG:=V.getNew
 have vN:=V.new
 have L:=V.getB h
 have lR:=h.lt
 have HR:Hid (RAt w R a b):=h
 have x0:0≤x:=by omega
 have x1:x < 16:=by omega
 have g0:decide (x < 0)=false:=by simp;omega
 have g1:decide (x > 15)=false:=by simp;omega
 have x2:(x==2)=false:=by simp;omega
 have d1:x.tdiv 8=1:=by rw [Int.tdiv_eq_ediv_of_nonneg x0];omega
 have d2:x.tmod 8=(k:Int):=by rw [Int.tmod_eq_emod_of_nonneg x0];omega
 have cu:∀ r:RC,(chV r)[24+k]?=some (.bool (r.up k)):=fun r=>ch_up r hk
 have ca:∀ r:RC,(chV r)[k]?=some (.bool (r.asks k)):=fun r=>ch_asks r hk
 have su:∀ (r:RC) b,(chV r).setIfInBounds (24+k) (.bool b)=chV { r with up:=upd r.up k b }:=fun r b=>set_up r hk b
 have sa:∀ (r:RC) b,(chV r).setIfInBounds k (.bool b)=chV { r with asks:=upd r.asks k b }:=fun r b=>set_asks r hk b
 have cs:∀ r:RC,(chV r).size=nI:=fun r=>by rw [V.s];rfl
 have HV:Hid (VlC T nI Z fs ps):=V
 clear h hx V
 go_enter Tryz.func139,Tryz.ntmps139
 simp only [vl,vs,va]
 clear vl vs va vb
 go_wp2
 have h1:Hid (RAt (w.alloc (.cells (chV ({ asks:=upd b.asks k true,srv:=b.srv,msk:=b.msk,up:=upd b.up k true,base:=b.base,told:=b.told,ends:=b.ends,wp:=b.wp,wl:=b.wl,wc:=b.wc:RC })) T)) R a b):=HR.out.kept (Kp.alloc noB _ _) id
 have h2:Hid (CAt (w.alloc (.cells (chV ({ asks:=upd b.asks k true,srv:=b.srv,msk:=b.msk,up:=upd b.up k true,base:=b.base,told:=b.told,ends:=b.ends,wp:=b.wp,wl:=b.wl,wc:=b.wc:RC })) T)) w.heap.size ({ asks:=upd b.asks k true,srv:=b.srv,msk:=b.msk,up:=upd b.up k true,base:=b.base,told:=b.told,ends:=b.ends,wp:=b.wp,wl:=b.wl,wc:=b.wc:RC })):=HV.out.at _ w
 have k1:Hid (Kp (isB R) w (w.alloc (.cells (chV ({ asks:=upd b.asks k true,srv:=b.srv,msk:=b.msk,up:=upd b.up k true,base:=b.base,told:=b.told,ends:=b.ends,wp:=b.wp,wl:=b.wl,wc:=b.wc:RC })) T))):=Kp.alloc _ _ _
 clear vG vN L lR
 generalize w.alloc (.cells (chV ({ asks:=upd b.asks k true,srv:=b.srv,msk:=b.msk,up:=upd b.up k true,base:=b.base,told:=b.told,ends:=b.ends,wp:=b.wp,wl:=b.wl,wc:=b.wc:RC })) T)=w1 at h1 h2 k1 ⊢
 have L1:=HV.out.get h2.out
 have L2:=HV.out.get (h2.out.kept (Kp.refl noB w1).drew id)
 have S1:=put_B h1.out ({ asks:=upd b.asks k true,srv:=b.srv,msk:=b.msk,up:=upd b.up k true,base:=b.base,told:=b.told,ends:=b.ends,wp:=b.wp,wl:=b.wl,wc:=b.wc:RC })
 have S2:=put_B (h1.out.kept (Kp.refl noB w1).drew id) ({ asks:=upd b.asks k true,srv:=b.srv,msk:=b.msk,up:=upd b.up k true,base:=b.base,told:=b.told,ends:=b.ends,wp:=b.wp,wl:=b.wl,wc:=b.wc:RC })
 have E1:Hid (RAt (w1.setRow R (chV a++chV ({ asks:=upd b.asks k true,srv:=b.srv,msk:=b.msk,up:=upd b.up k true,base:=b.base,told:=b.told,ends:=b.ends,wp:=b.wp,wl:=b.wl,wc:=b.wc:RC }))) R a ({ asks:=upd b.asks k true,srv:=b.srv,msk:=b.msk,up:=upd b.up k true,base:=b.base,told:=b.told,ends:=b.ends,wp:=b.wp,wl:=b.wl,wc:=b.wc:RC })):=h1.out.putB _
 have E2:Hid (RAt (w1.drew.setRow R (chV a++chV ({ asks:=upd b.asks k true,srv:=b.srv,msk:=b.msk,up:=upd b.up k true,base:=b.base,told:=b.told,ends:=b.ends,wp:=b.wp,wl:=b.wl,wc:=b.wc:RC }))) R a ({ asks:=upd b.asks k true,srv:=b.srv,msk:=b.msk,up:=upd b.up k true,base:=b.base,told:=b.told,ends:=b.ends,wp:=b.wp,wl:=b.wl,wc:=b.wc:RC })):=(h1.out.kept (Kp.refl noB w1).drew id).putB _
 go_region
 all_goals
  go_wp2
  go_ret
  first
   | exact ⟨rfl,E1.out,k1.out.trans (Kp.setRow (S:=isB R) _ rfl _)⟩
   | exact ⟨rfl,E1.out.kept (Kp.refl noB _).drew id,(k1.out.trans (Kp.setRow (S:=isB R) _ rfl _)).drew⟩
   | exact ⟨rfl,E2.out,k1.out.drew.trans (Kp.setRow (S:=isB R) _ rfl _)⟩
set_option maxRecDepth 20000 in
set_option maxHeartbeats 1000000 in
theorem rline_b2 (w:World) (R:Nat) (a b:RC) (h:RAt w R a b) (k:Nat) (hk:k < 8) (x:Int) (hx:x=k+8) (hu:b.up k=true):Calls Tryz.prog 139 #[.pointer (some ⟨R,0,none⟩),.int .i64 x,.bool true] w fun e w'=>e=.returned (.int .i64 0)∧RAt w' R a ({ asks:=b.asks,srv:=b.srv,msk:=b.msk,up:=upd b.up k true,base:=b.base,told:=b.told,ends:=b.ends,wp:=b.wp,wl:=b.wl,wc:=b.wc:RC })∧Kp (isB R) w w':=by
 obtain ⟨T,nI,Z,fs,ps,V⟩:=vlC
 obtain ⟨vl,vs,va,vb⟩:=V.ops
 have v1:=V.agg
 have v2:=V.size
 have v3:=V.zero
 have v4:=V.under
 have v5:=V.map
 have v6:=V.zs
 have vG:=V.getNew
 have vN:=V.new
 have L:=V.getB h
 have lR:=h.lt
 have HR:Hid (RAt w R a b):=h
 have x0:0≤x:=by omega
 have x1:x < 16:=by omega
 have g0:decide (x < 0)=false:=by simp;omega
 have g1:decide (x > 15)=false:=by simp;omega
 have x2:(x==2)=false:=by simp;omega
 have d1:x.tdiv 8=1:=by rw [Int.tdiv_eq_ediv_of_nonneg x0];omega
 have d2:x.tmod 8=(k:Int):=by rw [Int.tmod_eq_emod_of_nonneg x0];omega
 have cu:∀ r:RC,(chV r)[24+k]?=some (.bool (r.up k)):=fun r=>ch_up r hk
 have ca:∀ r:RC,(chV r)[k]?=some (.bool (r.asks k)):=fun r=>ch_asks r hk
 have su:∀ (r:RC) b,(chV r).setIfInBounds (24+k) (.bool b)=chV { r with up:=upd r.up k b }:=fun r b=>set_up r hk b
 have sa:∀ (r:RC) b,(chV r).setIfInBounds k (.bool b)=chV { r with asks:=upd r.asks k b }:=fun r b=>set_asks r hk b
 have cs:∀ r:RC,(chV r).size=nI:=fun r=>by rw [V.s];rfl
 have HV:Hid (VlC T nI Z fs ps):=V
 clear h hx V
 go_enter Tryz.func139,Tryz.ntmps139
 simp only [vl,vs,va]
 clear vl vs va vb
 go_wp2
 have h1:Hid (RAt (w.alloc (.cells (chV ({ asks:=b.asks,srv:=b.srv,msk:=b.msk,up:=upd b.up k true,base:=b.base,told:=b.told,ends:=b.ends,wp:=b.wp,wl:=b.wl,wc:=b.wc:RC })) T)) R a b):=HR.out.kept (Kp.alloc noB _ _) id
 have h2:Hid (CAt (w.alloc (.cells (chV ({ asks:=b.asks,srv:=b.srv,msk:=b.msk,up:=upd b.up k true,base:=b.base,told:=b.told,ends:=b.ends,wp:=b.wp,wl:=b.wl,wc:=b.wc:RC })) T)) w.heap.size ({ asks:=b.asks,srv:=b.srv,msk:=b.msk,up:=upd b.up k true,base:=b.base,told:=b.told,ends:=b.ends,wp:=b.wp,wl:=b.wl,wc:=b.wc:RC })):=HV.out.at _ w
 have k1:Hid (Kp (isB R) w (w.alloc (.cells (chV ({ asks:=b.asks,srv:=b.srv,msk:=b.msk,up:=upd b.up k true,base:=b.base,told:=b.told,ends:=b.ends,wp:=b.wp,wl:=b.wl,wc:=b.wc:RC })) T))):=Kp.alloc _ _ _
 clear vG vN L lR
 generalize w.alloc (.cells (chV ({ asks:=b.asks,srv:=b.srv,msk:=b.msk,up:=upd b.up k true,base:=b.base,told:=b.told,ends:=b.ends,wp:=b.wp,wl:=b.wl,wc:=b.wc:RC })) T)=w1 at h1 h2 k1 ⊢
 have L1:=HV.out.get h2.out
 have L2:=HV.out.get (h2.out.kept (Kp.refl noB w1).drew id)
 have S1:=put_B h1.out ({ asks:=b.asks,srv:=b.srv,msk:=b.msk,up:=upd b.up k true,base:=b.base,told:=b.told,ends:=b.ends,wp:=b.wp,wl:=b.wl,wc:=b.wc:RC })
 have S2:=put_B (h1.out.kept (Kp.refl noB w1).drew id) ({ asks:=b.asks,srv:=b.srv,msk:=b.msk,up:=upd b.up k true,base:=b.base,told:=b.told,ends:=b.ends,wp:=b.wp,wl:=b.wl,wc:=b.wc:RC })
 have E1:Hid (RAt (w1.setRow R (chV a++chV ({ asks:=b.asks,srv:=b.srv,msk:=b.msk,up:=upd b.up k true,base:=b.base,told:=b.told,ends:=b.ends,wp:=b.wp,wl:=b.wl,wc:=b.wc:RC }))) R a ({ asks:=b.asks,srv:=b.srv,msk:=b.msk,up:=upd b.up k true,base:=b.base,told:=b.told,ends:=b.ends,wp:=b.wp,wl:=b.wl,wc:=b.wc:RC })):=h1.out.putB _
 have E2:Hid (RAt (w1.drew.setRow R (chV a++chV ({ asks:=b.asks,srv:=b.srv,msk:=b.msk,up:=upd b.up k true,base:=b.base,told:=b.told,ends:=b.ends,wp:=b.wp,wl:=b.wl,wc:=b.wc:RC }))) R a ({ asks:=b.asks,srv:=b.srv,msk:=b.msk,up:=upd b.up k true,base:=b.base,told:=b.told,ends:=b.ends,wp:=b.wp,wl:=b.wl,wc:=b.wc:RC })):=(h1.out.kept (Kp.refl noB w1).drew id).putB _
 go_region
 all_goals
  go_wp2
  go_ret
  first
   | exact ⟨rfl,E1.out,k1.out.trans (Kp.setRow (S:=isB R) _ rfl _)⟩
   | exact ⟨rfl,E1.out.kept (Kp.refl noB _).drew id,(k1.out.trans (Kp.setRow (S:=isB R) _ rfl _)).drew⟩
   | exact ⟨rfl,E2.out,k1.out.drew.trans (Kp.setRow (S:=isB R) _ rfl _)⟩
theorem line_lit1 (r:RC) (k:Nat) (h:r.up k=false):r.line k true={ r with asks:=upd r.asks k true,up:=upd r.up k true }:=by unfold RC.line;rw [h];rfl
theorem line_lit2 (r:RC) (k:Nat) (h:r.up k=true):r.line k true={ r with asks:=r.asks,up:=upd r.up k true }:=by unfold RC.line;rw [h];rfl
theorem rlineA (w:World) (R:Nat) (a b:RC) (h:RAt w R a b) (k:Nat) (hk:k < 8) (h2:k≠2) (u:Bool):Calls Tryz.prog 139 #[.pointer (some ⟨R,0,none⟩),.int .i64 k,.bool u] w fun e w'=>e=.returned (.int .i64 0)∧RAt w' R (a.line k u) b∧Kp (isB R) w w':=by
 cases u
 ·exact rline_a0 w R a b h k hk h2 k rfl
 ·cases e:a.up k
  ·rw [line_lit1 a k e];exact rline_a1 w R a b h k hk h2 k rfl e
  ·rw [line_lit2 a k e];exact rline_a2 w R a b h k hk h2 k rfl e
theorem rlineB (w:World) (R:Nat) (a b:RC) (h:RAt w R a b) (k:Nat) (hk:k < 8) (u:Bool) (x:Int) (hx:x=k+8):Calls Tryz.prog 139 #[.pointer (some ⟨R,0,none⟩),.int .i64 x,.bool u] w fun e w'=>e=.returned (.int .i64 0)∧RAt w' R a (b.line k u)∧Kp (isB R) w w':=by
 cases u
 ·exact rline_b0 w R a b h k hk x hx
 ·cases e:b.up k
  ·rw [line_lit1 b k e];exact rline_b1 w R a b h k hk x hx e
  ·rw [line_lit2 b k e];exact rline_b2 w R a b h k hk x hx e
theorem rline_2 (w:World) (R:Nat) (u:Bool):Calls Tryz.prog 139 #[.pointer (some ⟨R,0,none⟩),.int .i64 2,.bool u] w fun e w'=>e=.returned (.int .i64 0)∧w'=w:=by
 go_enter Tryz.func139,Tryz.ntmps139
 go_wp2
 go_ret
 exact ⟨rfl,rfl⟩
def wantsOf (d:Int):List Int:=if d=1 then [1] else if d=2 then [2] else if d=3 then [1,2] else if d=4 then [3] else if d=5 then [1,3] else if d=6 then [2,3] else if d=7 then [1,2,3] else []
theorem settle_st2 {m:M2} (h:m.Ok):St2 m.settle:=by
 unfold St2
 rw [settle_asks h,if_pos rfl];rfl
theorem settle_id {m:M2} (k:m.Ok) (h:St2 m):m.settle=m:=by
 have e:m.settle.a.asks=m.a.asks:=by_ext k.settle.a.asks k.a.asks fun j hj=>by
  rw [settle_asks k]
  by_cases q:j=2
  ·subst q;rw [if_pos rfl];exact h.symm
  ·rw [if_neg q]
 have e2:m.settle=⟨{ m.a with asks:=m.settle.a.asks },m.b⟩:=rfl
 rw [e2,e]
theorem line_due (c:Ch) (k:Int) (u:Bool):(c.line k u).due=c.due:=(line_keep c k u).2.2.2.1
theorem zero_rel (s:Bool):Rel RC.zero ch0 s:=⟨fun j _ _=>(zero_tb j).symm,fun j _=>(zero_tb j).symm,fun j _=>(zero_tb j).symm,fun j _ _=>(zero_tb j).symm,rfl,rfl,rfl⟩
theorem st0:St2 m00:=by unfold St2;kernel_rfl
def WnS (w:World) (S:Nat→Prop) (R:Nat) (p:Option Addr) (n c:Nat) (l:List Int):Prop:=n=l.length∧n≤c∧∀ j,j < l.length→∃ g,p=some ⟨g,0,none⟩∧(S g∧g≠R)∧g < w.heap.size∧w.cell? ⟨g,j,none⟩=some (.int .i64 (l.getD j 0))
def nS (S:Nat→Prop) (w w':World):Nat→Prop:=fun k=>k < w'.heap.size∧(S k∨w.heap.size≤k)
section
variable {w w':World} {S:Nat→Prop} {R:Nat} {p:Option Addr} {n c:Nat} {l:List Int}
theorem WnS.next (h:WnS w S R p n c l) (k:Kp (isB R) w w'):WnS w' (nS S w w') R p n c l:=⟨h.1,h.2.1,fun j hj=>by
 obtain ⟨g,e,hb,hl,hc⟩:=h.2.2 j hj
 have hl':=Nat.lt_of_lt_of_le hl k.size
 exact ⟨g,e,⟨⟨hl',.inl hb.1⟩,hb.2⟩,hl',cell_kept hc k hb.2⟩⟩
theorem WnS.kept {T:Nat→Prop} (h:WnS w S R p n c l) (k:Kp T w w') (hS:∀ k,S k→¬ T k):WnS w' S R p n c l:=⟨h.1,h.2.1,fun j hj=>by
 obtain ⟨g,e,hb,hl,hc⟩:=h.2.2 j hj
 exact ⟨g,e,hb,Nat.lt_of_lt_of_le hl k.size,cell_kept hc k (hS g hb.1)⟩⟩
theorem WnS.same (h:WnS w S R p n c l):WnS w (nS S w w) R p n c l:=h.next (Kp.refl _ _)
end
structure RXS (w:World) (S:Nat→Prop) (R:Nat) (m:M2) (a b:RC):Prop where
 rm:RM w R m a b
 wa:WnS w S R a.wp a.wl a.wc (wantsOf m.a.due)
 wb:WnS w S R b.wp b.wl b.wc (wantsOf m.b.due)
def RWS (w:World) (S:Nat→Prop) (R:Nat) (m:M2):Prop:=∃ a b,RXS w S R m a b
theorem RXS.same {w:World} {S:Nat→Prop} {R:Nat} {m:M2} {a b:RC} (h:RXS w S R m a b):RXS w (nS S w w) R m a b:=⟨h.rm,h.wa.same,h.wb.same⟩
theorem RWS.lt {w:World} {S:Nat→Prop} {R:Nat} {m:M2} (h:RWS w S R m):R < w.heap.size:=by obtain ⟨a,b,h⟩:=h;exact h.rm.at_.lt
theorem RWS.kept {T:Nat→Prop} {w w':World} {S:Nat→Prop} {R:Nat} {m:M2} (h:RWS w S R m) (sR:S R) (k:Kp T w w') (hS:∀ k,S k→¬ T k):RWS w' S R m:=by
 obtain ⟨a,b,h⟩:=h
 exact ⟨a,b,⟨h.rm.at_.kept k (hS R sR),h.rm.ra,h.rm.rb,h.rm.ok,h.rm.st⟩,h.wa.kept k hS,h.wb.kept k hS⟩
theorem sLine (w:World) (R:Nat) (m:M2) (S:Nat→Prop) (h:RWS w S R m) (n:Int) (u:Bool) (n0:0≤n) (n1:n < 16):Calls Tryz.prog 139 #[.pointer (some ⟨R,0,none⟩),.int .i64 n,.bool u] w fun e w'=>e=.returned (.int .i64 0)∧RWS w' (nS S w w') R (m.line n u)∧Kp (isB R) w w':=by
 obtain ⟨a,b,h⟩:=h
 have ok':=h.rm.ok.line n0 n1 u
 have hs:=settle_id h.rm.ok h.rm.st
 by_cases e2:n=2
 ·subst e2
  have hX:m.line 2 u=m:=by unfold M2.line;rw [if_pos rfl];exact hs
  rw [hX]
  exact (rline_2 w R u).mono fun e w' ⟨z1,z2⟩=>⟨z1,by subst z2;exact ⟨a,b,h.same⟩,z2 ▸ Kp.refl _ _⟩
 ·by_cases e8:n < 8
  ·obtain ⟨k,rfl⟩:=Int.eq_ofNat_of_zero_le n0
   have k8:k < 8:=by omega
   have k2:k≠2:=by omega
   have hX:m.line (k:Int) u=(m.set false (m.a.line (k:Int) u)).settle:=by unfold M2.line;rw [if_neg e2,if_pos e8]
   have o1:(m.set false (m.a.line (k:Int) u)).Ok:=h.rm.ok.set false (h.rm.ok.a.line n0 e8 u)
   refine (rlineA w R a b h.rm.at_ k k8 k2 u).mono fun e w' ⟨z1,z2,z3⟩=>⟨z1,⟨a.line k u,b,⟨z2,?_,?_,ok',?_⟩,?_,?_⟩,z3⟩
   ·rw [hX];exact Rel.settle (h.rm.ra.line h.rm.ok.a k8 (fun _=>k2) u) o1
   ·rw [hX];exact h.rm.rb
   ·rw [hX];exact settle_st2 o1
   ·rw [hX]
    show WnS w' (nS S w w') R a.wp a.wl a.wc (wantsOf (m.a.line (k:Int) u).due)
    rw [line_due]
    exact h.wa.next z3
   ·rw [hX]
    exact h.wb.next z3
  ·obtain ⟨k,hk⟩:=Int.eq_ofNat_of_zero_le (show 0≤n - 8 by omega)
   have k8:k < 8:=by omega
   have hX:m.line n u=(m.set true (m.b.line (k:Int) u)).settle:=by unfold M2.line;rw [if_neg e2,if_neg e8,hk]
   have o1:(m.set true (m.b.line (k:Int) u)).Ok:=h.rm.ok.set true (h.rm.ok.b.line (n:=(k:Int)) (by omega) (by omega) u)
   refine (rlineB w R a b h.rm.at_ k k8 u n (by omega)).mono fun e w' ⟨z1,z2,z3⟩=>⟨z1,⟨a,b.line k u,⟨z2,?_,?_,ok',?_⟩,?_,?_⟩,z3⟩
   ·rw [hX];exact Rel.settle (m:=m.set true (m.b.line (k:Int) u)) h.rm.ra o1
   ·rw [hX];exact h.rm.rb.line h.rm.ok.b k8 (fun f=>by cases f) u
   ·rw [hX];exact settle_st2 o1
   ·rw [hX]
    exact h.wa.next z3
   ·rw [hX]
    show WnS w' (nS S w w') R b.wp b.wl b.wc (wantsOf (m.b.line (k:Int) u).due)
    rw [line_due]
    exact h.wb.next z3
theorem sNew (w:World):Calls Tryz.prog 64 #[] w fun e w'=>e=.returned (.pointer (some ⟨w.heap.size,0,none⟩))∧RWS w' (isB w.heap.size) w.heap.size m00∧Kp noB w w':=by
 have hR:Hid (∀ w':World,w'.heap[w.heap.size]?=some (.cells (chV RC.zero++chV RC.zero) 242 (0,0))→RWS w' (isB w.heap.size) w.heap.size m00):=fun w' h=>⟨RC.zero,RC.zero,⟨⟨h⟩,zero_rel _,zero_rel _,m00_ok,st0⟩,⟨rfl,Nat.le_refl _,fun j hj=>absurd hj (by show ¬ j < 0;omega)⟩,⟨rfl,Nat.le_refl _,fun j hj=>absurd hj (by show ¬ j < 0;omega)⟩⟩
 have hz0:∀ w,(zeroValue 242).run Tryz.prog w=.ok (.agg (chV RC.zero++chV RC.zero)) w:=fun w=>by kernel_rfl
 obtain ⟨Y,hY⟩:∃ Y,Y=chV RC.zero++chV RC.zero:=⟨_,rfl⟩
 rw [← hY] at hz0 hR
 clear hY
 go_enter Tryz.func64,Tryz.ntmps64
 go_wp2
 go_ret
 exact ⟨rfl,hR.out _ (heap_new w _),Kp.alloc _ _ _⟩
end Go.Proofs.YtacgmoikegcopaaGreatDoor.Pc
namespace Go.Proofs.YtacgmoikegcopaaGreatDoor.Pt
open Go.ChangeShapes Go.WideShapes Go.ChangeAt Go.RowKit
set_option linter.unusedVariables false
set_option maxRecDepth 20000
theorem Kp.own {S:Nat→Prop} {w w1 w2:World} {B:Nat} (h:Kp S w w1) (k:Kp (isB B) w1 w2) (hB:w.heap.size≤B):Kp S w w2:=h.over k (fun j hj e=>by have:j=B:=e;omega)
def f00:Nat→Cn:=fun _=>cn0
theorem f00_ok:Oks f00:=fun _=>cn0_ok
structure RC where
 mode:Int
 how:Int
 len:Int
 began:Int
 st:Bool
 wants:Bool
 fst:Int
 upper:Bool
 held:Bool
 value:Int
def chV (r:RC):Array Value:=#[.int .i64 r.mode,.int .i64 r.how,.int .u64 r.len,.int .u64 r.began,.bool r.st,.bool r.wants,.int .u8 r.fst,.bool r.upper,.bool r.held,.int .u64 r.value]
def RC.zero:RC:=⟨0,0,0,0,false,false,0,false,false,0⟩
theorem chV_size (r:RC):(chV r).size=10:=rfl
theorem one_chV (r:RC):∀ v ∈ (chV r).toList,v.oneCell'=true:=by
 intro v hv
 simp only [chV,List.mem_cons,List.not_mem_nil,or_false] at hv
 rcases hv with rfl | rfl | rfl | rfl | rfl | rfl | rfl | rfl | rfl | rfl<;>rfl
structure VlC (T:TypeId) (n:Nat) (Z:Array Value) (fs:Array Field) (ps:Array (Nat × Nat)):Prop where
 t:T=244
 s:n=10
 z:Z=chV RC.zero
 agg:∀ w,(isAgg T).run Tryz.prog w=.ok true w
 size:∀ w,(sizeOf T).run Tryz.prog w=.ok n w
 zero:∀ w,(zeroValue T).run Tryz.prog w=.ok (.agg Z) w
 under:∀ w,(underlying T).run Tryz.prog w=.ok (.struct fs) w
 map:∀ w,(Array.mapM (fun f:Field=>Prod.mk f.offset <$> sizeOf f.type) fs).run Tryz.prog w=.ok ps w
 zs:Z.size=n
theorem vlC:∃ T n Z fs ps,VlC T n Z fs ps:=
 ⟨_,_,_,(match Tryz.prog.underlying 244 with | some (.struct f)=>f | _=>#[]),#[(0,1),(1,1),(2,1),(3,1),(4,1),(5,1),(6,1),(7,1),(8,1),(9,1)],rfl,rfl,rfl,fun w=>by kernel_rfl,fun w=>by kernel_rfl,fun w=>by kernel_rfl,fun w=>by kernel_rfl,fun w=>by kernel_rfl,rfl⟩
theorem VlC.ops {T:TypeId} {n:Nat} {Z:Array Value} {fs:Array Field} {ps:Array (Nat × Nat)} (h:VlC T n Z fs ps):
  (∀ x,Op.load 244 x=Op.load T x)∧(∀ x y,Op.store 244 x y=Op.store T x y)∧Op.alloc 244=Op.alloc T∧∀ x,Op.box 244 x=Op.box T x:=by
 rw [h.t]
 exact ⟨fun _=>rfl,fun _ _=>rfl,rfl,fun _=>rfl⟩
def KAt (w:World) (q:Nat) (r:RC):Prop:=w.heap[q]?=some (.cells (chV r) 244 (0,0))
def chL (r:RC):List Value:=[.int .i64 r.mode,.int .i64 r.how,.int .u64 r.len,.int .u64 r.began,.bool r.st,.bool r.wants,.int .u8 r.fst,.bool r.upper,.bool r.held,.int .u64 r.value]
theorem chL_is (r:RC):(chV r).toList=chL r:=rfl
theorem chL_len (r:RC):(chL r).length=10:=rfl
def rowR (g:Nat→RC):Array Value:=(chL (g 0)++(chL (g 1)++chL (g 2))).toArray
structure RAt (w:World) (R:Nat) (g:Nat→RC):Prop where
 blk:w.heap[R]?=some (.cells (rowR g) 247 (0,0))
def updR (g:Nat→RC) (i:Nat) (r:RC):Nat→RC:=fun j=>if j=i then r else g j
theorem updR_at (g:Nat→RC) (i:Nat) (r:RC):updR g i r i=r:=by unfold updR;rw [if_pos rfl]
theorem updR_ne (g:Nat→RC) {i j:Nat} (r:RC) (h:j≠i):updR g i r j=g j:=by unfold updR;rw [if_neg h]
theorem RAt.kept {S:Nat→Prop} {w w':World} {R:Nat} {g:Nat→RC} (h:RAt w R g) (k:Kp S w w') (hS:¬ S R):RAt w' R g:=⟨heap_kept h.blk k hS⟩
theorem RAt.lt {w:World} {R:Nat} {g:Nat→RC} (h:RAt w R g):R < w.heap.size:=heap_lt h.blk
section
variable {T:TypeId} {n:Nat} {Z:Array Value} {fs:Array Field} {ps:Array (Nat × Nat)}
theorem VlC.load (h:VlC T n Z fs ps) {w:World} {q o:Nat} {r:RC} (hr:w.rangeAt q o (chV r).toList):(loadCellsFrom ⟨q,o,none⟩ 0 n #[]).run Tryz.prog w=.ok (chV r) w:=by
 have e:=run_loadCells_list (P:=Tryz.prog) w ⟨q,o,none⟩ (chV r).toList (fun j v hv=>by rw [Addr.add_mid];exact hr j v hv)
 rw [h.s]
 exact e
theorem VlC.get (h:VlC T n Z fs ps) {w:World} {q:Nat} {r:RC} (hq:KAt w q r):(loadCellsFrom ⟨q,0,none⟩ 0 n #[]).run Tryz.prog w=.ok (chV r) w:=
 h.load (fun j v hv=>by
  rw [cell_of_row w q (0+j) _ _ _ hq,Nat.zero_add,← Array.getElem?_toList]
  exact hv)
theorem row_get (g:Nat→RC) {i:Nat} (hi:i < 3) {j:Nat} {v:Value} (hv:(chV (g i)).toList[j]?=some v):(rowR g)[10*i+j]?=some v:=by
 have hj:j < 10:=(List.getElem?_eq_some_iff.1 hv).1
 rw [chL_is] at hv
 unfold rowR
 rw [List.getElem?_toArray]
 rcases (by omega:i=0∨i=1∨i=2) with rfl | rfl | rfl
 ·rw [List.getElem?_append_left (by rw [chL_len];omega),show 10*0+j=j by omega]
  exact hv
 ·rw [List.getElem?_append_right (by rw [chL_len];omega),chL_len,show 10*1+j - 10=j by omega,List.getElem?_append_left (by rw [chL_len];omega)]
  exact hv
 ·rw [List.getElem?_append_right (by rw [chL_len];omega),chL_len,show 10*2+j - 10=10+j by omega,List.getElem?_append_right (by rw [chL_len];omega),chL_len,show 10+j - 10=j by omega]
  exact hv
theorem VlC.getR (h:VlC T n Z fs ps) {w:World} {R:Nat} {g:Nat→RC} (hq:RAt w R g) (i o:Nat) (hi:i < 3) (ho:o=10*i):(loadCellsFrom ⟨R,o,none⟩ 0 n #[]).run Tryz.prog w=.ok (chV (g i)) w:=
 h.load (fun j v hv=>by
  rw [cell_of_row w R (o+j) _ _ _ hq.blk,ho]
  exact row_get g hi hv)
theorem put_ch {w:World} {q:Nat} {c:Array Value} {T:TypeId} (h:w.heap[q]?=some (.cells c T (0,0))) (hc:c.size=10) (r:RC):(storeCells ⟨q,0,none⟩ (chV r).toList).run Tryz.prog w=.ok () (w.setRow q (chV r)):=by
 have e:=run_storeCells_at Tryz.prog q 0 T (chV r).toList 0 c w h (by simp [hc,chV_size]) (one_chV r)
 rw [e]
 have e2:(List.take (0+0) c.toList++(chV r).toList++List.drop (0+0+(chV r).toList.length) c.toList).toArray=chV r:=by
  have h1:List.drop (0+0+(chV r).toList.length) c.toList=[]:=List.drop_eq_nil_of_le (by simp [hc,chV_size])
  rw [h1]
  simp
 rw [e2]
theorem setRow_alloc (W:World) (c A:Array Value) (T:TypeId):(W.alloc (.cells c T)).setRow W.heap.size A=W.alloc (.cells A T):=by
 unfold World.setRow World.alloc
 congr 1
 apply Array.ext_getElem?
 intro i
 rw [Array.getElem?_modify]
 by_cases h:W.heap.size=i
 ·subst h;simp
 ·simp only [h,if_false]
  by_cases h2:i < W.heap.size
  ·rw [Array.getElem?_push_lt h2,Array.getElem?_push_lt h2]
  ·rw [Array.getElem?_eq_none (by simp;omega),Array.getElem?_eq_none (by simp;omega)]
theorem VlC.new (h:VlC T n Z fs ps) (r:RC) (W:World):(storeCells ⟨W.heap.size,0,none⟩ (chV r).toList).run Tryz.prog (W.alloc (.cells Z T))=.ok () (W.alloc (.cells (chV r) T)):=by
 rw [← setRow_alloc W Z (chV r) T,h.t]
 exact put_ch (heap_new W (.cells Z 244)) (by rw [h.z];rfl) r
theorem VlC.at (h:VlC T n Z fs ps) (r:RC) (W:World):KAt (W.alloc (.cells (chV r) T)) W.heap.size r:=by
 rw [h.t];exact heap_new _ _
theorem VlC.getNew (h:VlC T n Z fs ps) (r:RC) (W:World):(loadCellsFrom ⟨W.heap.size,0,none⟩ 0 n #[]).run Tryz.prog (W.alloc (.cells (chV r) T))=.ok (chV r) (W.alloc (.cells (chV r) T)):=h.get (h.at r W)
end
theorem RAt.fz {w:World} {R:Nat} {g:Nat→RC} (h:RAt w R g) (j:Nat):w.frozen? ⟨R,j,none⟩=false:=frozen_of_row w R j _ _ h.blk
def RC.steps (r:RC) (now:Int):Int:=(now - r.began)%18446744073709551616
def RC.line (r:RC) (now:Int):Bool:=
 if r.st then r.mode != 0
 else if r.mode=0 then decide (r.len≤r.steps now)
 else if r.mode=2 then r.steps now%r.len != r.len - 1
 else if r.mode=3 then decide (r.steps now%r.len < (r.len+1) / 2)
 else true
theorem w64 (n:Int):IntKind.u64.wrap n=n%18446744073709551616:=by simp [IntKind.wrap,IntKind.bits,IntKind.signed]
theorem w64_in {n:Int} (h0:0≤n) (h1:n < 18446744073709551616):IntKind.u64.wrap n=n:=by rw [w64];omega
theorem RC.steps_bd (r:RC) (now:Int):0≤r.steps now∧r.steps now < 18446744073709551616:=by
 unfold RC.steps
 omega
set_option maxRecDepth 20000 in
set_option maxHeartbeats 1000000 in
theorem rlin_st (w:World) (R:Nat) (g:Nat→RC) (r:RC) (h:RAt w R g) (hr:g 0=r) (now:Int) (l0:1≤r.len) (l1:r.len≤65536) (hs:r.st=true):Calls Tryz.prog 140 #[.pointer (some ⟨R,0,none⟩),.int .u64 now] w fun e w'=>e=.returned (.bool (r.mode != 0))∧Kp noB w w':=by
 obtain ⟨T,nI,Z,fs,ps,V⟩:=vlC
 obtain ⟨vl,vs,va,vb⟩:=V.ops
 have v1:=V.agg
 have v2:=V.size
 have v3:=V.zero
 have v4:=V.under
 have v5:=V.map
 have v6:=V.zs
 have q0:(chV r)[0]?=some (.int .i64 r.mode):=rfl
 have q2:(chV r)[2]?=some (.int .u64 r.len):=rfl
 have q3:(chV r)[3]?=some (.int .u64 r.began):=rfl
 have q4:(chV r)[4]?=some (.bool r.st):=rfl
 have hN:IntKind.u64.wrap (now - r.began)=r.steps now:=w64 _
 have bN:=r.steps_bd now
 have hz:(r.len==0)=false:=by simp;omega
 have rb:=rem_bd (n:=r.steps now) l0
 have cs:∀ r:RC,(chV r).size=nI:=fun r=>by rw [V.s];rfl
 have L:=V.getR h 0 0 (by decide) (by decide)
 rw [hr] at L
 have vG:=V.getNew
 have vN:=V.new
 rw [hs] at q4
 obtain ⟨N,eN⟩:∃ N,N=r.steps now:=⟨_,rfl⟩
 rw [← eN] at hN bN rb
 try rw [← eN]
 obtain ⟨M,eM0⟩:∃ M,N%r.len=M:=⟨_,rfl⟩
 rw [eM0] at rb
 have eM:N.tmod r.len=M:=by rw [Int.tmod_eq_emod_of_nonneg bN.1];exact eM0
 have tL:r.len.tmod 65536=r.len%65536:=Int.tmod_eq_emod_of_nonneg (by omega)
 clear h
 clear eN V
 go_enter Tryz.func140,Tryz.ntmps140
 simp only [vl,vs,va]
 clear vl vs va vb
 go_wp2
 go_ret
 exact ⟨rfl,Kp.alloc _ _ _⟩
set_option maxRecDepth 20000 in
set_option maxHeartbeats 1000000 in
theorem rlin_0 (w:World) (R:Nat) (g:Nat→RC) (r:RC) (h:RAt w R g) (hr:g 0=r) (now:Int) (l0:1≤r.len) (l1:r.len≤65536) (hs:r.st=false) (hm:r.mode=0):Calls Tryz.prog 140 #[.pointer (some ⟨R,0,none⟩),.int .u64 now] w fun e w'=>e=.returned (.bool (decide (r.len≤r.steps now)))∧Kp noB w w':=by
 obtain ⟨T,nI,Z,fs,ps,V⟩:=vlC
 obtain ⟨vl,vs,va,vb⟩:=V.ops
 have v1:=V.agg
 have v2:=V.size
 have v3:=V.zero
 have v4:=V.under
 have v5:=V.map
 have v6:=V.zs
 have q0:(chV r)[0]?=some (.int .i64 r.mode):=rfl
 have q2:(chV r)[2]?=some (.int .u64 r.len):=rfl
 have q3:(chV r)[3]?=some (.int .u64 r.began):=rfl
 have q4:(chV r)[4]?=some (.bool r.st):=rfl
 have hN:IntKind.u64.wrap (now - r.began)=r.steps now:=w64 _
 have bN:=r.steps_bd now
 have hz:(r.len==0)=false:=by simp;omega
 have rb:=rem_bd (n:=r.steps now) l0
 have cs:∀ r:RC,(chV r).size=nI:=fun r=>by rw [V.s];rfl
 have L:=V.getR h 0 0 (by decide) (by decide)
 rw [hr] at L
 have vG:=V.getNew
 have vN:=V.new
 rw [hs] at q4
 rw [hm] at q0
 obtain ⟨N,eN⟩:∃ N,N=r.steps now:=⟨_,rfl⟩
 rw [← eN] at hN bN rb
 try rw [← eN]
 obtain ⟨M,eM0⟩:∃ M,N%r.len=M:=⟨_,rfl⟩
 rw [eM0] at rb
 have eM:N.tmod r.len=M:=by rw [Int.tmod_eq_emod_of_nonneg bN.1];exact eM0
 have tL:r.len.tmod 65536=r.len%65536:=Int.tmod_eq_emod_of_nonneg (by omega)
 clear h
 clear eN V
 go_enter Tryz.func140,Tryz.ntmps140
 simp only [vl,vs,va]
 clear vl vs va vb
 go_wp2
 go_ret
 exact ⟨(ret_bool (by first | rfl | simp only [hN])),Kp.alloc _ _ _⟩
set_option maxRecDepth 20000 in
set_option maxHeartbeats 1000000 in
theorem rlin_2 (w:World) (R:Nat) (g:Nat→RC) (r:RC) (h:RAt w R g) (hr:g 0=r) (now:Int) (l0:1≤r.len) (l1:r.len≤65536) (hs:r.st=false) (hm:r.mode=2):Calls Tryz.prog 140 #[.pointer (some ⟨R,0,none⟩),.int .u64 now] w fun e w'=>e=.returned (.bool (r.steps now%r.len != r.len - 1))∧Kp noB w w':=by
 obtain ⟨T,nI,Z,fs,ps,V⟩:=vlC
 obtain ⟨vl,vs,va,vb⟩:=V.ops
 have v1:=V.agg
 have v2:=V.size
 have v3:=V.zero
 have v4:=V.under
 have v5:=V.map
 have v6:=V.zs
 have q0:(chV r)[0]?=some (.int .i64 r.mode):=rfl
 have q2:(chV r)[2]?=some (.int .u64 r.len):=rfl
 have q3:(chV r)[3]?=some (.int .u64 r.began):=rfl
 have q4:(chV r)[4]?=some (.bool r.st):=rfl
 have hN:IntKind.u64.wrap (now - r.began)=r.steps now:=w64 _
 have bN:=r.steps_bd now
 have hz:(r.len==0)=false:=by simp;omega
 have rb:=rem_bd (n:=r.steps now) l0
 have cs:∀ r:RC,(chV r).size=nI:=fun r=>by rw [V.s];rfl
 have L:=V.getR h 0 0 (by decide) (by decide)
 rw [hr] at L
 have vG:=V.getNew
 have vN:=V.new
 rw [hs] at q4
 rw [hm] at q0
 obtain ⟨N,eN⟩:∃ N,N=r.steps now:=⟨_,rfl⟩
 rw [← eN] at hN bN rb
 try rw [← eN]
 obtain ⟨M,eM0⟩:∃ M,N%r.len=M:=⟨_,rfl⟩
 rw [eM0] at rb
 have eM:N.tmod r.len=M:=by rw [Int.tmod_eq_emod_of_nonneg bN.1];exact eM0
 have tL:r.len.tmod 65536=r.len%65536:=Int.tmod_eq_emod_of_nonneg (by omega)
 rw [eM0]
 have a2:IntKind.u64.wrap (r.len - 1)=r.len - 1:=w64_in (by omega) (by omega)
 clear eM0
 clear h
 clear eN V
 go_enter Tryz.func140,Tryz.ntmps140
 simp only [vl,vs,va]
 clear vl vs va vb
 go_wp2
 go_region
 all_goals
  go_wp2
  go_ret
  exact ⟨(ret_bool (by first | rfl | simp only [hN,eM,a2] | simp only [hN,eM,a2,t2])),(Kp.alloc noB w _).drew⟩
set_option maxRecDepth 20000 in
set_option maxHeartbeats 1000000 in
theorem rlin_3 (w:World) (R:Nat) (g:Nat→RC) (r:RC) (h:RAt w R g) (hr:g 0=r) (now:Int) (l0:1≤r.len) (l1:r.len≤65536) (hs:r.st=false) (hm:r.mode=3):Calls Tryz.prog 140 #[.pointer (some ⟨R,0,none⟩),.int .u64 now] w fun e w'=>e=.returned (.bool (decide (r.steps now%r.len < (r.len+1) / 2)))∧Kp noB w w':=by
 obtain ⟨T,nI,Z,fs,ps,V⟩:=vlC
 obtain ⟨vl,vs,va,vb⟩:=V.ops
 have v1:=V.agg
 have v2:=V.size
 have v3:=V.zero
 have v4:=V.under
 have v5:=V.map
 have v6:=V.zs
 have q0:(chV r)[0]?=some (.int .i64 r.mode):=rfl
 have q2:(chV r)[2]?=some (.int .u64 r.len):=rfl
 have q3:(chV r)[3]?=some (.int .u64 r.began):=rfl
 have q4:(chV r)[4]?=some (.bool r.st):=rfl
 have hN:IntKind.u64.wrap (now - r.began)=r.steps now:=w64 _
 have bN:=r.steps_bd now
 have hz:(r.len==0)=false:=by simp;omega
 have rb:=rem_bd (n:=r.steps now) l0
 have cs:∀ r:RC,(chV r).size=nI:=fun r=>by rw [V.s];rfl
 have L:=V.getR h 0 0 (by decide) (by decide)
 rw [hr] at L
 have vG:=V.getNew
 have vN:=V.new
 rw [hs] at q4
 rw [hm] at q0
 obtain ⟨N,eN⟩:∃ N,N=r.steps now:=⟨_,rfl⟩
 rw [← eN] at hN bN rb
 try rw [← eN]
 obtain ⟨M,eM0⟩:∃ M,N%r.len=M:=⟨_,rfl⟩
 rw [eM0] at rb
 have eM:N.tmod r.len=M:=by rw [Int.tmod_eq_emod_of_nonneg bN.1];exact eM0
 have tL:r.len.tmod 65536=r.len%65536:=Int.tmod_eq_emod_of_nonneg (by omega)
 rw [eM0]
 have a2:IntKind.u64.wrap (r.len+1)=r.len+1:=w64_in (by omega) (by omega)
 have t2:(r.len+1).tdiv 2=(r.len+1) / 2:=Int.tdiv_eq_ediv_of_nonneg (by omega)
 clear eM0
 clear h
 clear eN V
 go_enter Tryz.func140,Tryz.ntmps140
 simp only [vl,vs,va]
 clear vl vs va vb
 go_wp2
 go_region
 all_goals
  go_wp2
  go_ret
  exact ⟨(ret_bool (by first | rfl | simp only [hN,eM,a2] | simp only [hN,eM,a2,t2])),(Kp.alloc noB w _).drew⟩
set_option maxRecDepth 20000 in
set_option maxHeartbeats 1000000 in
theorem rlin_no (w:World) (R:Nat) (g:Nat→RC) (r:RC) (h:RAt w R g) (hr:g 0=r) (now:Int) (l0:1≤r.len) (l1:r.len≤65536) (hs:r.st=false) (hm:¬ r.mode=0∧¬ r.mode=2∧¬ r.mode=3):Calls Tryz.prog 140 #[.pointer (some ⟨R,0,none⟩),.int .u64 now] w fun e w'=>e=.returned (.bool true)∧Kp noB w w':=by
 obtain ⟨T,nI,Z,fs,ps,V⟩:=vlC
 obtain ⟨vl,vs,va,vb⟩:=V.ops
 have v1:=V.agg
 have v2:=V.size
 have v3:=V.zero
 have v4:=V.under
 have v5:=V.map
 have v6:=V.zs
 have q0:(chV r)[0]?=some (.int .i64 r.mode):=rfl
 have q2:(chV r)[2]?=some (.int .u64 r.len):=rfl
 have q3:(chV r)[3]?=some (.int .u64 r.began):=rfl
 have q4:(chV r)[4]?=some (.bool r.st):=rfl
 have hN:IntKind.u64.wrap (now - r.began)=r.steps now:=w64 _
 have bN:=r.steps_bd now
 have hz:(r.len==0)=false:=by simp;omega
 have rb:=rem_bd (n:=r.steps now) l0
 have cs:∀ r:RC,(chV r).size=nI:=fun r=>by rw [V.s];rfl
 have L:=V.getR h 0 0 (by decide) (by decide)
 rw [hr] at L
 have vG:=V.getNew
 have vN:=V.new
 rw [hs] at q4
 have m0:(r.mode==0)=false:=by simp [hm.1]
 have m2:(r.mode==2)=false:=by simp [hm.2.1]
 have m3:(r.mode==3)=false:=by simp [hm.2.2]
 clear hm
 obtain ⟨N,eN⟩:∃ N,N=r.steps now:=⟨_,rfl⟩
 rw [← eN] at hN bN rb
 try rw [← eN]
 obtain ⟨M,eM0⟩:∃ M,N%r.len=M:=⟨_,rfl⟩
 rw [eM0] at rb
 have eM:N.tmod r.len=M:=by rw [Int.tmod_eq_emod_of_nonneg bN.1];exact eM0
 have tL:r.len.tmod 65536=r.len%65536:=Int.tmod_eq_emod_of_nonneg (by omega)
 clear h
 clear eN V
 go_enter Tryz.func140,Tryz.ntmps140
 simp only [vl,vs,va]
 clear vl vs va vb
 go_wp2
 go_ret
 exact ⟨rfl,Kp.alloc _ _ _⟩
theorem rlin_ok (w:World) (R:Nat) (g:Nat→RC) (h:RAt w R g) (now:Int) (l0:1≤(g 0).len) (l1:(g 0).len≤65536):Calls Tryz.prog 140 #[.pointer (some ⟨R,0,none⟩),.int .u64 now] w fun e w'=>e=.returned (.bool ((g 0).line now))∧Kp noB w w':=by
 unfold RC.line
 cases hs:(g 0).st
 ·simp only [Bool.false_eq_true,if_false]
  by_cases h0:(g 0).mode=0
  ·rw [if_pos h0];exact rlin_0 w R g _ h rfl now l0 l1 hs h0
  ·rw [if_neg h0]
   by_cases h2:(g 0).mode=2
   ·rw [if_pos h2];exact rlin_2 w R g _ h rfl now l0 l1 hs h2
   ·rw [if_neg h2]
    by_cases h3:(g 0).mode=3
    ·rw [if_pos h3];exact rlin_3 w R g _ h rfl now l0 l1 hs h3
    ·rw [if_neg h3];exact rlin_no w R g _ h rfl now l0 l1 hs ⟨h0,h2,h3⟩
 ·simp only [if_true]
  exact rlin_st w R g _ h rfl now l0 l1 hs
end Go.Proofs.YtacgmoikegcopaaGreatDoor.Pt
