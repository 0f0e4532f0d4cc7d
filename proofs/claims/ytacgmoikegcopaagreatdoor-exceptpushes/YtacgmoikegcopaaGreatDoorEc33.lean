/- The bus and its devices: RefNew. -/
import Derived.Test.YtacgmoikegcopaaGreatDoorEc08
import Derived.Laws.MakeOwn
import Derived.Laws.OwnMore
namespace Go.Proofs.YtacgmoikegcopaaGreatDoor.Rm
open Go.ChangeShapes Go.WideShapes Go.ChangeAt Go.RowKit Go.Maps
set_option linter.unusedVariables false
set_option maxRecDepth 20000
theorem info8:(Tryz.prog.info? 5).map (fun i=>(i.zero,i.size,i.bytes))=some (some (.int .u8 0),1,1):=by kernel_rfl
theorem infoB:(Tryz.prog.info? 4).map (fun i=>(i.zero,i.size,i.bytes))=some (some (.bool false),1,1):=by kernel_rfl
theorem slice8T:Tryz.prog.underlying 79=some (.slice 5):=by kernel_rfl
theorem sliceBT:Tryz.prog.underlying 141=some (.slice 4):=by kernel_rfl
def made (z:Value) (n:Nat):Array Value:=madeCells z.cells n
theorem made_at (z:Value) (n:Nat) (hz:z.cells=#[z]):(made z n).size=n∧∀ j,j < n→(made z n)[j]?=some z:=by
 unfold made
 rw [hz]
 refine ⟨by simp [madeCells],fun j hj=>by simp [madeCells,hj,Nat.mod_one]⟩
theorem make8 (w:World) (n:Nat) (h:n≤2147483647):(Instr.makeSlice 79 (.int .i64 n) (.int .i64 n)).run Tryz.prog w=.ok (.slice (some ⟨w.heap.size,0,none⟩) n n) (w.alloc (.cells (made (.int .u8 0) n) 5)):=by
 obtain ⟨i0,hi,hz0,hz1,hz2⟩:=info_parts info8
 have r:=run_make (P:=Tryz.prog) w 79 5 i0 (.int .u8 0) slice8T hi hz0 .i64 .i64 n n (by omega) (Int.le_refl _) (by rw [hz2];omega) (by omega)
 rw [Int.toNat_natCast,hz1,Nat.mul_one] at r
 exact r
theorem makeB (w:World) (n:Nat) (h:n≤2147483647):(Instr.makeSlice 141 (.int .i64 n) (.int .i64 n)).run Tryz.prog w=.ok (.slice (some ⟨w.heap.size,0,none⟩) n n) (w.alloc (.cells (made (.bool false) n) 4)):=by
 obtain ⟨i0,hi,hz0,hz1,hz2⟩:=info_parts infoB
 have r:=run_make (P:=Tryz.prog) w 141 4 i0 (.bool false) sliceBT hi hz0 .i64 .i64 n n (by omega) (Int.le_refl _) (by rw [hz2];omega) (by omega)
 rw [Int.toNat_natCast,hz1,Nat.mul_one] at r
 exact r
def NewPost (w:World) (n:Nat) (e:Ending) (w':World):Prop:=
 ∃ R:Rf,e=.returned (.tuple #[.pointer (some ⟨R.r,0,none⟩),.int .i64 0])∧RefAt w' R (mem0 n)∧(∀ k,R.has k→w.heap.size≤k)∧Kp noB w w'
theorem five (w:World) (A B C D E:Obj):let W:=((((w.alloc A).alloc B).alloc C).alloc D).alloc E
  W.heap[w.heap.size]?=some A∧W.heap[w.heap.size+1]?=some B∧W.heap[w.heap.size+1+1]?=some C∧W.heap[w.heap.size+1+1+1]?=some D∧W.heap[w.heap.size+1+1+1+1]?=some E∧Kp noB w W:=by
 have s1:(w.alloc A).heap.size=w.heap.size+1:=by simp
 have s2:((w.alloc A).alloc B).heap.size=w.heap.size+1+1:=by simp
 have s3:(((w.alloc A).alloc B).alloc C).heap.size=w.heap.size+1+1+1:=by simp
 have s4:((((w.alloc A).alloc B).alloc C).alloc D).heap.size=w.heap.size+1+1+1+1:=by simp
 have a0:=(MapKept.heap_alloc w A).1
 have a1:=(MapKept.heap_alloc (w.alloc A) B).1
 have a2:=(MapKept.heap_alloc ((w.alloc A).alloc B) C).1
 have a3:=(MapKept.heap_alloc (((w.alloc A).alloc B).alloc C) D).1
 have a4:=(MapKept.heap_alloc ((((w.alloc A).alloc B).alloc C).alloc D) E).1
 rw [s1] at a1
 rw [s2] at a2
 rw [s3] at a3
 rw [s4] at a4
 have o:∀ (X:World) (O:Obj) (k:Nat),k < X.heap.size→(X.alloc O).heap[k]?=X.heap[k]?:=fun X O k hk=>Below.heap_alloc _ _ _ hk
 refine ⟨?_,?_,?_,?_,a4,((((Kp.alloc _ _ _).trans (Kp.alloc _ _ _)).trans (Kp.alloc _ _ _)).trans (Kp.alloc _ _ _)).trans (Kp.alloc _ _ _)⟩
 ·rw [o _ E _ (by omega),o _ D _ (by omega),o _ C _ (by omega),o _ B _ (by omega)];exact a0
 ·rw [o _ E _ (by omega),o _ D _ (by omega),o _ C _ (by omega)];exact a1
 ·rw [o _ E _ (by omega),o _ D _ (by omega)];exact a2
 ·rw [o _ E _ (by omega)];exact a3
theorem five_drew (w:World) (A B C D E:Obj):let W:=(((((w.alloc A).alloc B).alloc C).alloc D).alloc E).drew
  W.heap[w.heap.size]?=some A∧W.heap[w.heap.size+1]?=some B∧W.heap[w.heap.size+1+1]?=some C∧W.heap[w.heap.size+1+1+1]?=some D∧W.heap[w.heap.size+1+1+1+1]?=some E∧Kp noB w W:=by
 obtain ⟨z0,z1,z2,z3,z4,kz⟩:=five w A B C D E
 exact ⟨z0,z1,z2,z3,z4,kz.drewN 1⟩
theorem refNew_close (w W:World) (n N K b o t q:Nat) (hN:N=4096*n) (hK:K=64*n) (h1:n≤256) (kp:Kp noB w W)
  (hr:W.heap[w.heap.size+1+1+1+1]?=some (.cells #[.slice (some ⟨b,0,none⟩) N N,.slice (some ⟨o,0,none⟩) n n,.slice (some ⟨t,0,none⟩) K K,.slice (some ⟨q,0,none⟩) K K,.bool false] 143 (0,0)))
  (hb:W.heap[b]?=some (.cells (made (.int .u8 0) N) 5 (0,0))) (ho:W.heap[o]?=some (.cells (made (.bool false) n) 4 (0,0))) (ht:W.heap[t]?=some (.cells (made (.bool false) K) 4 (0,0))) (hq:W.heap[q]?=some (.cells (made (.bool false) K) 4 (0,0)))
  (ap:Rf.apart ⟨w.heap.size+1+1+1+1,b,o,t,q⟩) (lo:w.heap.size≤b∧w.heap.size≤o∧w.heap.size≤t∧w.heap.size≤q):
  NewPost w n (.returned (.tuple #[.pointer (some ⟨w.heap.size+1+1+1+1,0,none⟩),.int .i64 0])) W:=by
 subst hN
 subst hK
 refine ⟨⟨w.heap.size+1+1+1+1,b,o,t,q⟩,rfl,⟨h1,ap,hr,⟨_,hb,(made_at _ _ rfl).1,(made_at _ _ rfl).2⟩,⟨_,ho,(made_at _ _ rfl).1,(made_at _ _ rfl).2⟩,⟨_,ht,(made_at _ _ rfl).1,(made_at _ _ rfl).2⟩,⟨_,hq,(made_at _ _ rfl).1,(made_at _ _ rfl).2⟩⟩,?_,kp⟩
 rintro k (rfl | rfl | rfl | rfl | rfl)
 ·show w.heap.size≤w.heap.size+1+1+1+1
  omega
 ·exact lo.1
 ·exact lo.2.1
 ·exact lo.2.2.1
 ·exact lo.2.2.2
set_option maxRecDepth 100000 in
set_option maxHeartbeats 4000000 in
theorem refNew_ok (w:World) (n:Nat) (h0:1≤n) (h1:n≤256):
  Calls Tryz.prog 50 #[.int .i64 n] w (NewPost w n):=by
 obtain ⟨N,hN⟩:∃ N:Nat,N=4096*n:=⟨_,rfl⟩
 obtain ⟨K,hK⟩:∃ K:Nat,K=64*n:=⟨_,rfl⟩
 have g1:¬ (n:Int) < 1:=by omega
 have g2:¬ (256:Int) < (n:Int):=by omega
 have e1:(n:Int)*4096=(N:Int):=by omega
 have e2:(N:Int) / 64=(K:Int):=by omega
 have e3:Int.tdiv (N:Int) 64=(K:Int):=by rw [Int.tdiv_eq_ediv_of_nonneg (by omega)];exact e2
 have mN:=fun W=>make8 W N (by omega)
 have mn:=fun W=>makeB W n (by omega)
 have mK:=fun W=>makeB W K (by omega)
 have HN:Hid (N=4096*n):=hN
 have HK:Hid (K=64*n):=hK
 clear hN hK
 go_enter Tryz.func50,Tryz.ntmps50
 go_wp2
 go_region
 all_goals go_wp2
 all_goals
  refine bodyPost_ret (v:=.tuple #[.pointer (some ⟨w.heap.size+1+1+1+1,0,none⟩),.int .i64 0]) (by simp [results,Tryz.results50,go_sem]) rfl ?_
  obtain ⟨z0,z1,z2,z3,z4,kz⟩:=five_drew w _ _ _ _ _
  refine refNew_close w _ n N K _ _ _ _ HN.out HK.out h1 kz z4 (by first | exact z0 | exact z1 | exact z2 | exact z3) (by first | exact z0 | exact z1 | exact z2 | exact z3) (by first | exact z0 | exact z1 | exact z2 | exact z3) (by first | exact z0 | exact z1 | exact z2 | exact z3) ⟨?_,?_,?_,?_,?_,?_,?_,?_,?_,?_⟩ ⟨?_,?_,?_,?_⟩
  all_goals first | omega | (dsimp only;omega)
end Go.Proofs.YtacgmoikegcopaaGreatDoor.Rm
