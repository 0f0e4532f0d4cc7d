/- Delivery: words that are pushed, in a slice and in memory. -/
import Derived.Test.YtacgmoikegcopaaGreatDoorXcFlowP
import Derived.Test.YtacgmoikegcopaaGreatDoorEc35
namespace Go.Proofs.YtacgmoikegcopaaGreatDoor.Rm
open Go.ChangeShapes Go.WideShapes Go.ChangeAt Go.RowKit Go.Maps
set_option linter.unusedVariables false
set_option maxRecDepth 20000
theorem appU (base:Nat) {w:World} (hb:base≤w.heap.size) {v:Value} {n:Nat} {xs:List Value} (hv:w.ownsRow base 22 1 v n xs) (A:Nat) (a0 a1 a2:Int) (hA:w.heap[A]?=some (.cells #[.int .u32 a0,.int .u32 a1,.int .u32 a2] 22 (0,0))) (hs:n≤1000):
  ∃ v' w',(Builtin.append_ #[65,65] 65 #[v,.slice (some ⟨A,0,none⟩) 3 3]).run Tryz.prog w=.ok v' w'∧w'.ownsRow base 22 1 v' (n+3) (xs++[.int .u32 a0,.int .u32 a1,.int .u32 a2])∧Kp (fun k=>base≤k) w w':=by
 obtain ⟨v',w',hr,h2,h3,h4⟩:=run_append_own_at (P:=Tryz.prog) w base 65 65 22 _ (.int .u32 0) 1 4 Tryz.underlying65 (show Tryz.prog.info? 22=some _ from Tryz.type22) (by kernel_rfl) (by kernel_rfl) (by kernel_rfl) (by kernel_rfl) (by decide)
  v n xs hv ⟨A,0,none⟩ 3 3 [.int .u32 a0,.int .u32 a1,.int .u32 a2] rfl (by
   intro j u hu
   rw [Addr.add_mid,cell_at hA]
   match j,hu with
   | 0,hu=>simpa using hu
   | 1,hu=>simpa using hu
   | 2,hu=>simpa using hu
   | j+3,hu=>simp at hu) (by simp [Value.oneCell']) (by unfold maxLen;omega) (by omega) hb
 refine ⟨v',w',hr,h2,⟨h3.os,h3.tape,h3.output,h3.size,fun k hk hs=>h3.block k hk (fun e=>hs ?_)⟩⟩
 rcases hv.2 with ⟨rfl,_⟩ | ⟨g,cap,cur,rfl,hb,r⟩
 ·cases e
 ·simp [Value.ownBlock] at e;omega
theorem four_in {W:World} {base:Nat} {v:Value} {a b c d:Int} (h:W.ownsRow base 22 1 v 4 [.int .u32 a,.int .u32 b,.int .u32 c,.int .u32 d]):
  ∃ (g cap:Nat),v=.slice (some ⟨g,0,none⟩) 4 cap∧base≤g∧g < W.heap.size∧W.cell? ⟨g,0,none⟩=some (.int .u32 a)∧W.cell? ⟨g,1,none⟩=some (.int .u32 b)∧W.cell? ⟨g,2,none⟩=some (.int .u32 c)∧W.cell? ⟨g,3,none⟩=some (.int .u32 d):=by
 rcases h.2 with ⟨_,h2⟩ | ⟨g,cap,cur,rfl,hb,hg,hn,hc,hs,ht⟩
 ·exact absurd h2 (by decide)
 have q:∀ i,i < 4→W.cell? ⟨g,i,none⟩=([.int .u32 a,.int .u32 b,.int .u32 c,.int .u32 d]:List Value)[i]?:=fun i hi=>by
  rw [← ht,List.getElem?_take_of_lt (by omega),cell_at hg]
  simp
 exact ⟨g,cap,rfl,hb,(Array.getElem?_eq_some_iff.1 hg).1,q 0 (by decide),q 1 (by decide),q 2 (by decide),q 3 (by decide)⟩
theorem read_wd (M:Mem) {x:Int} (x0:0≤x) (x1:x+4≤65536):M.read x 4=wd M x:=by
 unfold Mem.read cellB wd
 simp
 rw [show (x+1)%4294967296=x+1 by omega,show (x+2)%4294967296=x+2 by omega,show (x+3)%4294967296=x+3 by omega,show x%4294967296=x by omega]
theorem layK_far:∀ (l:List Int) {M:Mem} {r b:Int},Pn M→(∀ v ∈ l,U32 v)→4*(l.length:Int)≤r→r≤65536→r≤b→wd (layK M r l) b=wd M b
 | [],_,_,_,_,_,_,_,_=>rfl
 | v::l,M,r,b,hp,hv,h0,h1,hb=>by
  simp only [List.length_cons] at h0
  have u:=hv v (by simp)
  have hp':=hp.lay4 (a:=r - 4) (v:=v) (by omega) (by omega) u.1 u.2
  unfold layK
  rw [layK_far l (M:=lay4 M (r - 4) v) (r:=r - 4) (b:=b) hp' (fun x hx=>hv x (by simp [hx])) (by omega) (by omega) (by omega)]
  exact hp.wd_far (a:=r - 4) (v:=v) (b:=b) (by omega) (by omega) u.1 u.2 (by omega) (by omega)
theorem layK_at:∀ (l:List Int) {M:Mem} {r:Int},Pn M→(∀ v ∈ l,U32 v)→4*(l.length:Int)≤r→r≤65536→∀ (i:Nat) (v:Int),l[i]?=some v→wd (layK M r l) (r - 4*((i:Int)+1))=v
 | [],_,_,_,_,_,_,_,_,hi=>by cases hi
 | x::l,M,r,hp,hv,h0,h1,i,v,hi=>by
  simp only [List.length_cons] at h0
  have u:=hv x (by simp)
  have hp':=hp.lay4 (a:=r - 4) (v:=x) (by omega) (by omega) u.1 u.2
  unfold layK
  match i,hi with
  | 0,hi=>
   obtain rfl:x=v:=by simpa using hi
   rw [show r - 4*(((0:Nat):Int)+1)=r - 4 by omega,layK_far l (M:=lay4 M (r - 4) x) (r:=r - 4) (b:=r - 4) hp' (fun y hy=>hv y (by simp [hy])) (by omega) (by omega) (by omega)]
   exact hp.wd_same (a:=r - 4) (v:=x) (by omega) (by omega) u.1 u.2
  | i+1,hi=>
   have:=layK_at l (M:=lay4 M (r - 4) x) (r:=r - 4) hp' (fun y hy=>hv y (by simp [hy])) (by omega) (by omega) i v (by simpa using hi)
   rw [show r - 4*(((i+1:Nat):Int)+1)=r - 4 - 4*((i:Int)+1) by omega]
   exact this
end Go.Proofs.YtacgmoikegcopaaGreatDoor.Rm
