/- Delivery: processors, registers and segments are equal to themselves. -/
import Derived.Test.YtacgmoikegcopaaGreatDoorEc06
import Derived.Test.YtacgmoikegcopaaGreatDoorEc05
import Derived.DeepKeys
namespace Go.Proofs.YtacgmoikegcopaaGreatDoor.Rm
open Go.ChangeShapes Go.WideShapes Go.ChangeAt Go.RowKit Go.Maps
set_option linter.unusedVariables false
set_option maxRecDepth 20000
def litV:Value→Lit
 | .int k n=>.int k n
 | .bool b=>.bool b
 | _=>.bool false
theorem eq_of {t:TypeId} {vs:Array Value} (hk:Tryz.prog.keyTypeAt 5 t=true) (hf:(Value.agg vs).formed Tryz.prog t=true) {ls:List Lit} (e:Tryz.prog.keyLits 5 t vs.toList=some ls) (w:World):(Op.equalIn 10000 t (.agg vs) (.agg vs)).run Tryz.prog w=.ok true w:=by
 obtain ⟨r,hr,hi⟩:=run_equalIn_deep 9995 5 t hk w 5 5 (.agg vs) (.agg vs) _ _ hf hf e e
 rw [hi.2 rfl] at hr
 exact hr
theorem mapM_some {α β:Type} {f:α→Option β} {g:α→β}:∀ l:List α,(∀ x ∈ l,f x=some (g x))→l.mapM f=some (l.map g)
 | [],_=>rfl
 | x::l,h=>by
  rw [List.mapM_cons,h x (by simp),mapM_some l (fun y hy=>h y (by simp [hy]))]
  rfl
theorem lwf32 {n:Int} (h:U32 n):(Lit.int .u32 n).wf=true:=by
 unfold U32 at h
 simp [Lit.wf,IntKind.min,IntKind.max,IntKind.signed,IntKind.bits];omega
theorem lwf16 {n:Int} (h:U16 n):(Lit.int .u16 n).wf=true:=by
 unfold U16 at h
 simp [Lit.wf,IntKind.min,IntKind.max,IntKind.signed,IntKind.bits];omega
theorem lwf64 {n:Int} (h:I64 n):(Lit.int .i64 n).wf=true:=by
 unfold I64 at h
 simp [Lit.wf,IntKind.min,IntKind.max,IntKind.signed,IntKind.bits];omega
theorem kl_u32 (d:Nat) {n:Int} (h:U32 n):Tryz.prog.keyLits (d+1) 22 [.int .u32 n]=some [.int .u32 n]:=by
 unfold Program.keyLits;rw [Tryz.underlying22];exact if_pos ⟨rfl,lwf32 h⟩
theorem kl_u16 (d:Nat) {n:Int} (h:U16 n):Tryz.prog.keyLits (d+1) 24 [.int .u16 n]=some [.int .u16 n]:=by
 unfold Program.keyLits;rw [Tryz.underlying24];exact if_pos ⟨rfl,lwf16 h⟩
theorem kl_int (d:Nat) {n:Int} (h:I64 n):Tryz.prog.keyLits (d+1) 3 [.int .i64 n]=some [.int .i64 n]:=by
 unfold Program.keyLits;rw [Tryz.underlying3];exact if_pos ⟨rfl,lwf64 h⟩
theorem kl_bool (d:Nat) (b:Bool):Tryz.prog.keyLits (d+1) 4 [.bool b]=some [.bool b]:=by
 unfold Program.keyLits;rw [Tryz.underlying4]
theorem kl_struct (d:Nat) (t:TypeId) {fs:Array Field} (hu:Tryz.prog.underlying t=some (.struct fs)) (cs:List Value) (hl:cs.length=Tryz.prog.cellsOf t) (hn:fs.all (·.name != "_")=true) (g:Field→List Lit)
  (h:∀ f ∈ fs.toList,Tryz.prog.keyLits d f.type ((cs.drop f.offset).take (Tryz.prog.cellsOf f.type))=some (g f)):Tryz.prog.keyLits (d+1) t cs=some ((fs.toList.map g).flatten):=by
 unfold Program.keyLits
 rw [hu]
 show (if _ then _ else _)=_
 rw [if_pos ⟨hl,hn⟩,mapM_some _ h]
 rfl
theorem kl_array (d:Nat) (t:TypeId) {n:Nat} {e:TypeId} (hu:Tryz.prog.underlying t=some (.array n e)) (cs:List Value) (hl:cs.length=Tryz.prog.cellsOf t) (g:Nat→List Lit)
  (h:∀ i ∈ List.range n,Tryz.prog.keyLits d e ((cs.drop (i*Tryz.prog.cellsOf e)).take (Tryz.prog.cellsOf e))=some (g i)):Tryz.prog.keyLits (d+1) t cs=some (((List.range n).map g).flatten):=by
 unfold Program.keyLits
 rw [hu]
 show (if _ then _ else _)=_
 rw [if_pos hl,mapM_some _ h]
 rfl
theorem kl_at {d:Nat} {t:TypeId} {cs cs':List Value} (e:cs=cs') (h:Tryz.prog.keyLits d t cs'=some (cs'.map litV)):Tryz.prog.keyLits d t cs=some (cs.map litV):=by rw [e];exact h
theorem kl_desc (d:Nat) {s:SgR} (h:s.Wf):Tryz.prog.keyLits (d+2) 26 [.int .u32 s.b,.int .u32 s.l,.int .i64 s.t,.bool s.s,.int .i64 s.d,.bool s.p,.bool s.g]=some ([.int .u32 s.b,.int .u32 s.l,.int .i64 s.t,.bool s.s,.int .i64 s.d,.bool s.p,.bool s.g].map litV):=by
 refine (kl_struct (d+1) _ Tryz.underlying26 [.int .u32 s.b,.int .u32 s.l,.int .i64 s.t,.bool s.s,.int .i64 s.d,.bool s.p,.bool s.g] (by kernel_rfl) (by kernel_rfl) (fun f=>(([.int .u32 s.b,.int .u32 s.l,.int .i64 s.t,.bool s.s,.int .i64 s.d,.bool s.p,.bool s.g].drop f.offset).take (Tryz.prog.cellsOf f.type)).map litV) (fun f hf=>?_)).trans (by kernel_rfl)
 simp only [List.mem_cons,List.not_mem_nil,or_false] at hf
 rcases hf with rfl | rfl | rfl | rfl | rfl | rfl | rfl
 ·exact kl_at (cs':=[.int .u32 s.b]) (by kernel_rfl) (kl_u32 d ⟨h.ok.b0,h.ok.b1⟩)
 ·exact kl_at (cs':=[.int .u32 s.l]) (by kernel_rfl) (kl_u32 d ⟨h.ok.l0,h.ok.l1⟩)
 ·exact kl_at (cs':=[.int .i64 s.t]) (by kernel_rfl) (kl_int d ⟨h.ok.t0,h.ok.t1⟩)
 ·exact kl_at (cs':=[.bool s.s]) (by kernel_rfl) (kl_bool d s.s)
 ·exact kl_at (cs':=[.int .i64 s.d]) (by kernel_rfl) (kl_int d h.d)
 ·exact kl_at (cs':=[.bool s.p]) (by kernel_rfl) (kl_bool d s.p)
 ·exact kl_at (cs':=[.bool s.g]) (by kernel_rfl) (kl_bool d s.g)
def sgL (s:SgR):List Value:=[.int .u16 s.sel,.bool s.nl,.int .u32 s.b,.int .u32 s.l,.int .i64 s.t,.bool s.s,.int .i64 s.d,.bool s.p,.bool s.g]
theorem kl_sg (d:Nat) {s:SgR} (h:s.Wf):Tryz.prog.keyLits (d+3) 28 (sgL s)=some ((sgL s).map litV):=by
 refine (kl_struct (d+2) _ Tryz.underlying28 (sgL s) (by kernel_rfl) (by kernel_rfl) (fun f=>(((sgL s).drop f.offset).take (Tryz.prog.cellsOf f.type)).map litV) (fun f hf=>?_)).trans (by kernel_rfl)
 simp only [List.mem_cons,List.not_mem_nil,or_false] at hf
 rcases hf with rfl | rfl | rfl
 ·exact kl_at (cs':=[.int .u16 s.sel]) (by kernel_rfl) (kl_u16 (d+1) ⟨h.ok.s0,h.ok.s1⟩)
 ·exact kl_at (cs':=[.bool s.nl]) (by kernel_rfl) (kl_bool (d+1) s.nl)
 ·exact kl_at (cs':=[.int .u32 s.b,.int .u32 s.l,.int .i64 s.t,.bool s.s,.int .i64 s.d,.bool s.p,.bool s.g]) (by kernel_rfl) (kl_desc d h)
def tabL (b l:Int):List Value:=[.int .u32 b,.int .u16 l]
theorem kl_tab (d:Nat) {b l:Int} (hb:U32 b) (hl:U16 l):Tryz.prog.keyLits (d+2) 31 (tabL b l)=some ((tabL b l).map litV):=by
 refine (kl_struct (d+1) _ Tryz.underlying31 (tabL b l) (by kernel_rfl) (by kernel_rfl) (fun f=>(((tabL b l).drop f.offset).take (Tryz.prog.cellsOf f.type)).map litV) (fun f hf=>?_)).trans (by kernel_rfl)
 simp only [List.mem_cons,List.not_mem_nil,or_false] at hf
 rcases hf with rfl | rfl
 ·exact kl_at (cs':=[.int .u32 b]) (by kernel_rfl) (kl_u32 d hb)
 ·exact kl_at (cs':=[.int .u16 l]) (by kernel_rfl) (kl_u16 d hl)
def regL (r:Nat→Int):List Value:=[.int .u32 (r 0),.int .u32 (r 1),.int .u32 (r 2),.int .u32 (r 3),.int .u32 (r 4),.int .u32 (r 5),.int .u32 (r 6),.int .u32 (r 7)]
theorem kl_reg (d:Nat) {r:Nat→Int} (h:∀ i,i < 8→U32 (r i)):Tryz.prog.keyLits (d+2) 23 (regL r)=some ((regL r).map litV):=by
 refine (kl_array (d+1) _ Tryz.underlying23 (regL r) (by kernel_rfl) (fun i=>(((regL r).drop (i*Tryz.prog.cellsOf 22)).take (Tryz.prog.cellsOf 22)).map litV) (fun i hi=>?_)).trans (by kernel_rfl)
 have hi':i < 8:=List.mem_range.1 hi
 match i,hi' with
 | 0,_=>exact kl_at (cs':=[.int .u32 (r 0)]) (by kernel_rfl) (kl_u32 d (h 0 (by decide)))
 | 1,_=>exact kl_at (cs':=[.int .u32 (r 1)]) (by kernel_rfl) (kl_u32 d (h 1 (by decide)))
 | 2,_=>exact kl_at (cs':=[.int .u32 (r 2)]) (by kernel_rfl) (kl_u32 d (h 2 (by decide)))
 | 3,_=>exact kl_at (cs':=[.int .u32 (r 3)]) (by kernel_rfl) (kl_u32 d (h 3 (by decide)))
 | 4,_=>exact kl_at (cs':=[.int .u32 (r 4)]) (by kernel_rfl) (kl_u32 d (h 4 (by decide)))
 | 5,_=>exact kl_at (cs':=[.int .u32 (r 5)]) (by kernel_rfl) (kl_u32 d (h 5 (by decide)))
 | 6,_=>exact kl_at (cs':=[.int .u32 (r 6)]) (by kernel_rfl) (kl_u32 d (h 6 (by decide)))
 | 7,_=>exact kl_at (cs':=[.int .u32 (r 7)]) (by kernel_rfl) (kl_u32 d (h 7 (by decide)))
 | n+8,hi=>omega
def segL (g:Nat→SgR):List Value:=sgL (g 0)++sgL (g 1)++sgL (g 2)++sgL (g 3)++sgL (g 4)++sgL (g 5)
theorem kl_seg (d:Nat) {g:Nat→SgR} (h:∀ i,i < 6→(g i).Wf):Tryz.prog.keyLits (d+4) 29 (segL g)=some ((segL g).map litV):=by
 refine (kl_array (d+3) _ Tryz.underlying29 (segL g) (by kernel_rfl) (fun i=>(((segL g).drop (i*Tryz.prog.cellsOf 28)).take (Tryz.prog.cellsOf 28)).map litV) (fun i hi=>?_)).trans (by kernel_rfl)
 have hi':i < 6:=List.mem_range.1 hi
 match i,hi' with
 | 0,_=>exact kl_at (cs':=sgL (g 0)) (by kernel_rfl) (kl_sg d (h 0 (by decide)))
 | 1,_=>exact kl_at (cs':=sgL (g 1)) (by kernel_rfl) (kl_sg d (h 1 (by decide)))
 | 2,_=>exact kl_at (cs':=sgL (g 2)) (by kernel_rfl) (kl_sg d (h 2 (by decide)))
 | 3,_=>exact kl_at (cs':=sgL (g 3)) (by kernel_rfl) (kl_sg d (h 3 (by decide)))
 | 4,_=>exact kl_at (cs':=sgL (g 4)) (by kernel_rfl) (kl_sg d (h 4 (by decide)))
 | 5,_=>exact kl_at (cs':=sgL (g 5)) (by kernel_rfl) (kl_sg d (h 5 (by decide)))
 | n+6,hi=>omega
theorem kl_cpu {x:Cu} (h:x.Bd):Tryz.prog.keyLits 5 33 x.list=some (x.list.map litV):=by
 refine (kl_struct 4 _ Tryz.underlying33 x.list (by kernel_rfl) (by kernel_rfl) (fun f=>((x.list.drop f.offset).take (Tryz.prog.cellsOf f.type)).map litV) (fun f hf=>?_)).trans (by kernel_rfl)
 simp only [List.mem_cons,List.not_mem_nil,or_false] at hf
 rcases hf with rfl | rfl | rfl | rfl | rfl | rfl | rfl | rfl | rfl | rfl | rfl | rfl | rfl
 ·exact kl_at (cs':=regL x.r) (by kernel_rfl) (kl_reg 2 h.r)
 ·exact kl_at (cs':=[.int .u32 x.ip]) (by kernel_rfl) (kl_u32 3 h.ip)
 ·exact kl_at (cs':=[.int .u32 x.fl]) (by kernel_rfl) (kl_u32 3 h.fl)
 ·exact kl_at (cs':=segL x.sg) (by kernel_rfl) (kl_seg 0 h.sg)
 ·exact kl_at (cs':=[.int .u32 x.z0]) (by kernel_rfl) (kl_u32 3 h.z0)
 ·exact kl_at (cs':=[.int .u32 x.z2]) (by kernel_rfl) (kl_u32 3 h.z2)
 ·exact kl_at (cs':=[.int .u32 x.z3]) (by kernel_rfl) (kl_u32 3 h.z3)
 ·exact kl_at (cs':=tabL x.gb x.gl) (by kernel_rfl) (kl_tab 2 h.gb h.gl)
 ·exact kl_at (cs':=tabL x.ib x.il) (by kernel_rfl) (kl_tab 2 h.ib h.il)
 ·exact kl_at (cs':=sgL x.tr) (by kernel_rfl) (kl_sg 1 h.tr)
 ·exact kl_at (cs':=[.bool x.sh]) (by kernel_rfl) (kl_bool 3 x.sh)
 ·exact kl_at (cs':=[.bool x.ha]) (by kernel_rfl) (kl_bool 3 x.ha)
 ·exact kl_at (cs':=[.bool x.de]) (by kernel_rfl) (kl_bool 3 x.de)
theorem cu_equal {x:Cu} (h:x.Bd) (w:World):(Op.equalIn 10000 33 (.agg x.cs) (.agg x.cs)).run Tryz.prog w=.ok true w:=eq_of (by kernel_rfl) (by kernel_rfl) (kl_cpu h) w
theorem reg_equal {r:Nat→Int} (h:∀ i,i < 8→U32 (r i)) (w:World):(Op.equalIn 10000 23 (.agg (regL r).toArray) (.agg (regL r).toArray)).run Tryz.prog w=.ok true w:=eq_of (by kernel_rfl) (by kernel_rfl) (kl_reg 3 h) w
theorem seg_equal {g:Nat→SgR} (h:∀ i,i < 6→(g i).Wf) (w:World):(Op.equalIn 10000 29 (.agg (segL g).toArray) (.agg (segL g).toArray)).run Tryz.prog w=.ok true w:=eq_of (by kernel_rfl) (by kernel_rfl) (kl_seg 1 h) w
end Go.Proofs.YtacgmoikegcopaaGreatDoor.Rm
