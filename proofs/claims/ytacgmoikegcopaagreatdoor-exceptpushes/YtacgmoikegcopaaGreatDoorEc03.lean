/- The bus and its devices: RamOps. -/
import Derived.Test.YtacgmoikegcopaaGreatDoorEc02
namespace Go.Proofs.YtacgmoikegcopaaGreatDoor.Rm
open Go.ChangeShapes Go.WideShapes Go.ChangeAt Go.RowKit Go.Maps
set_option linter.unusedVariables false
set_option maxRecDepth 20000
def okS (s:Int):Bool:=decide (s=1∨s=2∨s=4)
theorem rd_bd {w:World} {B:Nat} {M:Mem} (h:RamAt w B M) (a:Int) (a0:0≤a) (a1:a < 4294967296):0≤M.rd a∧M.rd a < 256:=by
 unfold Mem.rd
 have:=M.place_bd a0 a1
 split
 ·exact h.bb _ (by omega)
 ·omega
def noB (k:Nat):Prop:=False
theorem Kp.over {S T:Nat→Prop} {a b c:World} (h:Kp T a b) (k:Kp S b c) (hS:∀ j,j < a.heap.size→S j→T j):Kp T a c:=
 ⟨k.os.trans h.os,k.tape.trans h.tape,k.output.trans h.output,Nat.le_trans h.size k.size,fun i hi hs=>(k.block i (Nat.lt_of_lt_of_le hi h.size) (fun g=>hs (hS i hi g))).trans (h.block i hi hs)⟩
theorem or_add {a b:Int} (i:Nat) (a0:0≤a) (b0:0≤b) (h:a < ((2 ^ i:Nat):Int)) (hi:a < 4294967296) (h2:b*((2 ^ i:Nat):Int) < 4294967296):bits .or .u32 a (b*((2 ^ i:Nat):Int))=a+b*((2 ^ i:Nat):Int):=by
 have hb:0≤b*((2 ^ i:Nat):Int):=Int.mul_nonneg b0 (Int.natCast_nonneg _)
 rw [u32_or a _ a0 hi hb h2]
 obtain ⟨x,rfl⟩:=Int.eq_ofNat_of_zero_le a0
 obtain ⟨y,rfl⟩:=Int.eq_ofNat_of_zero_le b0
 have e:((y:Int)*((2 ^ i:Nat):Int))=((2 ^ i*y:Nat):Int):=by rw [Int.natCast_mul,Int.mul_comm]
 rw [e,Int.toNat_natCast,Int.toNat_natCast,Nat.or_comm]
 have:=Nat.two_pow_add_eq_or_of_lt (b:=x) (i:=i) (by omega) y
 rw [← this]
 omega
theorem or4 {b0 b1 b2 b3:Int} (e0:0≤b0) (f0:b0 < 256) (e1:0≤b1) (f1:b1 < 256) (e2:0≤b2) (f2:b2 < 256) (e3:0≤b3) (f3:b3 < 256):
  bits .or .u32 (bits .or .u32 (bits .or .u32 b0 (b1*256)) (b2*65536)) (b3*16777216)=b0+b1*256+b2*65536+b3*16777216:=by
 have h1:=or_add (a:=b0) (b:=b1) 8 e0 e1 (by simpa using f0) (by omega) (by simp;omega)
 rw [show ((2 ^ 8:Nat):Int)=256 by decide] at h1
 rw [h1]
 have h2:=or_add (a:=b0+b1*256) (b:=b2) 16 (by omega) e2 (by simp;omega) (by omega) (by simp;omega)
 rw [show ((2 ^ 16:Nat):Int)=65536 by decide] at h2
 rw [h2]
 have h3:=or_add (a:=b0+b1*256+b2*65536) (b:=b3) 24 (by omega) e3 (by simp;omega) (by omega) (by simp;omega)
 rw [show ((2 ^ 24:Nat):Int)=16777216 by decide] at h3
 exact h3
theorem array4T:Tryz.prog.underlying 110=some (.array 4 5):=by kernel_rfl
theorem run_slice4 (w:World) (b n:Nat) (h0:1≤n) (h:n≤4):(Instr.sliceAt 110 (.pointer (some ⟨b,0,none⟩)) none (some (.int .i64 n)) none).run Tryz.prog w=.ok (.slice (some ⟨b,0,none⟩) n 4) w:=by
 have h2:(n:Int)≤4:=by omega
 cases hi:Tryz.prog.info? 5 with
 | none=>have:=byteT;rw [hi] at this;cases this
 | some i=>
  simp [Instr.sliceAt,Instr.sureAddr,run_underlying array4T,Instr.sliceBounds,run_sliceBound,sizeOf,typeInfo,hi,h2,Addr.add]
def cellB (M:Mem) (x:Int) (n j:Nat):Int:=if j < n then M.rd ((x+j)%4294967296) else 0
def Mem.read (M:Mem) (x:Int) (n:Nat):Int:=cellB M x n 0+cellB M x n 1*256+cellB M x n 2*65536+cellB M x n 3*16777216
set_option maxRecDepth 100000 in
theorem read_ok (w:World) (B:Nat) (M:Mem) (h:RamAt w B M) (x s:Int) (x0:0≤x) (x1:x < 4294967296) (hs:okS s=true):
  Calls Tryz.prog 20 #[.pointer (some ⟨B+3,0,none⟩),.int .u32 x,.int .i64 s] w fun e w'=>e=.returned (.tuple #[.int .u32 (M.read x s.toNat),.int .i64 0])∧Kp noB w w':=by
 have h':decide (s=1∨s=2∨s=4)=true:=hs
 have hs1:s=1∨s=2∨s=4:=by simpa [okS] using hs
 obtain ⟨n,rfl⟩:∃ n:Nat,s=n:=⟨s.toNat,by omega⟩
 have n1:n≤4:=by omega
 have n0:1≤n:=by omega
 have hlt:=h.lt
 have hnew:=(MapKept.heap_alloc w (.cells #[.int .u8 0,.int .u8 0,.int .u8 0,.int .u8 0] 110)).1
 have cT:=tell_any (w.alloc (.cells #[.int .u8 0,.int .u8 0,.int .u8 0,.int .u8 0] 110)) B M (h.alloc _) x x0 x1 w.heap.size 0 n 4 _ _ hnew (by simp;omega) (by omega) (by omega) (fun hi=>by have:=hi.2;omega)
 have cI:=isSize_any w n (by omega) (by omega)
 rw [h'] at cI
 clear hs h' hs1 hnew
 go_enter Tryz.func20,Tryz.ntmps20
 go_wp2_with fail
 refine cI.mono ?_;rintro e w' ⟨rfl,hw⟩;replace hw:=hw.symm;subst hw
 have hsl:=run_slice4 (w.alloc (.cells #[.int .u8 0,.int .u8 0,.int .u8 0,.int .u8 0] 110)) w.heap.size n n0 n1
 go_wp2_with fail
 refine cT.mono ?_;rintro e w2 ⟨rfl,⟨cur,hh,hl⟩,hk⟩
 have hkp:Kp noB w w2:=(Kp.alloc noB w _).over hk (fun j hj e=>by omega)
 have hc:∀ j,j < 4→w2.cell? ⟨w.heap.size,j,none⟩=some (.int .u8 (cellB M x n j)):=fun j hj=>by
  rw [cell_at hh,hl.2 j]
  unfold cellB
  by_cases e:j < n
  ·rw [if_pos (by omega),if_pos e];simp
  ·rw [if_neg (by omega),if_neg e]
   rcases (by omega:j=0∨j=1∨j=2∨j=3) with rfl | rfl | rfl | rfl<;>rfl
 have hcb:∀ j,j < 4→0≤cellB M x n j∧cellB M x n j < 256:=fun j hj=>by
  unfold cellB;split
  ·exact rd_bd h _ (by omega) (by omega)
  ·omega
 have d0:=hc 0 (by decide);have d1:=hc 1 (by decide);have d2:=hc 2 (by decide);have d3:=hc 3 (by decide)
 have e0:=hcb 0 (by decide);have e1:=hcb 1 (by decide);have e2:=hcb 2 (by decide);have e3:=hcb 3 (by decide)
 have HR:Hid (M.read x n=cellB M x n 0+cellB M x n 1*256+cellB M x n 2*65536+cellB M x n 3*16777216):=rfl
 generalize cellB M x n 0=b0 at *
 generalize cellB M x n 1=b1 at *
 generalize cellB M x n 2=b2 at *
 generalize cellB M x n 3=b3 at *
 clear hc hcb hl hh hk
 obtain ⟨e0,f0⟩:=e0;obtain ⟨e1,f1⟩:=e1;obtain ⟨e2,f2⟩:=e2;obtain ⟨e3,f3⟩:=e3
 have HO:Hid (bits .or .u32 (bits .or .u32 (bits .or .u32 b0 (b1*256)) (b2*65536)) (b3*16777216)=b0+b1*256+b2*65536+b3*16777216):=or4 e0 f0 e1 f1 e2 f2 e3 f3
 go_wp2
 refine bodyPost_ret (v:=.tuple #[.int .u32 (M.read x n),.int .i64 0]) ?_ rfl ⟨rfl,hkp⟩
 rw [HR.out,← HO.out]
 simp [results,Tryz.results20,go_sem]
def bytesV (v:Int):List Int:=[v%256,v / 256%256,v / 65536%256,v / 16777216]
set_option maxRecDepth 100000 in
theorem write_ok (w:World) (B:Nat) (M:Mem) (h:RamAt w B M) (x s v:Int) (x0:0≤x) (x1:x < 4294967296) (v0:0≤v) (v1:v < 4294967296) (hs:okS s=true):
  Calls Tryz.prog 51 #[.pointer (some ⟨B+3,0,none⟩),.int .u32 x,.int .i64 s,.int .u32 v] w fun e w'=>e=.returned (.int .i64 0)∧RamAt w' B (M.lay false x ((bytesV v).take s.toNat))∧Kp (inRam B M.n) w w':=by
 have h':decide (s=1∨s=2∨s=4)=true:=hs
 have hs1:s=1∨s=2∨s=4:=by simpa [okS] using hs
 obtain ⟨n,rfl⟩:∃ n:Nat,s=n:=⟨s.toNat,by omega⟩
 have n1:n≤4:=by omega
 have n0:1≤n:=by omega
 have hlt:=h.lt
 have cI:=isSize_any w n (by omega) (by omega)
 rw [h'] at cI
 clear hs h' hs1
 obtain ⟨wv,hwv⟩:∃ wv,wv=w.alloc (.cells #[.int .u8 (v%256),.int .u8 (v / 256%256),.int .u8 (v / 65536%256),.int .u8 (v / 16777216)] 110):=⟨_,rfl⟩
 have hnew:wv.heap[w.heap.size]?=some (.cells #[.int .u8 (v%256),.int .u8 (v / 256%256),.int .u8 (v / 65536%256),.int .u8 (v / 16777216)] 110 (0,0)):=by rw [hwv];exact (MapKept.heap_alloc w _).1
 have hsz:w.heap.size < wv.heap.size:=by rw [hwv];simp
 have hrv:RamAt wv B M:=by rw [hwv];exact h.alloc _
 have hkv:Kp (inRam B M.n) w wv:=by rw [hwv];exact Kp.alloc _ _ _
 have hget:∀ j,j < n→((bytesV v).take n).getD j 0=(bytesV v).getD j 0:=fun j hj=>by simp [List.getD_eq_getElem?_getD,List.getElem?_take_of_lt hj]
 have cW:=lay_any wv B M hrv false x x0 x1 (some ⟨w.heap.size,0,none⟩) w.heap.size 0 n 4 ((bytesV v).take n) (by simp [bytesV];omega) (by omega) (fun _=>⟨rfl,n1,fun hi=>by have:=hi.2;omega,hsz,fun j hj=>by
   rw [hget j hj,cell_at hnew]
   rcases (by omega:j=0∨j=1∨j=2∨j=3) with rfl | rfl | rfl | rfl<;>rfl⟩) (fun j hj=>by
   rw [hget j hj]
   rcases (by omega:j=0∨j=1∨j=2∨j=3) with rfl | rfl | rfl | rfl<;>simp [bytesV]<;>omega)
 have hsl:=run_slice4 wv w.heap.size n n0 n1
 rw [hwv] at cW hsl
 have HWV:Hid (wv=w.alloc (.cells #[.int .u8 (v%256),.int .u8 (v / 256%256),.int .u8 (v / 65536%256),.int .u8 (v / 16777216)] 110)):=hwv
 clear hnew hsz hrv hget hwv
 go_enter Tryz.func51,Tryz.ntmps51
 go_wp2_with fail
 refine cI.mono ?_;rintro e w' ⟨rfl,hw⟩;replace hw:=hw.symm;subst hw
 go_wp2_with fail
 refine cW.mono ?_;rintro e w2 ⟨rfl,hr2,hk2⟩
 rw [← HWV.out] at hk2
 have hk3:=hkv.trans hk2
 clear hk2 hkv
 go_wp2
 go_ret
 exact ⟨rfl,by simpa using hr2,hk3⟩
theorem ram_gate {w:World} {B:Nat} {M:Mem} (h:RamAt w B M) (b:Bool):RamAt (w.setCell ⟨B+3,1,none⟩ (.bool b)) B { M with closed:=b }:=by
 have hold:∀ j,inRam B M.n j→j≠B+3→(w.setCell ⟨B+3,1,none⟩ (.bool b)).heap[j]?=w.heap[j]?:=fun j hj hne=>Below.heap_setCell _ _ _ _ hne
 exact {
  le:=h.le
  r:=by rw [heap_setCell_at h.r];simp
  p:=by obtain ⟨D',h1,h2⟩:=h.p;exact ⟨D',owns_at h1 (hold _ ⟨by omega,by omega⟩ (by omega)),h2⟩
  pg:=fun i hi=>by obtain ⟨cs,h1,h2⟩:=h.pg i hi;exact ⟨cs,(hold _ ⟨by omega,by have:i < M.n:=hi;omega⟩ (by omega)).trans h1,h2⟩
  wm:=by obtain ⟨D',h1,h2⟩:=h.wm;exact ⟨D',owns_at h1 (hold _ ⟨by omega,by omega⟩ (by omega)),h2⟩
  nm:=by obtain ⟨D',h1,h2⟩:=h.nm;exact ⟨D',owns_at h1 (hold _ ⟨by omega,by omega⟩ (by omega)),h2⟩
  wb:=h.wb
  nb:=h.nb
  bb:=h.bb }
theorem gate_ok (w:World) (B:Nat) (M:Mem) (h:RamAt w B M) (b:Bool):
  Calls Tryz.prog 61 #[.pointer (some ⟨B+3,0,none⟩),.bool b] w fun e w'=>e=.returned (.tuple #[])∧RamAt w' B { M with closed:=!b }∧Kp (inRam B M.n) w w':=by
 have c1:=h.c1
 have f1:=h.fz 1
 have R:=ram_gate h (!b)
 have K:=Kp.setCell (S:=inRam B M.n) w (p:=⟨B+3,1,none⟩) (show inRam B M.n (B+3) from ⟨by omega,by omega⟩) (.bool (!b))
 go_enter Tryz.func61,Tryz.ntmps61
 go_wp2
 go_end0
 exact ⟨rfl,R,K⟩
theorem ram_rom {w:World} {B:Nat} {M:Mem} (h:RamAt w B M) {i:Nat} (hi:i < M.n) (b:Bool):RamAt (w.setCell ⟨B+4+i,4096,none⟩ (.bool b)) B { M with only:=fun j=>if j=i then b else M.only j }:=by
 have hold:∀ j,inRam B M.n j→j≠B+4+i→(w.setCell ⟨B+4+i,4096,none⟩ (.bool b)).heap[j]?=w.heap[j]?:=fun j hj hne=>Below.heap_setCell _ _ _ _ hne
 exact {
  le:=h.le
  r:=(hold _ ⟨by omega,by omega⟩ (by omega)).trans h.r
  p:=by obtain ⟨D',h1,h2⟩:=h.p;exact ⟨D',owns_at h1 (hold _ ⟨by omega,by omega⟩ (by omega)),h2⟩
  pg:=fun i' hi'=>by
   have hi'':i' < M.n:=hi'
   by_cases e:i'=i
   ·subst e
    obtain ⟨cs,h1,h2,h3,h4⟩:=h.pg i' hi''
    refine ⟨cs.setIfInBounds 4096 (.bool b),heap_setCell_at h1 _,by simp [h2],fun j hj=>?_,?_⟩
    ·rw [Array.getElem?_setIfInBounds,if_neg (by omega)];exact h3 j hj
    ·rw [Array.getElem?_setIfInBounds,if_pos rfl,if_pos (by omega)];simp
   ·obtain ⟨cs,h1,h2,h3,h4⟩:=h.pg i' hi''
    refine ⟨cs,(hold _ ⟨by omega,by omega⟩ (by omega)).trans h1,h2,h3,?_⟩
    rw [h4];simp [e]
  wm:=by obtain ⟨D',h1,h2⟩:=h.wm;exact ⟨D',owns_at h1 (hold _ ⟨by omega,by omega⟩ (by omega)),h2⟩
  nm:=by obtain ⟨D',h1,h2⟩:=h.nm;exact ⟨D',owns_at h1 (hold _ ⟨by omega,by omega⟩ (by omega)),h2⟩
  wb:=h.wb
  nb:=h.nb
  bb:=h.bb }
set_option maxRecDepth 100000 in
theorem rom_ok (w:World) (B:Nat) (M:Mem) (h:RamAt w B M) (i:Nat) (b:Bool) (hi:i < M.n):
  Calls Tryz.prog 53 #[.pointer (some ⟨B+3,0,none⟩),.int .i64 i,.bool b] w fun e w'=>e=.returned (.int .i64 0)∧RamAt w' B { M with only:=fun j=>if j=i then b else M.only j }∧Kp (inRam B M.n) w w':=by
 have c0:=h.c0
 have cp:=h.pc hi
 have cf:w.frozen? ⟨B+4+i,4096,none⟩=false:=by obtain ⟨cs,h1,_⟩:=h.pg i hi;exact frozen_at h1
 have R:=ram_rom h hi b
 have K:=Kp.setCell (S:=inRam B M.n) w (p:=⟨B+4+i,4096,none⟩) (show inRam B M.n (B+4+i) from ⟨by omega,by omega⟩) (.bool b)
 have hle:=h.le
 obtain ⟨D,hown,hat,_,_⟩:=h.p
 have hp:pageAt B M.n i=(B:Int)+4+i:=by unfold pageAt;rw [if_pos (by omega)]
 have ht:((B:Int)+4+i).toNat=B+4+i:=by omega
 go_enter Tryz.func53,Tryz.ntmps53
 go_wp2_with (first
  | (at_lookup;refine wpList_page _ rfl _ _ 204 rfl 3 198 (int_keyed intT) pagesT (zeroPtr _) B 256 D rfl hown _ _ rfl (keyI (x:=(i:Int)) (by omega) (by omega)) _ (hat _) ?_;rw [hp,if_pos (by omega),ht])
  | go_in)
 go_ret
 exact ⟨rfl,R,K⟩
theorem rom_no (w:World) (B:Nat) (M:Mem) (h:RamAt w B M) (i:Int) (b:Bool) (i0:-9223372036854775808≤i) (i1:i≤9223372036854775807) (hi:i < 0∨M.n≤i):
  Calls Tryz.prog 53 #[.pointer (some ⟨B+3,0,none⟩),.int .i64 i,.bool b] w fun e w'=>e=.returned (.int .i64 1)∧w'=w:=by
 have c0:=h.c0
 obtain ⟨D,hown,hat,_,_⟩:=h.p
 have hp:pageAt B M.n i=-1:=by unfold pageAt;rw [if_neg (by omega)]
 go_enter Tryz.func53,Tryz.ntmps53
 go_wp2_with (first
  | (at_lookup;refine wpList_page _ rfl _ _ 204 rfl 3 198 (int_keyed intT) pagesT (zeroPtr _) B 256 D rfl hown _ _ rfl (keyI (x:=i) (by omega) (by omega)) _ (hat _) ?_;rw [hp,if_neg (by omega)])
  | go_in)
 go_ret
 exact ⟨rfl,rfl⟩
end Go.Proofs.YtacgmoikegcopaaGreatDoor.Rm
