/- The bus and its devices: RamLay. -/
import Derived.Test.YtacgmoikegcopaaGreatDoorEc01
namespace Go.Proofs.YtacgmoikegcopaaGreatDoor.Rm
open Go.ChangeShapes Go.WideShapes Go.ChangeAt Go.RowKit Go.Maps
set_option linter.unusedVariables false
set_option maxRecDepth 20000
def Mem.put (M:Mem) (all:Bool) (a v:Int):Mem:=
 if M.place a < 4096*M.n∧(all=true∨M.only (M.place a / 4096).toNat=false) then
  { M.note (M.place a - M.place a%64) (M.place a - M.place a%64+64) with byte:=fun x=>if x=(M.place a).toNat then v else M.byte x }
 else M
def Mem.lay (M:Mem) (all:Bool) (a:Int):List Int→Mem
 | []=>M
 | v::r=>(M.put all a v).lay all ((a+1)%4294967296) r
theorem put_n (M:Mem) (all:Bool) (a v:Int):(M.put all a v).n=M.n:=by unfold Mem.put;split<;>rfl
theorem put_only (M:Mem) (all:Bool) (a v:Int):(M.put all a v).only=M.only:=by unfold Mem.put;split<;>rfl
theorem put_closed (M:Mem) (all:Bool) (a v:Int):(M.put all a v).closed=M.closed:=by unfold Mem.put;split<;>rfl
theorem put_place (M:Mem) (all:Bool) (a v x:Int):(M.put all a v).place x=M.place x:=by unfold Mem.place;rw [put_closed]
theorem lay_same (all:Bool):∀ (vs:List Int) (M:Mem) (a:Int),(M.lay all a vs).n=M.n∧(M.lay all a vs).only=M.only∧(M.lay all a vs).closed=M.closed
 | [],_,_=>⟨rfl,rfl,rfl⟩
 | v::r,M,a=>by
  have h:=lay_same all r (M.put all a v) ((a+1)%4294967296)
  rw [put_n,put_only,put_closed] at h
  exact h
theorem lay_append (all:Bool):∀ (xs ys:List Int) (M:Mem) (a:Int),0≤a→a < 4294967296→M.lay all a (xs++ys)=(M.lay all a xs).lay all ((a+xs.length)%4294967296) ys
 | [],ys,M,a,a0,a1=>by
  simp only [List.nil_append,Mem.lay,List.length_nil]
  congr 1;omega
 | v::r,ys,M,a,a0,a1=>by
  simp only [List.cons_append,Mem.lay,List.length_cons]
  rw [lay_append all r ys _ _ (by omega) (by omega)]
  congr 1;omega
theorem note_pv (a b:Bool) (P Q R:Prop) [Decidable P] [Decidable Q] [Decidable R] (k:R↔P∨Q):
  ((a&&!decide P)&&!decide Q)=(a&&!decide R)∧((b||(a&&decide P))||((a&&!decide P)&&decide Q))=(b||(a&&decide R)):=by
 cases a
 ·simp
 ·by_cases hp:P<;>by_cases hq:Q<;>simp_all
theorem note_note (M:Mem) (a b c d:Int) (h1:a≤c) (h2:c≤b) (h3:b≤d):(M.note a b).note c d=M.note a d:=by
 have q:=fun x=>note_pv (M.wt x) (M.nt x) (a≤x∧x < b) (c≤x∧x < d) (a≤x∧x < d) (by omega)
 unfold Mem.note
 simp only
 congr 1
 ·funext x;exact (q x).1
 ·funext x;exact (q x).2
theorem lay_page (all:Bool):∀ (vs:List Int) (M:Mem) (a:Int),vs≠[]→0≤a→a < 4294967296→M.place a%4096+vs.length≤4096→0≤M.place a→
  M.lay all a vs=if M.place a < 4096*M.n∧(all=true∨M.only (M.place a / 4096).toNat=false) then
   { M.note (M.place a - M.place a%64) (M.place a+vs.length - 1 - (M.place a+vs.length - 1)%64+64) with byte:=fun x=>if (M.place a).toNat≤x∧x < (M.place a).toNat+vs.length then vs.getD (x - (M.place a).toNat) 0 else M.byte x }
  else M
 | [],_,_,h,_,_,_,_=>absurd rfl h
 | [v],M,a,_,a0,a1,hp,p0=>by
  have e:M.place a+(([v].length:Nat):Int) - 1=M.place a:=by simp
  rw [e]
  show M.put all a v=_
  unfold Mem.put
  have eb:(fun x=>if x=(M.place a).toNat then v else M.byte x)=(fun x=>if (M.place a).toNat≤x∧x < (M.place a).toNat + [v].length then [v].getD (x - (M.place a).toNat) 0 else M.byte x):=by
   funext x
   have l1:[v].length=1:=rfl
   rw [l1]
   by_cases e:x=(M.place a).toNat
   ·subst e;rw [if_pos rfl,if_pos (by omega)];simp
   ·rw [if_neg e,if_neg (by omega)]
  rw [eb]
 | v::u::r,M,a,_,a0,a1,hp,p0=>by
  have hlen:(v::u::r).length=(u::r).length+1:=rfl
  have l1:1≤(u::r).length:=by simp
  rw [hlen] at hp ⊢
  have hpl:M.place ((a+1)%4294967296)=M.place a+1:=place_add M a0 a1 1 (by omega)
  have ih:=lay_page all (u::r) (M.put all a v) ((a+1)%4294967296) (by simp) (by omega) (by omega) (by rw [put_place,hpl];omega) (by rw [put_place,hpl];omega)
  rw [put_place,hpl,put_n,put_only] at ih
  show (M.put all a v).lay all ((a+1)%4294967296) (u::r)=_
  rw [ih]
  generalize (u::r)=s at *
  generalize hP:M.place a=P at *
  have e1:(P+1) / 4096=P / 4096:=by omega
  rw [e1]
  by_cases ok:P < 4096*M.n∧(all=true∨M.only (P / 4096).toNat=false)
  ·have ok':P+1 < 4096*M.n∧(all=true∨M.only (P / 4096).toNat=false):=⟨by omega,ok.2⟩
   rw [if_pos ok,if_pos ok']
   have hput:M.put all a v={ M.note (P - P%64) (P - P%64+64) with byte:=fun x=>if x=P.toNat then v else M.byte x }:=by
    unfold Mem.put;rw [hP,if_pos ok]
   rw [hput]
   have en:=note_note M (P - P%64) (P - P%64+64) (P+1 - (P+1)%64) (P+1+s.length - 1 - (P+1+s.length - 1)%64+64) (by omega) (by omega) (by omega)
   have e2:P+1+(s.length:Int) - 1=P+((s.length+1:Nat):Int) - 1:=by omega
   rw [e2] at en ⊢
   have eb:(fun x=>if (P+1).toNat≤x∧x < (P+1).toNat+s.length then s.getD (x - (P+1).toNat) 0 else (if x=P.toNat then v else M.byte x))=(fun x=>if P.toNat≤x∧x < P.toNat+(s.length+1) then (v::s).getD (x - P.toNat) 0 else M.byte x):=by
    funext x
    by_cases c1:x=P.toNat
    ·subst c1
     rw [if_neg (by omega),if_pos rfl,if_pos (by omega)];simp
    ·by_cases c2:P.toNat≤x∧x < P.toNat+(s.length+1)
     ·rw [if_pos c2,if_pos (by omega)]
      have:x - P.toNat=(x - (P+1).toNat)+1:=by omega
      rw [this];simp
     ·rw [if_neg c2,if_neg (by omega),if_neg c1]
   rw [← eb]
   have en':=congrArg (fun N:Mem=>{ N with byte:=(fun x=>if (P+1).toNat≤x∧x < (P+1).toNat+s.length then s.getD (x - (P+1).toNat) 0 else (if x=P.toNat then v else M.byte x)) }) en
   exact en'
  ·have ok':¬ (P+1 < 4096*M.n∧(all=true∨M.only (P / 4096).toNat=false)):=fun h=>ok ⟨by omega,h.2⟩
   rw [if_neg ok,if_neg ok']
   unfold Mem.put;rw [hP,if_neg ok]
theorem ram_bytes {w w2:World} {B:Nat} {M:Mem} (h:RamAt w B M) {i q n:Nat} {cs cs':Array Value} {f:Nat→Int} (hi:i < M.n) (hq:q+n≤4096) (hcs:w.heap[B+4+i]?=some (.cells cs 202 (0,0))) (hcs':w2.heap[B+4+i]?=some (.cells cs' 202 (0,0)))
  (hl:Laid cs cs' q n (fun j=>.int .u8 (f j))) (hk:Kp (fun j=>j=B+4+i) w w2) (hf:∀ j,j < n→0≤f j∧f j < 256):
  RamAt w2 B { M with byte:=fun x=>if 4096*i+q≤x∧x < 4096*i+q+n then f (x - (4096*i+q)) else M.byte x }:=by
 have hold:∀ j,inRam B M.n j→j≠B+4+i→w2.heap[j]?=w.heap[j]?:=fun j hj hne=>hk.block j (by have:=h.lt;have:=hj.2;omega) hne
 exact {
  le:=h.le
  r:=(hold _ ⟨by omega,by omega⟩ (by omega)).trans h.r
  p:=by obtain ⟨D',h1,h2⟩:=h.p;exact ⟨D',owns_at h1 (hold _ ⟨by omega,by omega⟩ (by omega)),h2⟩
  pg:=fun i' hi'=>by
   have hi'':i' < M.n:=hi'
   by_cases e:i'=i
   ·subst e
    obtain ⟨cs0,g1,g2,g3,g4⟩:=h.pg i' hi
    rw [hcs] at g1
    obtain rfl:cs=cs0:=by simpa using g1
    refine ⟨cs',hcs',by rw [hl.1,g2],fun j hj=>?_,?_⟩
    ·rw [hl.2 j]
     by_cases c:q≤j∧j < q+n
     ·rw [if_pos c]
      simp only
      rw [if_pos (by omega)]
      have:4096*i'+j - (4096*i'+q)=j - q:=by omega
      rw [this]
     ·rw [if_neg c]
      simp only
      rw [if_neg (by omega),g3 j hj]
    ·rw [hl.2 4096,if_neg (by omega),g4]
   ·obtain ⟨cs0,g1,g2,g3,g4⟩:=h.pg i' hi''
    refine ⟨cs0,(hold _ ⟨by omega,by omega⟩ (by omega)).trans g1,g2,fun j hj=>?_,g4⟩
    rw [g3 j hj]
    simp only
    rw [if_neg (by omega)]
  wm:=by obtain ⟨D',h1,h2⟩:=h.wm;exact ⟨D',owns_at h1 (hold _ ⟨by omega,by omega⟩ (by omega)),h2⟩
  nm:=by obtain ⟨D',h1,h2⟩:=h.nm;exact ⟨D',owns_at h1 (hold _ ⟨by omega,by omega⟩ (by omega)),h2⟩
  wb:=h.wb
  nb:=h.nb
  bb:=fun x hx=>by
   simp only
   split
   ·exact hf _ (by omega)
   ·exact h.bb x hx }
theorem RamAt.pc {w:World} {B:Nat} {M:Mem} (h:RamAt w B M) {i:Nat} (hi:i < M.n):w.cell? ⟨B+4+i,4096,none⟩=some (.bool (M.only i)):=by
 obtain ⟨cs,g1,g2,g3,g4⟩:=h.pg i hi
 rw [cell_at g1,g4]
set_option maxRecDepth 100000 in
theorem lay_any (w:World) (B:Nat) (M:Mem) (h:RamAt w B M) (all:Bool) (at_:Int) (a0:0≤at_) (a1:at_ < 4294967296) (p:Option Addr) (S o L c:Nat) (vs:List Int) (hv:vs.length=L) (hL:L < 4611686018427387904)
  (hp:0 < L→p=some ⟨S,o,none⟩∧L≤c∧¬ inRam B M.n S∧S < w.heap.size∧∀ j,j < L→w.cell? ⟨S,o+j,none⟩=some (.int .u8 (vs.getD j 0))) (hb:∀ j,j < L→0≤vs.getD j 0∧vs.getD j 0 < 256):
  Calls Tryz.prog 120 #[.pointer (some ⟨B+3,0,none⟩),.int .u32 at_,.slice p L c,.bool all] w fun e w'=>e=.returned (.tuple #[])∧RamAt w' B (M.lay all at_ vs)∧Kp (inRam B M.n) w w':=by
 go_enter Tryz.func120,Tryz.ntmps120
 go_wp2
 go_loopw [1,2] (fun a sl wr=>∃ k:Nat,k≤L∧a=.int .u32 ((at_+k)%4294967296)∧(∃ p' c',sl=.slice p' (L - k) c'∧(k < L→p'=some ⟨S,o+k,none⟩∧L - k≤c'))∧RamAt wr B (M.lay all at_ (vs.take k))∧Kp (inRam B M.n) w wr) (fun _ sl _=>slLen sl)
 case atStart=>exact ⟨0,Nat.zero_le _,by simp;omega,⟨_,c,rfl,fun hk=>⟨(hp hk).1,(hp hk).2.1⟩⟩,by simpa [Mem.lay] using h,Kp.refl _ _⟩
 case round=>
  obtain ⟨k,hk,rfl,⟨p',c',rfl,hp'⟩,hr,hkp⟩:=hrel
  by_cases hkL:k < L
  ·obtain ⟨rfl,hc'⟩:=hp' hkL
   obtain ⟨hp1,hp2,hp3,hp4,hp5⟩:=hp (by omega)
   have hsrc:∀ j,j < L→wr.cell? ⟨S,o+j,none⟩=some (.int .u8 (vs.getD j 0)):=fun j hj=>by
    rw [← hp5 j hj];exact World.cell?_of_block (hkp.block S hp4 hp3)
   clear hp hp' hp1 hp2
   obtain ⟨N,hN⟩:∃ N,N=M.lay all at_ (vs.take k):=⟨_,rfl⟩
   have hNn:N.n=M.n:=by rw [hN];exact (lay_same _ _ _ _).1
   rw [← hN] at hr
   have HNN:Hid (N=M.lay all at_ (vs.take k)):=hN
   clear hN
   obtain ⟨a,ha⟩:∃ a,a=(at_+k)%4294967296:=⟨_,rfl⟩
   rw [← ha]
   have b0:0≤a:=by omega
   have b1:a < 4294967296:=by omega
   have HA:Hid (a=(at_+k)%4294967296):=ha
   clear ha
   have pb:=N.place_bd b0 b1
   obtain ⟨pl,hpl⟩:∃ pl,pl=N.place a:=⟨_,rfl⟩
   have cP:=place_any wr B N hr a b0 b1
   rw [← hpl] at cP pb
   have HP:Hid (pl=N.place a):=hpl
   clear hpl
   obtain ⟨p0,p1⟩:=pb
   obtain ⟨n,hn⟩:∃ n:Nat,n=(min ((L - k:Nat):Int) (4096 - pl%4096)).toNat:=⟨_,rfl⟩
   have cL:=lengthInPage_any wr pl (L - k:Nat) p0 p1 (by omega) (by omega)
   have en:min ((L - k:Nat):Int) (4096 - pl%4096)=n:=by omega
   rw [en] at cL
   have n0:1≤n:=by omega
   have n1:n≤L - k:=by omega
   have n2:n≤4096:=by omega
   obtain ⟨q,hq⟩:∃ q:Nat,pl%4096=q:=⟨(pl%4096).toNat,by omega⟩
   have q1:q+n≤4096:=by omega
   have q2:q < 4096:=by omega
   clear hn en
   obtain ⟨us,hus⟩:∃ us,us=(vs.drop k).take n:=⟨_,rfl⟩
   have ul:us.length=n:=by rw [hus];simp;omega
   have ug:∀ j,j < n→us.getD j 0=vs.getD (k+j) 0:=fun j hj=>by rw [hus];simp [List.getD_eq_getElem?_getD,List.getElem?_take_of_lt hj,List.getElem?_drop]
   have hstep:M.lay all at_ (vs.take (k+n))=N.lay all a us:=by
    have e:vs.take (k+n)=vs.take k++us:=by rw [hus,List.take_add]
    rw [e,lay_append all _ _ _ _ a0 a1,← HNN.out,HA.out]
    congr 2
    simp;omega
   have hpage:=lay_page all us N a (by intro e;rw [e] at ul;simp at ul;omega) b0 b1 (by rw [← HP.out,ul,hq];omega) (by rw [← HP.out];exact p0)
   rw [← HP.out,ul] at hpage
   have HST:Hid (M.lay all at_ (vs.take (k+n))=N.lay all a us):=hstep
   have HPG:Hid (N.lay all a us=if pl < 4096*N.n∧(all=true∨N.only (pl / 4096).toNat=false) then { N.note (pl - pl%64) (pl+n - 1 - (pl+n - 1)%64+64) with byte:=fun x=>if pl.toNat≤x∧x < pl.toNat+n then us.getD (x - pl.toNat) 0 else N.byte x } else N):=hpage
   clear hpage hstep
   have HUL:Hid (us.length=n):=ul
   have HUS:Hid (us=(vs.drop k).take n):=hus
   clear hus ul
   by_cases hpn:pl < 4096*N.n
   ·have cO:=pageOf_some wr B N hr pl p0 p1 hpn
    obtain ⟨i,hi⟩:∃ i:Nat,i=(pl / 4096).toNat:=⟨_,rfl⟩
    rw [← hi] at cO
    have HI:Hid (pl=4096*i+q):=show _=_ by omega
    have HIN:Hid (i < N.n):=show _ < _ by omega
    have hc4:=hr.pc HIN.out
    have hsl:=run_pageSlice wr (B+4+i) q q2
    by_cases ok:all=true∨N.only i=false
    ·obtain ⟨cs,hcs,hz,hby,hon⟩:=hr.pg i HIN.out
     obtain ⟨w2,hcp,⟨cs2,hh2,hl2⟩,hk2⟩:=copy_any wr (B+4+i) q (4096 - q) (4096 - q) S (o+k) n c' n (Nat.min_eq_left (by omega)).symm cs 202 hcs (by omega) (fun j=>us.getD j 0) (fun j hj=>by rw [ug j hj,Nat.add_assoc];exact hsrc _ (by omega))
     have hr2:=ram_bytes hr HIN.out q1 hcs hh2 hl2 hk2 (fun j hj=>by rw [ug j hj];exact hb _ (by omega))
     have cT:=note_any w2 B _ hr2 pl n p0 (by omega) (by show pl+n≤4096*N.n;have:=HI.out;have:=HIN.out;omega)
     have hfin:N.lay all a us=Mem.note { N with byte:=fun x=>if 4096*i+q≤x∧x < 4096*i+q+n then us.getD (x - (4096*i+q)) 0 else N.byte x } (pl - pl%64) (pl+n - 1 - (pl+n - 1)%64+64):=by
      rw [HPG.out,if_pos ⟨hpn,by rw [← hi];exact ok⟩]
      have e:pl.toNat=4096*i+q:=by have:=HI.out;omega
      rw [e]
      rfl
     have HF:Hid (N.lay all a us=Mem.note { N with byte:=fun x=>if 4096*i+q≤x∧x < 4096*i+q+n then us.getD (x - (4096*i+q)) 0 else N.byte x } (pl - pl%64) (pl+n - 1 - (pl+n - 1)%64+64)):=hfin
     have hkp2:Kp (inRam B M.n) w w2:=hkp.trans (hk2.mono fun j hj e=>by rw [e];have:=HIN.out;exact ⟨by omega,by omega⟩)
     clear hi hpn hfin hl2 hk2 hh2 hcs hz hby hon hr2
     rcases ok with ok | ok
     ·subst ok
      clear hc4
      go_wp2_with fail
      refine cP.mono ?_;rintro e w' ⟨rfl,hw⟩;replace hw:=hw.symm;subst hw
      go_wp2_with fail
      refine cL.mono ?_;rintro e w' ⟨rfl,hw⟩;replace hw:=hw.symm;subst hw
      go_wp2_with fail
      refine cO.mono ?_;rintro e w' ⟨rfl,hw⟩;replace hw:=hw.symm;subst hw
      go_wp2_with fail
      refine cT.mono ?_;rintro e w3 ⟨rfl,hr3,hk3⟩
      have hr4:RamAt w3 B (M.lay true at_ (vs.take (k+n))):=hr3.as (by rw [HST.out,HF.out])
      have hkp3:Kp (inRam B M.n) w w3:=hkp2.trans (hk3.mono fun j hj e=>by rcases e with e | e<;>rw [e]<;>exact ⟨by omega,by omega⟩)
      clear hr3 hk3
      go_wp2
      go_roundw
      case rel=>
       refine ⟨k+n,by omega,?_,?_,hr4,hkp3⟩
       ·congr 1;have:=HA.out;omega
       ·refine ⟨_,_,by congr 1;omega,fun hlt=>?_⟩
        rw [if_neg (by omega)]
        exact ⟨by congr 2;omega,by omega⟩
      case measure=>simp [slLen];omega
     ·rw [ok] at hc4
      cases all
      ·go_wp2_with fail
       refine cP.mono ?_;rintro e w' ⟨rfl,hw⟩;replace hw:=hw.symm;subst hw
       go_wp2_with fail
       refine cL.mono ?_;rintro e w' ⟨rfl,hw⟩;replace hw:=hw.symm;subst hw
       go_wp2_with fail
       refine cO.mono ?_;rintro e w' ⟨rfl,hw⟩;replace hw:=hw.symm;subst hw
       go_wp2_with fail
       refine cT.mono ?_;rintro e w3 ⟨rfl,hr3,hk3⟩
       have hr4:RamAt w3 B (M.lay false at_ (vs.take (k+n))):=hr3.as (by rw [HST.out,HF.out])
       have hkp3:Kp (inRam B M.n) w w3:=hkp2.trans (hk3.mono fun j hj e=>by rcases e with e | e<;>rw [e]<;>exact ⟨by omega,by omega⟩)
       clear hr3 hk3
       go_wp2
       go_roundw
       case rel=>
        refine ⟨k+n,by omega,?_,?_,hr4,hkp3⟩
        ·congr 1;have:=HA.out;omega
        ·refine ⟨_,_,by congr 1;omega,fun hlt=>?_⟩
         rw [if_neg (by omega)]
         exact ⟨by congr 2;omega,by omega⟩
       case measure=>simp [slLen];omega
      ·go_wp2_with fail
       refine cP.mono ?_;rintro e w' ⟨rfl,hw⟩;replace hw:=hw.symm;subst hw
       go_wp2_with fail
       refine cL.mono ?_;rintro e w' ⟨rfl,hw⟩;replace hw:=hw.symm;subst hw
       go_wp2_with fail
       refine cO.mono ?_;rintro e w' ⟨rfl,hw⟩;replace hw:=hw.symm;subst hw
       go_wp2_with fail
       refine cT.mono ?_;rintro e w3 ⟨rfl,hr3,hk3⟩
       have hr4:RamAt w3 B (M.lay true at_ (vs.take (k+n))):=hr3.as (by rw [HST.out,HF.out])
       have hkp3:Kp (inRam B M.n) w w3:=hkp2.trans (hk3.mono fun j hj e=>by rcases e with e | e<;>rw [e]<;>exact ⟨by omega,by omega⟩)
       clear hr3 hk3
       go_wp2
       go_roundw
       case rel=>
        refine ⟨k+n,by omega,?_,?_,hr4,hkp3⟩
        ·congr 1;have:=HA.out;omega
        ·refine ⟨_,_,by congr 1;omega,fun hlt=>?_⟩
         rw [if_neg (by omega)]
         exact ⟨by congr 2;omega,by omega⟩
       case measure=>simp [slLen];omega
    ·have hall:all=false:=by cases all;rfl;exact absurd (Or.inl rfl) ok
     have honly:N.only i=true:=by cases e:N.only i;exact absurd (Or.inr e) ok;rfl
     subst hall
     rw [honly] at hc4
     have hfin:M.lay false at_ (vs.take (k+n))=N:=by rw [HST.out,HPG.out,if_neg (by rw [← hi];exact fun g=>ok g.2)]
     have hr4:RamAt wr B (M.lay false at_ (vs.take (k+n))):=hr.as hfin.symm
     clear hi hpn hfin ok honly hr
     go_wp2_with fail
     refine cP.mono ?_;rintro e w' ⟨rfl,hw⟩;replace hw:=hw.symm;subst hw
     go_wp2_with fail
     refine cL.mono ?_;rintro e w' ⟨rfl,hw⟩;replace hw:=hw.symm;subst hw
     go_wp2_with fail
     refine cO.mono ?_;rintro e w' ⟨rfl,hw⟩;replace hw:=hw.symm;subst hw
     go_wp2
     go_roundw
     case rel=>
      refine ⟨k+n,by omega,?_,?_,hr4,hkp⟩
      ·congr 1;have:=HA.out;omega
      ·refine ⟨_,_,by congr 1;omega,fun hlt=>?_⟩
       rw [if_neg (by omega)]
       exact ⟨by congr 2;omega,by omega⟩
     case measure=>simp [slLen];omega
   ·have cO:=pageOf_none wr B N hr pl p0 p1 (by omega)
    have hfin:M.lay all at_ (vs.take (k+n))=N:=by rw [HST.out,HPG.out,if_neg (fun g=>hpn g.1)]
    have hr4:RamAt wr B (M.lay all at_ (vs.take (k+n))):=hr.as hfin.symm
    clear hpn hfin hr
    go_wp2_with fail
    refine cP.mono ?_;rintro e w' ⟨rfl,hw⟩;replace hw:=hw.symm;subst hw
    go_wp2_with fail
    refine cL.mono ?_;rintro e w' ⟨rfl,hw⟩;replace hw:=hw.symm;subst hw
    go_wp2_with fail
    refine cO.mono ?_;rintro e w' ⟨rfl,hw⟩;replace hw:=hw.symm;subst hw
    go_wp2
    go_roundw
    case rel=>
     refine ⟨k+n,by omega,?_,?_,hr4,hkp⟩
     ·congr 1;have:=HA.out;omega
     ·refine ⟨_,_,by congr 1;omega,fun hlt=>?_⟩
      rw [if_neg (by omega)]
      exact ⟨by congr 2;omega,by omega⟩
    case measure=>simp [slLen];omega
  ·have e:k=L:=by omega
   subst e
   clear hp hp'
   go_wp2
   go_end0
   refine ⟨rfl,?_,hkp⟩
   rw [← hv,List.take_length] at hr
   exact hr
end Go.Proofs.YtacgmoikegcopaaGreatDoor.Rm
