/- Parts of a proof. -/
import Derived.Test.YtipahfcaplbifaaGreatDoorQ05
import Derived.Laws.MakeOwn
set_option linter.unusedVariables false
set_option linter.unusedSimpArgs false
set_option maxHeartbeats 60000000
set_option maxRecDepth 100000
namespace Go.Proofs.YtipahfcaplbifaaGreatDoor
namespace Prp
open Go.RowKit
def gd (p:FolS)(g:Nat):FolS:={ p with G:=g,gv:= .pointer (some ⟨p.F,0,none⟩) }
theorem told_any {B n:Nat}{cs:List (List Int)}{ls:List Int}{p:FolS}{w:World}{A Wd H T S:Nat→Int}{Q:List Int}{L:Int→List Nat}(hx:Ctx n cs ls)(h:St B n cs ls p w A Wd H T S Q L [])(hB:B≤w.heap.size)
  (hone:∀i c,cs[i]? =some c→¬act c→S i=c.length+1) (a:Option Addr) (k cap:Nat) (hk:ls.length=k) (hkm:k≤9223372036854775807) (hl:Nums B w a ls):
  Calls Tryz.prog 121 #[.pointer (some ⟨p.F,0,none⟩),.slice a k cap] w (ToldEnd B n cs ls (gd p w.heap.size) Wd H T S L w):=by
 have hb0:Below w.heap.size w (w.alloc (.cells #[.pointer (some ⟨p.F,0,none⟩)] 186)):=(Below.refl _ w).alloc (Nat.le_refl _) _
 have hst:St B n cs ls (gd p w.heap.size) (w.alloc (.cells #[.pointer (some ⟨p.F,0,none⟩)] 186)) A Wd H T S Q L []:=
  ⟨h.fol.guard hB _ _,h.asg,h.wat,h.qb,h.cl.below (hb0.mono hB)⟩
 have hB1:B≤(w.alloc (.cells #[.pointer (some ⟨p.F,0,none⟩)] 186)).heap.size:=Nat.le_trans hB hb0.size
 have HSM:=Lib.hid (some_no hx hst rfl hB1 a k cap hk hkm (hl.below (hb0.mono hB)))
 have HB0:Hid (Below B w (w.alloc (.cells #[.pointer (some ⟨p.F,0,none⟩)] 186))):=hb0.mono hB
 have HBS:Hid (∀w',Below B w w'→B≤w'.heap.size):=fun w' hb=>Nat.le_trans hB hb.size
 have HONE:=Lib.hid hone
 have HX:=Lib.hid hx
 have hm:=hx.hm
 have HNO:=Lib.hid (fun(A':Nat→Int) (Q':List Int) (W:World) (hs:St B n cs ls (gd p w.heap.size) W A' Wd H T S Q' L []) (l:Int) (hl:inR n l) (hd:Der cs ls l) (hB':B≤W.heap.size)=>no_any hx hs rfl hl hd hB')
 clear h hx hst hb0 hB1 hone hk hl
 have e2:(gd p w.heap.size).F=p.F:=rfl
 have e3:(gd p w.heap.size).G=w.heap.size:=rfl
 have e4:(gd p w.heap.size).gv= .pointer (some ⟨p.F,0,none⟩):=rfl
 generalize hgd:gd p w.heap.size=p' at HSM HNO e2 e3 e4⊢
 rw[e3]at HSM HNO
 clear hgd
 go_enter Tryz.func121,Tryz.ntmps121
 go_wp2_with fail
 refine HSM.out.mono ?_
 rintro e w1 ⟨hb1,⟨rfl,hcf⟩ | ⟨rfl,A1,Q1,hst,hgr,hal⟩⟩
 ·have HC9:=Lib.hid hcf
  have HB9:=Lib.hid (HB0.out.trans hb1)
  clear hcf hb1 HSM HNO
  go_wp2_with fail
  go_ret
  exact⟨HB9.out,.inl ⟨rfl,HC9.out⟩⟩
 ·have HB1:=Lib.hid (HB0.out.trans hb1)
  have HJ0:Hid (Jtold B n cs ls p' Wd H T S L w 0 w1):=⟨A1,Q1,hst,hal,fun j hj=>absurd hj (Nat.not_lt_zero _),HB1.out⟩
  have cg:=hst.fol.cg
  have c0:=hst.fol.c0
  rw[e3,e4]at cg
  rw[e2]at c0
  clear hst hgr hal hb1 HSM HB0
  generalize w.heap.size=g at*
  go_wp2_with fail
  clear cg c0
  go_loopw [17] (fun i wr=>∃j:Nat,j≤cs.length∧i= .int .i64 j∧Hid (Jtold B n cs ls p' Wd H T S L w j wr)) (fun i _=>cs.length - (intOf i).toNat)
  case atStart=>exact⟨0,Nat.zero_le _,rfl,HJ0⟩
  case round=>
   clear HJ0
   obtain⟨j,hj,rfl,hJ⟩:=hrel
   by_cases hlt:j<cs.length
   ·obtain⟨A2,Q2,hst,hal,hun,hbw⟩:=hJ.out
    obtain⟨b,off,ta,tcap,hca,hblt,cc,cn⟩:=hst.cl j hlt
    have cg:=hst.fol.cg
    have c5:=hst.fol.c5
    have a5:=hst.fol.aS j hlt
    rw[e3,e4]at cg
    rw[e2]at c5
    have hcj:cs[j]? =some (cs.getD j []):=by rw[List.getD_eq_getElem?_getD,List.getElem?_eq_getElem hlt];rfl
    have hmem:cs.getD j []∈cs:=List.mem_of_getElem? hcj
    have hcl:=HX.out.hk _ hmem
    have hjl:(j:Int)<(cs.length:Nat):=by omega
    have HNX:Hid (∀w' A3 Q3,Below B wr w'→St B n cs ls p' w' A3 Wd H T S Q3 L []→Grow A2 A3→(¬act (cs.getD j [])→cs.getD j []≠[]∧va A3 ((cs.getD j []).headD 0)=1)→Jtold B n cs ls p' Wd H T S L w (j+1) w'):=fun w' A3 Q3 hb hs hg hv=>
     ⟨A3,Q3,hs,fun l hl=>hg l (HX.out.sane.hl l hl).1 (hal l hl),fun i hi ha=>by
      by_cases e:i=j
      ·subst e;exact hv ha
      ·obtain⟨g1,g2⟩:=hun i (by omega) ha
       refine⟨g1,hg _ ?_ g2⟩
       have hm2:cs.getD i []∈cs:=by rw[List.getD_eq_getElem?_getD,List.getElem?_eq_getElem (show i<cs.length by omega)];exact List.getElem_mem _
       cases hc2:cs.getD i []with
       | nil=>exact absurd hc2 g1
       | cons y r=>rw[hc2]at hm2;exact(HX.out.sane.hc _ hm2 y List.mem_cons_self).1,hbw.trans hb⟩
    have HBW:=Lib.hid hbw
    have HT:=Lib.hid hst.wat.two
    have HST:=Lib.hid hst
    rw[hca]
    clear hal hun hbw hJ hst hca
    cases hc:cs.getD j []with
    | nil=>
      have HC9:Hid (Conf cs ls):= .inl (by rw[←hc];exact hmem)
      rw[hc]at cc
      simp only[List.length_nil]at cc
      clear HNX HNO HT HST cn
      go_wp2_with fail
      go_ret
      exact⟨HBW.out,.inl ⟨rfl,HC9.out⟩⟩
    | cons y r=>
      rw[hc]at cc cn hmem hcj HNX hcl
      have hrl:(y :: r).length=r.length+1:=rfl
      rw[hrl]at cc hcl
      by_cases ha:act (y :: r)
      ·have hS:=(HT.out j _ hcj ha).2.2.2.2.1
       rw[hrl]at hS
       have HJ9:=Lib.hid (HNX.out wr A2 Q2 (Below.refl _ _) HST.out (Grow.refl _) (fun hn=>absurd ha hn))
       clear HNX HNO HT HST cn ha hmem hc hcj
       generalize S j=s at a5 hS
       go_wp2_with fail
       go_roundw
       case rel=>exact⟨j+1,by omega,by go_num,HJ9⟩
       case measure=>simp[intOf];omega
      ·have hS:=HONE.out j _ hcj ha
       rw[hrl]at hS
       obtain⟨b2,off2,rfl,hb2,n1⟩:=cn 0 (by simp)
       have n1:wr.cell? ⟨b2,off2,none⟩=some (.int .i64 y):=n1
       have hyr:=HX.out.sane.hc _ hmem y List.mem_cons_self
       have HC:=Lib.hid (HNO.out A2 Q2 wr HST.out y hyr (der_unit (ls:=ls) hmem ha (by simp)) (HBS.out _ HBW.out))
       have hr0:(0:Int)<((r.length+1:Nat):Int):=by omega
       clear HNO HT HST cn ha hmem hc hcj hyr
       generalize S j=s at a5 hS
       go_wp2_with (first | (go_at_call 137;refine HC.out.mono ?_))
       rintro e w' ⟨b9,rfl,hb',⟨rfl,hcf⟩ | ⟨rfl,A3,Q3,h1,h2,h3⟩⟩
       ·have HC9:=Lib.hid hcf
        have HB9:=Lib.hid (HBW.out.trans hb')
        clear hcf hb' HC HNX
        go_wp2_with fail
        go_ret
        exact⟨HB9.out,.inl ⟨rfl,HC9.out⟩⟩
       ·have HJ9:=Lib.hid (HNX.out w' A3 Q3 hb' h1 h2 (fun _=>⟨by simp,h3⟩))
        clear h1 h2 h3 hb' HC HNX
        go_wp2_with fail
        go_roundw
        case rel=>exact⟨j+1,by omega,by go_num,HJ9⟩
        case measure=>simp[intOf];omega
   ·obtain rfl:j=cs.length:=by omega
    have HE:Hid (ToldEnd B n cs ls p' Wd H T S L w (.returned (.bool true)) wr):=by
     obtain⟨A2,Q2,hst,hal,hun,hbw⟩:=hJ.out
     refine⟨hbw,.inr ⟨rfl,A2,Q2,hst,hal,fun c hc ha=> ?_⟩⟩
     obtain⟨i,hi,rfl⟩:=List.getElem_of_mem hc
     have:=hun i hi
     rw[List.getD_eq_getElem?_getD,List.getElem?_eq_getElem hi]at this
     exact this ha
    clear hJ HNO
    go_wp2_with fail
    go_ret
    exact HE.out
end Prp
namespace Prp
open Go.RowKit
theorem run_make_ints (W:World)(z:Int)(n:Nat)(hz:z=n)(hn:n≤40000):(Instr.makeSlice 23 (.int .i64 z) (.int .i64 z)).run Tryz.prog W= .ok (.slice (some ⟨W.heap.size,0,none⟩) n n) (W.alloc (.cells (madeCells #[.int .i64 0] n) 3)):=by
 subst hz
 obtain⟨i0,hi,hz0,hz1,hz2⟩:=info_parts Tryz.infoInt
 have:=run_make (P:=Tryz.prog) W 23 3 i0 _ Tryz.underlying23 hi hz0 .i64 .i64 n n (by omega) (Int.le_refl _) (by rw[hz2];omega) (by omega)
 rw[hz1]at this
 simpa [Value.cells]using this
theorem heap_at (w:World)(o:Obj)(k:Nat):(w.alloc o).heap[k]? =if k=w.heap.size then some o else w.heap[k]? :=by
 by_cases h:k=w.heap.size
 ·rw[if_pos h,h];exact heap_alloc_new w o
 ·rw[if_neg h]
  by_cases h2:k<w.heap.size
  ·exact Below.heap_alloc w o k h2
  ·rw[Array.getElem?_eq_none (by simp;omega),Array.getElem?_eq_none (by omega)]
section
variable (w:World) (o1 o2 o3 o4 o5 o6:Obj)
theorem six1:((((((w.alloc o1).alloc o2).alloc o3).alloc o4).alloc o5).alloc o6).drew.heap[w.heap.size]? =some o1:=by
 have e:∀W:World,W.drew.heap=W.heap:=fun _=>rfl
 simp only[e,heap_at,World.size_alloc];repeat (first | rw[if_pos trivial] | rw[if_neg (by omega)])
theorem six2:((((((w.alloc o1).alloc o2).alloc o3).alloc o4).alloc o5).alloc o6).drew.heap[w.heap.size+1]? =some o2:=by
 have e:∀W:World,W.drew.heap=W.heap:=fun _=>rfl
 simp only[e,heap_at,World.size_alloc];repeat (first | rw[if_pos trivial] | rw[if_neg (by omega)])
theorem six3:((((((w.alloc o1).alloc o2).alloc o3).alloc o4).alloc o5).alloc o6).drew.heap[w.heap.size+1+1]? =some o3:=by
 have e:∀W:World,W.drew.heap=W.heap:=fun _=>rfl
 simp only[e,heap_at,World.size_alloc];repeat (first | rw[if_pos trivial] | rw[if_neg (by omega)])
theorem six4:((((((w.alloc o1).alloc o2).alloc o3).alloc o4).alloc o5).alloc o6).drew.heap[w.heap.size+1+1+1]? =some o4:=by
 have e:∀W:World,W.drew.heap=W.heap:=fun _=>rfl
 simp only[e,heap_at,World.size_alloc];repeat (first | rw[if_pos trivial] | rw[if_neg (by omega)])
theorem six5:((((((w.alloc o1).alloc o2).alloc o3).alloc o4).alloc o5).alloc o6).drew.heap[w.heap.size+1+1+1+1]? =some o5:=by
 have e:∀W:World,W.drew.heap=W.heap:=fun _=>rfl
 simp only[e,heap_at,World.size_alloc];repeat (first | rw[if_pos trivial] | rw[if_neg (by omega)])
theorem six6:((((((w.alloc o1).alloc o2).alloc o3).alloc o4).alloc o5).alloc o6).drew.heap[w.heap.size+1+1+1+1+1]? =some o6:=by
 have e:∀W:World,W.drew.heap=W.heap:=fun _=>rfl
 simp only[e,heap_at,World.size_alloc];repeat (first | rw[if_pos trivial] | rw[if_neg (by omega)])
theorem six_below:Below w.heap.size w ((((((w.alloc o1).alloc o2).alloc o3).alloc o4).alloc o5).alloc o6).drew:=by
 refine Below.drew (Below.alloc (Below.alloc (Below.alloc (Below.alloc (Below.alloc (Below.alloc (Below.refl _ w) ?_ _) ?_ _) ?_ _) ?_ _) ?_ _) ?_ _)<;>simp<;>omega
end
structure Begun (w wr:World)(a:Option Addr)(m cap n:Nat)(F I W H T S:Nat):Prop where
 hF:wr.heap[F]? =some (.cells #[.slice a m cap,.slice (some ⟨I,0,none⟩) (n+1) (n+1),.slice (some ⟨W,0,none⟩) (2*m) (2*m),.slice (some ⟨H,0,none⟩) (2*n+2) (2*n+2),.slice (some ⟨T,0,none⟩) (2*m) (2*m),.slice (some ⟨S,0,none⟩) m m,.slice none 0 0] 190 (0,0))
 hI:wr.heap[I]? =some (.cells (madeCells #[.int .i64 0] (n+1)) 3 (0,0))
 hW:wr.heap[W]? =some (.cells (madeCells #[.int .i64 0] (2*m)) 3 (0,0))
 hH:wr.heap[H]? =some (.cells (madeCells #[.int .i64 0] (2*n+2)) 3 (0,0))
 hT:wr.heap[T]? =some (.cells (madeCells #[.int .i64 0] (2*m)) 3 (0,0))
 hS:wr.heap[S]? =some (.cells (madeCells #[.int .i64 0] m) 3 (0,0))
 ne:(F≠I∧F≠W∧F≠H∧F≠T∧F≠S)∧(I≠W∧I≠H∧I≠T∧I≠S)∧(W≠H∧W≠T∧W≠S)∧(H≠T∧H≠S)∧T≠S
 lo:w.heap.size≤F∧w.heap.size≤I∧w.heap.size≤W∧w.heap.size≤H∧w.heap.size≤T∧w.heap.size≤S
 b:Below w.heap.size w wr
end Prp
namespace Prp
open Go.RowKit
theorem lt_of_some {W:World}{b:Nat}{o:Obj}(h:W.heap[b]? =some o):b<W.heap.size:=(Array.getElem?_eq_some_iff.1 h).1
structure Lst (n:Nat)(Is:Nat→Prop)(Wd H T:Nat→Int)(L:Int→List Nat):Prop where
 chain:∀l,inR n l→Ch T (H (place l)) (L l)
 mem:∀l,inR n l→∀w,w∈L l↔(Is w∧Wd w=l)
 nd:∀l,inR n l→(L l).Nodup
theorem Lst.nil {n:Nat}{Wd H T:Nat→Int}(hH:∀i,i<2*n+2→H i= -1):Lst n (fun _=>False) Wd H T (fun _=>[]):=
 ⟨fun l hl=>hH _ (place_lt hl),fun _ _ _=>⟨(fun h=>by cases h),fun h=>h.1.elim⟩,fun _ _=>List.nodup_nil⟩
theorem Lst.congr {n:Nat}{Is Is':Nat→Prop}{Wd H T:Nat→Int}{L:Int→List Nat}(h:Lst n Is Wd H T L)(he:∀w,Is w↔Is' w):Lst n Is' Wd H T L:=
 ⟨h.chain,fun l hl w=>(h.mem l hl w).trans (by rw[he]),h.nd⟩
theorem Lst.add {n:Nat}{Is:Nat→Prop}{Wd H T:Nat→Int}{L:Int→List Nat}(h:Lst n Is Wd H T L){x:Nat}{l0:Int}(hx:¬Is x)(hl0:inR n l0):∃L',Lst n (fun w=>Is w∨w=x) (upd Wd x l0) (upd H (place l0) x) (upd T x (H (place l0))) L':=by
 have hno:∀l,inR n l→x∉L l:=fun l hl hm=>hx ((h.mem l hl x).1 hm).1
 refine⟨fun l=>if l=l0 then x :: L l0 else L l,fun l hl=> ?_,fun l hl w=> ?_,fun l hl=> ?_⟩
 ·by_cases e:l=l0
  ·subst e
   rw[if_pos rfl,upd_same]
   refine⟨rfl, ?_⟩
   rw[upd_same]
   exact(h.chain l hl).upd (hno l hl)
  ·rw[if_neg e,upd_ne (fun e2=>e (place_inj hl hl0 e2))]
   exact(h.chain l hl).upd (hno l hl)
 ·by_cases e:l=l0
  ·subst e
   rw[if_pos rfl,List.mem_cons]
   constructor
   ·rintro(rfl | hy)
    ·exact⟨.inr rfl,upd_same⟩
    ·obtain⟨a,b⟩:=(h.mem l hl w).1 hy
     refine⟨.inl a, ?_⟩
     rw[upd_ne (fun e=>hx (by rw[←e];exact a))];exact b
   ·rintro⟨a,b⟩
    by_cases e:w=x
    ·exact .inl e
    ·rw[upd_ne e]at b
     exact .inr ((h.mem l hl w).2 ⟨a.resolve_right e,b⟩)
  ·rw[if_neg e]
   constructor
   ·intro hy
    obtain⟨a,b⟩:=(h.mem l hl w).1 hy
    refine⟨.inl a, ?_⟩
    rw[upd_ne (fun e=>hx (by rw[←e];exact a))];exact b
   ·rintro⟨a,b⟩
    by_cases e2:w=x
    ·subst e2;rw[upd_same]at b;exact absurd b.symm e
    ·rw[upd_ne e2]at b
     exact(h.mem l hl w).2 ⟨a.resolve_right e2,b⟩
 ·by_cases e:l=l0
  ·subst e
   rw[if_pos rfl]
   exact List.nodup_cons.2 ⟨hno l hl,h.nd l hl⟩
  ·rw[if_neg e];exact h.nd l hl
def isJ (cs:List (List Int))(j w:Nat):Prop:=w / 2<j∧isW cs w
structure Beg (n:Nat)(cs:List (List Int))(j:Nat)(Wd H T S:Nat→Int)(L:Int→List Nat):Prop where
 lst:Lst n (isJ cs j) Wd H T L
 two:∀i c,i<j→cs[i]? =some c→act c→Wd (2*i)∈c∧Wd (2*i+1)∈c∧Wd (2*i)≠Wd (2*i+1)∧0≤S i∧S i≤c.length∧∀k,k<(S i).toNat→c.getD k 0=Wd (2*i)∨c.getD k 0=Wd (2*i+1)
 one:∀i c,i<j→cs[i]? =some c→¬act c→S i=c.length+1
theorem Beg.nil {n:Nat}{cs:List (List Int)}{Wd H T S:Nat→Int}(hH:∀i,i<2*n+2→H i= -1):Beg n cs 0 Wd H T S (fun _=>[]):=
 ⟨(Lst.nil hH).congr (fun w=>⟨fun h=>h.elim,fun h=>by have:=h.1;omega⟩),fun i _ hi=>absurd hi (Nat.not_lt_zero _),fun i _ hi=>absurd hi (Nat.not_lt_zero _)⟩
def sameTo (c:List Int)(k:Nat):Prop:=∀i,i<k→c.getD i 0=c.headD 0
theorem not_act_of {c:List Int}(h:sameTo c c.length):¬act c:=by
 rintro⟨x,hx,hne⟩
 obtain⟨i,hi,rfl⟩:=List.getElem_of_mem hx
 have:=h i hi
 rw[List.getD_eq_getElem?_getD,List.getElem?_eq_getElem hi]at this
 exact hne this
theorem act_of {c:List Int}{k:Nat}(hk:k<c.length)(h:c.getD k 0≠c.headD 0):act c:=
 ⟨c.getD k 0,by rw[List.getD_eq_getElem?_getD,List.getElem?_eq_getElem hk];exact List.getElem_mem hk,h⟩
theorem Beg.flat {n:Nat}{cs:List (List Int)}{j:Nat}{Wd H T S:Nat→Int}{L:Int→List Nat}(h:Beg n cs j Wd H T S L){c:List Int}(hc:cs[j]? =some c)(hs:sameTo c c.length):Beg n cs (j+1) Wd H T (upd S j (c.length+1:Nat)) L:=by
 have hna:=not_act_of hs
 refine⟨h.lst.congr (fun w=>⟨fun⟨a,b⟩=>⟨by omega,b⟩,fun⟨a,b⟩=>⟨?_,b⟩⟩),fun i d hi hd ha=> ?_,fun i d hi hd ha=> ?_⟩
 ·by_cases e:w / 2=j
  ·obtain⟨d,hd,ha⟩:=b
   rw[e,hc]at hd
   obtain rfl:=Option.some.inj hd
   exact absurd ha hna
  ·omega
 ·by_cases e:i=j
  ·subst e
   obtain rfl:=Option.some.inj (hc.symm.trans hd)
   exact absurd ha hna
  ·rw[upd_ne e];exact h.two i d (by omega) hd ha
 ·by_cases e:i=j
  ·subst e
   obtain rfl:=Option.some.inj (hc.symm.trans hd)
   rw[upd_same];omega
  ·rw[upd_ne e];exact h.one i d (by omega) hd ha
theorem Beg.pair {n:Nat}{cs:List (List Int)}{ls:List Int}(hs:Sane n cs ls){j:Nat}{Wd H T S:Nat→Int}{L:Int→List Nat}(h:Beg n cs j Wd H T S L){c:List Int}{k:Nat}(hc:cs[j]? =some c)(hk:k<c.length)(hsm:sameTo c k)(hne:c.getD k 0≠c.headD 0):
  ∃L',Beg n cs (j+1) (upd (upd Wd (2*j) (c.headD 0)) (2*j+1) (c.getD k 0)) (upd (upd H (place (c.headD 0)) (2*j:Nat)) (place (c.getD k 0)) (2*j+1:Nat)) (upd (upd T (2*j) (H (place (c.headD 0)))) (2*j+1) (upd H (place (c.headD 0)) (2*j:Nat) (place (c.getD k 0)))) (upd S j (k+1:Nat)) L':=by
 have hact:=act_of hk hne
 have hcm:c∈cs:=List.mem_of_getElem? hc
 have hkm:c.getD k 0∈c:=by rw[List.getD_eq_getElem?_getD,List.getElem?_eq_getElem hk];exact List.getElem_mem hk
 have h0m:c.headD 0∈c:=by
  cases c with
  | nil=>exact absurd hk (Nat.not_lt_zero _)
  | cons y r=>exact List.mem_cons_self
 obtain⟨L1,h1⟩:=h.lst.add (x:=2*j) (fun hi=>by have:=hi.1;omega) (hs.hc c hcm _ h0m)
 obtain⟨L2,h2⟩:=h1.add (x:=2*j+1) (fun hi=>hi.elim (fun hi=>by have:=hi.1;omega) (fun e=>by omega)) (hs.hc c hcm _ hkm)
 refine⟨L2,h2.congr (fun w=>⟨?_,fun⟨a,b⟩=> ?_⟩),fun i d hi hd ha=> ?_,fun i d hi hd ha=> ?_⟩
 ·rintro((⟨a,b⟩ | rfl) | rfl)
  ·exact⟨by omega,b⟩
  ·exact⟨by omega,c,by rw[show 2*j / 2=j by omega];exact hc,hact⟩
  ·exact⟨by omega,c,by rw[show(2*j+1) / 2=j by omega];exact hc,hact⟩
 ·by_cases e:w=2*j
  ·exact .inl (.inr e)
  ·by_cases e2:w=2*j+1
   ·exact .inr e2
   ·exact .inl (.inl ⟨by omega,b⟩)
 ·by_cases e:i=j
  ·subst e
   obtain rfl:=Option.some.inj (hc.symm.trans hd)
   rw[upd_same,upd_same,upd_ne (show 2*i≠2*i+1 by omega),upd_same]
   refine⟨h0m,hkm,fun e=>hne e.symm,by omega,by omega,fun q hq=> ?_⟩
   by_cases eq:q=k
   ·subst eq;exact .inr rfl
   ·exact .inl (hsm q (by omega))
  ·rw[upd_ne e,upd_ne (show 2*i≠2*j+1 by omega),upd_ne (show 2*i≠2*j by omega),upd_ne (show 2*i+1≠2*j+1 by omega),upd_ne (show 2*i+1≠2*j by omega)]
   exact h.two i d (by omega) hd ha
 ·by_cases e:i=j
  ·subst e
   obtain rfl:=Option.some.inj (hc.symm.trans hd)
   exact absurd hact ha
  ·rw[upd_ne e];exact h.one i d (by omega) hd ha
theorem va_zero (l:Int):va (fun _=>0) l=0:=by unfold va;split<;>rfl
theorem zeros_le (A:Nat→Int):∀n,zeros A n≤n
 | 0=>Nat.le_refl _
 | n+1=>by have:=zeros_le A n;unfold zeros;split<;>omega
theorem Beg.st {B n:Nat}{cs:List (List Int)}{ls:List Int}{p:FolS}{w:World}{Wd H T S:Nat→Int}{L:Int→List Nat}(h:Beg n cs cs.length Wd H T S L)(hf:Fol B n cs.length p w (fun _=>0) Wd H T S [])(hc:CLies B w p.ca cs):St B n cs ls p w (fun _=>0) Wd H T S [] L []:=by
 have hnd:∀l,¬dead (fun _=>0) [] l:=fun l hd=>by have:=hd.1;rw[va_zero]at this;omega
 refine⟨hf,⟨fun _=> .inr (.inl rfl),rfl,fun l _ hv=>by rw[va_zero]at hv;omega,(fun l hl=>by cases hl),List.nodup_nil⟩,⟨fun i c hi ha=> ?_,fun l hl _=>h.lst.chain l hl,fun l hl _ w=>(h.lst.mem l hl w).trans ⟨fun⟨a,b⟩=>⟨a.2,b⟩,fun⟨a,b⟩=>⟨⟨?_,a⟩,b⟩⟩,fun l hl _=>h.lst.nd l hl,fun w _ hd=>absurd hd (hnd _)⟩, ?_,hc⟩
 ·obtain⟨h1,h2,h3,h4,h5,h6⟩:=h.two i c (List.getElem?_eq_some_iff.1 hi).1 hi ha
  exact⟨h1,h2,h3,h4,h5,fun k hk=>(h6 k hk).elim .inl (fun e=> .inr (.inl e))⟩
 ·obtain⟨c,hc,_⟩:=a
  exact(List.getElem?_eq_some_iff.1 hc).1
 ·have:=zeros_le (fun _=>0) n;simp only[List.length_nil];omega
theorem Beg.ones {n:Nat}{cs:List (List Int)}{Wd H T S:Nat→Int}{L:Int→List Nat}(h:Beg n cs cs.length Wd H T S L):∀i c,cs[i]? =some c→¬act c→S i=c.length+1:=fun i c hi ha=>h.one i c (List.getElem?_eq_some_iff.1 hi).1 hi ha
theorem Begun.fol {w wr:World}{a:Option Addr}{m cap n F I W H T S:Nat}(h:Begun w wr a m cap n F I W H T S):Fol w.heap.size n m ⟨F,I,W,H,T,S,a,cap,F,.slice a m cap⟩ wr (fun _=>0) (fun _=>0) (fun _=>0) (fun _=>0) (fun _=>0) []:=by
 have arr:∀(b k:Nat),wr.heap[b]? =some (.cells (madeCells #[.int .i64 0] k) 3 (0,0))→Arr wr b k (fun _=>0):=fun b k hb i hi=>by
  rw[cell_of_row _ _ _ _ _ _ hb]
  simp[madeCells,hi,Nat.mod_one]
 obtain⟨⟨n1,n2,n3,n4,n5⟩,⟨n6,n7,n8,n9⟩,⟨n10,n11,n12⟩,⟨n13,n14⟩,n15⟩:=h.ne
 obtain⟨l1,l2,l3,l4,l5,l6⟩:=h.lo
 have cF:=fun j=>cell_of_row wr F j _ _ _ h.hF
 refine⟨⟨n1,n2,n3,n4,n5,n6,n7,n8,n9,n10,n11,n12,n13,n14,n15,n1.symm,n2.symm,n3.symm,n4.symm,n5.symm⟩,cF 0,cF 1,cF 2,cF 3,cF 4,cF 5,⟨_,cF 6,QRow.nil _ _ _⟩,arr _ _ h.hI,arr _ _ h.hW,arr _ _ h.hH,arr _ _ h.hT,arr _ _ h.hS, ?_, ?_,cF 0⟩
 ·rintro b (r | r | r | r | r | r | r) o<;>subst r
  ·exact frozen_of_row _ _ _ _ _ h.hF
  ·exact frozen_of_row _ _ _ _ _ h.hI
  ·exact frozen_of_row _ _ _ _ _ h.hW
  ·exact frozen_of_row _ _ _ _ _ h.hH
  ·exact frozen_of_row _ _ _ _ _ h.hT
  ·exact frozen_of_row _ _ _ _ _ h.hS
  ·exact frozen_of_row _ _ _ _ _ h.hF
 ·rintro b (r | r | r | r | r | r | r)<;>subst r
  ·exact⟨l1,lt_of_some h.hF⟩
  ·exact⟨l2,lt_of_some h.hI⟩
  ·exact⟨l3,lt_of_some h.hW⟩
  ·exact⟨l4,lt_of_some h.hH⟩
  ·exact⟨l5,lt_of_some h.hT⟩
  ·exact⟨l6,lt_of_some h.hS⟩
  ·exact⟨l1,lt_of_some h.hF⟩
end Prp
namespace Prp
open Go.RowKit
def BeginEnd (n:Nat)(cs:List (List Int))(ls:List Int)(w:World)(e:Ending)(w':World):Prop:=
 ∃p Wd H T S L,e= .returned (.pointer (some ⟨p.F,0,none⟩))∧St w.heap.size n cs ls p w' (fun _=>0) Wd H T S [] L []∧(∀i c,cs[i]? =some c→¬act c→S i=c.length+1)∧Below w.heap.size w w'
def Jbeg (B n:Nat)(cs:List (List Int))(p:FolS)(w:World)(j:Nat)(wr:World):Prop:=
 ∃Wd H T S L,Fol B n cs.length p wr (fun _=>0) Wd H T S []∧Beg n cs j Wd H T S L∧Below B w wr
end Prp
namespace Prp
open Go.RowKit
def litB (n:Int)(l:Int):Bool:=decide (l≠0∧ -n≤l∧l≤n)
def litsB (n:Int)(c:List Int):Bool:=c.all (litB n)
theorem litsB_iff {n:Nat}{c:List Int}:litsB n c=true↔∀x,x∈c→inR n x:=by
 unfold litsB litB inR
 simp
theorem bad_any (l n:Int)(g:Nat)(w:World)(hn:0≤n∧n≤8192)(hg:w.cell? ⟨g,0,none⟩=some (.int .i64 n)):
  Calls Tryz.prog 118 #[.int .i64 l,.pointer (some ⟨g,0,none⟩)] w fun e w'=>e= .returned (.bool (!litB n l))∧w=w':=by
 have hw:IntKind.i64.wrap (-n)= -n:=IntWalk.i64_in _ (by omega)
 by_cases h0:l=0
 ·have e:litB n l=false:=by unfold litB;simp[h0]
  rw[e]
  subst h0
  go_enter Tryz.func118,Tryz.ntmps118
  go_wp2_with fail
  go_ret
  exact⟨rfl,rfl⟩
 ·have h00:(l == 0)=false:=by simp[h0]
  by_cases h1:l< -n
  ·have e:litB n l=false:=by unfold litB;simp;omega
   rw[e]
   go_enter Tryz.func118,Tryz.ntmps118
   go_wp2_with fail
   go_ret
   exact⟨rfl,rfl⟩
  ·by_cases h2:n<l
   ·have e:litB n l=false:=by unfold litB;simp;omega
    rw[e]
    go_enter Tryz.func118,Tryz.ntmps118
    go_wp2_with fail
    go_ret
    exact⟨rfl,rfl⟩
   ·have e:litB n l=true:=by unfold litB;simp;omega
    rw[e]
    go_enter Tryz.func118,Tryz.ntmps118
    go_wp2_with fail
    go_ret
    exact⟨rfl,rfl⟩
theorem getD_mem {c:List Int}{j:Nat}(h:j<c.length):c.getD j 0∈c:=by rw[List.getD_eq_getElem?_getD,List.getElem?_eq_getElem h];exact List.getElem_mem h
theorem some_bad (n:Int)(hn:0≤n∧n≤8192)(g:Nat)(a:Option Addr)(k cap:Nat)(c:List Int)(w:World)(hk:c.length=k)(hkm:k≤9223372036854775807)(hl:Nums w.heap.size w a c)(hg:w.cell? ⟨g,0,none⟩=some (.int .i64 n)):
  Calls Tryz.prog 117 #[.slice a k cap,.func (.func 118) #[] #[.pointer (some ⟨g,0,none⟩)]] w fun e w'=>e= .returned (.bool (!litsB n c))∧w=w':=by
 have HL:=Lib.hid hl
 have HK:=Lib.hid hk
 have HB:=Lib.hid (fun l=>bad_any l n g w hn hg)
 have HYES:Hid (∀j,j<k→litB n (c.getD j 0)=false→(!litsB n c)=true):=fun j hj h=>by
  have:litsB n c=false:=by
   cases e:litsB n c
   ·rfl
   ·have:=List.all_eq_true.1 e _ (getD_mem (by rw[hk];exact hj));rw[h]at this;cases this
  rw[this];rfl
 have HNO:Hid ((∀j,j<k→litB n (c.getD j 0)=true)→(!litsB n c)=false):=fun h=>by
  have:litsB n c=true:=List.all_eq_true.2 fun x hx=>by
   obtain⟨i,hi,rfl⟩:=List.getElem_of_mem hx
   have:=h i (by omega)
   rwa [List.getD_eq_getElem?_getD,List.getElem?_eq_getElem hi]at this
  rw[this];rfl
 clear hl hk hg
 generalize (!litsB n c)=r at HYES HNO
 go_enter Tryz.func117,Tryz.ntmps117
 go_wp2_with fail
 go_loop [9] (fun i=>∃j:Nat,j≤k∧i= .int .i64 j∧Hid (∀i,i<j→litB n (c.getD i 0)=true)) (fun i=>k - (intOf i).toNat)
 case atStart=>exact⟨0,Nat.zero_le _,rfl,fun i hi=>absurd hi (Nat.not_lt_zero _)⟩
 case round=>
  obtain⟨j,hj,rfl,hal⟩:=hrel
  by_cases hlt:j<k
  ·obtain⟨b,off,rfl,hblt,c1⟩:=HL.out j (by rw[HK.out];exact hlt)
   have HC:=Lib.hid (HB.out (c.getD j 0))
   have HY:=Lib.hid (HYES.out j hlt)
   have HST:Hid (litB n (c.getD j 0)=true→∀i,i<j+1→litB n (c.getD i 0)=true):=fun h i hi=>by
    by_cases e:i=j
    ·subst e;exact h
    ·exact hal.out i (by omega)
   generalize c.getD j 0=l at c1 HC HY HST
   cases hb:litB n l
   ·have hr:=HY.out hb
    rw[hb]at HC
    clear HST HY HYES HNO
    go_wp2_with (first | (go_at_call 118;refine HC.out.mono ?_;rintro e w' ⟨rfl,rfl⟩))
    go_ret
    exact⟨by rw[hr];rfl,rfl⟩
   ·have hs:=Lib.hid (HST.out hb)
    rw[hb]at HC
    clear HST HY HYES HNO
    go_wp2_with (first | (go_at_call 118;refine HC.out.mono ?_;rintro e w' ⟨rfl,rfl⟩))
    go_round
    case rel=>exact⟨j+1,by omega,by go_num,hs⟩
    case measure=>simp[intOf];omega
  ·obtain rfl:j=k:=by omega
   have hr:=HNO.out hal.out
   clear HYES HNO hal
   go_wp2_with fail
   go_ret
   exact⟨rfl,rfl⟩
theorem sound_any (n:Int)(hn:0≤n∧n≤8192)(a:Option Addr)(k cap:Nat)(c:List Int)(w:World)(hk:c.length=k)(hkm:k≤9223372036854775807)(hl:Nums w.heap.size w a c):
  Calls Tryz.prog 88 #[.int .i64 n,.slice a k cap] w fun e w'=>e= .returned (.bool (litsB n c))∧Below w.heap.size w w':=by
 have hb:Below w.heap.size w (w.alloc (.cells #[.int .i64 n] 3)):=(Below.refl _ w).alloc (Nat.le_refl _) _
 have hnw:=heap_alloc_new w (.cells #[.int .i64 n] 3)
 have HS:=Lib.hid (some_bad n hn w.heap.size a k cap c (w.alloc (.cells #[.int .i64 n] 3)) hk hkm ((hl.below hb).mono hb.size) ((cell_of_row _ _ _ _ _ _ hnw).trans rfl))
 have HB:=Lib.hid hb
 clear hl hk hb hnw
 go_enter Tryz.func88,Tryz.ntmps88
 go_wp2_with fail
 refine HS.out.mono ?_
 rintro e w' ⟨rfl,rfl⟩
 go_wp2_with fail
 go_ret
 exact⟨by simp,HB.out⟩
end Prp
namespace Prp
open Go.RowKit
def codeV (k:Int):Value:=if k=0 then .nilIface else .iface 60 (.int .i64 k)
def sumTo (cs:List (List Int)):Nat→Nat
 | 0=>0
 | k+1=>sumTo cs k+(cs.getD k []).length
theorem sumTo_mono (cs:List (List Int)){j k:Nat}(h:j≤k):sumTo cs j≤sumTo cs k:=by
 induction h with
 | refl=>exact Nat.le_refl _
 | step _ ih=>exact Nat.le_trans ih (Nat.le_add_right _ _)
def chkK (n:Int)(cs:List (List Int)):Int:=
 if n<0∨8192<n then 1 else if 16384<cs.length then 2 else if 131072<sumTo cs cs.length then 2 else if cs.all (litsB n)=true then 0 else 5
theorem chkK_in (n:Int)(cs:List (List Int)):0≤chkK n cs∧chkK n cs≤5:=by unfold chkK;repeat (first | split | omega)
theorem all_get {n:Int}{cs:List (List Int)}:cs.all (litsB n)=true↔∀j,j<cs.length→litsB n (cs.getD j [])=true:=by
 constructor
 ·intro h j hj
  rw[List.getD_eq_getElem?_getD,List.getElem?_eq_getElem hj]
  exact List.all_eq_true.1 h _ (List.getElem_mem hj)
 ·intro h
  refine List.all_eq_true.2 fun c hc=> ?_
  obtain⟨i,hi,rfl⟩:=List.getElem_of_mem hc
  have:=h i hi
  rwa [List.getD_eq_getElem?_getD,List.getElem?_eq_getElem hi]at this
theorem chkK_zero {n:Int}{cs:List (List Int)}(h:chkK n cs=0):∃m:Nat,n=m∧m≤8192∧cs.length≤16384∧(∀c,c∈cs→c.length≤131072)∧∀c,c∈cs→∀x,x∈c→inR m x:=by
 unfold chkK at h
 by_cases h1:n<0∨8192<n
 ·rw[if_pos h1]at h;cases h
 ·rw[if_neg h1]at h
  by_cases h2:16384<cs.length
  ·rw[if_pos h2]at h;cases h
  ·rw[if_neg h2]at h
   by_cases h3:131072<sumTo cs cs.length
   ·rw[if_pos h3]at h;cases h
   ·rw[if_neg h3]at h
    by_cases h4:cs.all (litsB n)=true
    ·obtain⟨m,rfl⟩:=Int.eq_ofNat_of_zero_le (show 0≤n by omega)
     refine⟨m,rfl,by omega,by omega,fun c hc=> ?_,fun c hc=>litsB_iff.1 (List.all_eq_true.1 h4 c hc)⟩
     obtain⟨i,hi,rfl⟩:=List.getElem_of_mem hc
     have:=sumTo_mono cs (show i+1≤cs.length by omega)
     have e:sumTo cs (i+1)=sumTo cs i+(cs.getD i []).length:=rfl
     rw[List.getD_eq_getElem?_getD,List.getElem?_eq_getElem hi,Option.getD_some]at e
     omega
    ·rw[if_neg h4]at h;cases h
theorem check_any (n:Int)(a:Option Addr)(m cap:Nat)(cs:List (List Int))(w:World)(hm:cs.length=m)(hmm:m≤9223372036854775807)(hl:CLies w.heap.size w a cs)(hk:m≤16384→∀j,j<m→(cs.getD j []).length≤4611686018427387904):
  Calls Tryz.prog 56 #[.int .i64 n,.slice a m cap] w fun e w'=>e= .returned (codeV (chkK n cs))∧Below w.heap.size w w':=by
 by_cases h1:n<0∨8192<n
 ·have e:codeV (chkK n cs)= .iface 60 (.int .i64 1):=by unfold chkK;rw[if_pos h1];rfl
  rw[e]
  by_cases h2:n<0
  ·go_enter Tryz.func56,Tryz.ntmps56
   go_wp2_with fail
   go_ret
   exact⟨rfl,Below.refl _ _⟩
  ·have h3:8192<n:=by omega
   go_enter Tryz.func56,Tryz.ntmps56
   go_wp2_with fail
   go_ret
   exact⟨rfl,Below.refl _ _⟩
 ·have h2:¬n<0:=by omega
  have h3:¬ 8192<n:=by omega
  by_cases h4:16384<m
  ·have e:codeV (chkK n cs)= .iface 60 (.int .i64 2):=by unfold chkK;rw[if_neg h1,if_pos (by omega)];rfl
   rw[e]
   go_enter Tryz.func56,Tryz.ntmps56
   go_wp2_with fail
   go_ret
   exact⟨rfl,Below.refl _ _⟩
  ·have hk:=hk (by omega)
   have HE:Hid (chkK n cs=if 131072<sumTo cs m then 2 else if cs.all (litsB n)=true then 0 else 5):=by
    show _=_
    unfold chkK;rw[if_neg h1,if_neg (by omega),hm]
   have HL:=Lib.hid hl
   have HM:=Lib.hid hm
   have HK:=Lib.hid hk
   have HS:=Lib.hid (fun W j (hj:j<m) (hb:Below w.heap.size w W) (ta:Option Addr) (tcap:Nat) (hn9:Nums w.heap.size w ta (cs.getD j []))=>sound_any n ⟨by omega,by omega⟩ ta (cs.getD j []).length tcap (cs.getD j []) W rfl (by have:=hk j hj;omega) ((hn9.below hb).mono hb.size))
   generalize hr:chkK n cs=r at HE⊢
   clear hl hm hk hr h1
   go_enter Tryz.func56,Tryz.ntmps56
   go_wp2_with fail
   go_loop [5,23] (fun s i=>∃k:Nat,k≤m∧i= .int .i64 k∧s= .int .i64 (sumTo cs k)∧Hid (sumTo cs k≤131072)) (fun _ i=>m - (intOf i).toNat)
   case atStart=>exact⟨0,Nat.zero_le _,rfl,rfl,Nat.zero_le _⟩
   case round=>
    obtain⟨k,hk,rfl,rfl,hs⟩:=hrel
    by_cases hlt:k<m
    ·obtain⟨b,off,ta,tcap,rfl,hblt,c1,_⟩:=HL.out k (by rw[HM.out];exact hlt)
     have HN:Hid (sumTo cs (k+1)=sumTo cs k+(cs.getD k []).length):=rfl
     have HMO:Hid (sumTo cs (k+1)≤sumTo cs m):=sumTo_mono cs hlt
     have hkl:=HK.out k hlt
     have hs1:=hs.out
     generalize (cs.getD k []).length=len at c1 HN hkl
     generalize sumTo cs k=sk at HN hs1
     by_cases hgt:131072<sk+len
     ·have hr:=HE.out
      rw[if_pos (by have:=HN.out;have:=HMO.out;omega)]at hr
      subst hr
      clear HE HS HN HMO hs
      have hgt2:(131072:Int)<(sk:Int)+(len:Int):=by omega
      go_wp2_with fail
      go_ret
      exact⟨rfl,Below.refl _ _⟩
     ·have HS1:Hid (sumTo cs (k+1)≤131072):=by show _≤_;rw[HN.out];omega
      have hgt2:¬(131072:Int)<(sk:Int)+(len:Int):=by omega
      clear HE HS HMO hs
      go_wp2_with fail
      go_round
      case rel=>exact⟨k+1,by omega,by go_num,by rw[HN.out];go_num,HS1⟩
      case measure=>simp[intOf];omega
    ·obtain rfl:k=m:=by omega
     have HE2:Hid (r=if cs.all (litsB n)=true then 0 else 5):=by
      have:=HE.out
      rwa [if_neg (by have:=hs.out;omega)]at this
     clear HE hs
     go_wp2_with fail
     go_loopw [37] (fun i wr=>∃j:Nat,j≤k∧i= .int .i64 j∧Hid (∀q,q<j→litsB n (cs.getD q [])=true)∧Hid (Below w.heap.size w wr)) (fun i _=>k - (intOf i).toNat)
     case atStart=>exact⟨0,Nat.zero_le _,rfl,fun q hq=>absurd hq (Nat.not_lt_zero _),Below.refl _ _⟩
     case round=>
      obtain⟨j,hj,rfl,hal,hb⟩:=hrel
      by_cases hlt:j<k
      ·obtain⟨b,off,ta,tcap,rfl,hblt,c1,cn⟩:=HL.out j (by rw[HM.out];exact hlt)
       rw[←hb.out.cell (p:=⟨b,_,none⟩) hblt]at c1
       have HC:=Lib.hid (HS.out wr j hlt hb.out ta tcap cn)
       have HBD:=Lib.hid hb.out
       have HY:Hid (litsB n (cs.getD j [])=true→∀q,q<j+1→litsB n (cs.getD q [])=true):=fun h q hq=>by
        by_cases e:q=j
        ·subst e;exact h
        ·exact hal.out q (by omega)
       have HNO:Hid (litsB n (cs.getD j [])=false→r=5):=fun h=>by
        rw[HE2.out,if_neg]
        intro h9
        have:=all_get.1 h9 j (by rw[HM.out];exact hlt)
        rw[h]at this;cases this
       clear cn hal hb HS HE2
       cases hbb:litsB n (cs.getD j [])
       ·obtain rfl:=HNO.out hbb
        rw[hbb]at HC
        clear HY HNO hbb
        generalize (cs.getD j []).length=len at c1 HC
        go_wp2_with fail
        refine HC.out.mono ?_
        rintro e w' ⟨rfl,hb'⟩
        have HB9:=Lib.hid (HBD.out.trans (hb'.mono HBD.out.size))
        clear hb' HC
        go_wp2_with fail
        go_ret
        exact⟨rfl,HB9.out⟩
       ·have HY2:=Lib.hid (HY.out hbb)
        rw[hbb]at HC
        clear HY HNO hbb
        generalize (cs.getD j []).length=len at c1 HC
        go_wp2_with fail
        refine HC.out.mono ?_
        rintro e w' ⟨rfl,hb'⟩
        have HB9:=Lib.hid (HBD.out.trans (hb'.mono HBD.out.size))
        clear hb' HC
        go_wp2_with fail
        go_roundw
        case rel=>exact⟨j+1,by omega,by go_num,HY2,HB9⟩
        case measure=>simp[intOf];omega
      ·obtain rfl:j=k:=by omega
       have hr:=HE2.out
       rw[if_pos (all_get.2 (by rw[HM.out];exact hal.out))]at hr
       subst hr
       clear HE2 HS hal
       go_wp2_with fail
       go_ret
       exact⟨rfl,hb.out⟩
end Prp
namespace Prp
open Go.RowKit
def BeginSaid:Prop:=∀(n:Nat) (cs:List (List Int)) (ls:List Int) (w:World),Ctx n cs ls→∀(a:Option Addr) (cap:Nat),CLies w.heap.size w a cs→Calls Tryz.prog 120 #[.int .i64 n,.slice a cs.length cap] w (BeginEnd n cs ls w)
def fK (n:Int)(cs:List (List Int))(ls:List Int):Int:=if chkK n cs≠0 then chkK n cs else if litsB n ls=true then 0 else 5
def FEnd (n:Int)(cs:List (List Int))(ls:List Int)(w:World)(e:Ending)(w':World):Prop:=
 Below w.heap.size w w'∧∃v b,e= .returned (.tuple #[v,.bool b,codeV (fK n cs ls)])∧(fK n cs ls≠0→v= .slice none 0 0∧b=false)∧
  (fK n cs ls=0→∃(m:Nat) (A:Nat→Int),n=m∧m≤8192∧Sane m cs ls∧FollowIs m cs ls b A∧(b=true→v= .slice none 0 0)∧(b=false→∃I,v= .slice (some ⟨I,0,none⟩) (m+1) (m+1)∧w.heap.size≤I∧I<w'.heap.size∧Arr w' I (m+1) A∧∀o,w'.frozen? ⟨I,o,none⟩=false))
theorem codeV_zero:codeV 0= .nilIface:=rfl
theorem codeV_ne {k:Int}(h:k≠0):codeV k= .iface 60 (.int .i64 k):=if_neg h
theorem Tryz.neIface (t:TypeId)(v:Value)(w:World):(binOp .neq 26 (.iface t v) .nilIface).run Tryz.prog w= .ok (.bool true) w:=by simp[go_sem]
theorem Tryz.neNil (w:World):(binOp .neq 26 .nilIface .nilIface).run Tryz.prog w= .ok (.bool false) w:=by simp[go_sem]
theorem follow_any (hbeg:BeginSaid)(n:Int)(a:Option Addr)(m cap:Nat)(cs:List (List Int))(a2:Option Addr)(k cap2:Nat)(ls:List Int)(w:World)(hm:cs.length=m)(hmm:m≤9223372036854775807)(hl:CLies w.heap.size w a cs)(hk:m≤16384→∀j,j<m→(cs.getD j []).length≤4611686018427387904)(hln:ls.length=k)(hlm:k≤9223372036854775807)(hll:Nums w.heap.size w a2 ls):
  Calls Tryz.prog 91 #[.int .i64 n,.slice a m cap,.slice a2 k cap2] w (FEnd n cs ls w):=by
 have HCK:=Lib.hid (check_any n a m cap cs w hm hmm hl hk)
 have n1:=fun t v W=>Tryz.neIface t v W
 have n2:=fun W=>Tryz.neNil W
 by_cases h0:chkK n cs=0
 ·obtain⟨n0,rfl,hn,hm2,hkk,hcs⟩:=chkK_zero h0
  rw[h0,codeV_zero]at HCK
  have HSN:=Lib.hid (fun W (hb:Below w.heap.size w W)=>sound_any n0 ⟨by omega,by omega⟩ a2 k cap2 ls W hln hlm ((hll.below hb).mono hb.size))
  by_cases hls:litsB n0 ls=true
  ·have hfk:fK n0 cs ls=0:=by unfold fK;rw[if_neg (by rw[h0];decide),if_pos hls]
   have hx:Ctx n0 cs ls:=⟨⟨hcs,litsB_iff.1 hls⟩,hn,hm2,hkk⟩
   have HX:=Lib.hid hx
   have HBG:=Lib.hid (fun W (hb:Below w.heap.size w W)=>by
    have:=hbeg n0 cs ls W hx a cap ((hl.below hb).mono hb.size)
    rw[hm]at this;exact this)
   have HLL:=Lib.hid (fun W (hb:Below w.heap.size w W)=>hll.below hb)
   have HC:Hid (∀(w':World) (e:Ending),Below w.heap.size w w'→e= .returned (.tuple #[.slice none 0 0,.bool true,.nilIface])→Conf cs ls→FEnd n0 cs ls w e w'):=fun w' e hb he hc=>
    ⟨hb,_,true,by rw[he,hfk];rfl,fun h=>absurd hfk h,fun _=>⟨n0,fun _=>0,rfl,hn,hx.sane,.conf hc,fun _=>rfl,fun h=>by cases h⟩⟩
   have HO:Hid (∀(w':World) (e:Ending) (I:Nat) (A:Nat→Int),Below w.heap.size w w'→e= .returned (.tuple #[.slice (some ⟨I,0,none⟩) (n0+1) (n0+1),.bool false,.nilIface])→FollowIs n0 cs ls false A→w.heap.size≤I→I<w'.heap.size→Arr w' I (n0+1) A→(∀o,w'.frozen? ⟨I,o,none⟩=false)→FEnd n0 cs ls w e w'):=fun w' e I A hb he hf h1 h2 h3 h4=>
    ⟨hb,_,false,by rw[he,hfk];rfl,fun h=>absurd hfk h,fun _=>⟨n0,A,rfl,hn,hx.sane,hf,(fun h=>by cases h),fun _=>⟨I,rfl,h1,h2,h3,h4⟩⟩⟩
   rw[hls]at HSN
   clear hl hk hll hcs hkk h0 hls hfk hx hbeg
   go_enter Tryz.func91,Tryz.ntmps91
   go_wp2_with fail
   refine HCK.out.mono ?_
   rintro e w1 ⟨rfl,hb1⟩
   have B1:=Lib.hid hb1
   clear hb1 HCK
   go_wp2_with fail
   refine(HSN.out _ B1.out).mono ?_
   rintro e w2 ⟨rfl,hb2⟩
   have B2:=Lib.hid (B1.out.trans (hb2.mono B1.out.size))
   clear hb2 HSN
   go_wp2_with fail
   refine(HBG.out _ B2.out).mono ?_
   rintro e w3 ⟨p,Wd,H,T,S,L,rfl,hst,hone,hb3⟩
   have B3:=Lib.hid (B2.out.trans (hb3.mono B2.out.size))
   have HTL:=Lib.hid (told_any HX.out hst hb3.size hone a2 k cap2 hln hlm ((HLL.out _ B3.out).mono B2.out.size))
   have e2:(gd p w3.heap.size).F=p.F:=rfl
   generalize gd p w3.heap.size=p' at HTL e2
   clear hst hone hb3 HBG
   go_wp2_with fail
   refine HTL.out.mono ?_
   rintro e w4 ⟨hb4,⟨rfl,hcf⟩ | ⟨rfl,A1,Q1,hst,hal,hun⟩⟩
   ·have HE:=Lib.hid (HC.out w4 _ (B3.out.trans (hb4.mono B2.out.size)) rfl hcf)
    clear hcf hb4 HTL HC HO
    go_wp2_with fail
    go_ret3
    exact HE.out
   ·have B4:=Lib.hid (B3.out.trans (hb4.mono B2.out.size))
    have HRS:=Lib.hid (rest_any HX.out hst (Nat.le_trans B3.out.size hb4.size |> fun _=>(by have:=hst.fol.lo _ p'.inF;omega)) hal hun)
    rw[e2]at HRS
    clear hst hal hun hb4 HTL
    go_wp2_with fail
    refine HRS.out.mono ?_
    rintro e w5 ⟨hb5,⟨rfl,hcf⟩ | ⟨rfl,A2,Wd2,H2,T2,S2,hfol,hfi⟩⟩
    ·have HE:=Lib.hid (HC.out w5 _ (B4.out.trans (hb5.mono B2.out.size)) rfl hcf)
     clear hcf hb5 HRS HC HO
     go_wp2_with fail
     go_ret3
     exact HE.out
    ·have c1:=hfol.c1
     rw[e2]at c1
     have hlo:=hfol.lo _ p'.inI
     have HE:=Lib.hid (HO.out w5 _ p'.I A2 (B4.out.trans (hb5.mono B2.out.size)) rfl hfi (Nat.le_trans B2.out.size hlo.1) hlo.2 hfol.aI (hfol.fr _ p'.inI))
     clear hfol hfi hb5 HRS HC HO hlo
     go_wp2_with fail
     go_ret3
     exact HE.out
  ·rw[Bool.not_eq_true]at hls
   have hfk:fK n0 cs ls=5:=by unfold fK;rw[if_neg (by rw[h0];decide),if_neg (by rw[hls];decide)]
   have HE:Hid (∀(w':World) (e:Ending),Below w.heap.size w w'→e= .returned (.tuple #[.slice none 0 0,.bool false,.iface 60 (.int .i64 5)])→FEnd n0 cs ls w e w'):=fun w' e hb he=>
    ⟨hb,_,false,by rw[he,hfk];rfl,fun _=>⟨rfl,rfl⟩,fun h=>by rw[hfk]at h;cases h⟩
   rw[hls]at HSN
   clear hl hk hll hcs hkk h0 hls hfk hbeg
   go_enter Tryz.func91,Tryz.ntmps91
   go_wp2_with fail
   refine HCK.out.mono ?_
   rintro e w1 ⟨rfl,hb1⟩
   have B1:=Lib.hid hb1
   clear hb1 HCK
   go_wp2_with fail
   refine(HSN.out _ B1.out).mono ?_
   rintro e w2 ⟨rfl,hb2⟩
   have B2:=Lib.hid (B1.out.trans (hb2.mono B1.out.size))
   clear hb2 HSN
   go_wp2_with fail
   go_ret3
   exact HE.out _ _ B2.out rfl
 ·have hfk:fK n cs ls=chkK n cs:=by unfold fK;rw[if_pos h0]
  rw[codeV_ne h0]at HCK
  have HE:Hid (∀(w':World) (e:Ending),Below w.heap.size w w'→e= .returned (.tuple #[.slice none 0 0,.bool false,.iface 60 (.int .i64 (chkK n cs))])→FEnd n cs ls w e w'):=fun w' e hb he=>
   ⟨hb,_,false,by rw[he,hfk,codeV_ne h0],fun _=>⟨rfl,rfl⟩,fun h=>by rw[hfk]at h;exact absurd h h0⟩
  clear hl hk hll hfk hbeg h0
  generalize chkK n cs=x at HCK HE
  go_enter Tryz.func91,Tryz.ntmps91
  go_wp2_with fail
  refine HCK.out.mono ?_
  rintro e w1 ⟨rfl,hb1⟩
  have B1:=Lib.hid hb1
  clear hb1 HCK
  go_wp2_with fail
  go_ret3
  exact HE.out _ _ B1.out rfl
end Prp
namespace Prp
open Go.RowKit
theorem Der.holds {cs:List (List Int)}{ls:List Int}{v:Int→Prop}(hn:∀l,v l→¬v (-l))(hc:∀c,c∈cs→∃l,l∈c∧v l)(hl:∀l,l∈ls→v l){l:Int}(h:Der cs ls l):v l:=by
 induction h with
 | told h=>exact hl _ h
 | @rule c l hm hlc _ ih=>
   obtain⟨x,hx,hv⟩:=hc c hm
   by_cases e:x=l
   ·subst e;exact hv
   ·exact absurd (ih x hx e) (hn x hv)
theorem Conf.not {cs:List (List Int)}{ls:List Int}{v:Int→Prop}(hn:∀l,v l→¬v (-l))(hc:∀c,c∈cs→∃l,l∈c∧v l)(hl:∀l,l∈ls→v l):¬Conf cs ls:=by
 rintro(h | ⟨l,h1,h2⟩)
 ·obtain⟨x,hx,_⟩:=hc _ h;cases hx
 ·exact hn l (h1.holds hn hc hl) (h2.holds hn hc hl)
end Prp
end Go.Proofs.YtipahfcaplbifaaGreatDoor
