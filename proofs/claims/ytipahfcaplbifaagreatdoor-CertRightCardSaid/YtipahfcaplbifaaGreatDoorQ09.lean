/- Parts of a proof. -/
import Derived.Test.YtipahfcaplbifaaGreatDoorQ02
import Derived.Test.YtipahfcaplbifaaGreatDoorQ04
import Derived.Test.YtipahfcaplbifaaGreatDoorQ06
import Derived.LaidEql
import Derived.Lib.QuietBelow
import Derived.Test.YtipahfcaplbifaaGreatDoorQShelf
set_option linter.unusedVariables false
set_option linter.unusedSimpArgs false
set_option maxHeartbeats 60000000
set_option maxRecDepth 100000
namespace Go.Proofs.YtipahfcaplbifaaGreatDoor
section
open Go.RowKit
section
variable {P:Program} (w:World)
end
theorem regrown_trans {w:World}{B:Nat}{W:World}(h:Below B w W)(hB:B≤W.heap.size)(d:Nat)(os:Array Obj):Below B w (Go.Sort.grow (redrawn W d) os):=h.trans ((below_regrown W d os).mono hB)
end
section
open Go.RowKit
theorem Tryz.eqIfaceNil (k:Int)(w:World):(binOp .eql 26 (.iface 60 (.int .i64 k)) .nilIface).run Tryz.prog w= .ok (.bool false) w:=by simp[go_sem]
def same (c d:Int)(l m:List (Int×Int)):Bool:=decide (c=d) && decide (l=m)
theorem list_eq_of {l m:List (Int×Int)}(hl:l.length=m.length)(h:∀i,i<l.length→l.getD i (0,0)=m.getD i (0,0)):l=m:=by
 apply List.ext_getElem hl
 intro i h1 h2
 have:=h i h1
 rw[List.getD_eq_getElem?_getD,List.getElem?_eq_getElem h1,List.getD_eq_getElem?_getD,List.getElem?_eq_getElem h2]at this
 simpa using this
theorem Tryz.neMono (x y u v:Int)(w:World):(binOp .neq 92 (.agg #[.int .i64 x,.int .i64 y]) (.agg #[.int .i64 u,.int .i64 v])).run Tryz.prog w= .ok (.bool (!(x == u && y == v))) w:=by
 simp[go_sem]
 by_cases h1:x=u<;>by_cases h2:y=v<;>simp[h1,h2]
theorem same_any (c d:Int)(a b:Option Addr)(na nb capa capb:Nat)(l m:List (Int×Int))(w:World)(hna:l.length=na)(hnb:m.length=nb)(hma:na≤9223372036854775807)(hmb:nb≤9223372036854775807)(hla:Lies w.heap.size w a l)(hlb:Lies w.heap.size w b m):
  Calls Tryz.prog 27 #[.agg #[.int .i64 c,.slice a na capa],.agg #[.int .i64 d,.slice b nb capb]] w fun e w'=>e= .returned (.bool (same c d l m))∧Below w.heap.size w w':=by
 have HB0:Hid (Below w.heap.size w ((w.alloc (.cells #[.int .i64 c,.slice a na capa] 36)).alloc (.cells #[.int .i64 d,.slice b nb capb] 36))):=((Below.refl _ w).alloc (Nat.le_refl _) _).alloc (by simp) _
 by_cases hcd:c=d
 ·subst hcd
  have hcc:(c != c)=false:=by simp
  by_cases hnn:na=nb
  ·subst hnn
   have hnn':((na:Int) != (na:Int))=false:=by simp
   have HS:Hid (∀r,(r=true↔∀i,i<na→l.getD i (0,0)=m.getD i (0,0))→same c c l m=r):=fun r hr=>by
    unfold same
    rw[decide_eq_true rfl,Bool.true_and,Bool.eq_iff_iff,hr]
    simp only[decide_eq_true_eq]
    exact⟨fun h i _=>by rw[h],fun h=>list_eq_of (by omega) (fun i hi=>h i (by omega))⟩
   have HNA:=Lib.hid hna
   have HNB:=Lib.hid hnb
   have HLA:=Lib.hid hla
   have HLB:=Lib.hid hlb
   clear hna hnb hla hlb
   go_enter Tryz.func27,Tryz.ntmps27
   go_wp2
   go_loopw [5] (fun i wr=>∃k:Nat,k≤na∧i= .int .i64 k∧Hid (∀j,j<k→l.getD j (0,0)=m.getD j (0,0))∧Hid (∃q,wr=((w.alloc (.cells #[.int .i64 c,.slice a na capa] 36)).alloc (.cells #[.int .i64 c,.slice b na capb] 36)).drewN q)) (fun i _=>na - (intOf i).toNat)
   case atStart=>exact⟨0,Nat.zero_le _,rfl,fun j hj=>absurd hj (Nat.not_lt_zero j),0,rfl⟩
   case round=>
    obtain⟨k,hk,rfl,hok,hw⟩:=hrel
    obtain⟨q,hw⟩:=hw.out
    subst hw
    by_cases hlt:k<na
    ·obtain⟨ab,aoff,rfl,hab,a1,a2⟩:=(HLA.out.below HB0.out) k (by rw[HNA.out];exact hlt)
     obtain⟨bb,boff,rfl,hbb,b1,b2⟩:=(HLB.out.below HB0.out) k (by rw[HNB.out];exact hlt)
     have a1':∀q,(((w.alloc (.cells #[.int .i64 c,.slice (some ⟨ab,aoff,none⟩) na capa] 36)).alloc (.cells #[.int .i64 c,.slice (some ⟨bb,boff,none⟩) na capb] 36)).drewN q).cell? ⟨ab,aoff+k*2,none⟩=some (.int .i64 (l.getD k (0,0)).1):=fun _=>a1
     by_cases e:l.getD k (0,0)=m.getD k (0,0)
     ·have hok2:Hid (∀j,j<k+1→l.getD j (0,0)=m.getD j (0,0)):=fun j hj=>by
       by_cases ej:j=k
       ·rw[ej];exact e
       ·exact hok.out j (by omega)
      rw[←e]at b1 b2
      generalize l.getD k (0,0)=p at a1 a2 b1 b2 e a1'
      obtain⟨v,u⟩:=p
      clear e
      have hne:∀W,(binOp .neq 92 (.agg #[.int .i64 v,.int .i64 u]) (.agg #[.int .i64 v,.int .i64 u])).run Tryz.prog W= .ok (.bool false) W:=fun W=>by rw[Tryz.neMono];simp
      have hbw1:ab<w.heap.size:=hab
      have hbw2:bb<w.heap.size:=hbb
      go_wp2_with fail
      go_quiet (fail)
      go_wp2
      go_roundw
      case rel=>exact⟨k+1,by omega,by go_num,hok2,⟨_,rfl⟩⟩
      case measure=>simp[intOf];omega
     ·have hF:=Lib.hid (HS.out false ⟨fun h=>absurd h (by decide),fun h=>absurd (h k hlt) e⟩)
      generalize l.getD k (0,0)=p at a1 a2 e a1'
      generalize m.getD k (0,0)=p' at b1 b2 e
      obtain⟨v,u⟩:=p
      obtain⟨v',u'⟩:=p'
      have hne:∀W,(binOp .neq 92 (.agg #[.int .i64 v,.int .i64 u]) (.agg #[.int .i64 v',.int .i64 u'])).run Tryz.prog W= .ok (.bool true) W:=fun W=>by
       rw[Tryz.neMono]
       have:(v == v' && u == u')=false:=by
        rw[Bool.eq_false_iff]
        intro h
        simp only[Bool.and_eq_true,beq_iff_eq]at h
        exact e (by rw[h.1,h.2])
       rw[this];rfl
      clear e
      have hbw1:ab<w.heap.size:=hab
      have hbw2:bb<w.heap.size:=hbb
      go_wp2_with fail
      go_quiet (fail)
      go_wp2
      go_ret
      exact⟨ret_bool hF.out.symm,below_drewN (below_drewN HB0.out q) nq⟩
    ·have HF:=Lib.hid (HS.out true ⟨fun _ i hi=>hok.out i (by omega),fun _=>rfl⟩)
     go_wp2
     go_ret
     exact⟨ret_bool HF.out.symm,below_drewN HB0.out q⟩
  ·have hnn':((na:Int) != (nb:Int))=true:=by simp;omega
   have HS:Hid (same c c l m=false):=by
    show _=_
    unfold same
    rw[decide_eq_false (p:=l=m) (fun h=>by subst h;omega)];simp
   clear hna hnb hla hlb
   go_enter Tryz.func27,Tryz.ntmps27
   go_wp2
   go_ret
   exact⟨ret_bool HS.out.symm,HB0.out⟩
 ·have hcc:(c != d)=true:=by simpa using hcd
  have HS:Hid (same c d l m=false):=by
   show _=_
   unfold same
   rw[decide_eq_false hcd];rfl
  clear hna hnb hla hlb
  go_enter Tryz.func27,Tryz.ntmps27
  go_wp2
  go_ret
  exact⟨ret_bool HS.out.symm,HB0.out⟩
end
section
open Go.RowKit
def flat (l:List (Int×Int)):List Value:=l.flatMap fun m=>[.int .i64 m.1,.int .i64 m.2]
theorem flat_len (l:List (Int×Int)):(flat l).length=l.length*2:=by
 induction l with
 | nil=>rfl
 | cons a r ih=>simp[flat]at ih⊢;omega
theorem flat_append (l r:List (Int×Int)):flat (l ++ r)=flat l ++ flat r:=by simp[flat]
theorem flat_get:∀(l:List (Int×Int)) (i:Nat),i<l.length→(flat l)[i*2]? =some (.int .i64 (l.getD i (0,0)).1)∧(flat l)[i*2+1]? =some (.int .i64 (l.getD i (0,0)).2)
 | a :: r,0,_=>⟨rfl,rfl⟩
 | a :: r,i+1,h=>by
  have:=flat_get r i (by simpa using h)
  have e:flat (a :: r)= .int .i64 a.1 :: .int .i64 a.2 :: flat r:=rfl
  rw[e,show(i+1)*2=i*2+1+1 by omega]
  simpa using this
def Row (B:Nat)(l:List (Int×Int))(v:Value)(w:World):Prop:=w.ownsRow B 92 2 v l.length (flat l)
theorem Row.lies {B:Nat}{l:List (Int×Int)}{v:Value}{w:World}(h:Row B l v w):∃a cap,v= .slice a l.length cap∧Lies w.heap.size w a l∧(a=none→l.length=0∧cap=0):=by
 have hc:=fun g=>World.ownsRow.cells h (g:=g)
 have hlt:=World.ownsRow.lt h
 obtain⟨_,h1 | ⟨g,cap,cur,hv,h2⟩⟩:=h
 ·refine⟨none,0,by rw[h1.1,h1.2],fun i hi=>by omega,fun _=>⟨h1.2,rfl⟩⟩
 ·subst hv
  refine⟨some ⟨g,0,none⟩,cap,rfl,fun i hi=>⟨g,0,rfl,(hlt g rfl).2, ?_, ?_⟩,fun e=>by cases e⟩
  ·have:=hc g rfl (i*2) _ (flat_get l i hi).1
   rwa [show(⟨g,0,none⟩:Addr).add (i*2)=⟨g,0+i*2,none⟩ by unfold Addr.add;split<;>simp_all]at this
  ·have:=hc g rfl (i*2+1) _ (flat_get l i hi).2
   rwa [show(⟨g,0,none⟩:Addr).add (i*2+1)=⟨g,0+i*2+1,none⟩ by unfold Addr.add;simp]at this
theorem Tryz.infoMono:(Tryz.prog.info? 92).map (fun i=>(i.zero,i.size,i.bytes))=some (some (.agg #[.int .i64 0,.int .i64 0]),2,16):=by kernel_rfl
theorem Lies.news {B:Nat}{w:World}{a:Addr}{l:List (Int×Int)}(h:Lies B w (some a) l):∀j u,(flat l)[j]? =some u→w.cell? (a.add j)=some u:=by
 intro j u hj
 have hjl:j<l.length*2:=by rw[←flat_len];exact(List.getElem?_eq_some_iff.1 hj).1
 obtain⟨b,off,ha,_,h1,h2⟩:=h (j / 2) (by omega)
 injection ha with ha
 subst ha
 have hg:=flat_get l (j / 2) (by omega)
 rcases Nat.mod_two_eq_zero_or_one j with hm | hm
 ·have e:j / 2*2=j:=by omega
  rw[e]at hg h1
  rw[hg.1]at hj
  injection hj with hj
  subst hj
  unfold Addr.add
  split
  ·rename_i h0;subst h0;simpa using h1
  ·exact h1
 ·have e:j / 2*2+1=j:=by omega
  rw[Nat.add_assoc,e]at h2
  rw[e]at hg
  rw[hg.2]at hj
  injection hj with hj
  subst hj
  unfold Addr.add
  rw[if_neg (by omega)]
  exact h2
theorem flat_cells (l:List (Int×Int)):∀u∈flat l,u.oneCell'=true:=by
 intro u hu
 simp only[flat,List.mem_flatMap]at hu
 obtain⟨m,_,hm⟩:=hu
 simp at hm
 rcases hm with rfl | rfl<;>rfl
def RowEnd (B:Nat)(l:List (Int×Int))(w:World)(e:Ending)(w':World):Prop:=∃v,e= .returned v∧Row B l v w'∧Below B w w'
theorem take_snoc (l:List (Int×Int))(k:Nat)(h:k<l.length):l.take (k+1)=l.take k ++ [l.getD k (0,0)]:=by
 rw[List.take_succ_eq_append_getElem h]
 simp[List.getD_eq_getElem?_getD,h]
theorem Row.alloc {B:Nat}{l:List (Int×Int)}{v:Value}{w:World}(h:Row B l v w)(o:Obj):Row B l v (w.alloc o):=World.ownsRow.alloc h o
theorem cell_two_new' (w:World)(x y:Value)(t:TypeId):∀j u,[x,y][j]? =some u→(w.alloc (.cells #[x,y] t)).cell? ((⟨w.heap.size,0,none⟩:Addr).add j)=some u:=by
 intro j u hj
 match j,hj with
 | 0,hj=>simp at hj;subst hj;simp[Addr.add]
 | 1,hj=>simp at hj;subst hj;simp[Addr.add]
theorem drop_any (a:Option Addr)(n cap:Nat)(l:List (Int×Int))(w:World)(hn:l.length=n)(hm:n≤8192)(hl:Lies w.heap.size w a l):
  Calls Tryz.prog 109 #[.slice a n cap] w (RowEnd w.heap.size (l.filter fun m=>m.2 != 0) w):=by
 obtain⟨i0,hi,hz0,hz1,hz2⟩:=info_parts Tryz.infoMono
 have HN:=Lib.hid hn
 have HL:=Lib.hid hl
 clear hn hl
 go_enter Tryz.func109,Tryz.ntmps109
 go_wp2
 go_loopw [3,8] (fun s i wr=>∃k:Nat,k≤n∧i= .int .i64 k∧Hid (Row w.heap.size ((l.take k).filter fun m=>m.2 != 0) s wr)∧Below w.heap.size w wr) (fun _ i _=>n - (intOf i).toNat)
 case atStart=>exact⟨0,Nat.zero_le _,rfl,World.ownsRow_nil _ _ _ _,Below.refl _ _⟩
 case round=>
  obtain⟨k,hk,rfl,hrow,hb⟩:=hrel
  by_cases hlt:k<n
  ·obtain⟨b,off,rfl,hblt,c1,c2⟩:=(HL.out.below hb) k (by rw[HN.out];exact hlt)
   have hts:=take_snoc l k (by rw[HN.out];exact hlt)
   have hlen:((l.take k).filter fun m=>m.2 != 0).length≤k:=Nat.le_trans (List.length_filter_le _ _) (by rw[List.length_take];omega)
   generalize hg:l.getD k (0,0)=m at c1 c2 hts
   obtain⟨v,u⟩:=m
   by_cases hu:u=0
   ·have HT:Hid ((l.take (k+1)).filter (fun m=>m.2 != 0)=(l.take k).filter fun m=>m.2 != 0):=by
     show _=_;rw[hts,List.filter_append];simp[hu]
    subst hu
    clear hts hg
    have hrow2:Hid (Row w.heap.size ((l.take (k+1)).filter fun m=>m.2 != 0) u3 wr):=by show Row _ _ _ _;rw[HT.out];exact hrow.out
    go_wp2
    go_roundw
    case rel=>exact⟨k+1,by omega,by go_num,hrow2.out.alloc _,hb.alloc hb.size _⟩
    case measure=>simp[intOf];omega
   ·have hu2:(u != 0)=true:=by simpa using hu
    have HT:Hid ((l.take (k+1)).filter (fun m=>m.2 != 0)=((l.take k).filter fun m=>m.2 != 0) ++ [(v,u)]):=by
     show _=_;rw[hts,List.filter_append];simp[hu]
    generalize (l.take k).filter (fun m=>m.2 != 0)=r at hrow hlen HT
    clear hts hg
    go_wp2_with (at_builtin;refine wpList_append_own _ rfl _ _ 34 rfl w.heap.size 92 i0 _ 2 16 Tryz.underlying34 hi hz0 hz1 hz2 rfl (by decide) u3 r.length (flat r) rfl ((hrow.out.alloc _).alloc _) ⟨wr.heap.size+1,0,none⟩ 1 1 [.int .i64 v,.int .i64 u] rfl rfl ?c2 ?c3 ?c4 ?c5 ?c6 ?_)
    case c3=>exact⟨rfl,rfl⟩
    case c4=>unfold maxLen;omega
    case c5=>omega
    case c6=>have:=hb.size;simp;omega
    intro v' w1 hown' hgrow _
    have HO:Hid (Row w.heap.size ((l.take (k+1)).filter fun m=>m.2 != 0) v' w1):=by
     show Row _ _ _ _
     rw[HT.out]
     unfold Row
     rw[List.length_append,flat_append]
     exact hown'
    have HB:Below w.heap.size w w1:=((hb.alloc hb.size _).alloc (by have:=hb.size;simp;omega) _).grown hgrow (by have:=hb.size;simp;omega) (fun k hk=>(World.ownsRow.lt hrow.out k hk).1)
    clear hown' hgrow hrow
    go_wp2
    go_roundw
    case rel=>exact⟨k+1,by omega,by go_num,HO,HB⟩
    case measure=>simp[intOf];omega
  ·have HT:Hid (Row w.heap.size (l.filter fun m=>m.2 != 0) u3 wr):=by
    have:=hrow.out
    rwa [List.take_of_length_le (by rw[HN.out];omega)]at this
   clear hrow
   go_wp2
   go_ret
   exact⟨_,rfl,HT.out,hb⟩
end
section
open Go.RowKit
def Nums (B:Nat)(w:World)(a:Option Addr)(zs:List Int):Prop:=
 ∀i,i<zs.length→∃b off,a=some ⟨b,off,none⟩∧b<B∧w.cell? ⟨b,off+i,none⟩=some (.int .i64 (zs.getD i 0))
theorem Nums.mono {B B':Nat}{w:World}{a:Option Addr}{l:List Int}(h:Nums B w a l)(hb:B≤B'):Nums B' w a l:=fun i hi=>by
 obtain⟨b,off,ha,hlt,h1⟩:=h i hi
 exact⟨b,off,ha,Nat.lt_of_lt_of_le hlt hb,h1⟩
theorem Nums.below {B:Nat}{w w':World}{a:Option Addr}{l:List Int}(h:Nums B w a l)(hb:Below B w w'):Nums B w' a l:=fun i hi=>by
 obtain⟨b,off,ha,hlt,h1⟩:=h i hi
 exact⟨b,off,ha,hlt,by rw[hb.cell (p:=⟨b,_,none⟩) hlt];exact h1⟩
end
section
open Go.RowKit
abbrev Tens (B:Nat)(w:World):Prop:=Lib.TabBelow Tryz.prog B w "internal/strconv.uint64pow10" .u64 Lib.pow10Tab
theorem Tens.up {B B':Nat}{w w':World}(h:Tens B w)(hb:Below B w w')(hB:B≤B'):Tens B' w':=fun w2 h2=>h w2 (hb.trans (h2.mono hB))
theorem bcells (l:List UInt8)(m:List UInt8):Lib.byteCells l ++ Lib.byteCells m=Lib.byteCells (l ++ m):=by simp[Lib.byteCells]
theorem app_int {B:Nat}{l:List UInt8}{i:Int}{v:Value}{w:World}(h:Pak.BRow B l v w)(hB:B≤w.heap.size)(hi: -9223372036854775808≤i∧i≤9223372036854775807)(hl:l.length+21≤140737488355328)(ht:Tens B w):
  Calls Tryz.prog 116 #[v,.int .i64 i,.int .i64 10] w fun e w'=>∃v',e= .returned v'∧Pak.BRow B (l ++ Lib.itoa i) v' w'∧Below B w w'∧Lib.OthersKept 5 none w w':=by
 refine(Tryz.strconv_AppendInt_10 B l.length i hi.1 hi.2 v _ w h hB hl ht).mono ?_
 rintro e w' ⟨v',rfl,h2,h3,h4⟩
 refine⟨v',rfl, ?_,h3,h4⟩
 unfold Pak.BRow
 rw[List.length_append,←bcells]
 exact h2
theorem app_byte {w:World}{B:Nat}{l:List UInt8}{v:Value}(c:UInt8)(x:Int)(hx:x=(c.toNat:Int))(hv:Pak.BRow B l v w)(hB:B≤w.heap.size)(hsz:l.length+1≤140000000000000):
  ∃v' w',(∀ty,(Builtin.append_ #[182,182] ty #[v,.slice (some ⟨w.heap.size,0,none⟩) 1 1]).run Tryz.prog (w.alloc (.cells #[.int .u8 x] 5))= .ok v' w')∧Pak.BRow B (l ++ [c]) v' w'∧Below B w w'∧Lib.OthersKept 5 none w w':=by
 have hA:Below w.heap.size w (w.alloc (.cells #[.int .u8 x] 5)):=(Below.refl _ w).alloc (Nat.le_refl _) _
 have hvA:Pak.BRow B l v (w.alloc (.cells #[.int .u8 x] 5)):=hv.below hA
 obtain⟨v',w',h1,h2,h3,h4,h5⟩:=Pak.run_cat2 hvA (Pak.byte_new w c x hx) (Nat.le_trans hB hA.size) (by simpa using hsz)
 refine⟨v',w',h1,h2,(hA.mono hB).trans h3,((Lib.OthersKept.refl _ _ w).alloc _).grown h4 (fun g hg=> ?_)⟩
 rcases hvA.2 with ⟨rfl,_⟩ | ⟨q,cap,cur,rfl,_,hh,_⟩
 ·cases hg
 ·injection hg with hg
  subst hg
  exact⟨_,_,hh⟩
theorem box_kept {w w':World}{q:Nat}{x y:Value}(h:w.heap[q]? =some (.cells #[x,y] 92))(hk:Lib.OthersKept 5 none w w'):w'.heap[q]? =some (.cells #[x,y] 92):=
 hk q _ h (fun e=>by cases e) (fun c fz e=>by injection e with _ e _;exact absurd e (by decide))
theorem box_cells {w:World}{q:Nat}{x y:Value}(h:w.heap[q]? =some (.cells #[x,y] 92)):w.cell? ⟨q,0,none⟩=some x∧w.cell? ⟨q,1,none⟩=some y:=
 ⟨(cell_of_row _ _ _ _ _ _ h).trans rfl,(cell_of_row _ _ _ _ _ _ h).trans rfl⟩
theorem itoa_len (i:Int)(hi: -9223372036854775808≤i∧i≤9223372036854775807):(Lib.itoa i).length≤21:=Lib.itoa_length_le i hi.1 hi.2
theorem restT_len:∀(t:List (Int×Int)),(∀m∈t,(-9223372036854775808≤m.1∧m.1≤9223372036854775807)∧(-9223372036854775808≤m.2∧m.2≤9223372036854775807))→(restT t).length≤44*t.length
 | [],_=>Nat.le_refl _
 | m :: t,h=>by
  have h1:=restT_len t (fun x hx=>h x (List.mem_cons_of_mem _ hx))
  have h2:=h m (by simp)
  have h3:=itoa_len _ h2.1
  have h4:=itoa_len _ h2.2
  have e:restT (m :: t)=32 :: (Lib.itoa m.1 ++ (32 :: (Lib.itoa m.2 ++ restT t))):=by simp[restT]
  rw[e]
  simp only[List.length_cons,List.length_append]
  omega
theorem textL_len {c:Int}{t:List (Int×Int)}(hs:snd c t=true):∀k,k≤t.length→(textL c (t.take k)).length≤4000:=fun k hk=>by
 obtain⟨h1,h2,h3⟩:=snd_iff.1 hs
 have hc: -1073741824≤c∧c≤1073741824:=by unfold wi at h1;simpa using h1
 have h4:=itoa_len c (by omega)
 have h5:=restT_len (t.take k) (fun m hm=>by
  obtain⟨i,hi,rfl⟩:=List.getElem_of_mem (List.mem_of_mem_take hm)
  have:=okAt_in (h3 i hi)
  rw[List.getD_eq_getElem?_getD,List.getElem?_eq_getElem hi,Option.getD_some]at this
  omega)
 unfold textL
 rw[List.length_append]
 have:(t.take k).length≤64:=by rw[List.length_take];omega
 omega
theorem textL_next {c:Int}{l:List (Int×Int)}{k:Nat}(h:k<l.length):textL c (l.take (k+1))=(((textL c (l.take k) ++ [32]) ++ Lib.itoa (l.getD k (0,0)).1) ++ [32]) ++ Lib.itoa (l.getD k (0,0)).2:=by
 unfold textL
 rw[take_snoc l k h,restT_snoc]
 simp
theorem text_any (c:Int)(a:Option Addr)(n cap:Nat)(l:List (Int×Int))(w:World)(hn:l.length=n)(hl:Lies w.heap.size w a l)(hs:snd c l=true)(ht:Tens w.heap.size w):
  Calls Tryz.prog 86 #[.agg #[.int .i64 c,.slice a n cap]] w fun e w'=>e= .returned (.string ⟨(textL c l).toArray⟩)∧Below w.heap.size w w':=by
 obtain⟨h1,h64,h3⟩:=snd_iff.1 hs
 have hc: -1073741824≤c∧c≤1073741824:=by unfold wi at h1;simpa using h1
 have HTL:=Lib.hid (textL_len hs)
 have HOK:=Lib.hid h3
 have HN:=Lib.hid hn
 have hA:Below w.heap.size w (w.alloc (.cells #[.int .i64 c,.slice a n cap] 36)):=(Below.refl _ _).alloc (Nat.le_refl _) _
 have HA:=Lib.hid hA
 have HL:=Lib.hid hl
 have HT:=Lib.hid (ht.up hA (Nat.le_succ _))
 have hsz:(w.alloc (.cells #[.int .i64 c,.slice a n cap] 36)).heap.size=w.heap.size+1:=by simp
 have hnw:=heap_alloc_new w (.cells #[.int .i64 c,.slice a n cap] 36)
 have hb1:(w.alloc (.cells #[.int .i64 c,.slice a n cap] 36)).cell? ⟨w.heap.size,1,none⟩=some (.slice a n cap):=(cell_of_row _ _ _ _ _ _ hnw).trans rfl
 have HB1:=Lib.hid hb1
 have HC:=Lib.hid (app_int (Pak.BRow.nil (w.heap.size+1) (w.alloc (.cells #[.int .i64 c,.slice a n cap] 36))) (Nat.le_of_eq hsz.symm) (i:=c) (by omega) (by decide) HT.out)
 have hnm:n≤64:=by omega
 have HZ:=Lib.hid hsz
 clear h1 h64 h3 hs hn hl ht hA hsz hnw hb1
 go_enter Tryz.func86,Tryz.ntmps86
 go_wp2_with fail
 refine HC.out.mono ?_
 rintro e w1 ⟨v,rfl,hr,hb,_⟩
 rw[List.nil_append]at hr
 have x1:=(hb.cell (p:=⟨w.heap.size,1,none⟩) (Nat.lt_succ_self _)).trans HB1.out
 have HR1:Hid (Pak.BRow (w.heap.size+1) (textL c (l.take 0)) v w1):=by
  show Pak.BRow (w.heap.size+1) (Lib.itoa c ++ []) v w1
  rw[List.append_nil];exact hr
 have HB:Hid (Below (w.heap.size+1) (w.alloc (.cells #[.int .i64 c,.slice a n cap] 36)) w1):=hb
 clear hr hb HC HB1
 go_wp2_with fail
 clear x1
 generalize w.alloc (.cells #[.int .i64 c,.slice a n cap] 36)=W0 at*
 go_loopw [3,12] (fun b i wr=>∃k:Nat,i= .int .i64 k∧k≤n∧Hid (Pak.BRow (w.heap.size+1) (textL c (l.take k)) b wr)∧Hid (Below (w.heap.size+1) W0 wr)) (fun _ i _=>n - (intOf i).toNat)
 case atStart=>exact⟨0,rfl,Nat.zero_le _,HR1,HB⟩
 case round=>
  clear HR1 HB
  obtain⟨k,rfl,hk,hR,hB⟩:=hrel
  by_cases hlt:k<n
  ·have hlti:(k:Int)<(n:Int):=by omega
   have hBw:Below w.heap.size w wr:=HA.out.trans (hB.out.mono (Nat.le_succ _))
   obtain⟨b,off,rfl,hblt,c1,c2⟩:=(HL.out.below hBw) k (by rw[HN.out];exact hlt)
   have hi:=okAt_in (HOK.out k (by rw[HN.out];exact hlt))
   have HX:=textL_next (c:=c) (l:=l) (k:=k) (by rw[HN.out];exact hlt)
   have hlen:=HTL.out k (by rw[HN.out];exact hk)
   have hlen2:=HTL.out (k+1) (by rw[HN.out];exact hlt)
   rw[HX]at hlen2
   have HX2:=Lib.hid HX
   clear HX
   generalize (l.getD k (0,0)).1=x at*
   generalize (l.getD k (0,0)).2=y at*
   have hA2:Below wr.heap.size wr (wr.alloc (.cells #[.int .i64 x,.int .i64 y] 92)):=(Below.refl _ _).alloc (Nat.le_refl _) _
   have hq2:=heap_alloc_new wr (.cells #[.int .i64 x,.int .i64 y] 92)
   have hz2:W0.heap.size≤wr.heap.size:=hB.out.size
   have hzz:w.heap.size+1≤wr.heap.size:=by have:=HZ.out;omega
   simp only[List.length_append,List.length_cons,List.length_nil]at hlen2
   obtain⟨v2,w2,hr2,ho2,hb2,hk2⟩:=app_byte (w:=wr.alloc (.cells #[.int .i64 x,.int .i64 y] 92)) 32 32 rfl (hR.out.below hA2) (Nat.le_trans hzz hA2.size) (by omega)
   have q2:=box_kept hq2 hk2
   have B2:Hid (Below (w.heap.size+1) W0 w2):=hB.out.trans ((hA2.mono hzz).trans hb2)
   have h02:=(box_cells q2).1
   have hz3:w.heap.size+1≤w2.heap.size:=Nat.le_trans hzz (Nat.le_trans hA2.size hb2.size)
   have HC2:=Lib.hid (app_int ho2 hz3 (i:=x) (by omega) (by simp;omega) (HT.out.up B2.out (Nat.le_refl _)))
   have Q2:=Lib.hid q2
   have HZ3:=Lib.hid hz3
   simp only[World.size_alloc]at hr2
   clear hA2 hq2 hz2 ho2 hb2 hk2 q2 hR hB
   go_wp2_with (at_builtin;refine Lib.wpList_append_run _ rfl _ _ _ _ rfl _ _ rfl rfl _ _ (hr2 _) ?_)
   clear hr2 c1 c2
   refine HC2.out.mono ?_
   rintro e w3 ⟨v3,rfl,hr3,hb3,hk3⟩
   have q3:=box_kept Q2.out hk3
   have hz4:w.heap.size+1≤w3.heap.size:=Nat.le_trans HZ3.out hb3.size
   obtain⟨v4,w4,hr4,ho4,hb4,hk4⟩:=app_byte (w:=w3) 32 32 rfl hr3 hz4 (by simp only[List.length_append,List.length_cons,List.length_nil];omega)
   have q4:=box_kept q3 hk4
   have B4:Hid (Below (w.heap.size+1) W0 w4):=B2.out.trans (hb3.trans hb4)
   have h14:=(box_cells q4).2
   have HC4:=Lib.hid (app_int ho4 (Nat.le_trans hz4 hb4.size) (i:=y) (by omega) (by simp only[List.length_append,List.length_cons,List.length_nil];omega) (HT.out.up B4.out (Nat.le_refl _)))
   clear hr3 hb3 hk3 q3 hz4 ho4 hb4 hk4 q4 h02 HC2 Q2 HZ3 B2
   go_wp2_with (at_builtin;refine Lib.wpList_append_run _ rfl _ _ _ _ rfl _ _ rfl rfl _ _ (hr4 _) ?_)
   clear hr4 h14
   refine HC4.out.mono ?_
   rintro e w5 ⟨v5,rfl,hr5,hb5,hk5⟩
   rw[←HX2.out]at hr5
   have HR5:=Lib.hid hr5
   have B5:=Lib.hid (B4.out.trans hb5)
   clear hr5 hb5 hk5 HC4 B4 HX2
   go_wp2_with fail
   go_roundw
   case rel=>exact⟨k+1,by go_num,by omega,HR5,B5⟩
   case measure=>simp[intOf];omega
  ·have hlti:¬(k:Int)<(n:Int):=by omega
   obtain rfl:k=n:=by omega
   have hR2:=hR.out
   rw[←HN.out,List.take_length]at hR2
   have hl4:=HTL.out k (by rw[HN.out];exact Nat.le_refl _)
   rw[←HN.out,List.take_length]at hl4
   have hcv:=hR2.conv (by omega)
   have HE:Hid (Below w.heap.size w wr):=HA.out.trans (hB.out.mono (Nat.le_succ _))
   obtain⟨a9,cap9,rfl⟩:=hR2.slice
   clear hR hB hR2 hl4 HTL
   obtain⟨ta,hta⟩:∃ta,ta=(textL c l).toArray:=⟨_,rfl⟩
   rw[←hta]at hcv
   have HTA:=Lib.hid hta
   clear hta
   generalize (textL c l).length=tn at hcv
   go_wp2_with fail
   go_ret
   exact⟨by rw[←HTA.out];rfl,HE.out⟩
end
end Go.Proofs.YtipahfcaplbifaaGreatDoor
