/- Parts of a proof. -/
import Derived.Test.YtipahfcaplbifaaGreatDoorQ09
import Derived.Test.YtipahfcaplbifaaGreatDoorQ13
import Derived.Test.YtipahfcaplbifaaGreatDoorQ15
import Derived.Test.YtipahfcaplbifaaGreatDoorQ22
import Derived.Test.YtipahfcaplbifaaGreatDoorQ23
import Derived.Test.YtipahfcaplbifaaGreatDoorQ27
import Derived.Laws.MakeOwn
import Derived.OwnWalk
import Derived.Deep.RegionLaw
import Derived.BigQuiet
import Derived.RegionTactic
import Derived.Deep.RegionHeld3
import Derived.Lib.QuietBelow
set_option linter.unusedVariables false
set_option linter.unusedSimpArgs false
set_option maxHeartbeats 60000000
set_option maxRecDepth 100000
namespace Go.Proofs.YtipahfcaplbifaaGreatDoor
namespace Cut
open Go.RowKit Go.Maps
def LiesS (S:Nat→Prop)(w:World)(a:Option Addr)(l:List (Int×Int)):Prop:=
 ∀i,i<l.length→∃b off,a=some ⟨b,off,none⟩∧S b∧w.cell? ⟨b,off+i*2,none⟩=some (.int .i64 (l.getD i (0,0)).1)∧w.cell? ⟨b,off+i*2+1,none⟩=some (.int .i64 (l.getD i (0,0)).2)
theorem LiesS.lies {S:Nat→Prop}{w:World}{B:Nat}{a:Option Addr}{l:List (Int×Int)}(hS:∀b,S b→b<B)(h:LiesS S w a l):Lies B w a l:=fun i hi=>by
 obtain⟨b,off,e,hb,r⟩:=h i hi
 exact⟨b,off,e,hS b hb,r⟩
theorem LiesS.keep {S S':Nat→Prop}{w w':World}{a:Option Addr}{l:List (Int×Int)}(hS:∀b,S b→S' b)(hk:∀b o,S b→w'.cell? ⟨b,o,none⟩=w.cell? ⟨b,o,none⟩)(h:LiesS S w a l):LiesS S' w' a l:=fun i hi=>by
 obtain⟨b,off,e,hb,r1,r2⟩:=h i hi
 exact⟨b,off,e,hS b hb,(hk _ _ hb).trans r1,(hk _ _ hb).trans r2⟩
theorem _root_.Go.Proofs.YtipahfcaplbifaaGreatDoor.Row.liesC {B:Nat}{l:List (Int×Int)}{v:Value}{w:World}(h:Row B l v w):∃a cap,v= .slice a l.length cap∧LiesS (fun b=>B≤b∧b<w.heap.size) w a l:=by
 obtain⟨a,cap,rfl,hl,_⟩:=h.lies
 refine⟨a,cap,rfl,fun i hi=> ?_⟩
 obtain⟨b,off,rfl,hb,g0,g1⟩:=hl i hi
 exact⟨b,off,rfl,⟨(World.ownsRow.lt h b rfl).1,hb⟩,g0,g1⟩
theorem clone_any (a:Option Addr)(n cap:Nat)(l:List (Int×Int))(w:World)(hn:l.length=n)(hm:n≤8192)(hl:Lies w.heap.size w a l):
 Calls Tryz.prog 49 #[.slice a n cap] w (RowEnd w.heap.size l w):=by
 have he:=fun W:World=>Lib.run_eql_slice_nil (P:=Tryz.prog) W 34 92 a n cap 0 0 Tryz.underlying34
 cases a with
 | none=>
   have hn0:n=0:=by
    cases n with
    | zero=>rfl
    | succ n=>obtain⟨_,_,e,_⟩:=hl 0 (by omega);cases e
   subst hn0
   have HN:=Lib.hid hn
   clear hn hl
   go_enter Tryz.func49,Tryz.ntmps49
   go_wp2_with fail
   go_ret
   exact⟨_,rfl,by rw[List.eq_nil_of_length_eq_zero HN.out];exact World.ownsRow_nil _ _ _ _,Below.refl _ _⟩
 | some a=>
   obtain⟨i0,hi,hz0,hz1,hz2⟩:=info_parts Tryz.infoMono
   have HN:=Lib.hid hn
   have HL:=Lib.hid hl
   clear hn hl
   go_enter Tryz.func49,Tryz.ntmps49
   have hown:(w.alloc (.cells #[] 92)).ownsRow w.heap.size 92 2 (.slice (some ⟨w.heap.size,0,none⟩) 0 0) 0 []:=World.ownsRow_made w #[] 0 (Nat.le_refl _) (by decide) rfl
   have HB:=Lib.hid ((Below.refl w.heap.size w).alloc (Nat.le_refl _) (.cells #[] 92))
   go_wp2_with (at_builtin;refine wpList_append_own _ rfl _ _ 34 rfl w.heap.size 92 i0 _ 2 16 Tryz.underlying34 hi hz0 hz1 hz2 rfl (by decide) _ _ _ rfl hown a n cap (flat l) rfl ?c1 ?c2 ?c3 ?c4 ?c5 ?c6 ?_)
   case c1=>rw[flat_len,HN.out]
   case c2=>exact(HL.out.below HB.out).news
   case c3=>exact flat_cells l
   case c4=>unfold maxLen;omega
   case c5=>omega
   case c6=>simp
   intro v' w1 hown' hgrow _
   go_wp2_with fail
   go_ret
   refine⟨_,rfl, ?_,HB.out.grown hgrow (by simp) (fun k hk=>(hown.lt k hk).1)⟩
   unfold Row
   rw[HN.out]
   simpa using hown'
theorem lt_of_some {W:World}{b:Nat}{o:Obj}(h:W.heap[b]? =some o):b<W.heap.size:=(Array.getElem?_eq_some_iff.1 h).1
structure LT where
 c:Int
 a:Option Addr
 cap:Nat
 t:List (Int×Int)
def lcells (xs:List LT):List Value:=xs.flatMap fun x=>[.int .i64 x.c,.slice x.a x.t.length x.cap]
def lforms (xs:List LT):List (Int×List (Int×Int)):=xs.map fun x=>(x.c,x.t)
theorem lforms_len (xs:List LT):(lforms xs).length=xs.length:=by simp[lforms]
theorem lforms_append (xs ys:List LT):lforms (xs ++ ys)=lforms xs ++ lforms ys:=by simp[lforms]
theorem lcells_append (xs ys:List LT):lcells (xs ++ ys)=lcells xs ++ lcells ys:=by simp[lcells]
theorem lcells_get:∀(xs:List LT) (i:Nat) (x:LT),xs[i]? =some x→(lcells xs)[i*2]? =some (.int .i64 x.c)∧(lcells xs)[i*2+1]? =some (.slice x.a x.t.length x.cap)
 | y :: r,0,x,h=>by obtain rfl:y=x:=by simpa using h
                    exact⟨rfl,rfl⟩
 | y :: r,i+1,x,h=>by
   have:=lcells_get r i x (by simpa using h)
   have e:lcells (y :: r)= .int .i64 y.c :: .slice y.a y.t.length y.cap :: lcells r:=rfl
   rw[e,show(i+1)*2=i*2+1+1 by omega]
   simpa using this
structure LRow (B:Nat)(xs:List LT)(v:Value)(w:World):Prop where
 row:w.ownsRow B 36 2 v xs.length (lcells xs)
 lies:∀x∈xs,LiesS (fun b=>B≤b∧b<w.heap.size∧v.ownBlock≠some b) w x.a x.t
theorem LRow.nil (B:Nat)(w:World):LRow B [] (.slice none 0 0) w:=⟨World.ownsRow_nil _ _ _ _,fun x hx=>by cases hx⟩
theorem LRow.llies {B:Nat}{xs:List LT}{v:Value}{w:World}(h:LRow B xs v w):∃a cap,v= .slice a xs.length cap∧LLies w.heap.size w a (lforms xs):=by
 have hr:=h.row
 have hc:=fun g=>World.ownsRow.cells hr (g:=g)
 have hlt:=World.ownsRow.lt hr
 obtain⟨_,h1 | ⟨g,cap,cur,hv,h2⟩⟩:=hr
 ·refine⟨none,0,by rw[h1.1,h1.2],fun i hi=> ?_⟩
  rw[lforms_len]at hi;omega
 ·have hl:=h.lies
  subst hv
  refine⟨some ⟨g,0,none⟩,cap,rfl,fun i hi=> ?_⟩
  rw[lforms_len]at hi
  have hx:xs[i]? =some xs[i]:=List.getElem?_eq_getElem hi
  obtain⟨g1,g2⟩:=lcells_get xs i _ hx
  have e:(lforms xs).getD i (0,[])=(xs[i].c,xs[i].t):=by simp[lforms,List.getD_eq_getElem?_getD,hi]
  rw[e]
  refine⟨g,0,xs[i].a,xs[i].cap,rfl,(hlt g rfl).2, ?_, ?_,(hl _ (List.getElem_mem hi)).lies (fun b hb=>hb.2.1)⟩
  ·have:=hc g rfl (i*2) _ g1
   rwa [show(⟨g,0,none⟩:Addr).add (i*2)=⟨g,0+i*2,none⟩ by unfold Addr.add;split<;>simp_all]at this
  ·have:=hc g rfl (i*2+1) _ g2
   rwa [show(⟨g,0,none⟩:Addr).add (i*2+1)=⟨g,0+i*2+1,none⟩ by unfold Addr.add;simp]at this
theorem LRow.below {B:Nat}{xs:List LT}{v:Value}{w w':World}(h:LRow B xs v w)(hb:Below w.heap.size w w'):LRow B xs v w':=
 ⟨World.ownsRow.kept (row:=none) h.row ⟨hb.os,hb.tape,hb.output,hb.size,fun q hq _=>hb.block q hq⟩ (by cases v.ownBlock<;>simp),fun x hx=>(h.lies x hx).keep (fun b ⟨h1,h2,h3⟩=>⟨h1,Nat.lt_of_lt_of_le h2 hb.size,h3⟩) (fun b o ⟨_,h2,_⟩=>hb.cell (p:=⟨b,o,none⟩) h2)⟩
theorem LRow.step {B:Nat}{xs:List LT}{x:LT}{v v6:Value}{w w5 w6:World}{g H:Nat}(h:LRow B xs v w)(hB:B≤w.heap.size)(hb5:Below w.heap.size w w5)(hx:LiesS (fun b=>w.heap.size≤b∧b<w5.heap.size) w5 x.a x.t)(hg:w5.grownBy w6 v.ownBlock)(hH:w5.heap.size≤H)
 (hv:v6.ownBlock=some g) (hat:v.ownBlock=some g∨g=H) (hr:w6.ownsRow B 36 2 v6 (xs.length+1) (lcells xs ++ [.int .i64 x.c,.slice x.a x.t.length x.cap])):LRow B (xs ++ [x]) v6 w6:=by
 have hvb:∀b,v.ownBlock=some b→b<w.heap.size:=fun b e=>(World.ownsRow.lt h.row b e).2
 have hk:∀b o,b<w5.heap.size→v.ownBlock≠some b→w6.cell? ⟨b,o,none⟩=w5.cell? ⟨b,o,none⟩:=fun b o hb hne=>World.cell?_of_block (hg.block b hb (fun e=>hne e.symm))
 have hne6:∀b,b<w5.heap.size→v.ownBlock≠some b→v6.ownBlock≠some b:=fun b hb hne e=>by
  rw[hv]at e
  rcases hat with hat | hat
  ·exact hne (hat.trans e)
  ·injection e with e;omega
 refine⟨?_,fun y hy=> ?_⟩
 ·rw[List.length_append,lcells_append]
  exact hr
 ·rcases List.mem_append.1 hy with hy | hy
  ·refine(h.lies y hy).keep (fun b ⟨h1,h2,h3⟩=> ?_) (fun b o ⟨h1,h2,h3⟩=> ?_)
   ·have h5:=Nat.lt_of_lt_of_le h2 hb5.size
    exact⟨h1,Nat.lt_of_lt_of_le h5 hg.size,hne6 b h5 h3⟩
   ·exact(hk b o (Nat.lt_of_lt_of_le h2 hb5.size) h3).trans (hb5.cell (p:=⟨b,o,none⟩) h2)
  ·rw[List.mem_singleton]at hy
   subst hy
   refine hx.keep (fun b ⟨h1,h2⟩=> ?_) (fun b o ⟨h1,h2⟩=> ?_)
   ·have h3:v.ownBlock≠some b:=fun e=>by have:=hvb b e;omega
    exact⟨by omega,Nat.lt_of_lt_of_le h2 hg.size,hne6 b h2 h3⟩
   ·exact hk b o h2 (fun e=>by have:=hvb b e;omega)
def tellS (ls:List (Int×List (Int×Int)))(s:List (Int×Int)×Int):Int:=tellK ls.length (cTo ls s.1 s.1.length) s.2 s.1 (sumOf (tTo ls s.1 s.1.length))
def lineS (ls:List (Int×List (Int×Int)))(s:List (Int×Int)×Int):Int×List (Int×Int):=(upI (cTo ls s.1 s.1.length) s.2,divT s.2 (sumOf (tTo ls s.1 s.1.length)))
def lnL (ls:List (Int×List (Int×Int)))(ss:List (List (Int×Int)×Int)):Nat→List (Int×List (Int×Int))
 | 0=>ls
 | k+1=>lnL ls ss k ++ [lineS (lnL ls ss k) (ss.getD k ([],0))]
theorem lnL_len (ls:List (Int×List (Int×Int)))(ss:List (List (Int×Int)×Int)):∀k,(lnL ls ss k).length=ls.length+k
 | 0=>rfl
 | k+1=>by rw[lnL,List.length_append,lnL_len ls ss k];rfl
inductive LinesIs (ls:List (Int×List (Int×Int))) (ss:List (List (Int×Int)×Int)):Int→Int→List (Int×List (Int×Int))→Prop
 | long:4096<ls.length∨4096<ss.length→LinesIs ls ss 2 (-1) []
 | prem (i:Nat):ls.length≤4096→ss.length≤4096→i<ls.length→(∀j,j<i→snd (ls.getD j (0,[])).1 (ls.getD j (0,[])).2=true)→snd (ls.getD i (0,[])).1 (ls.getD i (0,[])).2=false→LinesIs ls ss 5 i []
 | step (i:Nat):ls.length≤4096→ss.length≤4096→lsOk ls→i<ss.length→(∀j,j<i→tellS (lnL ls ss j) (ss.getD j ([],0))=0)→tellS (lnL ls ss i) (ss.getD i ([],0))≠0→LinesIs ls ss (tellS (lnL ls ss i) (ss.getD i ([],0))) i []
 | ok:ls.length≤4096→ss.length≤4096→lsOk ls→(∀j,j<ss.length→tellS (lnL ls ss j) (ss.getD j ([],0))=0)→LinesIs ls ss 0 (-1) (lnL ls ss ss.length)
theorem lines_is (ls:List (Int×List (Int×Int)))(ss:List (List (Int×Int)×Int)):∃x at' L,LinesIs ls ss x at' L:=by
 by_cases h:4096<ls.length∨4096<ss.length
 ·exact⟨_,_,_,.long h⟩
 ·by_cases h1:∀i,i<ls.length→snd (ls.getD i (0,[])).1 (ls.getD i (0,[])).2=true
  ·by_cases h2:∀i,i<ss.length→decide (tellS (lnL ls ss i) (ss.getD i ([],0))=0)=true
   ·exact⟨_,_,_,.ok (by omega) (by omega) h1 (fun j hj=>by simpa using h2 j hj)⟩
   ·obtain⟨j,hj,h3,h4⟩:=first_no _ _ h2
    exact⟨_,_,_,.step j (by omega) (by omega) h1 hj (fun i hi=>by simpa using h3 i hi) (by simpa using h4)⟩
  ·obtain⟨j,hj,h3,h4⟩:=first_no _ _ h1
   exact⟨_,_,_,.prem j (by omega) (by omega) hj h3 h4⟩
theorem okAt_mkC {l:List (Int×Int)}{i:Nat}(h:lastAt l i<(l.getD i (0,0)).1∧(l.getD i (0,0)).2≠0∧0≤(l.getD i (0,0)).1∧(l.getD i (0,0)).1<1048576∧ -1073741824≤(l.getD i (0,0)).2∧(l.getD i (0,0)).2≤1073741824):okAt l i=true:=by
 unfold okAt chk mst wi
 simp only[Bool.and_eq_true,decide_eq_true_eq]
 exact⟨h.1,h.2.1,⟨h.2.2.1,h.2.2.2.1⟩,h.2.2.2.2⟩
theorem snd_of_sum {c:Int}{l R:List (Int×Int)}(h:IsSum l R)(hc:wi c 1073741824=true)(hk:∀m∈R,wi m.2 1073741824=true)(h64:R.length≤64)(hV:∀m∈l,0≤m.1∧m.1<1048576):snd c R=true:=by
 refine snd_iff.2 ⟨hc,h64,fun i hi=>okAt_mkC ?_⟩
 have hmem:R.getD i (0,0)∈R:=by rw[List.getD_eq_getElem?_getD,List.getElem?_eq_getElem hi];simp
 obtain⟨x,hx,hxe⟩:=h.comes hmem
 have hv:=hV x hx
 have hw:=hk _ hmem
 unfold wi at hw
 have hw: -1073741824≤(R.getD i (0,0)).2∧(R.getD i (0,0)).2≤1073741824:=by simpa using hw
 refine⟨?_,h.nz _ hmem,by omega,by omega,hw.1,hw.2⟩
 by_cases h0:i=0
 ·subst h0;rw[lastAt_zero];omega
 ·obtain⟨j,rfl⟩:∃j,i=j+1:=⟨i - 1,by omega⟩
  rw[lastAt_succ]
  have:=List.pairwise_iff_getElem.1 h.up j (j+1) (by omega) hi (by omega)
  rw[List.getD_eq_getElem?_getD,List.getElem?_eq_getElem (show j<R.length by omega),List.getD_eq_getElem?_getD,List.getElem?_eq_getElem hi]
  simpa using this
theorem tdiv_ne0 {k g:Int}(hk:k≠0)(hd:k.tmod g=0):k.tdiv g≠0:=fun h=>hk (by
 have:=Int.tmod_add_mul_tdiv k g
 rw[hd,h]at this
 omega)
structure Took (ls:List (Int×List (Int×Int)))(s:List (Int×Int)×Int):Prop where
 parts:partsOk ls s.1
 div:1≤s.2∧s.2≤1073741824
 cin:wi (cTo ls s.1 s.1.length) 4398046511104=true
 rin:allIn 4398046511104 (sumOf (tTo ls s.1 s.1.length))=true
 all:allDiv s.2 (sumOf (tTo ls s.1 s.1.length))=true
 cok:wi (lineS ls s).1 1073741824=true
 rok:allIn 1073741824 (lineS ls s).2=true
 len:(lineS ls s).2.length≤64
theorem tellS_took {ls:List (Int×List (Int×Int))}{s:List (Int×Int)×Int}(hok:lsOk ls)(h:tellS ls s=0):Took ls s:=by
 unfold tellS at h
 by_cases h1:stepK ls.length s.1 s.2=0
 ·obtain⟨hp,hd⟩:=stepK_ok h1 hok
  by_cases h2:wi (cTo ls s.1 s.1.length) 4398046511104=false∨allIn 4398046511104 (sumOf (tTo ls s.1 s.1.length))=false
  ·rw[tellK_far h1 h2]at h;cases h
  ·have h3:wi (cTo ls s.1 s.1.length) 4398046511104=true:=by cases e:wi (cTo ls s.1 s.1.length) 4398046511104<;>simp[e]at h2⊢
   have h4:allIn 4398046511104 (sumOf (tTo ls s.1 s.1.length))=true:=by cases e:allIn 4398046511104 (sumOf (tTo ls s.1 s.1.length))<;>simp[e]at h2⊢
   cases h5:allDiv s.2 (sumOf (tTo ls s.1 s.1.length))
   ·rw[tellK_div h1 h3 h4 h5]at h;cases h
   ·rw[tellK_ok h1 h3 h4 h5]at h
    replace h:divK (lineS ls s).1 (lineS ls s).2=0:=h
    cases h6:wi (lineS ls s).1 1073741824
    ·rw[divK_far (.inl h6)]at h;cases h
    ·cases h7:allIn 1073741824 (lineS ls s).2
     ·rw[divK_far (.inr h7)]at h;cases h
     ·rw[divK_in h6 h7]at h
      by_cases h8:64<(lineS ls s).2.length
      ·rw[if_pos h8]at h;cases h
      ·exact⟨hp,hd,h3,h4,h5,h6,h7,by omega⟩
 ·rw[tellK_step h1]at h;exact absurd h h1
theorem tellS_ok {ls:List (Int×List (Int×Int))}{s:List (Int×Int)×Int}(hok:lsOk ls)(h:tellS ls s=0):snd (lineS ls s).1 (lineS ls s).2=true:=by
 have ht:=tellS_took hok h
 have hS:=sumOf_is (tTo ls s.1 s.1.length)
 refine snd_of_sum (l:=(lineS ls s).2) ⟨?_,fun m hm=> ?_,fun _=>rfl⟩ ht.cok (fun m hm=> ?_) ht.len (fun m hm=> ?_)
 ·exact List.Pairwise.map _ (fun a b h=>h) hS.up
 ·obtain⟨p,hp,rfl⟩:=List.mem_map.1 hm
  have:=List.all_eq_true.1 ht.all p hp
  exact tdiv_ne0 (hS.nz p hp) (by simpa using this)
 ·exact List.all_eq_true.1 ht.rok m hm
 ·obtain⟨p,hp,rfl⟩:=List.mem_map.1 hm
  obtain⟨y,hy,hy2⟩:=hS.comes hp
  have:=tTo_vars ht.parts _ (Nat.le_refl _) y hy
  show 0≤p.1∧p.1<1048576
  omega
theorem lnL_ok {ls:List (Int×List (Int×Int))}{ss:List (List (Int×Int)×Int)}(hok:lsOk ls):∀k,(∀j,j<k→tellS (lnL ls ss j) (ss.getD j ([],0))=0)→lsOk (lnL ls ss k)
 | 0,_=>hok
 | k+1,h=>by
   have h1:=lnL_ok hok k (fun j hj=>h j (by omega))
   intro i hi
   rw[lnL_len]at hi
   by_cases e:i<ls.length+k
   ·have:=h1 i (by rw[lnL_len];exact e)
    rw[lnL]
    simp only[List.getD_eq_getElem?_getD]at this⊢
    rw[List.getElem?_append_left (by rw[lnL_len];exact e)]
    exact this
   ·have e2:i=(lnL ls ss k).length:=by rw[lnL_len];omega
    subst e2
    rw[lnL]
    simp only[List.getD_eq_getElem?_getD]
    rw[List.getElem?_concat_length,Option.getD_some]
    exact tellS_ok h1 (h k (by omega))
def SLies (B:Nat)(w:World)(a:Option Addr)(ss:List (List (Int×Int)×Int)):Prop:=
 ∀i,i<ss.length→∃b off ta tcap,a=some ⟨b,off,none⟩∧b<B∧(ss.getD i ([],0)).1.length≤9223372036854775807∧w.cell? ⟨b,off+i*2,none⟩=some (.slice ta (ss.getD i ([],0)).1.length tcap)∧w.cell? ⟨b,off+i*2+1,none⟩=some (.int .i64 (ss.getD i ([],0)).2)∧Lies B w ta (ss.getD i ([],0)).1
theorem SLies.below {B:Nat}{w w':World}{a:Option Addr}{ss:List (List (Int×Int)×Int)}(h:SLies B w a ss)(hb:Below B w w'):SLies B w' a ss:=fun i hi=>by
 obtain⟨b,off,ta,tcap,ha,hlt,hm,h1,h2,h3⟩:=h i hi
 exact⟨b,off,ta,tcap,ha,hlt,hm,(hb.cell (p:=⟨b,_,none⟩) hlt).trans h1,(hb.cell (p:=⟨b,_,none⟩) hlt).trans h2,h3.below hb⟩
def ErrIs (B:Nat)(x at':Int)(er:Value)(w:World):Prop:=
 (at'<0→er=codeV x)∧(0≤at'→∃g,er= .iface 76 (.pointer (some ⟨g,0,none⟩))∧B≤g∧g<w.heap.size∧w.cell? ⟨g,0,none⟩=some (.int .i64 at')∧w.cell? ⟨g,1,none⟩=some (codeV x))
def LinesEnd (B:Nat)(x at':Int)(L:List (Int×List (Int×Int)))(w:World)(e:Ending)(w':World):Prop:=
 ∃v er xs,e= .returned (.tuple #[v,er])∧LRow B xs v w'∧lforms xs=L∧ErrIs B x at' er w'∧Below B w w'
end Cut
namespace Cut
open Go.RowKit Go.Maps
def REnd (B:Nat)(x C:Int)(D:List (Int×Int))(w:World)(e:Ending)(w':World):Prop:=∃v,e= .returned (.tuple #[.agg #[.int .i64 C,v],.int .i64 x])∧Row B D v w'∧Below B w w'
theorem REnd.none {B:Nat}{x:Int}{w:World}{e:Ending}{w':World}(he:e= .returned (.tuple #[.agg #[.int .i64 0,.slice none 0 0],.int .i64 x]))(hb:Below B w w'):REnd B x 0 [] w e w':=⟨_,he,World.ownsRow_nil _ _ _ _,hb⟩
theorem scale_timesL (x:Int)(l:List (Int×Int)):scale x l=timesL x l:=by
 unfold scale timesL
 exact List.map_congr_left fun m _=>by rw[Int.mul_comm]
structure StpSt (w W:World)(pa:Option Addr)(pn pcap:Nat)(div:Int)(T:List (Int×Int))(v:Value):Prop where
 t:TellSt w W pa pn pcap div
 row:Row (w.heap.size+2) T v W
theorem StpSt.below {w W W':World}{pa:Option Addr}{pn pcap:Nat}{div:Int}{T:List (Int×Int)}{v:Value}(h:StpSt w W pa pn pcap div T v)(hb:Below W.heap.size W W'):StpSt w W' pa pn pcap div T v:=
 ⟨h.t.below hb h.t.mz,World.ownsRow.kept (row:=none) h.row ⟨hb.os,hb.tape,hb.output,hb.size,fun q hq _=>hb.block q hq⟩ (by cases v.ownBlock<;>simp)⟩
def partOk (ls:List (Int×List (Int×Int)))(ps:List (Int×Int))(k:Nat):Prop:=
 (0≤(ps.getD k (0,0)).1∧(ps.getD k (0,0)).1.toNat<ls.length)∧(1≤(ps.getD k (0,0)).2∧(ps.getD k (0,0)).2≤4096)∧snd (lineAt ls ps k).1 (lineAt ls ps k).2=true
theorem partK_ok {ls:List (Int×List (Int×Int))}{ps:List (Int×Int)}{n:Nat}{k:Nat}(hn:ls.length=n)(hok:lsOk ls)(h1:partK n (ps.getD k (0,0))=0):partOk ls ps k:=by
 unfold partK at h1
 by_cases a:(ps.getD k (0,0)).1<0∨(n:Int)≤(ps.getD k (0,0)).1
 ·rw[if_pos a]at h1;cases h1
 ·rw[if_neg a]at h1
  by_cases b:(ps.getD k (0,0)).2<1∨4096<(ps.getD k (0,0)).2
  ·rw[if_pos b]at h1;cases h1
  ·exact⟨⟨by omega,by omega⟩,⟨by omega,by omega⟩,hok _ (by omega)⟩
theorem tTo_inP {ls:List (Int×List (Int×Int))}{ps:List (Int×Int)}:∀k,(∀j,j<k→partOk ls ps j)→(tTo ls ps k).length≤k*64∧∀m∈tTo ls ps k, -4398046511104≤m.2∧m.2≤4398046511104
 | 0,_=>⟨Nat.le_refl _,fun m hm=>by cases hm⟩
 | k+1,h=>by
   obtain⟨h1,h2⟩:=tTo_inP k (fun j hj=>h j (by omega))
   obtain⟨_,hx,hs⟩:=h k (by omega)
   refine⟨?_,fun m hm=> ?_⟩
   ·show(tTo ls ps k ++ _).length≤_
    rw[List.length_append,timesL_len]
    have:=(snd_iff.1 hs).2.1
    omega
   ·rcases List.mem_append.1 hm with hm | hm
    ·exact h2 m hm
    ·exact timesL_in hs hx m hm
theorem cTo_inP {ls:List (Int×List (Int×Int))}{ps:List (Int×Int)}:∀k,(∀j,j<k→partOk ls ps j)→ -(k*4398046511104:Int)≤cTo ls ps k∧cTo ls ps k≤k*4398046511104
 | 0,_=>by show _≤(0:Int)∧(0:Int)≤_;omega
 | k+1,h=>by
   have h1:=cTo_inP k (fun j hj=>h j (by omega))
   obtain⟨_,hx,hs⟩:=h k (by omega)
   have hc:=(snd_iff.1 hs).1
   unfold wi at hc
   have hc': -1073741824≤(lineAt ls ps k).1∧(lineAt ls ps k).1≤1073741824:=by simpa using hc
   have h3: -1073741824*(ps.getD k (0,0)).2≤(lineAt ls ps k).1*(ps.getD k (0,0)).2:=Int.mul_le_mul_of_nonneg_right hc'.1 (by omega)
   have h4:(lineAt ls ps k).1*(ps.getD k (0,0)).2≤1073741824*(ps.getD k (0,0)).2:=Int.mul_le_mul_of_nonneg_right hc'.2 (by omega)
   show _≤cTo ls ps k+_∧cTo ls ps k+_≤_
   push_cast
   omega
def farS (c:Int)(R:List (Int×Int))(L:Int):Bool:= !(wi c 4398046511104 && allIn 4398046511104 (upTo R L))
def restS (g:Int)(R:List (Int×Int))(L:Int):Bool:= !(allDiv g (upTo R L))
def overS (u g:Int)(R:List (Int×Int))(L:Int):Bool:= !(wi u 1073741824 && allIn 1073741824 (divT g (upTo R L)))
theorem allIn_append (M:Int)(r:List (Int×Int))(m:Int×Int):allIn M (r ++ [m])=(allIn M r && wi m.2 M):=by simp[allIn,List.all_append]
theorem allDiv_append (g:Int)(r:List (Int×Int))(m:Int×Int):allDiv g (r ++ [m])=(allDiv g r && (m.2.tmod g == 0)):=by simp[allDiv,List.all_append]
theorem divT_append (g:Int)(r:List (Int×Int))(m:Int×Int):divT g (r ++ [m])=divT g r ++ [(m.1,m.2.tdiv g)]:=by simp[divT]
theorem flags_start {c u g:Int}{T R:List (Int×Int)}(hR:IsSum T R)(hV:∀m∈T,0≤m.1∧m.1<1048576):farS c R (-1)=(!(wi c 4398046511104))∧restS g R (-1)=false∧overS u g R (-1)=(!(wi u 1073741824)):=by
 unfold farS restS overS
 rw[upTo_start hR hV]
 simp[allIn,allDiv,divT]
theorem flags_same {c u g:Int}{R:List (Int×Int)}{L v:Int}(h:upTo R v=upTo R L):farS c R v=farS c R L∧restS g R v=restS g R L∧overS u g R v=overS u g R L:=by
 unfold farS restS overS;rw[h];exact⟨rfl,rfl,rfl⟩
theorem flags_step {c u g:Int}{R:List (Int×Int)}{L v K:Int}(h:upTo R v=upTo R L ++ [(v,K)]):
 farS c R v=(farS c R L || !(wi K 4398046511104))∧restS g R v=(restS g R L || !(K.tmod g == 0))∧overS u g R v=(overS u g R L || !(wi (K.tdiv g) 1073741824)):=by
 unfold farS restS overS
 rw[h,allIn_append,allDiv_append,divT_append,allIn_append]
 refine⟨?_, ?_, ?_⟩
 ·cases wi c 4398046511104<;>cases allIn 4398046511104 (upTo R L)<;>cases wi (v,K).2 4398046511104<;>rfl
 ·cases allDiv g (upTo R L)<;>cases ((v,K).2.tmod g == 0)<;>rfl
 ·cases wi u 1073741824<;>cases allIn 1073741824 (divT g (upTo R L))<;>cases wi (v,K.tdiv g).2 1073741824<;>rfl
theorem flags_end {n c div:Int}{ps R:List (Int×Int)}{L:Int}(hk:stepK n ps div=0)(h:upTo R L=R):
 (farS c R L=true→tellK n c div ps R=3)∧(farS c R L=false→restS div R L=true→tellK n c div ps R=7)∧
 (farS c R L=false→restS div R L=false→overS (upI c div) div R L=true→tellK n c div ps R=3)∧
 (farS c R L=false→restS div R L=false→overS (upI c div) div R L=false→tellK n c div ps R=if 64<R.length then 2 else 0):=by
 unfold farS restS overS
 rw[h]
 have hfar:∀b1 b2:Bool,(!(b1 && b2))=false→b1=true∧b2=true:=by decide
 have hfar2:∀b1 b2:Bool,(!(b1 && b2))=true→b1=false∨b2=false:=by decide
 have hno:∀b:Bool,(!b)=false→b=true:=by decide
 have hyes:∀b:Bool,(!b)=true→b=false:=by decide
 refine⟨fun a=>tellK_far hk (hfar2 _ _ a),fun a b=> ?_,fun a b d=> ?_,fun a b d=> ?_⟩
 ·obtain⟨h1,h2⟩:=hfar _ _ a
  exact tellK_div hk h1 h2 (hyes _ b)
 ·obtain⟨h1,h2⟩:=hfar _ _ a
  rw[tellK_ok hk h1 h2 (hno _ b)]
  exact divK_far (hfar2 _ _ d)
 ·obtain⟨h1,h2⟩:=hfar _ _ a
  obtain⟨h3,h4⟩:=hfar _ _ d
  rw[tellK_ok hk h1 h2 (hno _ b),divK_in h3 h4,divT_len]
structure OutSt (w W:World)(No:Nat)(pa:Option Addr)(pn pcap:Nat)(div u:Int)(T:List (Int×Int))(ta:Option Addr)(D:List (Int×Int)):Prop where
 t:TellSt w W pa pn pcap div
 lies:Lies No W ta T
 o0:W.cell? ⟨No,0,none⟩=some (.int .i64 u)
 o1:∃v,W.cell? ⟨No,1,none⟩=some v∧Row (No+1) D v W
 ofr:∀o,W.frozen? ⟨No,o,none⟩=false
 lt:No<W.heap.size
 ge:w.heap.size+2≤No
theorem OutSt.start {w W:World}{pa:Option Addr}{pn pcap:Nat}{div u:Int}{T:List (Int×Int)}{v:Value}(h:StpSt w W pa pn pcap div T v):∃ta tcap,v= .slice ta T.length tcap∧OutSt w (W.alloc (.cells #[.int .i64 u,.slice none 0 0] 36)) W.heap.size pa pn pcap div u T ta []:=by
 obtain⟨ta,tcap,rfl,hl,_⟩:=h.row.lies
 have hb:=(Below.refl W.heap.size W).alloc (Nat.le_refl _) (.cells #[.int .i64 u,.slice none 0 0] 36)
 have hn:=heap_alloc_new W (.cells #[.int .i64 u,.slice none 0 0] 36)
 exact⟨ta,tcap,rfl,h.t.below hb h.t.mz,hl.below hb,(cell_of_row _ _ _ _ _ _ hn).trans rfl,⟨_,(cell_of_row _ _ _ _ _ _ hn).trans rfl,World.ownsRow_nil _ _ _ _⟩,fun o=>frozen_of_row _ _ _ _ _ hn,lt_of_some hn,h.t.mz⟩
theorem OutSt.push {w W W1:World}{No:Nat}{pa:Option Addr}{pn pcap:Nat}{div u:Int}{T D D':List (Int×Int)}{ta:Option Addr}{v':Value}(h:OutSt w W No pa pn pcap div u T ta D)(hb:Below (No+1) W W1)(hr:Row (No+1) D' v' W1):OutSt w (W1.setCell ⟨No,1,none⟩ v') No pa pn pcap div u T ta D':=by
 have hge:=h.ge
 have hbs:Below No W (W1.setCell ⟨No,1,none⟩ v'):=(hb.mono (Nat.le_succ _)).setCell (p:=⟨No,1,none⟩) (Nat.le_refl _) _
 obtain⟨v,o1,_⟩:=h.o1
 have k:W1.grownBy (W1.setCell ⟨No,1,none⟩ v') (some No):=⟨rfl,rfl,rfl,Nat.le_of_eq (World.size_setCell _ _ _).symm,fun q _ hq=>Below.heap_setCell _ _ _ _ (fun e=>hq (by rw[e]))⟩
 refine⟨h.t.below hbs hge,h.lies.below hbs, ?_,⟨v',World.cell?_setCell_same _ _ _ ((hb.cell (p:=⟨No,1,none⟩) (Nat.lt_succ_self _)).trans o1),World.ownsRow.kept hr k (.inr (fun e=>by have:=(World.ownsRow.lt hr _ e).1;omega))⟩,fun o=>(World.frozen?_setCell _ _ _ _).trans ((hb.frozen (p:=⟨No,o,none⟩) (Nat.lt_succ_self _)).trans (h.ofr o)),by rw[World.size_setCell];exact Nat.lt_of_lt_of_le h.lt hb.size,hge⟩
 rw[World.cell?_setCell_other _ _ _ _ (by simp)]
 exact(hb.cell (p:=⟨No,0,none⟩) (Nat.lt_succ_self _)).trans h.o0
end Cut
section
open Go.RowKit
def LitSaid (am:List (Int×List (Int×Int)))(B M K mp:Nat)(av:Value)(n:Nat):Prop:=
 ∀(f:FT) (cs:List Value) (N:Nat) (cl:List (List Int)) (r:Option Nat) (S:Nat→Prop) (w:World),FLies B w n f cs→madeF n f=true→LS M K mp av N cl r S w→Places am mp w→Tens M w→am.length+N+siz n f≤100000→cl.length+2*siz n f≤1000000→
  Calls Tryz.prog 55 #[.pointer (some ⟨M,0,none⟩),.agg cs.toArray] w fun e w'=>e= .returned (.int .i64 (mkF am n f N cl).lit)∧∃S',(∀b,S' b→S b∨w.heap.size≤b)∧LTo M K mp av (mkF am n f N cl).n (mkF am n f N cl).cl r S' w w'
theorem lit_2 (am:List (Int×List (Int×Int)))(B M K mp:Nat)(av:Value)(hB:B≤M)(hmp:mp<M)(n:Nat)(f:FT)(cs:List Value)(N:Nat)(cl:List (List Int))(r:Option Nat)(S:Nat→Prop)(w:World)(h:FLies B w (n+1) f cs)(hm:madeF (n+1) f=true)(hS:LS M K mp av N cl r S w)(hp:Places am mp w)(ht:Tens M w)(h2:f.kind=2):
 Calls Tryz.prog 55 #[.pointer (some ⟨M,0,none⟩),.agg cs.toArray] w fun e w'=>e= .returned (.int .i64 (mkF am (n+1) f N cl).lit)∧∃S',(∀b,S' b→S b∨w.heap.size≤b)∧LTo M K mp av (mkF am (n+1) f N cl).n (mkF am (n+1) f N cl).cl r S' w w':=by
 obtain⟨ta,tcap,ka,kcap,rfl,hT,_,_,_⟩:=h
 obtain⟨hsn,hk0⟩:=made_snd hm h2
 clear hk0
 rw[mkF_2 h2]
 have hMw:=hS.size
 have hA:Below w.heap.size w (w.alloc (.cells #[.int .i64 f.kind,.int .i64 f.c,.slice ta f.t.length tcap,.slice ka f.ks.length kcap] 39)):=(Below.refl _ w).alloc (Nat.le_refl _) _
 have HB:=box_start w f.kind f.c ta ka f.t.length tcap f.ks.length kcap
 have hl3:=textL_len hsn f.t.length (Nat.le_refl _)
 rw[List.take_length]at hl3
 have HTX:=Lib.hid (text_any f.c ta f.t.length tcap f.t (w.alloc (.cells #[.int .i64 f.kind,.int .i64 f.c,.slice ta f.t.length tcap,.slice ka f.ks.length kcap] 39)).drew rfl ((hT.below (hA.drew.mono (by omega))).mono (Nat.le_trans (Nat.le_trans hB (Nat.le_of_lt hMw)) hA.size)) hsn (ht.up (hA.drew.mono (Nat.le_of_lt hMw)) (Nat.le_trans (Nat.le_of_lt hMw) hA.size)))
 have HP:=Lib.hid hp
 have HS:=Lib.hid hS
 have HA:=Lib.hid hA
 have HQ:=Lib.hid hMw
 have HMP:=Lib.hid hmp
 have HL:=Lib.hid hl3
 have m3:=(hA.cell (p:=⟨M,3,none⟩) hMw).trans hS.c3
 have b0:=HB.c0
 have b1:=HB.c1
 have b2:=HB.c2
 have hnq:M<w.heap.size:=hMw
 rw[h2]at*
 clear h2 hsn hT hl3 hp hS hA HB hm ht hmp hB
 generalize f.ks.length=kl at*
 generalize hc:f.c=c at*
 generalize hft:f.t=t at*
 clear hc hft
 obtain⟨tx,htx⟩:∃tx,tx=(textL c t).toArray:=⟨_,rfl⟩
 rw[←htx]at HTX
 have HLK:Hid (∀W,Below w.heap.size (w.alloc (.cells #[.int .i64 2,.int .i64 c,.slice ta t.length tcap,.slice ka kl kcap] 39)) W→(Instr.lookup 108 (.map (some mp)) (.string ⟨tx⟩) false).run Tryz.prog W= .ok (.int .i64 (atN am (c,t))) W):=Lib.hid fun W hW=>by
  rw[htx]
  exact(HP.out.keep (((HA.out.trans hW).block mp (by have:=HMP.out;omega)))).look HL.out
 clear htx
 go_enter Tryz.func55,Tryz.ntmps55
 go_wp2_with fail
 have hq1:w.heap.size<(w.alloc (.cells #[.int .i64 2,.int .i64 c,.slice ta t.length tcap,.slice ka kl kcap] 39)).drew.heap.size:=by simp[World.drew]
 generalize hW1:w.alloc (.cells #[.int .i64 2,.int .i64 c,.slice ta t.length tcap,.slice ka kl kcap] 39)=W1 at*
 clear hW1
 go_region_held3 (fun w'=>w'.cell? ⟨M,3,none⟩=some (.map (some mp))∧w'.cell? ⟨w.heap.size,1,none⟩=some (.int .i64 c)∧w'.cell? ⟨w.heap.size,2,none⟩=some (.slice ta t.length tcap))
  (first | go_keep)
  (first
    | (go_at_call 86
       refine HTX.out.mono ?_
       rintro e w5 ⟨rfl,hb5⟩
       have l5:=HLK.out w5 (((Below.refl _ W1).drew).trans (hb5.mono (Nat.le_of_lt hq1)))
       have x3:w5.cell? ⟨M,3,none⟩=some (.map (some mp)):=(hb5.cell (p:=⟨M,3,none⟩) (Nat.lt_trans hnq hq1)).trans m3
       have x1:w5.cell? ⟨w.heap.size,1,none⟩=some (.int .i64 c):=(hb5.cell (p:=⟨w.heap.size,1,none⟩) hq1).trans b1
       have x2:w5.cell? ⟨w.heap.size,2,none⟩=some (.slice ta t.length tcap):=(hb5.cell (p:=⟨w.heap.size,2,none⟩) hq1).trans b2
       have hb6:=Lib.hid (((Below.refl _ W1).drew).trans (hb5.mono (Nat.le_of_lt hq1)))
       clear hb5))
 have HE:Hid (∃S',(∀b,S' b→S b∨w.heap.size≤b)∧LTo M K mp av N cl r S' w w5):=Lib.hid ⟨S,fun b hb=> .inl hb,(LTo.refl HS.out).below (HA.out.trans hb6.out)⟩
 clear l5 x3 x1 x2 hb6 HLK HTX HS HP
 go_wp2_with fail
 go_ret
 exact⟨rfl,HE.out⟩
theorem mkF_far {am:List (Int×List (Int×Int))}{n:Nat}{f:FT}{N:Nat}{cl:List (List Int)}(h:madeF n f=true)(hb:am.length+N+siz n f≤100000): -100000≤(mkF am n f N cl).lit∧(mkF am n f N cl).lit≤100000:=by
 have:=(mkF_fits am n f N cl h).2
 omega
theorem Tens.low {M:Nat}{w w':World}(h:Tens M w)(hb:Below M w w'):Tens M w':=h.up hb (Nat.le_refl _)
theorem lit_4 (am:List (Int×List (Int×Int)))(B M K mp:Nat)(av:Value)(hB:B≤M)(hmp:mp<M)(n:Nat)(IH:LitSaid am B M K mp av n)(f:FT)(cs:List Value)(N:Nat)(cl:List (List Int))(r:Option Nat)(S:Nat→Prop)(w:World)(h:FLies B w (n+1) f cs)(hm:madeF (n+1) f=true)(hS:LS M K mp av N cl r S w)(hp:Places am mp w)(ht:Tens M w)(hb1:am.length+N+siz (n+1) f≤100000)(hb2:cl.length+2*siz (n+1) f≤1000000)(h4:f.kind=4):
 Calls Tryz.prog 55 #[.pointer (some ⟨M,0,none⟩),.agg cs.toArray] w fun e w'=>e= .returned (.int .i64 (mkF am (n+1) f N cl).lit)∧∃S',(∀b,S' b→S b∨w.heap.size≤b)∧LTo M K mp av (mkF am (n+1) f N cl).n (mkF am (n+1) f N cl).cl r S' w w':=by
 obtain⟨ta,tcap,ka,kcap,rfl,hT,hl1,hl2,hks⟩:=h
 obtain⟨hk1,hkk⟩:=made_not hm h4
 have hs0:siz n (f.ks.getD 0 default)≤siz (n+1) f:=by
  have e1:=sizTo_succ n f.ks 0 (by omega)
  have e2:=sizTo_len n f
  rw[hk1]at e2
  rw[sizTo_zero,show(0:Nat)+1=1 from rfl]at e1
  omega
 rw[mkF_4 h4]
 have hmk:=made_kids hm 0 (by omega)
 have hfar:=mkF_far (cl:=cl) hmk (show am.length+N+siz n (f.ks.getD 0 default)≤100000 by omega)
 obtain⟨b,off,c0,c1,c2,c3,rfl,hbl,g0,g1,g2,g3,hf⟩:=hks 0 (by omega)
 obtain⟨ck,cc,cta,ctn,ctcap,cka,ckn,ckcap,rfl,rfl,rfl,rfl⟩:=hf.form
 have hMw:=hS.size
 have hA:Below w.heap.size w (w.alloc (.cells #[.int .i64 f.kind,.int .i64 f.c,.slice ta f.t.length tcap,.slice (some ⟨b,off,none⟩) f.ks.length kcap] 39)):=(Below.refl _ w).alloc (Nat.le_refl _) _
 have hih:=IH (f.ks.getD 0 default) _ N cl r S _ (hf.below (hA.mono (by omega))) hmk (hS.below hA) (hp.keep (hA.block mp (by omega))) (ht.low (hA.mono (Nat.le_of_lt hMw))) (by omega) (by omega)
 have HB:=box_start w f.kind f.c ta (some ⟨b,off,none⟩) f.t.length tcap f.ks.length kcap
 have b0:=HB.c0
 have b3:=HB.c3
 have hbw:b<w.heap.size:=by omega
 rw[←hA.cell (p:=⟨b,_,none⟩) hbw]at g0 g1 g2 g3
 have HA:=Lib.hid hA
 have HIH:=Lib.hid hih
 clear hks hT hmk hf hih IH hS hp ht HB hA hs0 hb1 hb2 hm hl1 hl2 hkk
 rw[h4]at*
 rw[hk1]at*
 clear hk1 h4
 generalize mkF am n (f.ks.getD 0 default) N cl=q at*
 have hw:IntKind.i64.wrap (-q.lit)= -q.lit:=IntWalk.i64_in _ (by omega)
 simp only[Nat.zero_mul,Nat.add_zero]at g0 g1 g2 g3
 generalize f.c=fc at*
 generalize f.t.length=ft at*
 go_enter Tryz.func55,Tryz.ntmps55
 go_wp2_with fail
 generalize w.alloc (.cells #[.int .i64 4,.int .i64 fc,.slice ta ft tcap,.slice (some ⟨b,off,none⟩) 1 kcap] 39)=W1 at*
 refine HIH.out.mono ?_
 rintro e w2 ⟨rfl,S',hS1,r2,hL,hr,hK⟩
 have HE:Hid (∃S',(∀b,S' b→S b∨w.heap.size≤b)∧LTo M K mp av q.n q.cl r S' w w2):=Lib.hid ⟨S',fun b hb=>(hS1 b hb).imp id (fun h=>Nat.le_trans HA.out.size h),r2,hL,next_trans (.inl rfl) HA.out.size hr,keptW_trans (.inl rfl) (.of_below HA.out) hK⟩
 clear hS1 hL hr hK g0 g1 g2 g3 b0 b3 HIH HA
 go_wp2_with fail
 go_ret
 exact⟨rfl,HE.out⟩
end
section
open Go.RowKit
structure KeptG (M mp:Nat)(r:Option Nat)(w w':World):Prop where
 os:w'.os=w.os
 tape:w'.tape=w.tape
 output:w'.output=w.output
 size:w.heap.size≤w'.heap.size
 block:∀q,q<w.heap.size→q≠M→q≠mp→some q≠r→w'.heap[q]? =w.heap[q]?
theorem KeptG.of_below {M mp:Nat}{r:Option Nat}{w w':World}(hb:Below w.heap.size w w'):KeptG M mp r w w':=⟨hb.os,hb.tape,hb.output,hb.size,fun q hq _ _ _=>hb.block q hq⟩
theorem keptG_trans {M mp:Nat}{r r':Option Nat}{w w1 w2:World}(hr:r'=r∨∃q,r'=some q∧w.heap.size≤q)(h:KeptG M mp r w w1)(k:KeptG M mp r' w1 w2):KeptG M mp r w w2:=
 ⟨k.os.trans h.os,k.tape.trans h.tape,k.output.trans h.output,Nat.le_trans h.size k.size,fun q hq h1 h2 h3=>(k.block q (Nat.lt_of_lt_of_le hq h.size) h1 h2 (fun e=>by
   rcases hr with rfl | ⟨p,rfl,hp⟩
   ·exact h3 e
   ·injection e with e;omega)).trans (h.block q hq h1 h2 h3)⟩
structure GS (M K mp:Nat)(am:List (Int×List (Int×Int)))(r:Option Nat)(S:Nat→Prop)(w:World):Prop where
 c0:w.cell? ⟨M,0,none⟩=some (.int .i64 0)
 ex:∃v,w.cell? ⟨M,1,none⟩=some v∧v.ownBlock=r∧OwnP linSh 36 K S am v w
 c2:w.cell? ⟨M,2,none⟩=some (.slice none 0 0)
 c3:w.cell? ⟨M,3,none⟩=some (.map (some mp))
 lo:∀b,S b→K≤b
 fz:∀j,w.frozen? ⟨M,j,none⟩=false
 lt:mp<M∧M<K∧K≤w.heap.size
 pl:Places am mp w
 nf:∀b,S b→∀o,w.frozen? ⟨b,o,none⟩=false
def GTo (M K mp:Nat)(am:List (Int×List (Int×Int)))(r:Option Nat)(S':Nat→Prop)(w w':World):Prop:=∃r',GS M K mp am r' S' w'∧(r'=r∨∃q,r'=some q∧w.heap.size≤q)∧KeptG M mp r w w'
section
variable {M K mp:Nat} {am:List (Int×List (Int×Int))} {r r':Option Nat} {S:Nat→Prop} {w w1 w2 w':World}
theorem GTo.refl (h:GS M K mp am r S w):GTo M K mp am r S w w:=⟨r,h,.inl rfl,.of_below (Below.refl _ _)⟩
theorem GS.size (h:GS M K mp am r S w):M<w.heap.size:=Nat.lt_of_lt_of_le h.lt.2.1 h.lt.2.2
theorem GS.row (h:GS M K mp am r S w):∀q,r=some q→K≤q∧q<w.heap.size∧¬S q:=fun q hq=>by
 obtain⟨v,h1,h2,h3⟩:=h.ex
 exact⟨(h3.lt q (h2.trans hq)).1,(h3.lt q (h2.trans hq)).2,fun hs=>(h3.ok q hs).2 (h2.trans hq)⟩
theorem GS.ok (h:GS M K mp am r S w):∀b,S b→b<w.heap.size:=fun b hb=>by
 obtain⟨v,h1,h2,h3⟩:=h.ex
 exact(h3.ok b hb).1
theorem GS.keep (h:GS M K mp am r S w)(hsz:w.heap.size≤w'.heap.size)(hM:w'.heap[M]? =w.heap[M]?)(hmp:w'.heap[mp]? =w.heap[mp]?)(hk:∀q,(S q∨r=some q)→w'.heap[q]? =w.heap[q]?):GS M K mp am r S w':=by
 obtain⟨v,h1,h2,h3⟩:=h.ex
 have c:=fun j=>World.cell?_of_block (a:=⟨M,j,none⟩) hM
 exact⟨(c 0).trans h.c0,⟨v,(c 1).trans h1,h2,h3.keep hsz (fun q hq=>hk q (by rw[←h2];exact hq))⟩,(c 2).trans h.c2,(c 3).trans h.c3,h.lo,fun j=>(World.frozen?_of_block (a:=⟨M,j,none⟩) hM).trans (h.fz j),⟨h.lt.1,h.lt.2.1,Nat.le_trans h.lt.2.2 hsz⟩,h.pl.keep hmp,fun b hb o=>(World.frozen?_of_block (a:=⟨b,o,none⟩) (hk b (.inl hb))).trans (h.nf b hb o)⟩
theorem GS.below (h:GS M K mp am r S w)(hb:Below w.heap.size w w'):GS M K mp am r S w':=
 h.keep hb.size (hb.block M h.size) (hb.block mp (Nat.lt_trans h.lt.1 h.size)) (fun q hq=>hb.block q (by
  rcases hq with hq | hq
  ·exact h.ok q hq
  ·exact(h.row q hq).2.1))
theorem GS.low (hs:GS M K mp am r S w)(k3:KeptG M mp r w w'):Below mp w w':=by
 have h1:=hs.lt
 exact⟨k3.os,k3.tape,k3.output,k3.size,fun q hq=>k3.block q (by omega) (by omega) (by omega) (fun e=>by have:=hs.row q e.symm;omega)⟩
theorem GS.add {a:Option Addr}{n cap:Nat}{c:Int}{t:List (Int×Int)}{Sx:Nat→Prop}(h:GS M K mp am r S w)(hn:am.length≤1000000)(h0:atN am (c,t)=0)(htn:t.length=n)(hs:(textL c t).length≤4000)(hx:LiesS Sx w a t)(hSx:∀b,Sx b→K≤b∧b<w.heap.size∧r≠some b)(hNx:∀b,Sx b→∀o,w.frozen? ⟨b,o,none⟩=false):
 ∃v a6 n6 c6 w6 w8,n6=am.length+1∧w.cell? ⟨M,1,none⟩=some v∧(∀ty,(Builtin.append_ #[22,22] ty #[v,.slice (some ⟨w.heap.size,0,none⟩) 1 1]).run Tryz.prog (w.alloc (.cells #[.int .i64 c,.slice a n cap] 36))= .ok (.slice a6 n6 c6) w6)∧w6.cell? ⟨M,1,none⟩=some v∧w6.frozen? ⟨M,1,none⟩=false∧
  (w6.setCell ⟨M,1,none⟩ (.slice a6 n6 c6)).cell? ⟨M,1,none⟩=some (.slice a6 n6 c6)∧(w6.setCell ⟨M,1,none⟩ (.slice a6 n6 c6)).cell? ⟨M,3,none⟩=some (.map (some mp))∧
  (Instr.mapUpdate 108 (.map (some mp)) (.string ⟨(textL c t).toArray⟩) (.int .i64 (n6:Nat))).run Tryz.prog (w6.setCell ⟨M,1,none⟩ (.slice a6 n6 c6)).drew= .ok () w8∧GTo M K mp (am ++ [(c,t)]) r (fun b=>S b∨Sx b) w w8:=by
 obtain⟨v,h1,h2,h3⟩:=h.ex
 have h4:=h.lo
 have hl:=h.lt
 obtain⟨v6,w6,hr,k1,k2,k3⟩:=h3.put (P:=Tryz.prog) (t:=22) (x:=(c,t)) (cs:=[.int .i64 c,.slice a n cap]) (Sx:=Sx) Tryz.underlying22 (by':=32) (by kernel_rfl) (by decide) (by decide) (by omega) hl.2.2 ⟨a,cap,by rw[htn],hx⟩ (fun b hb=>⟨(hSx b hb).2.1,by rw[h2];exact(hSx b hb).2.2⟩)
 have hrM:v.ownBlock≠some M:=fun e=>by have:=(h3.lt M e).1;omega
 have hrm:v.ownBlock≠some mp:=fun e=>by have:=(h3.lt mp e).1;omega
 have hlt:M<w.heap.size:=by omega
 have hg6:w6.heap[M]? =w.heap[M]? :=k2.block M hlt (fun e=>hrM e.symm)
 have hm6:w6.heap[mp]? =w.heap[mp]? :=k2.block mp (by omega) (fun e=>hrm e.symm)
 have cc:=fun j=>World.cell?_of_block (a:=⟨M,j,none⟩) hg6
 have hs6:=k2.size
 have hsz:(w6.setCell ⟨M,1,none⟩ v6).heap.size=w6.heap.size:=by simp[World.setCell]
 have k4:∀b,S b∨Sx b→K≤b:=fun b hb=>by
  rcases hb with hb | hb
  ·exact h4 b hb
  ·exact(hSx b hb).1
 have hv6:∀q,v6.ownBlock=some q→K≤q:=fun q hq=>(k1.lt q hq).1
 obtain⟨a6,c6,e6⟩:=k1.form
 rw[List.length_append]at e6
 obtain⟨n6,hn6⟩:∃n6,n6=am.length+1:=⟨_,rfl⟩
 rw[show am.length+[(c,t)].length=n6 by rw[hn6];rfl]at e6
 have hp7:Places am mp (w6.setCell ⟨M,1,none⟩ v6):=h.pl.keep ((Below.heap_setCell _ _ _ _ (show mp≠M by omega)).trans hm6)
 have hd7:Below (w6.setCell ⟨M,1,none⟩ v6).heap.size (w6.setCell ⟨M,1,none⟩ v6) (w6.setCell ⟨M,1,none⟩ v6).drew:=(Below.refl _ _).drew
 obtain⟨w8,hu,p8,g8'⟩:=(hp7.keep (w':=(w6.setCell ⟨M,1,none⟩ v6).drew) rfl).put hs hn h0
 have g8:(w6.setCell ⟨M,1,none⟩ v6).grownBy w8 (some mp):=⟨g8'.os.trans hd7.os,g8'.tape.trans hd7.tape,g8'.output.trans hd7.output,Nat.le_trans hd7.size g8'.size,fun q hq hne=>(g8'.block q (Nat.lt_of_lt_of_le hq hd7.size) hne).trans (hd7.block q hq)⟩
 rw[←hn6]at hu
 have hne:M≠mp:=by omega
 have z8:=g8.size
 have b8:∀q,q<w6.heap.size→q≠mp→w8.heap[q]? =(w6.setCell ⟨M,1,none⟩ v6).heap[q]? :=fun q hq hne=>g8.block q (by rw[hsz];exact hq) (fun e=>by injection e with e;exact hne e)
 have hM6:M<w6.heap.size:=by omega
 have x8:=fun j=>World.cell?_of_block (a:=⟨M,j,none⟩) (b8 M hM6 hne)
 have f8:=fun j=>World.frozen?_of_block (a:=⟨M,j,none⟩) (b8 M hM6 hne)
 have s1:(w6.setCell ⟨M,1,none⟩ v6).cell? ⟨M,1,none⟩=some v6:=World.cell?_setCell_same' _ _ _ (by rw[cc 1,h1];rfl)
 have s3:(w6.setCell ⟨M,1,none⟩ v6).cell? ⟨M,3,none⟩=some (.map (some mp)):=(World.cell?_setCell_other w6 ⟨M,1,none⟩ ⟨M,3,none⟩ _ (by simp)).trans ((cc 3).trans h.c3)
 have ow7:OwnP linSh 36 K (fun b=>S b∨Sx b) (am ++ [(c,t)]) v6 (w6.setCell ⟨M,1,none⟩ v6):=k1.grown (grown_set _) (fun q hq=>by
  injection hq with hq
  subst hq
  exact⟨fun hb=>by have:=k4 M hb;omega,fun e=>by have:=hv6 M e;omega⟩)
 have ow8:OwnP linSh 36 K (fun b=>S b∨Sx b) (am ++ [(c,t)]) v6 w8:=ow7.grown g8 (fun q hq=>by
  injection hq with hq
  subst hq
  exact⟨fun hb=>by have:=k4 mp hb;omega,fun e=>by have:=hv6 mp e;omega⟩)
 rw[hsz]at z8
 subst e6
 refine⟨v,a6,n6,c6,w6,w8,hn6,h1,hr,(cc 1).trans h1,(World.frozen?_of_block (a:=⟨M,1,none⟩) hg6).trans (h.fz 1),s1,s3,hu,Value.ownBlock (.slice a6 n6 c6),⟨(x8 0).trans ((World.cell?_setCell_other w6 ⟨M,1,none⟩ ⟨M,0,none⟩ _ (by simp)).trans ((cc 0).trans h.c0)),⟨_,(x8 1).trans s1,rfl,ow8⟩,(x8 2).trans ((World.cell?_setCell_other w6 ⟨M,1,none⟩ ⟨M,2,none⟩ _ (by simp)).trans ((cc 2).trans h.c2)),(x8 3).trans s3,k4,fun j=> ?_,⟨hl.1,hl.2.1,by omega⟩,p8,fun b hb o=> ?_⟩,by rw[←h2];exact k3,⟨g8.os.trans k2.os,g8.tape.trans k2.tape,g8.output.trans k2.output,by omega,fun q hq h5 h6 h7=> ?_⟩⟩
 ·rw[f8 j,World.frozen?_setCell,World.frozen?_of_block (a:=⟨M,j,none⟩) hg6]
  exact h.fz j
 ·have hbz:b<w.heap.size∧v.ownBlock≠some b:=by
   rcases hb with hb | hb
   ·exact h3.ok b hb
   ·exact⟨(hSx b hb).2.1,by rw[h2];exact(hSx b hb).2.2⟩
  have hKb:=k4 b hb
  rw[World.frozen?_of_block (a:=⟨b,o,none⟩) (b8 b (by omega) (by omega)),World.frozen?_setCell,World.frozen?_of_block (a:=⟨b,o,none⟩) (k2.block b hbz.1 (fun e=>hbz.2 e.symm))]
  rcases hb with hb | hb
  ·exact h.nf b hb o
  ·exact hNx b hb o
 ·rw[b8 q (by omega) h6,Below.heap_setCell _ _ _ _ h5,k2.block q hq (by rw[h2];exact h7)]
end
end
section
open Go.RowKit
theorem atN_at:∀(am:List (Int×List (Int×Int))) (x:Int×List (Int×Int)) (k:Nat) (h:k<am.length),(∀j (hj:j<k),am[j]'(by omega)≠x)→am[k]=x→atN am x=k+1
 | a :: am,x,0,h,_,e=>by
   have e:a=x:=e
   rw[atN,if_pos e]
 | a :: am,x,k+1,h,hn,e=>by
   have h0:a≠x:=hn 0 (by omega)
   have:=atN_at am x k (by simp at h;omega) (fun j hj=>hn (j+1) (by omega)) e
   rw[atN,if_neg h0,this,if_neg (by omega)]
theorem atN_none:∀(am:List (Int×List (Int×Int))) (x:Int×List (Int×Int)),(∀j (hj:j<am.length),am[j]≠x)→atN am x=0
 | [],x,_=>rfl
 | a :: am,x,hn=>by
   have h0:a≠x:=hn 0 (by simp)
   have:=atN_none am x (fun j hj=>hn (j+1) (by simp;omega))
   rw[atN,if_neg h0,this,if_pos rfl]
theorem same_iff {c d:Int}{l m:List (Int×Int)}:same c d l m=decide ((c,l)=(d,m)):=by
 unfold same
 by_cases h1:c=d<;>by_cases h2:l=m<;>simp[h1,h2]
theorem at_any (S:Nat→Prop)(a:Option Addr)(n cap:Nat)(am:List (Int×List (Int×Int)))(c:Int)(ta:Option Addr)(tn tcap:Nat)(t:List (Int×Int))(w:World)(hs:Pak.Sits linSh S w a am)(hS:∀b,S b→b<w.heap.size)(hn:am.length=n)(hl:∀y∈am,y.2.length≤9223372036854775807)(ht:Lies w.heap.size w ta t)(htn:t.length=tn)(htm:tn≤9223372036854775807):
 Calls Tryz.prog 98 #[.slice a n cap,.agg #[.int .i64 c,.slice ta tn tcap]] w fun e w'=>e= .returned (.int .i64 (atN am (c,t)))∧Below w.heap.size w w':=by
 have hA:Below w.heap.size w (w.alloc (.cells #[.int .i64 c,.slice ta tn tcap] 36)):=(Below.refl _ w).alloc (Nat.le_refl _) _
 have hnw:=heap_alloc_new w (.cells #[.int .i64 c,.slice ta tn tcap] 36)
 have x0:(w.alloc (.cells #[.int .i64 c,.slice ta tn tcap] 36)).cell? ⟨w.heap.size,0,none⟩=some (.int .i64 c):=(cell_of_row _ _ _ _ _ _ hnw).trans rfl
 have x1:(w.alloc (.cells #[.int .i64 c,.slice ta tn tcap] 36)).cell? ⟨w.heap.size,1,none⟩=some (.slice ta tn tcap):=(cell_of_row _ _ _ _ _ _ hnw).trans rfl
 have hz:w.heap.size<(w.alloc (.cells #[.int .i64 c,.slice ta tn tcap] 36)).heap.size:=by simp
 have HZ:=Lib.hid hz
 have HX0:=Lib.hid x0
 have HX1:=Lib.hid x1
 have HA:=Lib.hid hA
 have HS:=Lib.hid hS
 have HL:=Lib.hid hs.2
 have hnm:n≤9223372036854775807:=by rw[←hn];exact hs.1
 have HN:=Lib.hid hn
 have HSM:=Lib.hid (fun(b:Option Addr) (y:Int×List (Int×Int)) (bcap:Nat) (W:World) (hy:y∈am) (hb:Below w.heap.size w W) (hlb:Lies w.heap.size w b y.2)=>same_any y.1 c b ta y.2.length tn bcap tcap y.2 t W rfl htn (hl y hy) htm ((hlb.below hb).mono hb.size) ((ht.below hb).mono hb.size))
 have HYES:=Lib.hid (fun k h1 h2 h3=>atN_at am (c,t) k h1 h2 h3)
 have HNO:=Lib.hid (fun h=>atN_none am (c,t) h)
 clear hA hnw hz hS hs hl ht htn htm hn
 generalize atN am (c,t)=r at*
 go_enter Tryz.func98,Tryz.ntmps98
 go_wp2_with fail
 clear x0 x1
 generalize w.alloc (.cells #[.int .i64 c,.slice ta tn tcap] 36)=W1 at*
 go_loopw [5] (fun i wr=>∃k:Nat,i= .int .i64 k∧k≤n∧Hid (∀j (hj:j<k) (hj2:j<am.length),am[j]≠(c,t))∧Hid (Below W1.heap.size W1 wr)) (fun i _=>n - (intOf i).toNat)
 case atStart=>exact⟨0,rfl,Nat.zero_le _,fun j hj=>absurd hj (Nat.not_lt_zero _),Below.refl _ _⟩
 case round=>
  obtain⟨k,rfl,hk,hno,hb⟩:=hrel
  by_cases hlt:k<n
  ·have hlti:(k:Int)<(n:Int):=by omega
   have hkl:k<am.length:=by rw[HN.out];exact hlt
   obtain⟨b,off,cs,rfl,hSb,hc,ya,ycap,rfl,hly⟩:=HL.out k hkl
   have hB:Below w.heap.size w wr:=HA.out.trans (hb.out.mono HA.out.size)
   have hbl:=HS.out b hSb
   have ek:linSh.k=2:=rfl
   have c0:=hc 0 _ rfl
   have c1:=hc 1 _ rfl
   rw[ek,Nat.add_zero]at c0
   rw[ek]at c1
   rw[←hB.cell (p:=⟨b,_,none⟩) hbl]at c0 c1
   have y0:=(hb.out.cell (p:=⟨w.heap.size,0,none⟩) HZ.out).trans HX0.out
   have y1:=(hb.out.cell (p:=⟨w.heap.size,1,none⟩) HZ.out).trans HX1.out
   have HSM2:=Lib.hid (fun W hW=>HSM.out ya am[k] ycap W (List.getElem_mem hkl) hW (hly.lies HS.out))
   have HY2:=Lib.hid (HYES.out k hkl (fun j hj=>hno.out j hj (by omega)))
   have HNX:Hid (am[k]≠(c,t)→∀j (hj:j<k+1) (hj2:j<am.length),am[j]≠(c,t)):=Lib.hid fun h j hj hj2=>by
    by_cases e:j=k
    ·subst e;exact h
    ·exact hno.out j (by omega) hj2
   clear hc hly ek hSb
   generalize am[k]=y at*
   obtain⟨yc,yt⟩:=y
   have HB:=Lib.hid hB
   have hzw:w.heap.size≤wr.heap.size:=hB.size
   have cS:=fun p os=>Calls.regrown_of (HSM2.out _ (regrown_trans HB.out hzw p os))
   have HSI:=Lib.hid (same_iff (c:=yc) (d:=c) (l:=yt) (m:=t))
   generalize same yc c yt t=z at*
   have q0:=fun d os=>cell_regrown c0 d os
   have q1:=fun d os=>cell_regrown c1 d os
   have q2:=fun d os=>cell_regrown y0 d os
   have q3:=fun d os=>cell_regrown y1 d os
   clear c0 c1 y0 y1
   go_wp2_with fail
   refine wp_region_quiet_below (by kernel_rfl) (by kernel_rfl) ?_
   repeat (go_big_quiet_step (with_reducible exact cS _ _))
   refine wpQuiet_nil ?_
   intro w9 hw'
   obtain⟨⟨dq,osq⟩,hw''⟩:=hw'
   have HB9:Hid (Below W1.heap.size W1 w9):=Lib.hid (by rw[hw''];exact hb.out.trans ((below_regrown wr dq osq).mono hb.out.size))
   clear hw'' q0 q1 q2 q3 cS HSM2 HB
   cases z with
   | true=>
     have e:=of_decide_eq_true HSI.out.symm
     have hr:=HY2.out e
     have hw:IntKind.i64.wrap ((k:Int)+1)=((k+1:Nat):Int):=by rw[IntWalk.i64_in _ (by omega)];rfl
     have HE:Hid (Below w.heap.size w w9):=HA.out.trans (HB9.out.mono HA.out.size)
     clear HY2 HNX HSI e
     go_wp2_with fail
     go_ret
     exact⟨by rw[hr];rfl,HE.out⟩
   | false=>
     have HNN:=Lib.hid (HNX.out (of_decide_eq_false HSI.out.symm))
     clear HY2 HNX HSI
     go_wp2_with fail
     go_roundw
     case rel=>exact⟨k+1,by go_num,by omega,HNN,HB9⟩
     case measure=>simp[intOf];omega
  ·have hlti:¬(k:Int)<(n:Int):=by omega
   obtain rfl:k=n:=by omega
   have hr:=HNO.out (fun j hj=>hno.out j (by rw[HN.out]at hj;exact hj) hj)
   have HE:Hid (Below w.heap.size w wr):=HA.out.trans (hb.out.mono HA.out.size)
   clear hno hb
   go_wp2_with fail
   go_ret
   exact⟨rfl,HE.out⟩
end
end Go.Proofs.YtipahfcaplbifaaGreatDoor
