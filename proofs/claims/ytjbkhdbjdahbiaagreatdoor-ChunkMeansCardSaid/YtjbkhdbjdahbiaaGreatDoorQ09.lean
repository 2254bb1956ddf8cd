/- Parts of a proof. -/
import Derived.Test.YtjbkhdbjdahbiaaGreatDoorQ01
import Derived.Test.YtjbkhdbjdahbiaaGreatDoorQ02
import Derived.Test.YtjbkhdbjdahbiaaGreatDoorQ03
import Derived.Test.YtjbkhdbjdahbiaaGreatDoorQ04
import Derived.Test.YtjbkhdbjdahbiaaGreatDoorQ06
import Derived.Test.YtjbkhdbjdahbiaaGreatDoorQ07
import Derived.Deep.AppendLies
import Derived.Deep.RegionHeld3
import Derived.Deep.RegionWith
import Derived.Laws.AppendOwnNone
import Derived.Deep.Slices
import Derived.Deep.Fields
import Derived.Lib.SmallJoins
set_option linter.unusedVariables false
set_option linter.unusedSimpArgs false
set_option maxHeartbeats 60000000
set_option maxRecDepth 100000
namespace Go.Proofs.YtjbkhdbjdahbiaaGreatDoor
section
open Go.RowKit
theorem run_push_l {P:Program}{T:Type}{sh:Pak.Sh T}{w:World}(t e:TypeId)(i:TypeInfo)(z:Value)(by':Nat)(ht:P.underlying t=some (.slice e))(hi:P.info? e=some i)(hz:i.zero=some z)(hs:i.size=sh.k)(hby:i.bytes=by')(hb1:by'≤512)(hzs:z.cells.size=sh.k)(hk:0<sh.k)
 (B:Nat) (xs:List T) (x:T) (v:Value) (cs:List Value) (h:OwnL sh e B xs v w) (hB:B≤w.heap.size) (hx:sh.rel (fun b=>b<w.heap.size∧v.ownBlock≠some b) w cs x) (hsz:xs.length≤1000000):
 ∃v' w',(∀ty,(Builtin.append_ #[t,t] ty #[v,.slice (some ⟨w.heap.size,0,none⟩) 1 1]).run P (w.alloc (.cells cs.toArray e))= .ok v' w')∧OwnL sh e B (xs ++ [x]) v' w'∧Below B w w'∧(∀b,v'.ownBlock=some b→v.ownBlock=some b∨w.heap.size≤b)∧w.grownBy w' v.ownBlock:=by
 have hA:Below w.heap.size w (w.alloc (.cells cs.toArray e)):=(Below.refl _ w).alloc (Nat.le_refl _) _
 have hlen:=sh.len hx
 have hvlt:∀b,v.ownBlock=some b→b<w.heap.size:=by
  obtain⟨css,_,h2,_⟩:=h.row
  exact fun b hb=>(World.ownsRow.lt h2 b hb).2
 have hvb:∀b,v.ownBlock=some b→B≤b:=by
  obtain⟨css,_,h2,_⟩:=h.row
  exact fun b hb=>(World.ownsRow.lt h2 b hb).1
 have hnew:=heap_alloc_new w (.cells cs.toArray e)
 have hcell:∀j u,cs[j]? =some u→(w.alloc (.cells cs.toArray e)).cell? ((⟨w.heap.size,0,none⟩:Addr).add j)=some u:=fun j u hu=>by
  rw[show(⟨w.heap.size,0,none⟩:Addr).add j=⟨w.heap.size,0+j,none⟩ by unfold Addr.add;split<;>simp_all,Nat.zero_add,cell_of_row _ _ _ _ _ _ hnew,List.getElem?_toArray]
  exact hu
 have hmul:(xs.length+1)*by'≤1000001*512:=Nat.mul_le_mul (by omega) hb1
 obtain⟨css,c1,c2,c3⟩:=(h.below hA).row
 have hrun:=fun(zs:List Value) (ho:(w.alloc (.cells cs.toArray e)).ownsRow B e sh.k v xs.length zs)=>run_append_lies (P:=P) (w.alloc (.cells cs.toArray e)) t t B e i z sh.k by' ht hi hz hs hby hzs hk v xs.length zs ho ⟨w.heap.size,0,none⟩ 1 1 cs (by omega) hcell (sh.one hx) (by omega) (by unfold maxLen;omega) (by omega) (Nat.le_trans hB hA.size) _ rfl
 obtain⟨g,cap',w',hr,h2,h3,h4,h5⟩:=hrun _ c2
 have hbel:Below B w w':=(hA.mono hB).trans ((Below.refl B _).grown h3 (Nat.le_trans hB hA.size) hvb)
 refine⟨_,w',fun ty=>hr, ?_,hbel,fun b hb=> ?_, ?_⟩
 ·refine h.step hA hB (sh.keep (fun b ⟨a2,a3⟩=>⟨Nat.lt_of_lt_of_le a2 hA.size,a3⟩) (fun b o ⟨a2,_⟩=>hA.cell (p:=⟨b,o,none⟩) a2) hx) h3 (Nat.le_refl _) rfl h4 (fun zs hzs2=> ?_)
  obtain⟨g',cap2,w2,hr2,h22,_⟩:=hrun zs hzs2
  rw[hr]at hr2
  injection hr2 with e1 e2
  rw[e1,e2]
  exact h22
 ·injection hb with hb
  subst hb
  rcases h4 with h4 | h4
  ·exact .inl h4
  ·right
   rw[h4]
   exact hA.size
 ·exact⟨h3.os.trans hA.os,h3.tape.trans hA.tape,h3.output.trans hA.output,Nat.le_trans hA.size h3.size,fun q hq hne=>(h3.block q (Nat.lt_of_lt_of_le hq hA.size) hne).trans (hA.block q hq)⟩
end
section
open Go.RowKit
def monoSh:Pak.Sh (Int×Int) where
 k:=2
 rel:=fun _ _ cs x=>cs=[.int .i64 x.1,.int .i64 x.2]
 len:=fun h=>by rw[h];rfl
 one:=fun h u hu=>by rw[h]at hu;simp at hu;rcases hu with rfl | rfl<;>rfl
 keep:=fun _ _ h=>h
theorem lies_of {B:Nat}{w:World}{a:Option Addr}{l:List (Int×Int)}(h:Pak.Sits monoSh (Pak.Lo B) w a l):Lf.Lies B w a l:=fun i hi=>by
 obtain⟨b,off,cs,e,hb,hc,hr⟩:=h.2 i hi
 obtain rfl:cs=_:=hr
 have e0:l.getD i (0,0)=l[i]:=by rw[List.getD_eq_getElem?_getD,List.getElem?_eq_getElem hi];rfl
 rw[e0]
 exact⟨b,off,e,hb,hc 0 _ rfl,hc 1 _ rfl⟩
theorem sits_of_lies {B:Nat}{w:World}{a:Option Addr}{l:List (Int×Int)}(h:Lf.Lies B w a l)(hl:l.length≤9223372036854775807):Pak.Sits monoSh (Pak.Lo B) w a l:=⟨hl,fun i hi=>by
 obtain⟨b,off,e,hb,h1,h2⟩:=h i hi
 have e0:l.getD i (0,0)=l[i]:=by rw[List.getD_eq_getElem?_getD,List.getElem?_eq_getElem hi];rfl
 rw[e0]at h1 h2
 refine⟨b,off,_,e,hb,fun j u hu=> ?_,rfl⟩
 match j,hu with
 | 0,hu=>injection hu with hu;rw[←hu];exact h1
 | 1,hu=>injection hu with hu;rw[←hu];exact h2⟩
abbrev LT:=Int×List (Int×Int)
def LinRel (S:Nat→Prop)(w:World)(c v:Value)(x:LT):Prop:=c= .int .i64 x.1∧∃a cap,v= .slice a x.2.length cap∧(a=none→cap=0)∧Pak.Sits monoSh S w a x.2
theorem LinRel.keep {S S':Nat→Prop}{w w':World}{c v:Value}{x:LT}(hS:∀b,S b→S' b)(hk:∀b o,S b→w'.cell? ⟨b,o,none⟩=w.cell? ⟨b,o,none⟩)(h:LinRel S w c v x):LinRel S' w' c v x:=by
 obtain⟨h1,a,cap,h2,h3,h4⟩:=h
 exact⟨h1,a,cap,h2,h3,h4.keep hS hk⟩
theorem LinRel.one {S:Nat→Prop}{w:World}{c v:Value}{x:LT}(h:LinRel S w c v x):c.oneCell'=true∧v.oneCell'=true:=by
 obtain⟨rfl,a,cap,rfl,_⟩:=h
 exact⟨rfl,rfl⟩
def linSh:Pak.Sh LT where
 k:=2
 rel:=fun S w cs x=>∃c v,cs=[c,v]∧LinRel S w c v x
 len:=fun⟨_,_,h,_⟩=>by rw[h];rfl
 one:=fun⟨_,_,h,h2⟩ u hu=>by rw[h]at hu;simp at hu;rcases hu with rfl | rfl;exact h2.one.1;exact h2.one.2
 keep:=fun hS hk ⟨c,v,h,h2⟩=>⟨c,v,h,h2.keep hS hk⟩
structure CK where
 a:LT
 f:ByteArray
 n:Int
 v:LT
def ck0:CK:=⟨(0,[]),ByteArray.empty,0,(0,[])⟩
instance:Inhabited CK:=⟨ck0⟩
def ckSh:Pak.Sh CK where
 k:=6
 rel:=fun S w cs x=>∃c1 v1 c2 v2,cs=[c1,v1,.string x.f,.int .i64 x.n,c2,v2]∧x.f.size≤maxLen∧i64 x.n∧LinRel S w c1 v1 x.a∧LinRel S w c2 v2 x.v
 len:=fun⟨_,_,_,_,h,_⟩=>by rw[h];rfl
 one:=fun⟨_,_,_,_,h,_,_,h1,h2⟩ u hu=>by
  rw[h]at hu;simp at hu
  rcases hu with rfl | rfl | rfl | rfl | rfl | rfl
  ·exact h1.one.1
  ·exact h1.one.2
  ·rfl
  ·rfl
  ·exact h2.one.1
  ·exact h2.one.2
 keep:=fun hS hk ⟨c1,v1,c2,v2,h,h0,h0',h1,h2⟩=>⟨c1,v1,c2,v2,h,h0,h0',h1.keep hS hk,h2.keep hS hk⟩
def symSh:Pak.Sh (ByteArray×LT) where
 k:=3
 rel:=fun S w cs x=>∃c v,cs=[.string x.1,c,v]∧x.1.size≤maxLen∧LinRel S w c v x.2
 len:=fun⟨_,_,h,_⟩=>by rw[h];rfl
 one:=fun⟨_,_,h,_,h2⟩ u hu=>by rw[h]at hu;simp at hu;rcases hu with rfl | rfl | rfl;rfl;exact h2.one.1;exact h2.one.2
 keep:=fun hS hk ⟨c,v,h,h1,h2⟩=>⟨c,v,h,h1,h2.keep hS hk⟩
theorem LinRel.form {B:Nat}{w:World}{c v:Value}{x:LT}(h:LinRel (Pak.Lo B) w c v x):∃a cap,c= .int .i64 x.1∧v= .slice a x.2.length cap∧x.2.length≤9223372036854775807∧Lf.Lies B w a x.2∧(a=none→x.2.length=0∧cap=0):=by
 obtain⟨rfl,a,cap,rfl,h3,h4⟩:=h
 refine⟨a,cap,rfl,rfl,h4.1,lies_of h4,fun e=>⟨?_,h3 e⟩⟩
 by_cases e0:x.2.length=0
 ·exact e0
 ·obtain⟨b,off,cs,e1,_⟩:=h4.2 0 (by omega)
  rw[e]at e1
  cases e1
theorem linRel_of {B:Nat}{w:World}{c:Int}{l:List (Int×Int)}{a:Option Addr}{cap:Nat}(h:Lf.Lies B w a l)(hl:l.length≤9223372036854775807)(hn:a=none→l.length=0∧cap=0):LinRel (Pak.Lo B) w (.int .i64 c) (.slice a l.length cap) (c,l):=
 ⟨rfl,a,cap,rfl,fun e=>(hn e).2,sits_of_lies h hl⟩
end
section
open Go.RowKit
noncomputable def sumC (l:List (Int×Int)):List (Int×Int):=Classical.choose (Lf.exists_sum l)
theorem sumC_is (l:List (Int×Int)):Lf.IsSum l (sumC l):=Classical.choose_spec (Lf.exists_sum l)
theorem sumC_eq {l R:List (Int×Int)}(h:Lf.IsSum l R):sumC l=R:=(sumC_is l).unique h
theorem snd_sum_iff {c:Int}{l R:List (Int×Int)}(h:Lf.IsSum l R)(hV:∀m∈l,0≤m.1∧m.1<1048576):Lf.snd c R=true↔Lf.wi c 1073741824=true∧(∀m∈R,Lf.wi m.2 1073741824=true)∧R.length≤64:=by
 constructor
 ·intro hs
  refine⟨(Lf.snd_iff.1 hs).1,fun m hm=> ?_,(Lf.snd_iff.1 hs).2.1⟩
  have:=(Lf.snd_terms hs m hm).2
  unfold Lf.wi
  simpa using this
 ·rintro⟨h1,h2,h3⟩
  exact Lf.snd_of_sum h h1 h2 h3 hV
def Sd (a:LT):Prop:=Lf.snd a.1 a.2=true
theorem Sd.len {a:LT}(h:Sd a):a.2.length≤64:=(Lf.snd_iff.1 h).2.1
noncomputable def addS (x y:Int) (a b:LT):Option LT:=if Lf.snd (x*a.1+y*b.1) (sumC (Lf.scale x a.2 ++ Lf.scale y b.2))=true then some (x*a.1+y*b.1,sumC (Lf.scale x a.2 ++ Lf.scale y b.2)) else none
theorem addS_sd {x y:Int}{a b r:LT}(h:addS x y a b=some r):Sd r:=by
 unfold addS at h
 split at h
 ·injection h with h;subst h;assumption
 ·cases h
noncomputable def timesS (n:Int) (a:LT):Option LT:=if Lf.snd (n*a.1) (sumC (Lf.scale n a.2))=true then some (n*a.1,sumC (Lf.scale n a.2)) else none
theorem timesS_sd {n:Int}{a r:LT}(h:timesS n a=some r):Sd r:=by
 unfold timesS at h
 split at h
 ·injection h with h;subst h;assumption
 ·cases h
theorem add_fn (a b:LT)(x y:Int)(p q:Option Addr)(capa capb:Nat)(w:World)(ha:Sd a)(hb:Sd b)(hx: -4096≤x∧x≤4096)(hy: -4096≤y∧y≤4096)(hla:Lf.Lies w.heap.size w p a.2)(hlb:Lf.Lies w.heap.size w q b.2):
 (∃r,addS x y a b=some r∧Calls Tryz.prog 56 #[.agg #[.int .i64 a.1,.slice p a.2.length capa],.agg #[.int .i64 b.1,.slice q b.2.length capb],.int .i64 x,.int .i64 y] w (Lf.LinOk w.heap.size r.1 r.2 w))∨
 (addS x y a b=none∧∃k,Calls Tryz.prog 56 #[.agg #[.int .i64 a.1,.slice p a.2.length capa],.agg #[.int .i64 b.1,.slice q b.2.length capb],.int .i64 x,.int .i64 y] w (Lf.LinErr w.heap.size k w)):=by
 have hR:=sumC_is (Lf.scale x a.2 ++ Lf.scale y b.2)
 have ht:=Lf.both_terms ha hb hx hy
 have hiff:=snd_sum_iff (c:=x*a.1+y*b.1) hR ht.2
 by_cases hs:Lf.snd (x*a.1+y*b.1) (sumC (Lf.scale x a.2 ++ Lf.scale y b.2))=true
 ·left
  obtain⟨hc,hk,h64⟩:=hiff.1 hs
  refine⟨_,if_pos hs,Lf.add_ok a.1 b.1 x y p q _ _ capa capb a.2 b.2 _ w rfl rfl hla hlb ha hb hx hy ?_⟩
  exact fun a n cap W B hn hrow hB hm=>Lf.gather_ok _ a n cap B _ _ W hn hrow hB hm ht.1 ht.2 hR hc hk h64
 ·right
  refine⟨if_neg hs, ?_⟩
  by_cases hc:Lf.wi (x*a.1+y*b.1) 1073741824=true
  ·by_cases hk:∀m∈sumC (Lf.scale x a.2 ++ Lf.scale y b.2),Lf.wi m.2 1073741824=true
   ·by_cases h64:(sumC (Lf.scale x a.2 ++ Lf.scale y b.2)).length≤64
    ·exact absurd (hiff.2 ⟨hc,hk,h64⟩) hs
    ·exact⟨2,Lf.add_err 2 a.1 b.1 x y p q _ _ capa capb a.2 b.2 w rfl rfl hla hlb ha hb hx hy fun a n cap W B hn hrow hB hm=>Lf.gather_long _ a n cap B _ _ W hn hrow hB hm ht.1 ht.2 hR hc hk (by omega)⟩
   ·exact⟨3,Lf.add_err 3 a.1 b.1 x y p q _ _ capa capb a.2 b.2 w rfl rfl hla hlb ha hb hx hy fun a n cap W B hn hrow hB hm=>Lf.gather_far2 _ a n cap B _ _ W hn hrow hB hm ht.1 ht.2 hR hc hk⟩
  ·exact⟨3,Lf.add_err 3 a.1 b.1 x y p q _ _ capa capb a.2 b.2 w rfl rfl hla hlb ha hb hx hy fun a n cap W B hn hrow hB hm=>Lf.gather_far1 _ a n cap B _ _ W hn hrow hB hm ht.1 ht.2 hR (by simpa using hc)⟩
theorem scale_sum {n:Int}{a:LT}(h:Sd a)(hn:n≠0):Lf.IsSum (Lf.scale n a.2) (Lf.scale n a.2):=by
 have h2:=Lf.snd_iff.1 h
 refine⟨?_,fun m hm=> ?_,fun v=>rfl⟩
 ·unfold Lf.Up Lf.scale
  rw[List.pairwise_map]
  refine List.pairwise_iff_getElem.2 fun i j hi hj hij=> ?_
  have hup:∀d i,i+d+1<a.2.length→(a.2.getD i (0,0)).1<(a.2.getD (i+d+1) (0,0)).1:=fun d=>by
   induction d with
   | zero=>
     intro i hi
     have:=h2.2.2 (i+1) (by omega)
     unfold Lf.okAt Lf.chk at this
     rw[Lf.lastAt_succ]at this
     simp only[Bool.and_eq_true,decide_eq_true_eq]at this
     exact this.1
   | succ d ih=>
     intro i hi
     have h1:=ih i (by omega)
     have:=h2.2.2 (i+d+1+1) (by omega)
     unfold Lf.okAt Lf.chk at this
     rw[Lf.lastAt_succ]at this
     simp only[Bool.and_eq_true,decide_eq_true_eq]at this
     have:=this.1
     rw[show i+(d+1)+1=i+d+1+1 by omega]
     omega
  have:=hup (j - i - 1) i (by omega)
  rw[show i+(j - i - 1)+1=j by omega]at this
  rw[List.getD_eq_getElem?_getD,List.getD_eq_getElem?_getD,List.getElem?_eq_getElem hi,List.getElem?_eq_getElem hj]at this
  exact this
 ·unfold Lf.scale at hm
  obtain⟨u,hu,rfl⟩:=List.mem_map.1 hm
  obtain⟨i,hi,rfl⟩:=List.getElem_of_mem hu
  have:=h2.2.2 i hi
  unfold Lf.okAt Lf.chk at this
  simp only[Bool.and_eq_true,decide_eq_true_eq]at this
  have h3:=this.2.1
  rw[List.getD_eq_getElem?_getD,List.getElem?_eq_getElem hi]at h3
  exact Int.mul_ne_zero hn h3
theorem make_fn (a:LT)(n:Int)(p:Option Addr)(cap:Nat)(w:World)(ha:Sd a)(hl:Lf.Lies w.heap.size w p (Lf.scale n a.2))(hnil:p=none→(Lf.scale n a.2).length=0∧cap=0):
 (∃r,timesS n a=some r∧Calls Tryz.prog 81 #[.int .i64 (n*a.1),.slice p (Lf.scale n a.2).length cap] w (Lf.LinOk w.heap.size r.1 r.2 w))∨
 (timesS n a=none∧∃k,Calls Tryz.prog 81 #[.int .i64 (n*a.1),.slice p (Lf.scale n a.2).length cap] w (Lf.LinErr w.heap.size k w)):=by
 have hR:=sumC_is (Lf.scale n a.2)
 have hlen:(Lf.scale n a.2).length≤64:=by rw[Lf.scale_len];exact ha.len
 have hV:∀m∈Lf.scale n a.2,0≤m.1∧m.1<1048576:=fun m hm=>by
  unfold Lf.scale at hm
  obtain⟨u,hu,rfl⟩:=List.mem_map.1 hm
  exact(Lf.snd_terms ha u hu).1
 have hiff:=snd_sum_iff (c:=n*a.1) hR hV
 by_cases ho:Lf.argOk (n*a.1) (Lf.scale n a.2)
 ·by_cases hs:Lf.snd (n*a.1) (sumC (Lf.scale n a.2))=true
  ·obtain⟨hc,hk,h64⟩:=hiff.1 hs
   exact .inl ⟨_,if_pos hs,Lf.make_ok (n*a.1) p _ cap _ _ w rfl hl hnil ho hR hk h64⟩
  ·right
   refine⟨if_neg hs, ?_⟩
   have ht:=Lf.argOk_bd ho
   by_cases hk:∀m∈sumC (Lf.scale n a.2),Lf.wi m.2 1073741824=true
   ·by_cases h64:(sumC (Lf.scale n a.2)).length≤64
    ·exact absurd (hiff.2 ⟨ho.1,hk,h64⟩) hs
    ·exact⟨2,Lf.make_err 2 (n*a.1) p _ cap _ w rfl hl hnil ho fun a n cap W B hn hrow hB hm=>Lf.gather_long _ a n cap B _ _ W hn hrow hB hm ht.1 ht.2 hR ho.1 hk (by omega)⟩
   ·exact⟨3,Lf.make_err 3 (n*a.1) p _ cap _ w rfl hl hnil ho fun a n cap W B hn hrow hB hm=>Lf.gather_far2 _ a n cap B _ _ W hn hrow hB hm ht.1 ht.2 hR ho.1 hk⟩
 ·right
  refine⟨if_neg fun hs=>ho ?_,1,Lf.make_arg (n*a.1) p _ cap _ w rfl (by omega) hl ho⟩
  obtain⟨hc,hk,h64⟩:=hiff.1 hs
  refine⟨hc,by omega,fun i hi=> ?_⟩
  have hmem:(Lf.scale n a.2).getD i (0,0)∈Lf.scale n a.2:=by rw[List.getD_eq_getElem?_getD,List.getElem?_eq_getElem hi];exact List.getElem_mem hi
  have hv:=hV _ hmem
  unfold Lf.mayAt
  rw[Lf.mst_t1 hv]
  by_cases hn:n=0
  ·unfold Lf.scale at hmem
   obtain⟨u,hu,e⟩:=List.mem_map.1 hmem
   unfold Lf.scale
   rw[←e,hn]
   simp[Lf.wi]
  ·rw[sumC_eq (scale_sum ha hn)]at hk
   exact hk _ hmem
end
section
open Go.RowKit
def OwnEnd (c:Int)(l:List (Int×Int))(w:World)(e:Ending)(w':World):Prop:=∃v,e= .returned (.agg #[.int .i64 c,v])∧Lf.Row w.heap.size l v w'∧Below w.heap.size w w'
theorem box2_at {w W:World}{x y:Value}{t:TypeId}(hb:Below (w.alloc (.cells #[x,y] t)).heap.size (w.alloc (.cells #[x,y] t)) W):W.cell? ⟨w.heap.size,0,none⟩=some x∧W.cell? ⟨w.heap.size,1,none⟩=some y∧W.frozen? ⟨w.heap.size,0,none⟩=false∧W.frozen? ⟨w.heap.size,1,none⟩=false∧w.heap.size<W.heap.size:=by
 have hlt:w.heap.size<(w.alloc (.cells #[x,y] t)).heap.size:=by simp
 refine⟨(hb.cell (p:=⟨w.heap.size,0,none⟩) hlt).trans (by simp),(hb.cell (p:=⟨w.heap.size,1,none⟩) hlt).trans (by simp),(hb.frozen (p:=⟨w.heap.size,0,none⟩) hlt).trans (by simp),(hb.frozen (p:=⟨w.heap.size,1,none⟩) hlt).trans (by simp),Nat.lt_of_lt_of_le hlt hb.size⟩
theorem store2 {w W:World}{B b:Nat}{x y u v:Value}(hb:Below B w W)(hB:B≤b)(h0:W.cell? ⟨b,0,none⟩=some u)(h1:W.cell? ⟨b,1,none⟩=some v):
 (W.setCell ⟨b,0,none⟩ x).cell? ⟨b,0,none⟩=some x∧((W.setCell ⟨b,0,none⟩ x).setCell ⟨b,1,none⟩ y).cell? ⟨b,1,none⟩=some y∧Below B w ((W.setCell ⟨b,0,none⟩ x).setCell ⟨b,1,none⟩ y):=
 ⟨(Lf.res_cells W b x y u v h0 h1).1,(Lf.res_cells W b x y u v h0 h1).2,(hb.setCell (p:=⟨b,0,none⟩) hB x).setCell (p:=⟨b,1,none⟩) hB y⟩
theorem row_store2 {W:World}{B b:Nat}{l:List (Int×Int)}{z x y:Value}(h:Lf.Row B l z W)(hb:b<B):Lf.Row B l z ((W.setCell ⟨b,0,none⟩ x).setCell ⟨b,1,none⟩ y):=
 ownsRow_setCell_below (ownsRow_setCell_below h hb _) hb _
theorem clone_big (a:Option Addr)(n cap:Nat)(l:List (Int×Int))(w:World)(hn:l.length=n)(hm:n*16≤140737488355328)(hl:Lf.Lies w.heap.size w a l)(hnil:a=none→n=0∧cap=0):
 Calls Tryz.prog 74 #[.slice a n cap] w (Lf.RowEnd w.heap.size l w):=by
 have he:=fun W:World=>Lib.run_eql_slice_nil (P:=Tryz.prog) W 23 84 a n cap 0 0 Tryz.underlying23
 cases a with
 | none=>
   obtain⟨rfl,rfl⟩:=hnil rfl
   have HN:=Lib.hid hn
   clear hn hl hnil
   go_enter Tryz.func74,Tryz.ntmps74
   go_wp2_with fail
   go_ret
   exact⟨_,rfl,by rw[List.eq_nil_of_length_eq_zero HN.out];exact World.ownsRow_nil _ _ _ _,Below.refl _ _⟩
 | some a=>
   obtain⟨i0,hi,hz0,hz1,hz2⟩:=info_parts Lf.Tryz.infoMono
   have HN:=Lib.hid hn
   have HL:=Lib.hid hl
   clear hn hl hnil
   go_enter Tryz.func74,Tryz.ntmps74
   have hown:(w.alloc (.cells #[] 84)).ownsRow w.heap.size 84 2 (.slice (some ⟨w.heap.size,0,none⟩) 0 0) 0 []:=World.ownsRow_made w #[] 0 (Nat.le_refl _) (by decide) rfl
   have HB:=Lib.hid ((Below.refl w.heap.size w).alloc (Nat.le_refl _) (.cells #[] 84))
   go_wp2_with (at_builtin;refine wpList_append_own _ rfl _ _ 23 rfl w.heap.size 84 i0 _ 2 16 Tryz.underlying23 hi hz0 hz1 hz2 rfl (by decide) _ _ _ rfl hown a n cap (Lf.flat l) rfl ?c1 ?c2 ?c3 ?c4 ?c5 ?c6 ?_)
   case c1=>rw[Lf.flat_len,HN.out]
   case c2=>exact(HL.out.below HB.out).news
   case c3=>exact Lf.flat_cells l
   case c4=>unfold maxLen;omega
   case c5=>omega
   case c6=>simp
   intro v' w1 hown' hgrow _
   go_wp2_with fail
   go_ret
   refine⟨_,rfl, ?_,HB.out.grown hgrow (by simp) (fun k hk=>(hown.lt k hk).1)⟩
   unfold Lf.Row
   rw[HN.out]
   simpa using hown'
theorem own_any (c:Int)(a:Option Addr)(n cap:Nat)(l:List (Int×Int))(w:World)(hn:l.length=n)(hm:n*16≤140737488355328)(hl:Lf.Lies w.heap.size w a l)(hnil:a=none→n=0∧cap=0):
 Calls Tryz.prog 51 #[.agg #[.int .i64 c,.slice a n cap]] w (OwnEnd c l w):=by
 have HW:Hid (Below w.heap.size w ((w.alloc (.cells #[.int .i64 c,.slice a n cap] 25)).alloc (.cells #[.int .i64 0,.slice none 0 0] 25))):=Lib.hid (box_low.alloc (by simp) _)
 have HV:Hid (Below (w.alloc (.cells #[.int .i64 c,.slice a n cap] 25)).heap.size (w.alloc (.cells #[.int .i64 c,.slice a n cap] 25)) ((w.alloc (.cells #[.int .i64 c,.slice a n cap] 25)).alloc (.cells #[.int .i64 0,.slice none 0 0] 25))):=box_low
 have HC:=Lib.hid (clone_big a n cap l ((w.alloc (.cells #[.int .i64 c,.slice a n cap] 25)).alloc (.cells #[.int .i64 0,.slice none 0 0] 25)).drew hn hm ((hl.below HW.out.drew).mono HW.out.drew.size) hnil)
 have HSZ:Hid ((w.alloc (.cells #[.int .i64 c,.slice a n cap] 25)).heap.size=w.heap.size+1):=Lib.hid (by simp)
 clear hn hl hnil
 go_enter Tryz.func51,Tryz.ntmps51
 go_wp2_with fail
 go_region_with (go_at_call 74;refine HC.out.mono ?_;rintro e w2 ⟨v,rfl,hrow,hb⟩;obtain⟨a3,cap3,rfl,_,_⟩:=hrow.lies;have HV2:=Lib.hid (HV.out.drew.trans (hb.mono HV.out.drew.size));obtain⟨k0,k1,kf0,kf1,klt⟩:=box2_at HV2.out;obtain⟨r0,r1,rf0,rf1,rlt⟩:=box2_at (w:=w.alloc (.cells #[.int .i64 c,.slice a n cap] 25)) ((Below.refl _ ((w.alloc (.cells #[.int .i64 c,.slice a n cap] 25)).alloc (.cells #[.int .i64 0,.slice none 0 0] 25))).drew.trans hb);rw[HSZ.out]at r0 r1 rf0 rf1 rlt)
 all_goals (
  have hz2:w.heap.size+2≤w2.heap.size:=by have:=hb.size;simp at this;omega
  obtain⟨e0,e1,HB⟩:=store2 (x:= .int .i64 c) (y:= .slice a3 l.length cap3) (HW.out.drew.trans (hb.mono HW.out.drew.size)) (Nat.le_succ w.heap.size) r0 r1
  have hrow2:=row_store2 (x:= .int .i64 c) (y:= .slice a3 l.length cap3) hrow (show w.heap.size+1<_ by simp)
  go_wp2_with fail
  refine bodyPost_ret (v:= .agg #[.int .i64 c,.slice a3 l.length cap3]) ?_ rfl ⟨_,rfl,hrow2.mono (by simp;omega),HB⟩
  simp[results,Tryz.results51,go_sem,e0,e1])
end
section
open Go.RowKit
def LnEnd (x:Option LT)(w:World)(e:Ending)(w':World):Prop:=(∃y v,x=some y∧e= .returned (.tuple #[.agg #[.int .i64 y.1,v],.bool true])∧Lf.Row w.heap.size y.2 v w'∧Below w.heap.size w w')∨(x=none∧e= .returned (.tuple #[.agg #[.int .i64 0,.slice none 0 0],.bool false])∧Below w.heap.size w w')
theorem below_three {w:World}{a b c:Array Value}{t u v:TypeId}:Below w.heap.size w (((w.alloc (.cells a t)).alloc (.cells b u)).alloc (.cells c v)):=((box_low (w:=w)).alloc (by simp) _).alloc (by simp;omega) _
theorem box3_at {w W:World}{a b:Array Value}{x y:Value}{t u v:TypeId}(hb:Below (((w.alloc (.cells a t)).alloc (.cells b u)).alloc (.cells #[x,y] v)).heap.size (((w.alloc (.cells a t)).alloc (.cells b u)).alloc (.cells #[x,y] v)) W):W.cell? ⟨w.heap.size+1+1,0,none⟩=some x∧W.cell? ⟨w.heap.size+1+1,1,none⟩=some y∧W.frozen? ⟨w.heap.size+1+1,0,none⟩=false∧W.frozen? ⟨w.heap.size+1+1,1,none⟩=false∧w.heap.size+1+1<W.heap.size:=by
 have:=box2_at hb
 rwa [show((w.alloc (.cells a t)).alloc (.cells b u)).heap.size=w.heap.size+1+1 by simp]at this
theorem stored {w W:World}{B b:Nat}{x y u v:Value}{c:Array Value}{t:TypeId}(hb:Below B w W)(hBW:B≤W.heap.size)(hB:B≤b)(hlt:b<W.heap.size)(h0:W.cell? ⟨b,0,none⟩=some u)(h1:W.cell? ⟨b,1,none⟩=some v):
 ((((W.setCell ⟨b,0,none⟩ x).setCell ⟨b,1,none⟩ y).alloc (.cells c t)).drew).cell? ⟨b,0,none⟩=some x∧((((W.setCell ⟨b,0,none⟩ x).setCell ⟨b,1,none⟩ y).alloc (.cells c t)).drew).cell? ⟨b,1,none⟩=some y∧Below B w ((((W.setCell ⟨b,0,none⟩ x).setCell ⟨b,1,none⟩ y).alloc (.cells c t)).drew):=by
 obtain⟨e0,e1,hb2⟩:=store2 (x:=x) (y:=y) hb hB h0 h1
 have hsz:((W.setCell ⟨b,0,none⟩ x).setCell ⟨b,1,none⟩ y).heap.size=W.heap.size:=by simp
 have e0':((W.setCell ⟨b,0,none⟩ x).setCell ⟨b,1,none⟩ y).cell? ⟨b,0,none⟩=some x:=by rw[World.cell?_setCell_other _ _ _ _ (by simp)];exact e0
 have hA:Below ((W.setCell ⟨b,0,none⟩ x).setCell ⟨b,1,none⟩ y).heap.size ((W.setCell ⟨b,0,none⟩ x).setCell ⟨b,1,none⟩ y) ((((W.setCell ⟨b,0,none⟩ x).setCell ⟨b,1,none⟩ y).alloc (.cells c t)).drew):=(box_low (w:=(W.setCell ⟨b,0,none⟩ x).setCell ⟨b,1,none⟩ y)).drew
 refine⟨(hA.cell (p:=⟨b,0,none⟩) (by rw[hsz];exact hlt)).trans e0',(hA.cell (p:=⟨b,1,none⟩) (by rw[hsz];exact hlt)).trans e1,hb2.trans (hA.mono (by rw[hsz];exact hBW))⟩
theorem stored_row {W:World}{B b:Nat}{l:List (Int×Int)}{z x y:Value}{c:Array Value}{t:TypeId}(h:Lf.Row B l z W)(hb:b<B):Lf.Row B l z ((((W.setCell ⟨b,0,none⟩ x).setCell ⟨b,1,none⟩ y).alloc (.cells c t)).drew):=
 Lf.Row.below (row_store2 h hb) (box_low (w:=(W.setCell ⟨b,0,none⟩ x).setCell ⟨b,1,none⟩ y)).drew
theorem less_any (a b:LT)(p q:Option Addr)(capa capb:Nat)(w:World)(ha:Sd a)(hb:Sd b)(hla:Lf.Lies w.heap.size w p a.2)(hlb:Lf.Lies w.heap.size w q b.2):
 Calls Tryz.prog 31 #[.agg #[.int .i64 a.1,.slice p a.2.length capa],.agg #[.int .i64 b.1,.slice q b.2.length capb]] w (LnEnd (addS 1 (-1) a b) w):=by
 have n1:=fun W=>Tryz.eqNil W
 have n2:=fun t v W=>Tryz.eqIface t v W
 have HW:Hid (Below w.heap.size w (((w.alloc (.cells #[.int .i64 a.1,.slice p a.2.length capa] 25)).alloc (.cells #[.int .i64 b.1,.slice q b.2.length capb] 25)).alloc (.cells #[.int .i64 0,.slice none 0 0] 25))):=below_three
 have HADD:=Lib.hid (add_fn a b 1 (-1) p q capa capb (((w.alloc (.cells #[.int .i64 a.1,.slice p a.2.length capa] 25)).alloc (.cells #[.int .i64 b.1,.slice q b.2.length capb] 25)).alloc (.cells #[.int .i64 0,.slice none 0 0] 25)) ha hb (by omega) (by omega) ((hla.below HW.out).mono HW.out.size) ((hlb.below HW.out).mono HW.out.size))
 clear ha hb hla hlb
 rcases HADD.out with ⟨⟨rc,rl⟩,hx,hcall⟩ | ⟨hx,k,hcall⟩
 ·have HX:=Lib.hid hx
  have HC:=Lib.hid hcall
  clear hx hcall HADD
  go_enter Tryz.func31,Tryz.ntmps31
  go_wp2_with fail
  refine HC.out.mono ?_
  rintro e w4 ⟨v,rfl,hrow,hb⟩
  obtain⟨a3,cap3,rfl,_,_⟩:=hrow.lies
  obtain⟨r0,r1,rf0,rf1,rlt⟩:=box3_at hb
  have HB:=Lib.hid (HW.out.trans (hb.mono HW.out.size))
  have HR:=Lib.hid hrow
  have HZ:Hid (w.heap.size≤w4.heap.size):=Lib.hid (by omega)
  obtain⟨e0,e1,HBF⟩:=stored (x:= .int .i64 rc) (y:= .slice a3 rl.length cap3) (c:= #[.int .i64 rc,.slice a3 rl.length cap3]) (t:=25) HB.out (by omega) (show w.heap.size≤w.heap.size+1+1 by omega) rlt r0 r1
  have HRF:=Lib.hid (stored_row (x:= .int .i64 rc) (y:= .slice a3 rl.length cap3) (c:= #[.int .i64 rc,.slice a3 rl.length cap3]) (t:=25) HR.out (show w.heap.size+1+1<_ by simp))
  have HBG:=Lib.hid HBF
  have E01:=Lib.hid (And.intro e0 e1)
  clear hb hrow HC e0 e1 HBF HR
  go_wp2_with fail
  go_region
  all_goals (
   obtain⟨e0,e1⟩:=E01.out
   go_wp2_with fail
   refine bodyPost_ret (v:= .tuple #[.agg #[.int .i64 rc,.slice a3 rl.length cap3],.bool true]) ?_ rfl (.inl ⟨(rc,rl),_,HX.out,rfl,HRF.out.mono (by simp;omega),HBG.out⟩)
   simp[results,Tryz.results31,go_sem,e0,e1])
 ·have HX:=Lib.hid hx
  have HC:=Lib.hid hcall
  clear hx hcall HADD
  go_enter Tryz.func31,Tryz.ntmps31
  go_wp2_with fail
  refine HC.out.mono ?_
  rintro e w4 ⟨rfl,hb⟩
  obtain⟨r0,r1,rf0,rf1,rlt⟩:=box3_at hb
  have HB:=Lib.hid (HW.out.trans (hb.mono HW.out.size))
  obtain⟨e0,e1,HBF⟩:=stored (x:= .int .i64 0) (y:= .slice none 0 0) (c:= #[.int .i64 0,.slice none 0 0]) (t:=25) HB.out (by omega) (show w.heap.size≤w.heap.size+1+1 by omega) rlt r0 r1
  have HBG:=Lib.hid HBF
  have E01:=Lib.hid (And.intro e0 e1)
  clear hb HC e0 e1 HBF
  go_wp2_with fail
  go_region
  all_goals (
   obtain⟨e0,e1⟩:=E01.out
   go_wp2_with fail
   refine bodyPost_ret (v:= .tuple #[.agg #[.int .i64 0,.slice none 0 0],.bool false]) ?_ rfl (.inr ⟨HX.out,rfl,HBG.out⟩)
   simp[results,Tryz.results31,go_sem,e0,e1])
end
section
open Go.RowKit
theorem run_push_mono {w:World}(B:Nat)(l:List (Int×Int))(v:Value)(x y:Int)(h:Lf.Row B l v w)(hB:B≤w.heap.size)(hsz:l.length≤1000000):
 ∃v' w',(∀ty,(Builtin.append_ #[23,23] ty #[v,.slice (some ⟨w.heap.size,0,none⟩) 1 1]).run Tryz.prog (w.alloc (.cells #[.int .i64 x,.int .i64 y] 84))= .ok v' w')∧Lf.Row B (l ++ [(x,y)]) v' w'∧Below B w w':=by
 obtain⟨i0,hi,hz0,hz1,hz2⟩:=info_parts Lf.Tryz.infoMono
 have hA:Below w.heap.size w (w.alloc (.cells #[.int .i64 x,.int .i64 y] 84)):=box_low
 have hvb:∀b,v.ownBlock=some b→B≤b:=fun b hb=>(World.ownsRow.lt h b hb).1
 have h2:=h.below hA
 unfold Lf.Row at h2
 obtain⟨g,cap',w',hr,h3,h4,h5,h6⟩:=run_append_lies (P:=Tryz.prog) (w.alloc (.cells #[.int .i64 x,.int .i64 y] 84)) 23 23 B 84 i0 _ 2 16 Tryz.underlying23 hi hz0 hz1 hz2 rfl (by decide) v l.length (Lf.flat l) h2 ⟨w.heap.size,0,none⟩ 1 1 [.int .i64 x,.int .i64 y] rfl (Lf.cell_two_new' w _ _ _) (by simp[Value.oneCell']) (by omega) (by unfold maxLen;omega) (by omega) (Nat.le_trans hB hA.size) _ rfl
 refine⟨_,w',fun ty=>hr, ?_,(hA.mono hB).trans ((Below.refl B _).grown h4 (Nat.le_trans hB hA.size) hvb)⟩
 unfold Lf.Row
 rw[List.length_append,Lf.flat_append]
 exact h3
theorem below_two {w:World}{a b:Array Value}{t u:TypeId}:Below w.heap.size w ((w.alloc (.cells a t)).alloc (.cells b u)):=(box_low (w:=w)).alloc (by simp) _
theorem box22_at {w W:World}{a:Array Value}{x y:Value}{t u:TypeId}(hb:Below ((w.alloc (.cells a t)).alloc (.cells #[x,y] u)).heap.size ((w.alloc (.cells a t)).alloc (.cells #[x,y] u)) W):W.cell? ⟨w.heap.size+1,0,none⟩=some x∧W.cell? ⟨w.heap.size+1,1,none⟩=some y∧W.frozen? ⟨w.heap.size+1,0,none⟩=false∧W.frozen? ⟨w.heap.size+1,1,none⟩=false∧w.heap.size+1<W.heap.size:=by
 have:=box2_at hb
 rwa [show(w.alloc (.cells a t)).heap.size=w.heap.size+1 by simp]at this
theorem box21_at {w W:World}{x y:Value}{b:Array Value}{t u:TypeId}(hb:Below ((w.alloc (.cells #[x,y] t)).alloc (.cells b u)).heap.size ((w.alloc (.cells #[x,y] t)).alloc (.cells b u)) W):W.cell? ⟨w.heap.size,0,none⟩=some x∧W.cell? ⟨w.heap.size,1,none⟩=some y:=by
 have h1:Below (w.alloc (.cells #[x,y] t)).heap.size (w.alloc (.cells #[x,y] t)) ((w.alloc (.cells #[x,y] t)).alloc (.cells b u)):=box_low
 have:=box2_at (h1.trans (hb.mono h1.size))
 exact⟨this.1,this.2.1⟩
theorem times_any (n:Int)(a:LT)(p:Option Addr)(cap m:Nat)(w:World)(ha:Sd a)(hn: -1073741824≤n∧n≤1073741824)(hm:a.2.length=m)(hla:Lf.Lies w.heap.size w p a.2):
 Calls Tryz.prog 66 #[.int .i64 n,.agg #[.int .i64 a.1,.slice p m cap]] w (LnEnd (timesS n a) w):=by
 have n1:=fun W=>Tryz.eqNil W
 have n2:=fun t v W=>Tryz.eqIface t v W
 have hm64:m≤64:=by rw[←hm];exact ha.len
 have HW:Hid (Below w.heap.size w ((w.alloc (.cells #[.int .i64 a.1,.slice p m cap] 25)).alloc (.cells #[.int .i64 0,.slice none 0 0] 25))):=below_two
 have hac: -1073741824≤a.1∧a.1≤1073741824:=by have:=(Lf.snd_iff.1 ha).1;unfold Lf.wi at this;simpa using this
 have hmul:∀k:Int, -1073741824≤k∧k≤1073741824→ -1152921504606846976≤n*k∧n*k≤1152921504606846976:=fun k hk=>by
  have h1:(n*k).natAbs≤1073741824*1073741824:=by rw[Int.natAbs_mul];exact Nat.mul_le_mul (by omega) (by omega)
  omega
 have hw0:IntKind.i64.wrap (n*a.1)=n*a.1:=IntWalk.i64_in _ (by have:=hmul _ hac;omega)
 have HWR:Hid (∀j,j<m→IntKind.i64.wrap (n*(a.2.getD j (0,0)).2)=n*(a.2.getD j (0,0)).2):=Lib.hid fun j hj=>IntWalk.i64_in _ (by have:=hmul (a.2.getD j (0,0)).2 (Lf.snd_terms ha (a.2.getD j (0,0)) (by rw[List.getD_eq_getElem?_getD,List.getElem?_eq_getElem (by omega)];exact List.getElem_mem _)).2;omega)
 have HMK:=Lib.hid (fun v cap' W (hl:Lf.Lies W.heap.size W v (Lf.scale n a.2)) hnil=>make_fn a n v cap' W ha hl hnil)
 have HM:=Lib.hid hm
 have HL:=Lib.hid hla
 have HTS:=Lib.hid (fun j (hj:j<a.2.length)=>Lf.take_snoc a.2 j hj)
 have hW0:=HW.out.size
 clear ha hn hm hla hac hmul
 generalize hal:a.2=al at*
 generalize a.1=ac at*
 go_enter Tryz.func66,Tryz.ntmps66
 go_wp2_with fail
 go_loopw [6,14] (fun t i wr=>∃(j:Nat) (v:Value),i= .int .i64 j∧j≤m∧v=t∧Hid (Lf.Row (w.heap.size+2) (Lf.scale n (al.take j)) v wr)∧Hid (Below ((w.alloc (.cells #[.int .i64 ac,.slice p m cap] 25)).alloc (.cells #[.int .i64 0,.slice none 0 0] 25)).heap.size ((w.alloc (.cells #[.int .i64 ac,.slice p m cap] 25)).alloc (.cells #[.int .i64 0,.slice none 0 0] 25)) wr)) (fun _ i _=>m - (intOf i).toNat)
 case atStart=>exact⟨0,_,rfl,Nat.zero_le _,rfl,World.ownsRow_nil _ _ _ _,Below.refl _ _⟩
 case round=>
  obtain⟨j,v,rfl,hj,rfl,hrow,hb⟩:=hrel
  obtain⟨wo,rfl⟩:∃wo:World,wo=wr:=⟨_,rfl⟩
  have hz:w.heap.size+2≤wo.heap.size:=by have:=hb.out.size;simp at this;omega
  by_cases hlt:j<m
  ·have hji:(j:Int)<(m:Int):=by omega
   have hjx:j<al.length:=by rw[HM.out];exact hlt
   obtain⟨b4,off4,rfl,hb4,c1,c2⟩:=(HL.out.below (HW.out.trans (hb.out.mono HW.out.size))) j hjx
   have hwk:=HWR.out j hlt
   have HSN:Hid (Lf.scale n (al.take (j+1))=Lf.scale n (al.take j) ++ [((al.getD j (0,0)).1,n*(al.getD j (0,0)).2)]):=Lib.hid (by rw[HTS.out j hjx,Lf.scale_snoc])
   have HLN:Hid ((Lf.scale n (al.take j)).length≤64):=Lib.hid (by rw[Lf.scale_len,List.length_take];omega)
   generalize (al.getD j (0,0)).1=xv at*
   generalize (al.getD j (0,0)).2=xk at*
   generalize Lf.scale n (al.take j)=sc at*
   have hA:Below (w.heap.size+2) wo (wo.alloc (.cells #[.int .i64 xv,.int .i64 xk] 84)):=(Below.refl _ _).alloc hz _
   obtain⟨v5,w5,hr5,hrow5,hb5⟩:=run_push_mono (w.heap.size+2) sc v xv (n*xk) (w:=wo.alloc (.cells #[.int .i64 xv,.int .i64 xk] 84)) (hrow.out.alloc _) (Nat.le_trans hz (by simp)) (by have:=HLN.out;omega)
   rw[show(wo.alloc (.cells #[.int .i64 xv,.int .i64 xk] 84)).heap.size=wo.heap.size+1 by simp]at hr5
   have RN:Hid (Lf.Row (w.heap.size+2) (Lf.scale n (al.take (j+1))) v5 w5):=Lib.hid (by rw[HSN.out];exact hrow5)
   have BN:=Lib.hid (hb.out.trans ((hA.trans hb5).mono (by simp)))
   clear hrow5 hb5 hA HSN HLN hrow hb
   go_wp2_with (at_builtin;refine Lib.wpList_append_run _ rfl _ _ _ _ rfl _ _ rfl rfl _ _ (hr5 _) ?_)
   go_roundw
   case rel=>exact⟨j+1,v5,by go_num,by omega,rfl,RN,BN⟩
   case measure=>simp[intOf];omega
  ·obtain rfl:j=m:=by omega
   have hlti:¬(j:Int)<(j:Int):=by omega
   have HRW:Hid (Lf.Row (w.heap.size+2) (Lf.scale n al) v wo):=Lib.hid (by have:=hrow.out;rwa [show al.take j=al by rw[←HM.out,List.take_length]]at this)
   obtain⟨av,capv,rfl,hlv,hnv⟩:=HRW.out.lies
   obtain⟨k0,k1⟩:=box21_at hb.out
   have HBO:=Lib.hid hb.out
   have HMK2:=Lib.hid (HMK.out av capv wo hlv hnv)
   clear hlv hnv hrow hb HMK
   rcases HMK2.out with ⟨⟨rc,rl⟩,hx,hcall⟩ | ⟨hx,k,hcall⟩
   ·have HX:=Lib.hid hx
    have HC:=Lib.hid hcall
    clear hx hcall HMK2
    go_wp2_with fail
    refine HC.out.mono ?_
    rintro e w4 ⟨v6,rfl,hrow6,hb6⟩
    obtain⟨a3,cap3,rfl,_,_⟩:=hrow6.lies
    have H4:=Lib.hid (HBO.out.trans (hb6.mono HBO.out.size))
    obtain⟨r0,r1,rf0,rf1,rlt⟩:=box22_at H4.out
    have HB:=Lib.hid (HW.out.trans (H4.out.mono HW.out.size))
    obtain⟨e0,e1,HBF⟩:=stored (x:= .int .i64 rc) (y:= .slice a3 rl.length cap3) (c:= #[.int .i64 rc,.slice a3 rl.length cap3]) (t:=25) HB.out (by omega) (show w.heap.size≤w.heap.size+1 by omega) rlt r0 r1
    have HRF:=Lib.hid (stored_row (x:= .int .i64 rc) (y:= .slice a3 rl.length cap3) (c:= #[.int .i64 rc,.slice a3 rl.length cap3]) (t:=25) hrow6 (show w.heap.size+1<wo.heap.size by omega))
    have HBG:=Lib.hid HBF
    have E01:=Lib.hid (And.intro e0 e1)
    clear hrow6 hb6 HC e0 e1 HBF
    go_wp2_with fail
    go_region
    all_goals (
     obtain⟨e0,e1⟩:=E01.out
     go_wp2_with fail
     refine bodyPost_ret (v:= .tuple #[.agg #[.int .i64 rc,.slice a3 rl.length cap3],.bool true]) ?_ rfl (.inl ⟨(rc,rl),_,HX.out,rfl,HRF.out.mono (by omega),HBG.out⟩)
     simp[results,Tryz.results66,go_sem,e0,e1])
   ·have HX:=Lib.hid hx
    have HC:=Lib.hid hcall
    clear hx hcall HMK2
    go_wp2_with fail
    refine HC.out.mono ?_
    rintro e w4 ⟨rfl,hb6⟩
    have H4:=Lib.hid (HBO.out.trans (hb6.mono HBO.out.size))
    obtain⟨r0,r1,rf0,rf1,rlt⟩:=box22_at H4.out
    have HB:=Lib.hid (HW.out.trans (H4.out.mono HW.out.size))
    obtain⟨e0,e1,HBF⟩:=stored (x:= .int .i64 0) (y:= .slice none 0 0) (c:= #[.int .i64 0,.slice none 0 0]) (t:=25) HB.out (by omega) (show w.heap.size≤w.heap.size+1 by omega) rlt r0 r1
    have HBG:=Lib.hid HBF
    have E01:=Lib.hid (And.intro e0 e1)
    clear hb6 HC e0 e1 HBF
    go_wp2_with fail
    go_region
    all_goals (
     obtain⟨e0,e1⟩:=E01.out
     go_wp2_with fail
     refine bodyPost_ret (v:= .tuple #[.agg #[.int .i64 0,.slice none 0 0],.bool false]) ?_ rfl (.inr ⟨HX.out,rfl,HBG.out⟩)
     simp[results,Tryz.results66,go_sem,e0,e1])
end
section
open Go.RowKit
theorem scale_one (l:List (Int×Int)):Lf.scale 1 l=l:=by
 unfold Lf.scale
 simp
theorem okTo_all {l R:List (Int×Int)}(hR:Lf.IsSum l R)(hV:∀m∈l,0≤m.1∧m.1<1048576):Lf.okTo R 1048576=true↔∀m∈R,Lf.wi m.2 1073741824=true:=by
 unfold Lf.okTo
 rw[Lf.upTo_end hR (fun m hm=>by have:=hV m hm;omega),List.all_eq_true]
def SmE (x:Option LT)(B:Nat)(w:World)(e:Ending)(w':World):Prop:=(∃y v,x=some y∧e= .returned (.tuple #[.agg #[.int .i64 y.1,v],.int .i64 0])∧Lf.Row B y.2 v w'∧Below B w w')∨(∃k:Int,x=none∧e= .returned (.tuple #[.agg #[.int .i64 0,.slice none 0 0],.int .i64 k])∧¬k=0∧Below B w w')
theorem sum_fn (a b:LT)(n:Int)(ha:Sd a)(hb:Sd b)(hn: -4096≤n∧n≤4096)(aa:Option Addr)(cap:Nat)(W:World)(hl:Lf.Lies W.heap.size W aa (a.2 ++ Lf.scale n b.2)):
 Calls Tryz.prog 61 #[.int .i64 (a.1+n*b.1),.slice aa (a.2.length+(Lf.scale n b.2).length) cap] W (SmE (addS 1 n a b) W.heap.size W):=by
 have ht:=Lf.both_terms ha hb (x:=1) (y:=n) (by omega) hn
 have hR:=sumC_is (Lf.scale 1 a.2 ++ Lf.scale n b.2)
 have hl1:=ha.len
 have hl2:=hb.len
 have hadd:addS 1 n a b=if Lf.snd (a.1+n*b.1) (sumC (a.2 ++ Lf.scale n b.2))=true then some (a.1+n*b.1,sumC (a.2 ++ Lf.scale n b.2)) else none:=by
  unfold addS
  rw[scale_one,Int.one_mul]
 rw[scale_one]at ht hR
 have hs:=snd_sum_iff (c:=a.1+n*b.1) hR ht.2
 refine(Lf.rsum_any (a.1+n*b.1) aa (a.2.length+(Lf.scale n b.2).length) cap _ _ W List.length_append (by rw[Lf.scale_len];omega) hl ht.1 ht.2 hR).mono ?_
 rintro e w' ⟨hbel,h⟩
 have hf:Lf.farB (a.1+n*b.1) (sumC (a.2 ++ Lf.scale n b.2)) 1048576=true↔¬(Lf.wi (a.1+n*b.1) 1073741824=true∧∀m∈sumC (a.2 ++ Lf.scale n b.2),Lf.wi m.2 1073741824=true):=by
  rw[←okTo_all hR ht.2]
  unfold Lf.farB
  exact(show ∀x y:Bool,(!(x && y))=true↔¬(x=true∧y=true) by decide) _ _
 by_cases h1:Lf.farB (a.1+n*b.1) (sumC (a.2 ++ Lf.scale n b.2)) 1048576=true
 ·rw[if_pos h1]at h
  refine .inr ⟨3, ?_,h,by decide,hbel⟩
  rw[hadd,if_neg]
  intro h2
  have h3:=hs.1 h2
  exact hf.1 h1 ⟨h3.1,h3.2.1⟩
 ·rw[if_neg h1]at h
  have h4:Lf.wi (a.1+n*b.1) 1073741824=true∧∀m∈sumC (a.2 ++ Lf.scale n b.2),Lf.wi m.2 1073741824=true:=Classical.byContradiction fun h5=>h1 (hf.2 h5)
  by_cases h2:64<(sumC (a.2 ++ Lf.scale n b.2)).length
  ·rw[if_pos h2]at h
   refine .inr ⟨2, ?_,h,by decide,hbel⟩
   rw[hadd,if_neg]
   intro h3
   have:=(hs.1 h3).2.2
   omega
  ·rw[if_neg h2]at h
   obtain⟨v,he,hr⟩:=h
   refine .inl ⟨(a.1+n*b.1,sumC (a.2 ++ Lf.scale n b.2)),v, ?_,he,hr,hbel⟩
   rw[hadd,if_pos (hs.2 ⟨h4.1,h4.2,by omega⟩)]
theorem append_lying (w:World)(ty:TypeId){B:Nat}{v:Value}{r l:List (Int×Int)}{p:Option Addr}{k:Nat}(h:Lf.Row B r v w)(hl:Lf.Lies w.heap.size w p l)(hn:p=none→l.length=0∧k=0)(hB:B≤w.heap.size)(hlen:r.length+l.length≤8192):
 ∃v' w',(Builtin.append_ #[23,23] ty #[v,.slice p l.length k]).run Tryz.prog w= .ok v' w'∧Lf.Row B (r ++ l) v' w'∧w.grownBy w' v.ownBlock:=by
 obtain⟨i0,hi,hz0,hz1,hz2⟩:=info_parts Lf.Tryz.infoMono
 cases p with
 | none=>
   obtain⟨h0,rfl⟩:=hn rfl
   have hr:l=[]:=List.eq_nil_of_length_eq_zero h0
   subst hr
   exact⟨v,w,run_append_owned_none w B _ ty _ i0 2 Tryz.underlying23 hi v _ _ h,by simpa using h,World.grownBy.refl w _⟩
 | some ad=>
   obtain⟨v',w',hr,h3,h4,_⟩:=run_append_own w B 23 ty 84 i0 _ 2 16 Tryz.underlying23 hi hz0 hz1 hz2 rfl (by decide) v r.length (Lf.flat r) h ad l.length k (Lf.flat l) (Lf.flat_len l) hl.news (Lf.flat_cells l) (by unfold maxLen;omega) (by omega) hB
   refine⟨v',w',hr, ?_,h4⟩
   unfold Lf.Row
   rw[List.length_append,Lf.flat_append]
   exact h3
theorem rmore_any (a b:LT)(n:Int)(p q:Option Addr)(ka kb:Nat)(w:World)(ha:Sd a)(hb:Sd b)(hn: -4096≤n∧n≤4096)(hla:Lf.Lies w.heap.size w p a.2)(hlb:Lf.Lies w.heap.size w q b.2)(hnp:p=none→a.2.length=0∧ka=0):
 Calls Tryz.prog 34 #[.agg #[.int .i64 a.1,.slice p a.2.length ka],.agg #[.int .i64 b.1,.slice q b.2.length kb],.int .i64 n] w (LnEnd (addS 1 n a b) w):=by
 have hca: -1073741824≤a.1∧a.1≤1073741824:=by have:=(Lf.snd_iff.1 ha).1;unfold Lf.wi at this;simpa using this
 have hcb: -1073741824≤b.1∧b.1≤1073741824:=by have:=(Lf.snd_iff.1 hb).1;unfold Lf.wi at this;simpa using this
 have m2:=Lf.mul_in hn hcb
 have hw1:IntKind.i64.wrap (n*b.1)=n*b.1:=IntWalk.i64_in _ (by omega)
 have hw2:IntKind.i64.wrap (a.1+n*b.1)=a.1+n*b.1:=IntWalk.i64_in _ (by omega)
 have HS:=Lib.hid (sum_fn a b n ha hb hn)
 have HT:=Lib.hid (fun W (hW:Below w.heap.size w W)=>Lf.rtimes_any b.1 n q b.2.length kb b.2 W rfl hb.len ((hlb.below hW).mono hW.size) (fun m hm=>Lf.mul_in hn (Lf.snd_terms hb m hm).2))
 have HL:=Lib.hid (show a.2.length≤64∧(Lf.scale n b.2).length≤64 from⟨ha.len,by rw[Lf.scale_len];exact hb.len⟩)
 have T0:=Lib.hid (Lf.three_start w a.1 b.1 p q a.2.length b.2.length ka kb)
 have HA:=Lib.hid (fun W (hW:Below w.heap.size w W) ty=>append_lying W ty (B:=W.heap.size) (v:= .slice none 0 0) (r:=[]) (k:=ka) (World.ownsRow_nil _ _ _ _) ((hla.below hW).mono hW.size) hnp (Nat.le_refl _) (by have:=ha.len;simp;omega))
 clear hla hlb hnp ha hb hca hcb m2
 obtain⟨v3,w3,hrun3,hrow3,hgrow3⟩:=HA.out _ T0.out.bel 23
 rw[List.nil_append]at hrow3
 have T3:=Lib.hid (T0.out.below ((Below.refl _ _).grown hgrow3 (Nat.le_refl _) (fun k hk=>by cases hk)) T0.out.lt)
 obtain⟨a3,c3,rfl,_,_⟩:=hrow3.lies
 have HT3:=Lib.hid (HT.out w3 T3.out.bel)
 have HZ:Hid (w.heap.size+2<(((w.alloc (.cells #[.int .i64 a.1,.slice p a.2.length ka] 25)).alloc (.cells #[.int .i64 b.1,.slice q b.2.length kb] 25)).alloc (.cells #[.int .i64 0,.slice none 0 0] 25)).heap.size∧(((w.alloc (.cells #[.int .i64 a.1,.slice p a.2.length ka] 25)).alloc (.cells #[.int .i64 b.1,.slice q b.2.length kb] 25)).alloc (.cells #[.int .i64 0,.slice none 0 0] 25)).heap.size≤w3.heap.size):=Lib.hid ⟨T0.out.lt,hgrow3.size⟩
 have R3:=Lib.hid hrow3
 have T0':=T0.out
 clear hrow3 hgrow3 HA HT
 obtain⟨_,a0,a1,b0,b1,r0,r1,_,_⟩:=T0'
 obtain⟨_,s0,s1,u0,u1,_,_,_,_⟩:=T3.out
 go_enter Tryz.func34,Tryz.ntmps34
 go_wp2_with (at_builtin;refine Lib.wpList_append_run _ rfl _ _ _ _ rfl _ _ rfl rfl _ _ hrun3 ?_)
 clear a0 a1 b0 b1 r0 r1 hrun3
 refine HT3.out.mono ?_
 rintro e w4 ⟨v4,rfl,hrow4,hb4⟩
 have T4:=Lib.hid (T3.out.below hb4 T3.out.lt)
 have R34:=Lib.hid (R3.out.below hb4)
 obtain⟨v5,w5,hrun5,hrow5,hgrow5⟩:=Lf.append_two w4 23 R34.out hrow4 (Nat.le_trans HZ.out.2 hb4.size) (by have:=HL.out;omega)
 have T5:=Lib.hid (T4.out.below ((Below.refl _ w4).grown hgrow5 (Nat.le_trans HZ.out.2 hb4.size) (fun k hk=>(World.ownsRow.lt R34.out k hk).1)) HZ.out.1)
 obtain⟨a5,c5,rfl,hl5,_⟩:=hrow5.lies
 rw[List.length_append]at hrun5
 have HS5:=Lib.hid (HS.out a5 c5 w5 hl5)
 obtain⟨a4,c4,rfl,_,_⟩:=hrow4.lies
 obtain⟨_,a0,a1,b0,b1,_,_,_,_⟩:=T5.out
 clear hb4 s0 s1 u0 u1 hrow4 hrow5 hgrow5 hl5 HS HT3 R3 R34
 go_wp2_with (at_builtin;refine Lib.wpList_append_run _ rfl _ _ _ _ rfl _ _ rfl rfl _ _ hrun5 ?_)
 clear hrun5
 refine HS5.out.mono ?_
 rintro e w6 h6
 clear a0 a1 b0 b1
 rcases h6 with ⟨⟨rc,rl⟩,v6,hx,rfl,hrow6,hb6⟩ | ⟨k,hx,rfl,hk,hb6⟩
 ·have HX:=Lib.hid hx
  have T6:=Lib.hid (T5.out.below hb6 T5.out.lt)
  obtain⟨a6,c6,rfl,_,_⟩:=hrow6.lies
  have LT6:=Lib.hid (show w.heap.size+2<w6.heap.size from T6.out.lt)
  have hW:Below w.heap.size w (w6.alloc (.cells #[.int .i64 rc,.slice a6 rl.length c6] 25)):=T6.out.bel.alloc (by have:=T6.out.lt;omega) _
  obtain⟨r0,r1⟩:(w6.alloc (.cells #[.int .i64 rc,.slice a6 rl.length c6] 25)).cell? ⟨w.heap.size+2,0,none⟩=some (.int .i64 0)∧(w6.alloc (.cells #[.int .i64 rc,.slice a6 rl.length c6] 25)).cell? ⟨w.heap.size+2,1,none⟩=some (.slice none 0 0):=⟨(box_low.cell (p:=⟨w.heap.size+2,0,none⟩) LT6.out).trans T6.out.r0,(box_low.cell (p:=⟨w.heap.size+2,1,none⟩) LT6.out).trans T6.out.r1⟩
  have z:=fun o=>(box_low (w:=w6) (cs:= #[.int .i64 rc,.slice a6 rl.length c6]) (t:=25)).frozen (p:=⟨w.heap.size+2,o,none⟩) LT6.out
  have z0:(w6.alloc (.cells #[.int .i64 rc,.slice a6 rl.length c6] 25)).frozen? ⟨w.heap.size+2,0,none⟩=false:=(z 0).trans (T6.out.rf 0)
  have z1:(w6.alloc (.cells #[.int .i64 rc,.slice a6 rl.length c6] 25)).frozen? ⟨w.heap.size+2,1,none⟩=false:=(z 1).trans (T6.out.rf 1)
  obtain⟨e0,e1,HBF⟩:=store2 (x:= .int .i64 rc) (y:= .slice a6 rl.length c6) hW (show w.heap.size≤w.heap.size+2 by omega) r0 r1
  have hrow7:=Lf.Row.mono (row_store2 (x:= .int .i64 rc) (y:= .slice a6 rl.length c6) (hrow6.below (box_low (cs:= #[.int .i64 rc,.slice a6 rl.length c6]) (t:=25))) (show w.heap.size+2<w5.heap.size from T5.out.lt)) (show w.heap.size≤w5.heap.size by have:=T5.out.lt;omega)
  have E:=Lib.hid (And.intro e0 (And.intro e1 (And.intro hrow7 HBF)))
  clear e0 e1 hrow7 HBF hW hb6 hrow6 hx z
  go_wp2_with fail
  obtain⟨e0,e1,hrow7,HBF⟩:=E.out
  refine bodyPost_ret (v:= .tuple #[.agg #[.int .i64 rc,.slice a6 rl.length c6],.bool true]) ?_ rfl (.inl ⟨(rc,rl),_,HX.out,rfl,hrow7,HBF⟩)
  simp[results,Tryz.results34,go_sem,e0,e1]
 ·have HX:=Lib.hid hx
  have T6:=Lib.hid (T5.out.below hb6 T5.out.lt)
  have LT6:=Lib.hid (show w.heap.size+2<w6.heap.size from T6.out.lt)
  have hW:Below w.heap.size w (w6.alloc (.cells #[.int .i64 0,.slice none 0 0] 25)):=T6.out.bel.alloc (by have:=T6.out.lt;omega) _
  obtain⟨r0,r1⟩:(w6.alloc (.cells #[.int .i64 0,.slice none 0 0] 25)).cell? ⟨w.heap.size+2,0,none⟩=some (.int .i64 0)∧(w6.alloc (.cells #[.int .i64 0,.slice none 0 0] 25)).cell? ⟨w.heap.size+2,1,none⟩=some (.slice none 0 0):=⟨(box_low.cell (p:=⟨w.heap.size+2,0,none⟩) LT6.out).trans T6.out.r0,(box_low.cell (p:=⟨w.heap.size+2,1,none⟩) LT6.out).trans T6.out.r1⟩
  have z:=fun o=>(box_low (w:=w6) (cs:= #[.int .i64 0,.slice none 0 0]) (t:=25)).frozen (p:=⟨w.heap.size+2,o,none⟩) LT6.out
  have z0:(w6.alloc (.cells #[.int .i64 0,.slice none 0 0] 25)).frozen? ⟨w.heap.size+2,0,none⟩=false:=(z 0).trans (T6.out.rf 0)
  have z1:(w6.alloc (.cells #[.int .i64 0,.slice none 0 0] 25)).frozen? ⟨w.heap.size+2,1,none⟩=false:=(z 1).trans (T6.out.rf 1)
  obtain⟨e0,e1,HBF⟩:=store2 (x:= .int .i64 0) (y:= .slice none 0 0) hW (show w.heap.size≤w.heap.size+2 by omega) r0 r1
  have E:=Lib.hid (And.intro e0 (And.intro e1 HBF))
  have hk':(k == 0)=false:=by simpa using hk
  clear e0 e1 HBF hW hb6 hx z
  go_wp2_with fail
  obtain⟨e0,e1,HBF⟩:=E.out
  refine bodyPost_ret (v:= .tuple #[.agg #[.int .i64 0,.slice none 0 0],.bool false]) ?_ rfl (.inr ⟨HX.out,rfl,HBF⟩)
  simp[results,Tryz.results34,go_sem,e0,e1,hk]
end
section
open Go.ChangeShapes Go.WideShapes Go.RowKit Go.Deep
theorem list_ofC {α:Type}(n:Nat)(p:Nat→α→Prop)(h:∀i,i<n→∃m,p i m):∃l:List α,l.length=n∧∀i (hi:i<l.length),p i l[i]:=by
 induction n with
 | zero=>exact⟨[],rfl,fun i hi=>absurd hi (Nat.not_lt_zero i)⟩
 | succ n ih=>
   obtain⟨l,hl,hp⟩:=ih (fun i hi=>h i (by omega))
   obtain⟨m,hm⟩:=h n (by omega)
   refine⟨l ++ [m],by simp[hl],fun i hi=> ?_⟩
   by_cases e:i<l.length
   ·rw[List.getElem_append_left e];exact hp i e
   ·have e2:i=l.length:=by simp at hi;omega
    subst e2
    simp only[List.getElem_concat_length]
    rw[hl];exact hm
section
variable {H:Type} {enc:TypeId×Value→H} {w:World} {base:Nat} {spare:Nat→Bool} {held:Bool}
variable (enc w base spare held) in
def OpnAt (n:Nat){T:Type}(sh:Pak.Sh T)(e:TypeId):Prop:=∀ {cs:List Value} {x:DataW H×List MemPlace},DataW.trod enc Tryz.prog w base spare held n e cs=some x→∃y:T,sh.rel (Pak.Lo w.heap.size) w cs y
theorem open_row_at {T:Type}{sh:Pak.Sh T}{t e:TypeId}{fuel:Nat}(ht:Tryz.prog.underlying t=some (.slice e))(hk:Tryz.prog.cellsOf e=sh.k)(hpos:0<sh.k)(ho:∀n,n+1=fuel→OpnAt enc w base spare held n sh e){c:Value}{x:DataW H×List MemPlace}(h:DataW.trod enc Tryz.prog w base spare held fuel t [c]=some x):
 ∃xs,Pak.Slot sh (Pak.Lo w.heap.size) w c xs:=by
 have hf:∃n,fuel=n+1:=by
  cases fuel with
  | zero=>simp[DataW.trod]at h
  | succ n=>exact⟨n,rfl⟩
 obtain⟨n0,rfl⟩:=hf
 rcases DataW.trod_slice ht h with ⟨h0,_⟩ | ⟨a,len,cap,elems,rest,n,hn,hx,hcs,hb,hl,hm,hlen,hel,hrest⟩
 ·injection h0 with h0
  exact⟨[],none,0,h0,Pak.Sits.nil _ _ _ _⟩
 ·injection hx with hx
  obtain rfl:n0=n:=by omega
  have hp:∀i,i<len→∃y:T,∃cs',(∀j u,cs'[j]? =some u→w.cell? (a.add (i*sh.k+j))=some u)∧sh.rel (Pak.Lo w.heap.size) w cs' y:=fun i hil=>by
   have he:=hel i hil
   rw[List.getElem?_eq_getElem (by omega)]at he
   obtain⟨cs',hc,ht'⟩:=Option.bind_eq_some_iff.1 he
   obtain⟨y,hy⟩:=ho _ rfl ht'
   rw[hk]at hc
   obtain⟨_,hcl,hat⟩:=World.cells?_some hc
   refine⟨y,cs',fun j u hu=> ?_,hy⟩
   obtain⟨hj,rfl⟩:=List.getElem?_eq_some_iff.1 hu
   have:=hat j (by omega)
   rw[←Go.Deep.add_add]
   simpa [List.getElem?_eq_getElem hj]using this
  obtain⟨l,hll,hlp⟩:=list_ofC len _ hp
  obtain⟨b,off,sp⟩:=a
  have h63:maxLen=9223372036854775807:=rfl
  refine⟨l,some ⟨b,off,sp⟩,cap,by rw[hll];exact hx,⟨by omega,fun i hil=> ?_⟩⟩
  obtain⟨cs',h1,h2⟩:=hlp i hil
  have hlen:=sh.len h2
  have hc0:=h1 0 _ (List.getElem?_eq_getElem (by omega))
  have hsp:sp=none:=by
   obtain⟨cs0,h10,h20⟩:=hlp 0 (by omega)
   have hc00:=h10 0 _ (List.getElem?_eq_getElem (by have:=sh.len h20;omega))
   have:=World.cell?_spot hc00
   simpa [Addr.add]using this
  subst hsp
  rw[Go.WideShapes.add_plain]at hc0
  refine⟨b,off,cs',rfl,by simpa using block_lt_of_cell hc0,fun j u hu=> ?_,h2⟩
  have:=h1 j u hu
  rw[Go.WideShapes.add_plain]at this
  rwa [Nat.add_assoc]
end
end
end Go.Proofs.YtjbkhdbjdahbiaaGreatDoor
