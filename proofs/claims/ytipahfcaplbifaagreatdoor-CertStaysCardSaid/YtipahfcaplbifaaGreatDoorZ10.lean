/- Parts of a proof. -/
import Derived.Test.YtipahfcaplbifaaGreatDoorZ03
import Derived.Test.YtipahfcaplbifaaGreatDoorZ06
import Derived.Test.YtipahfcaplbifaaGreatDoorZ07
import Derived.Test.YtipahfcaplbifaaGreatDoorZShelf
set_option linter.unusedVariables false
set_option linter.unusedSimpArgs false
set_option maxHeartbeats 60000000
set_option maxRecDepth 100000
namespace Go.Proofs.YtipahfcaplbifaaGreatDoor
section
open Go.RowKit
abbrev Tens (B:Nat)(w:World):Prop:=Lib.TabBelow Tryz.prog B w "internal/strconv.uint64pow10" .u64 Lib.pow10Tab
theorem Tens.up {B B':Nat}{w w':World}(h:Tens B w)(hb:Below B w w')(hB:B≤B'):Tens B' w':=fun w2 h2=>h w2 (hb.trans (h2.mono hB))
theorem bcells (l:List UInt8)(m:List UInt8):Lib.byteCells l ++ Lib.byteCells m=Lib.byteCells (l ++ m):=by simp[Lib.byteCells]
theorem app_int {B:Nat}{l:List UInt8}{i:Int}{v:Value}{w:World}(h:Pak.BRow B l v w)(hB:B≤w.heap.size)(hi: -9223372036854775808≤i∧i≤9223372036854775807)(hl:l.length+21≤140737488355328)(ht:Tens B w):
 Calls Tryz.prog 116 #[v,.int .i64 i,.int .i64 10] w fun e w'=>∃v',e= .returned v'∧Pak.BRow B (l ++ Lib.itoa i) v' w'∧Below B w w'∧Lib.OthersKept 5 none w w':=by
 refine(Tryz.strconv_AppendInt_10 B l.length i hi.1 hi.2 v _ w h hB hl ht).mono ?_
 rintro e w' ⟨v',rfl,h2,h3,h4⟩
 refine⟨v',rfl, ?_,h3,h4⟩
 unfold Pak.BRow
 rw[List.length_append,←bcells]
 exact h2
theorem app_byte {w:World}{B:Nat}{l:List UInt8}{v:Value}(c:UInt8)(x:Int)(hx:x=(c.toNat:Int))(hv:Pak.BRow B l v w)(hB:B≤w.heap.size)(hsz:l.length+1≤140000000000000):
 ∃v' w',(∀ty,(Builtin.append_ #[182,182] ty #[v,.slice (some ⟨w.heap.size,0,none⟩) 1 1]).run Tryz.prog (w.alloc (.cells #[.int .u8 x] 5))= .ok v' w')∧Pak.BRow B (l ++ [c]) v' w'∧Below B w w'∧Lib.OthersKept 5 none w w':=by
 have hA:Below w.heap.size w (w.alloc (.cells #[.int .u8 x] 5)):=(Below.refl _ w).alloc (Nat.le_refl _) _
 have hvA:Pak.BRow B l v (w.alloc (.cells #[.int .u8 x] 5)):=hv.below hA
 obtain⟨v',w',h1,h2,h3,h4,h5⟩:=Pak.run_cat2 hvA (Pak.byte_new w c x hx) (Nat.le_trans hB hA.size) (by simpa using hsz)
 refine⟨v',w',h1,h2,(hA.mono hB).trans h3,((Lib.OthersKept.refl _ _ w).alloc _).grown h4 (fun g hg=> ?_)⟩
 rcases hvA.2 with ⟨rfl,_⟩ | ⟨q,cap,cur,rfl,_,hh,_⟩
 ·cases hg
 ·injection hg with hg
  subst hg
  exact⟨_,_,hh⟩
theorem box_kept {w w':World}{q:Nat}{x y:Value}(h:w.heap[q]? =some (.cells #[x,y] 92))(hk:Lib.OthersKept 5 none w w'):w'.heap[q]? =some (.cells #[x,y] 92):=
 hk q _ h (fun e=>by cases e) (fun c fz e=>by injection e with _ e _;exact absurd e (by decide))
theorem box_cells {w:World}{q:Nat}{x y:Value}(h:w.heap[q]? =some (.cells #[x,y] 92)):w.cell? ⟨q,0,none⟩=some x∧w.cell? ⟨q,1,none⟩=some y:=
 ⟨(cell_of_row _ _ _ _ _ _ h).trans rfl,(cell_of_row _ _ _ _ _ _ h).trans rfl⟩
theorem itoa_len (i:Int)(hi: -9223372036854775808≤i∧i≤9223372036854775807):(Lib.itoa i).length≤21:=Lib.itoa_length_le i hi.1 hi.2
theorem restT_len:∀(t:List (Int×Int)),(∀m∈t,(-9223372036854775808≤m.1∧m.1≤9223372036854775807)∧(-9223372036854775808≤m.2∧m.2≤9223372036854775807))→(restT t).length≤44*t.length
 | [],_=>Nat.le_refl _
 | m :: t,h=>by
   have h1:=restT_len t (fun x hx=>h x (List.mem_cons_of_mem _ hx))
   have h2:=h m (by simp)
   have h3:=itoa_len _ h2.1
   have h4:=itoa_len _ h2.2
   have e:restT (m :: t)=32 :: (Lib.itoa m.1 ++ (32 :: (Lib.itoa m.2 ++ restT t))):=by simp[restT]
   rw[e]
   simp only[List.length_cons,List.length_append]
   omega
theorem textL_len {c:Int}{t:List (Int×Int)}(hs:snd c t=true):∀k,k≤t.length→(textL c (t.take k)).length≤4000:=fun k hk=>by
 obtain⟨h1,h2,h3⟩:=snd_iff.1 hs
 have hc: -1073741824≤c∧c≤1073741824:=by unfold wi at h1;simpa using h1
 have h4:=itoa_len c (by omega)
 have h5:=restT_len (t.take k) (fun m hm=>by
  obtain⟨i,hi,rfl⟩:=List.getElem_of_mem (List.mem_of_mem_take hm)
  have:=okAt_in (h3 i hi)
  rw[List.getD_eq_getElem?_getD,List.getElem?_eq_getElem hi,Option.getD_some]at this
  omega)
 unfold textL
 rw[List.length_append]
 have:(t.take k).length≤64:=by rw[List.length_take];omega
 omega
theorem textL_next {c:Int}{l:List (Int×Int)}{k:Nat}(h:k<l.length):textL c (l.take (k+1))=(((textL c (l.take k) ++ [32]) ++ Lib.itoa (l.getD k (0,0)).1) ++ [32]) ++ Lib.itoa (l.getD k (0,0)).2:=by
 unfold textL
 rw[take_snoc l k h,restT_snoc]
 simp
theorem text_any (c:Int)(a:Option Addr)(n cap:Nat)(l:List (Int×Int))(w:World)(hn:l.length=n)(hl:Lies w.heap.size w a l)(hs:snd c l=true)(ht:Tens w.heap.size w):
 Calls Tryz.prog 86 #[.agg #[.int .i64 c,.slice a n cap]] w fun e w'=>e= .returned (.string ⟨(textL c l).toArray⟩)∧Below w.heap.size w w':=by
 obtain⟨h1,h64,h3⟩:=snd_iff.1 hs
 have hc: -1073741824≤c∧c≤1073741824:=by unfold wi at h1;simpa using h1
 have HTL:=Lib.hid (textL_len hs)
 have HOK:=Lib.hid h3
 have HN:=Lib.hid hn
 have hA:Below w.heap.size w (w.alloc (.cells #[.int .i64 c,.slice a n cap] 36)):=(Below.refl _ _).alloc (Nat.le_refl _) _
 have HA:=Lib.hid hA
 have HL:=Lib.hid hl
 have HT:=Lib.hid (ht.up hA (Nat.le_succ _))
 have hsz:(w.alloc (.cells #[.int .i64 c,.slice a n cap] 36)).heap.size=w.heap.size+1:=by simp
 have hnw:=heap_alloc_new w (.cells #[.int .i64 c,.slice a n cap] 36)
 have hb1:(w.alloc (.cells #[.int .i64 c,.slice a n cap] 36)).cell? ⟨w.heap.size,1,none⟩=some (.slice a n cap):=(cell_of_row _ _ _ _ _ _ hnw).trans rfl
 have HB1:=Lib.hid hb1
 have HC:=Lib.hid (app_int (Pak.BRow.nil (w.heap.size+1) (w.alloc (.cells #[.int .i64 c,.slice a n cap] 36))) (Nat.le_of_eq hsz.symm) (i:=c) (by omega) (by decide) HT.out)
 have hnm:n≤64:=by omega
 have HZ:=Lib.hid hsz
 clear h1 h64 h3 hs hn hl ht hA hsz hnw hb1
 go_enter Tryz.func86,Tryz.ntmps86
 go_wp2_with fail
 refine HC.out.mono ?_
 rintro e w1 ⟨v,rfl,hr,hb,_⟩
 rw[List.nil_append]at hr
 have x1:=(hb.cell (p:=⟨w.heap.size,1,none⟩) (Nat.lt_succ_self _)).trans HB1.out
 have HR1:Hid (Pak.BRow (w.heap.size+1) (textL c (l.take 0)) v w1):=by
  show Pak.BRow (w.heap.size+1) (Lib.itoa c ++ []) v w1
  rw[List.append_nil];exact hr
 have HB:Hid (Below (w.heap.size+1) (w.alloc (.cells #[.int .i64 c,.slice a n cap] 36)) w1):=hb
 clear hr hb HC HB1
 go_wp2_with fail
 clear x1
 generalize w.alloc (.cells #[.int .i64 c,.slice a n cap] 36)=W0 at*
 go_loopw [3,12] (fun b i wr=>∃k:Nat,i= .int .i64 k∧k≤n∧Hid (Pak.BRow (w.heap.size+1) (textL c (l.take k)) b wr)∧Hid (Below (w.heap.size+1) W0 wr)) (fun _ i _=>n - (intOf i).toNat)
 case atStart=>exact⟨0,rfl,Nat.zero_le _,HR1,HB⟩
 case round=>
  clear HR1 HB
  obtain⟨k,rfl,hk,hR,hB⟩:=hrel
  by_cases hlt:k<n
  ·have hlti:(k:Int)<(n:Int):=by omega
   have hBw:Below w.heap.size w wr:=HA.out.trans (hB.out.mono (Nat.le_succ _))
   obtain⟨b,off,rfl,hblt,c1,c2⟩:=(HL.out.below hBw) k (by rw[HN.out];exact hlt)
   have hi:=okAt_in (HOK.out k (by rw[HN.out];exact hlt))
   have HX:=textL_next (c:=c) (l:=l) (k:=k) (by rw[HN.out];exact hlt)
   have hlen:=HTL.out k (by rw[HN.out];exact hk)
   have hlen2:=HTL.out (k+1) (by rw[HN.out];exact hlt)
   rw[HX]at hlen2
   have HX2:=Lib.hid HX
   clear HX
   generalize (l.getD k (0,0)).1=x at*
   generalize (l.getD k (0,0)).2=y at*
   have hA2:Below wr.heap.size wr (wr.alloc (.cells #[.int .i64 x,.int .i64 y] 92)):=(Below.refl _ _).alloc (Nat.le_refl _) _
   have hq2:=heap_alloc_new wr (.cells #[.int .i64 x,.int .i64 y] 92)
   have hz2:W0.heap.size≤wr.heap.size:=hB.out.size
   have hzz:w.heap.size+1≤wr.heap.size:=by have:=HZ.out;omega
   simp only[List.length_append,List.length_cons,List.length_nil]at hlen2
   obtain⟨v2,w2,hr2,ho2,hb2,hk2⟩:=app_byte (w:=wr.alloc (.cells #[.int .i64 x,.int .i64 y] 92)) 32 32 rfl (hR.out.below hA2) (Nat.le_trans hzz hA2.size) (by omega)
   have q2:=box_kept hq2 hk2
   have B2:Hid (Below (w.heap.size+1) W0 w2):=hB.out.trans ((hA2.mono hzz).trans hb2)
   have h02:=(box_cells q2).1
   have hz3:w.heap.size+1≤w2.heap.size:=Nat.le_trans hzz (Nat.le_trans hA2.size hb2.size)
   have HC2:=Lib.hid (app_int ho2 hz3 (i:=x) (by omega) (by simp;omega) (HT.out.up B2.out (Nat.le_refl _)))
   have Q2:=Lib.hid q2
   have HZ3:=Lib.hid hz3
   simp only[World.size_alloc]at hr2
   clear hA2 hq2 hz2 ho2 hb2 hk2 q2 hR hB
   go_wp2_with (at_builtin;refine Lib.wpList_append_run _ rfl _ _ _ _ rfl _ _ rfl rfl _ _ (hr2 _) ?_)
   clear hr2 c1 c2
   refine HC2.out.mono ?_
   rintro e w3 ⟨v3,rfl,hr3,hb3,hk3⟩
   have q3:=box_kept Q2.out hk3
   have hz4:w.heap.size+1≤w3.heap.size:=Nat.le_trans HZ3.out hb3.size
   obtain⟨v4,w4,hr4,ho4,hb4,hk4⟩:=app_byte (w:=w3) 32 32 rfl hr3 hz4 (by simp only[List.length_append,List.length_cons,List.length_nil];omega)
   have q4:=box_kept q3 hk4
   have B4:Hid (Below (w.heap.size+1) W0 w4):=B2.out.trans (hb3.trans hb4)
   have h14:=(box_cells q4).2
   have HC4:=Lib.hid (app_int ho4 (Nat.le_trans hz4 hb4.size) (i:=y) (by omega) (by simp only[List.length_append,List.length_cons,List.length_nil];omega) (HT.out.up B4.out (Nat.le_refl _)))
   clear hr3 hb3 hk3 q3 hz4 ho4 hb4 hk4 q4 h02 HC2 Q2 HZ3 B2
   go_wp2_with (at_builtin;refine Lib.wpList_append_run _ rfl _ _ _ _ rfl _ _ rfl rfl _ _ (hr4 _) ?_)
   clear hr4 h14
   refine HC4.out.mono ?_
   rintro e w5 ⟨v5,rfl,hr5,hb5,hk5⟩
   rw[←HX2.out]at hr5
   have HR5:=Lib.hid hr5
   have B5:=Lib.hid (B4.out.trans hb5)
   clear hr5 hb5 hk5 HC4 B4 HX2
   go_wp2_with fail
   go_roundw
   case rel=>exact⟨k+1,by go_num,by omega,HR5,B5⟩
   case measure=>simp[intOf];omega
  ·have hlti:¬(k:Int)<(n:Int):=by omega
   obtain rfl:k=n:=by omega
   have hR2:=hR.out
   rw[←HN.out,List.take_length]at hR2
   have hl4:=HTL.out k (by rw[HN.out];exact Nat.le_refl _)
   rw[←HN.out,List.take_length]at hl4
   have hcv:=hR2.conv (by omega)
   have HE:Hid (Below w.heap.size w wr):=HA.out.trans (hB.out.mono (Nat.le_succ _))
   obtain⟨a9,cap9,rfl⟩:=hR2.slice
   clear hR hB hR2 hl4 HTL
   obtain⟨ta,hta⟩:∃ta,ta=(textL c l).toArray:=⟨_,rfl⟩
   rw[←hta]at hcv
   have HTA:=Lib.hid hta
   clear hta
   generalize (textL c l).length=tn at hcv
   go_wp2_with fail
   go_ret
   exact⟨by rw[←HTA.out];rfl,HE.out⟩
end
section
open Go.ChangeShapes Go.WideShapes Go.RowKit Go.Deep
theorem FLies.succ {B:Nat}{w:World}:∀ {n:Nat} {f:FT} {cs:List Value},FLies B w n f cs→FLies B w (n+1) f cs
 | 0,_,_,h=>h.elim
 | n+1,f,cs,⟨ta,tcap,ka,kcap,h1,h2,h3,h4,h5⟩=>⟨ta,tcap,ka,kcap,h1,h2,h3,h4,fun i hi=>by
   obtain⟨b,off,c0,c1,c2,c3,e,hlt,g0,g1,g2,g3,hf⟩:=h5 i hi
   exact⟨b,off,c0,c1,c2,c3,e,hlt,g0,g1,g2,g3,hf.succ⟩⟩
theorem list_of_any {α:Type}[Inhabited α](n:Nat)(p:Nat→α→Prop)(h:∀i,i<n→∃m,p i m):∃l:List α,l.length=n∧∀i,i<n→p i (l.getD i default):=by
 induction n with
 | zero=>exact⟨[],rfl,fun i hi=>absurd hi (Nat.not_lt_zero i)⟩
 | succ n ih=>
   obtain⟨l,hl,hp⟩:=ih (fun i hi=>h i (by omega))
   obtain⟨m,hm⟩:=h n (by omega)
   refine⟨l ++ [m],by simp[hl],fun i hi=> ?_⟩
   by_cases e:i=n
   ·subst e
    rw[List.getD_eq_getElem?_getD,List.getElem?_append_right (by omega),hl]
    simpa using hm
   ·have:=hp i (by omega)
    rw[List.getD_eq_getElem?_getD]at this⊢
    rwa [List.getElem?_append_left (by omega)]
theorem list4 {α:Type}{l:List α}(h:l.length=4):∃a b c d,l=[a,b,c,d]:=by
 match l,h with
 | [a,b,c,d],_=>exact⟨a,b,c,d,rfl⟩
section
variable {H:Type} {enc:TypeId×Value→H} {w:World} {base:Nat} {spare:Nat→Bool} {held:Bool}
theorem open_form_cells:∀(N:Nat) {fuel:Nat} {cs:List Value} {x:DataW H×List MemPlace},fuel≤N→DataW.trod enc Tryz.prog w base spare held fuel 39 cs=some x→∃f,FLies w.heap.size w N f cs
 | 0,fuel,cs,x,hN,h=>by
   obtain⟨xs,n,rfl,_⟩:=DataW.trod_struct Tryz.underlying39 h
   omega
 | N+1,fuel,cs,x,hN,h=>by
   have IH:= @open_form_cells N
   obtain⟨xs,n,rfl,_,hl,hlen,hf⟩:=DataW.trod_struct Tryz.underlying39 h
   obtain⟨c0,c1,c2,c3,rfl⟩:=list4 (hl.trans (by kernel_rfl))
   have e1:Tryz.prog.cellsOf 3=1:=by kernel_rfl
   have e2:Tryz.prog.cellsOf 36=2:=by kernel_rfl
   have e3:Tryz.prog.cellsOf 37=1:=by kernel_rfl
   have e4:Tryz.prog.cellsOf 39=4:=by kernel_rfl
   have e5:Tryz.prog.cellsOf 34=1:=by kernel_rfl
   have hx:∀i,i<3→∃y,xs[i]? =some y:=fun i hi=>⟨_,List.getElem?_eq_getElem (by rw[hlen];exact hi)⟩
   have h0:DataW.trod enc Tryz.prog w base spare held n 3 [c0]=xs[0]? :=by
    have:DataW.trod enc Tryz.prog w base spare held n 3 ((([c0,c1,c2,c3]:List Value).drop 0).take (Tryz.prog.cellsOf 3))=xs[0]? :=hf 0 _ rfl
    rw[e1]at this
    exact this
   have h1:DataW.trod enc Tryz.prog w base spare held n 36 [c1,c2]=xs[1]? :=by
    have:DataW.trod enc Tryz.prog w base spare held n 36 ((([c0,c1,c2,c3]:List Value).drop 1).take (Tryz.prog.cellsOf 36))=xs[1]? :=hf 1 _ rfl
    rw[e2]at this
    exact this
   have h2:DataW.trod enc Tryz.prog w base spare held n 37 [c3]=xs[2]? :=by
    have:DataW.trod enc Tryz.prog w base spare held n 37 ((([c0,c1,c2,c3]:List Value).drop 3).take (Tryz.prog.cellsOf 37))=xs[2]? :=hf 2 _ rfl
    rw[e3]at this
    exact this
   obtain⟨y0,z0⟩:=hx 0 (by omega)
   obtain⟨y1,z1⟩:=hx 1 (by omega)
   obtain⟨y2,z2⟩:=hx 2 (by omega)
   rw[z0]at h0
   rw[z1]at h1
   rw[z2]at h2
   clear hf hx z0 z1 z2
   obtain⟨k,ek,_,_⟩:=DataW.trod_int Tryz.underlying3 h0
   obtain⟨xs',n',_,_,_,hlen',hf'⟩:=DataW.trod_struct Tryz.underlying36 h1
   have hx':∀i,i<2→∃y,xs'[i]? =some y:=fun i hi=>⟨_,List.getElem?_eq_getElem (by rw[hlen'];exact hi)⟩
   have g0:DataW.trod enc Tryz.prog w base spare held n' 3 [c1]=xs'[0]? :=by
    have:DataW.trod enc Tryz.prog w base spare held n' 3 ((([c1,c2]:List Value).drop 0).take (Tryz.prog.cellsOf 3))=xs'[0]? :=hf' 0 _ rfl
    rw[e1]at this
    exact this
   have g1:DataW.trod enc Tryz.prog w base spare held n' 34 [c2]=xs'[1]? :=by
    have:DataW.trod enc Tryz.prog w base spare held n' 34 ((([c1,c2]:List Value).drop 1).take (Tryz.prog.cellsOf 34))=xs'[1]? :=hf' 1 _ rfl
    rw[e5]at this
    exact this
   obtain⟨y3,z3⟩:=hx' 0 (by omega)
   obtain⟨y4,z4⟩:=hx' 1 (by omega)
   rw[z3]at g0
   rw[z4]at g1
   obtain⟨c,ec,_,_⟩:=DataW.trod_int Tryz.underlying3 g0
   obtain⟨ta,tn,tcap,l,et,htl,htn,htc,_,hlies,_⟩:=open_monos g1
   injection ek with ek
   injection ec with ec
   subst ek ec et
   have htm:tn≤9223372036854775807:=by unfold maxLen at htc;omega
   subst htl
   clear hf' hx' z3 z4 g0 g1 h0 h1
   rcases DataW.trod_slice Tryz.underlying37 h2 with ⟨h3,_⟩ | ⟨a,len,cap,elems,rest,n2,hn2,h3,_,_,hlc,hcm,hel,hat,_,_⟩
   ·injection h3 with h3
    subst h3
    exact⟨.mk k c l [],ta,tcap,none,0,rfl,hlies,htm,by simp[FT.ks],fun i hi=>absurd hi (by simp[FT.ks])⟩
   ·injection h3 with h3
    subst h3
    have hp:∀i,i<len→∃g:FT,∃b off c0 c1 c2 c3,a=⟨b,off,none⟩∧b<w.heap.size∧w.cell? ⟨b,off+i*4,none⟩=some c0∧w.cell? ⟨b,off+i*4+1,none⟩=some c1∧w.cell? ⟨b,off+i*4+2,none⟩=some c2∧w.cell? ⟨b,off+i*4+3,none⟩=some c3∧FLies w.heap.size w N g [c0,c1,c2,c3]:=by
     intro i hi
     have hc:=hat i hi
     rw[List.getElem?_eq_getElem (by omega)]at hc
     obtain⟨cs',k1,k2⟩:=Option.bind_eq_some_iff.1 hc
     obtain⟨g,hg⟩:=IH (by omega) k2
     obtain⟨_,hcl,hat'⟩:=World.cells?_some k1
     rw[e4]at hcl
     obtain⟨d0,d1,d2,d3,rfl⟩:=list4 hcl
     have q0:=hat' 0 (by rw[e4];omega)
     have q1:=hat' 1 (by rw[e4];omega)
     have q2:=hat' 2 (by rw[e4];omega)
     have q3:=hat' 3 (by rw[e4];omega)
     rw[Go.Deep.add_add,e4]at q0 q1 q2 q3
     obtain⟨b,off,spot⟩:=a
     have hs:spot=none:=by
      have hc0:=hat 0 (by omega)
      rw[List.getElem?_eq_getElem (by omega)]at hc0
      obtain⟨cs0,u1,_⟩:=Option.bind_eq_some_iff.1 hc0
      obtain⟨_,ucl,uat⟩:=World.cells?_some u1
      rw[e4]at ucl
      obtain⟨_,_,_,_,rfl⟩:=list4 ucl
      have u0:=uat 0 (by rw[e4];omega)
      rw[Go.Deep.add_add,e4]at u0
      simpa [Addr.add]using World.cell?_spot u0
     subst hs
     rw[Go.WideShapes.add_plain]at q0 q1 q2 q3
     exact⟨g,b,off,d0,d1,d2,d3,rfl,by simpa using block_lt_of_cell q0,q0,q1,q2,q3,hg⟩
    obtain⟨ks,hks,hkp⟩:=list_of_any len _ hp
    subst hks
    refine⟨.mk k c l ks,ta,tcap,some a,cap,rfl,hlies,htm,by unfold maxLen at hcm;simp only[FT.ks];omega,fun i hi=> ?_⟩
    obtain⟨b,off,d0,d1,d2,d3,ha,r⟩:=hkp i hi
    exact⟨b,off,d0,d1,d2,d3,by rw[ha],r⟩
theorem open_form {r:Reach}{b0:Nat}{v:Value}{d:DataW H}{p:List MemPlace}(hv:Value.okWide Tryz.prog w r b0 39 v)(h:DataW.Trod enc Tryz.prog w base spare held 39 v d p):
 ∃n f cs,v= .agg cs.toArray∧FLies w.heap.size w n f cs:=by
 obtain⟨cs,rfl,hsz⟩:=okWide_struct Tryz.underlying39 hv
 obtain⟨fuel,hf⟩:=h
 obtain⟨f,hl⟩:=open_form_cells fuel (Nat.le_refl _) hf
 refine⟨fuel,f,cs.toList,rfl, ?_⟩
 simpa [Value.cells]using hl
end
end
end Go.Proofs.YtipahfcaplbifaaGreatDoor
