/- Parts of a proof. -/
import Derived.Test.YtfinhpfjokpcfaaGreatDoorQ02
import Derived.Test.YtfinhpfjokpcfaaGreatDoorQ03
import Derived.Test.YtfinhpfjokpcfaaGreatDoorQ08
import Derived.Test.YtfinhpfjokpcfaaGreatDoorQ16
import Derived.Test.YtfinhpfjokpcfaaGreatDoorQ18
import Derived.Test.YtfinhpfjokpcfaaGreatDoorQ28
import Derived.Test.YtfinhpfjokpcfaaGreatDoorQ29
import Derived.Deep.RegionLaw
import Derived.Deep.RegionHeld3
set_option linter.unusedVariables false
set_option linter.unusedSimpArgs false
set_option maxHeartbeats 60000000
set_option maxRecDepth 100000
namespace Go.Proofs.YtfinhpfjokpcfaaGreatDoor
section
open Go.RowKit
theorem slot_imp {T:Type}{sh sh':Pak.Sh T}{S:Nat→Prop}{w:World}{v:Value}{xs:List T}(hk:sh'.k=sh.k)(h:∀cs x,sh.rel S w cs x→sh'.rel S w cs x)(hs:Pak.Slot sh S w v xs):Pak.Slot sh' S w v xs:=by
 obtain⟨a,cap,e,h1,h2⟩:=hs
 refine⟨a,cap,e,h1,fun i hi=> ?_⟩
 obtain⟨b,off,cs,e,hb,hc,hr⟩:=h2 i hi
 exact⟨b,off,cs,e,hb,by rw[hk];exact hc,h cs _ hr⟩
theorem exprSh_up:∀(n:Nat) {S:Nat→Prop} {w:World} {cs:List Value} {e:ET},(exprSh n).rel S w cs e→(exprSh (n+1)).rel S w cs e
 | 0,_,_,_,_,h=>h.elim
 | n+1,S,w,cs,e,⟨v,h1,h2,h3⟩=>⟨v,h1,h2,slot_imp (by rw[exprSh_k,exprSh_k]) (fun cs x h=>exprSh_up n h) h3⟩
theorem condSh_up:∀(n:Nat) {S:Nat→Prop} {w:World} {cs:List Value} {e:CT},(condSh n).rel S w cs e→(condSh (n+1)).rel S w cs e
 | 0,_,_,_,_,h=>h.elim
 | n+1,S,w,cs,e,⟨u,v,h1,h2,h3,h4⟩=>⟨u,v,h1,h2,slot_imp (by rw[exprSh_k,exprSh_k]) (fun cs x h=>exprSh_up n h) h3,slot_imp (by rw[condSh_k,condSh_k]) (fun cs x h=>condSh_up n h) h4⟩
theorem assnSh_up:∀(n:Nat) {S:Nat→Prop} {w:World} {cs:List Value} {e:AT},(assnSh n).rel S w cs e→(assnSh (n+1)).rel S w cs e
 | 0,_,_,_,_,h=>h.elim
 | n+1,S,w,cs,e,⟨cc,ce,cv,v,h1,h2,h3,h4,h5,h6⟩=>⟨cc,ce,cv,v,h1,h2,condSh_up n h3,exprSh_up n h4,exprSh_up n h5,slot_imp (by rw[assnSh_k,assnSh_k]) (fun cs x h=>assnSh_up n h) h6⟩
def zE:ET:= .mk 0 0 ⟨#[]⟩ []
def zC:CT:= .mk 0 [] []
def zA:AT:= .mk 0 zC zE zE ⟨#[]⟩ 0 []
def zEc:List Value:=[.int .i64 0,.int .i64 0,.string ⟨#[]⟩,.slice none 0 0]
def zCc:List Value:=[.int .i64 0,.slice none 0 0,.slice none 0 0]
def zAc:List Value:=[.int .i64 0,.int .i64 0,.slice none 0 0,.slice none 0 0,.int .i64 0,.int .i64 0,.string ⟨#[]⟩,.slice none 0 0,.int .i64 0,.int .i64 0,.string ⟨#[]⟩,.slice none 0 0,.string ⟨#[]⟩,.int .i64 0,.slice none 0 0]
theorem slot_nil {T:Type}(sh:Pak.Sh T)(S:Nat→Prop)(w:World):Pak.Slot sh S w (.slice none 0 0) []:=⟨none,0,rfl,Pak.Sits.nil _ _ _ _⟩
theorem i64_0:i64 0:=⟨by decide,by decide⟩
theorem zE_rel (n:Nat)(S:Nat→Prop)(w:World):(exprSh (n+1)).rel S w zEc zE:=⟨_,rfl,⟨i64_0,i64_0,Nat.zero_le _⟩,slot_nil _ _ _⟩
theorem zC_rel (n:Nat)(S:Nat→Prop)(w:World):(condSh (n+1)).rel S w zCc zC:=⟨_,_,rfl,i64_0,slot_nil _ _ _,slot_nil _ _ _⟩
theorem zA_rel (n:Nat)(S:Nat→Prop)(w:World):(assnSh (n+2)).rel S w zAc zA:=⟨zCc,zEc,zEc,_,rfl,⟨i64_0,i64_0,Nat.zero_le _⟩,zC_rel n S w,zE_rel n S w,zE_rel n S w,slot_nil _ _ _⟩
def sSet (e:ET):ST:= .mk ⟨1,⟨#[120]⟩,⟨#[]⟩,⟨#[]⟩,e,zE,zC,zA,[],[],[]⟩ [] []
def sAst (c:CT):ST:= .mk ⟨8,⟨#[]⟩,⟨#[]⟩,⟨#[]⟩,zE,zE,c,zA,[],[],[]⟩ [] []
def pOf (a:AT)(l:List ST):QT:=⟨⟨#[112]⟩,[],[],a,zA,l⟩
theorem sSet_rel {n:Nat}{S:Nat→Prop}{w:World}{ce:List Value}{e:ET}(h:(exprSh (n+2)).rel S w ce e):(stmtSh (n+3)).rel S w ([.int .i64 1,.string ⟨#[120]⟩,.string ⟨#[]⟩,.string ⟨#[]⟩] ++ (ce ++ (zEc ++ (zCc ++ (zAc ++ [.slice none 0 0,.slice none 0 0,.slice none 0 0,.slice none 0 0,.slice none 0 0]))))) (sSet e):=
 ⟨ce,zEc,zCc,zAc,_,_,_,_,_,rfl,⟨show(-9223372036854775808≤(1:Int)∧(1:Int)≤9223372036854775807) from⟨by decide,by decide⟩,show(⟨#[120]⟩:ByteArray).size≤maxLen from by decide,Nat.zero_le _,Nat.zero_le _⟩,⟨h,zE_rel (n+1) S w,zC_rel (n+1) S w,zA_rel n S w⟩,⟨slot_nil _ _ _,slot_nil _ _ _,slot_nil _ _ _⟩,slot_nil _ _ _,slot_nil _ _ _⟩
theorem sAst_rel {n:Nat}{S:Nat→Prop}{w:World}{cc:List Value}{c:CT}(h:(condSh (n+2)).rel S w cc c):(stmtSh (n+3)).rel S w ([.int .i64 8,.string ⟨#[]⟩,.string ⟨#[]⟩,.string ⟨#[]⟩] ++ (zEc ++ (zEc ++ (cc ++ (zAc ++ [.slice none 0 0,.slice none 0 0,.slice none 0 0,.slice none 0 0,.slice none 0 0]))))) (sAst c):=
 ⟨zEc,zEc,cc,zAc,_,_,_,_,_,rfl,⟨show(-9223372036854775808≤(8:Int)∧(8:Int)≤9223372036854775807) from⟨by decide,by decide⟩,Nat.zero_le _,Nat.zero_le _,Nat.zero_le _⟩,⟨zE_rel (n+1) S w,zE_rel (n+1) S w,h,zA_rel n S w⟩,⟨slot_nil _ _ _,slot_nil _ _ _,slot_nil _ _ _⟩,slot_nil _ _ _,slot_nil _ _ _⟩
theorem sits_block {T:Type}{sh:Pak.Sh T}{S:Nat→Prop}{W:World}{g:Nat}{cs:List Value}{t:TypeId}{x:T}(hg:W.heap[g]? =some (.cells cs.toArray t (0,0)))(hS:S g)(h:sh.rel S W cs x):Pak.Sits sh S W (some ⟨g,0,none⟩) [x]:=
 ⟨show 1≤9223372036854775807 from by decide,fun i hi=>by
   have h0:i=0:=by simpa using hi
   subst h0
   refine⟨g,0,cs,rfl,hS,fun j u hu=> ?_,h⟩
   rw[Nat.zero_mul,Nat.add_zero,Nat.zero_add,cell_of_row _ _ _ _ _ _ hg]
   rw[List.getElem?_toArray];exact hu⟩
def nmB (s:ByteArray):Bool:=nameB s.data.toList
theorem nmLaw:NameLaw nmB Laid:=⟨fun s w hs hL=>name_any s w hs hL,fun h hb=>h.up hb⟩
theorem rnmLaw (s:ByteArray)(w:World)(hs:s.size≤maxLen):BoolAll 56 #[.string s] (nmB s) w:=fun W hW=>rname_any s W hs
theorem fold_put:∀(l P R:List Value),R.length=l.length→List.foldl (fun(cs:Array Value) (x:Value×Nat)=>cs.setIfInBounds x.2 x.1) (P ++ R).toArray (l.zipIdx P.length)=(P ++ l).toArray
 | [],P,R,h=>by rw[List.eq_nil_of_length_eq_zero h];rfl
 | x :: l,P,[],h=>by cases h
 | x :: l,P,y :: R,h=>by
   rw[List.zipIdx_cons,List.foldl_cons]
   have e:((P ++ y :: R).toArray).setIfInBounds P.length x=((P ++ [x]) ++ R).toArray:=by
    rw[List.setIfInBounds_toArray]
    congr 1
    rw[List.set_append_right _ _ (Nat.le_refl _),Nat.sub_self,List.set_cons_zero]
    simp
   rw[e]
   have:=fold_put l (P ++ [x]) R (by simpa using h)
   rw[List.length_append]at this
   rw[show P.length+1=P.length+[x].length from rfl,this]
   simp
theorem refused_box (x0:Value)(r:List Value)(k:Int)(w:World)(hlen:r.length=33)(hone:∀u∈r,u.oneCell'=true)
 (hck:∀W g,Below w.heap.size w W→W.heap[g]? =some (.cells (.string ⟨#[112]⟩ :: r).toArray 71 (0,0))→Calls Tryz.prog 35 #[.agg #[.slice (some ⟨g,0,none⟩) 1 1]] W (ErrIn k W)):
 Calls Tryz.prog 21 #[.agg (x0 :: r).toArray] w (SoundEnd (!(k == 0)) w):=by
 have HA1:Hid (Below w.heap.size w (w.alloc (.cells (.string ⟨#[112]⟩ :: r).toArray 71))):=box_low
 have HA2:Hid (Below w.heap.size w ((w.alloc (.cells (.string ⟨#[112]⟩ :: r).toArray 71)).alloc (.cells (.string ⟨#[112]⟩ :: r).toArray 71))):=Lib.hid (HA1.out.alloc (by simp) _)
 have HX:Hid (∀i v,(.string ⟨#[112]⟩ :: r:List Value)[i]? =some v→(w.alloc (.cells (.string ⟨#[112]⟩ :: r).toArray 71)).cell? ((⟨w.heap.size,0,none⟩:Addr).add i)=some v):=box_part (o:=0) (fun i v h=>by rw[Nat.zero_add];exact h) (Below.refl _ _)
 have HC:=Lib.hid (hck _ (w.heap.size+1) HA2.out (by have:=heap_alloc_new (w.alloc (.cells (.string ⟨#[112]⟩ :: r).toArray 71)) (.cells (.string ⟨#[112]⟩ :: r).toArray 71);rwa [show(w.alloc (.cells (.string ⟨#[112]⟩ :: r).toArray 71)).heap.size=w.heap.size+1 by simp]at this))
 have HL:Hid ((.string ⟨#[112]⟩ :: r:List Value).length=34):=Lib.hid (by simp[hlen])
 have n1:=fun W=>Tryz.neNil W
 have n2:=fun t v W=>Tryz.neIface t v W
 have hfold:List.foldl (fun(cs:Array Value) (x:Value×Nat)=>cs.setIfInBounds x.2 x.1) #[.string ⟨#[112]⟩,.slice none 0 0,.slice none 0 0,.int .i64 0,.int .i64 0,.slice none 0 0,.slice none 0 0,.int .i64 0,.int .i64 0,.string ⟨#[]⟩,.slice none 0 0,.int .i64 0,.int .i64 0,.string ⟨#[]⟩,.slice none 0 0,.string ⟨#[]⟩,.int .i64 0,.slice none 0 0,.int .i64 0,.int .i64 0,.slice none 0 0,.slice none 0 0,.int .i64 0,.int .i64 0,.string ⟨#[]⟩,.slice none 0 0,.int .i64 0,.int .i64 0,.string ⟨#[]⟩,.slice none 0 0,.string ⟨#[]⟩,.int .i64 0,.slice none 0 0,.slice none 0 0] (r.zipIdx 1)=(.string ⟨#[112]⟩ :: r).toArray:=fold_put r [.string ⟨#[112]⟩] ([.slice none 0 0,.slice none 0 0] ++ (zAc ++ (zAc ++ [.slice none 0 0]))) (by rw[hlen];rfl)
 clear hck
 go_enter Tryz.func21,Tryz.ntmps21
 go_wp2_with (first | go_skip | (refine wpList_load_w (by kernel_rfl) 71 _ rfl ⟨w.heap.size,0,none⟩ rfl (.string ⟨#[112]⟩ :: r) _ HX.out Tryz.underlying71 rfl (by rw[HL.out];kernel_rfl) ?_))
 refine HC.out.mono ?_
 rintro r2 w2 ⟨rfl,hb⟩
 have HB:=Lib.hid (HA2.out.trans (hb.mono HA2.out.size))
 clear hb HC
 by_cases hk:k=0
 ·have hv:erV k= .nilIface:=if_pos hk
  have hz:(k == 0)=true:=by rw[hk];rfl
  have HZ:=Lib.hid hz
  rw[hv]
  clear hv hz hk
  go_wp2_with fail
  go_ret
  exact⟨by rw[HZ.out];rfl,HB.out⟩
 ·have hv:erV k= .iface 72 (.int .i64 k):=if_neg hk
  have hz:(k == 0)=false:=beq_eq_false_iff_ne.2 hk
  have HZ:=Lib.hid hz
  rw[hv]
  clear hv hz hk
  go_wp2_with fail
  go_ret
  exact⟨by rw[HZ.out];rfl,HB.out⟩
end
section
open Go.RowKit
def getR (hs:List HC)(k:Key):Int×Bool:=match hs.find? (fun c=>decide (hkey c=k))with | some c=>(c.v,true) | none=>(0,false)
def getE (b:Bool):Value:=if b=true then .nilIface else .iface 72 (.int .i64 15)
theorem getR_no {hs:List HC}{k:Key}(h:∀j,j<hs.length→hkey (hs.getD j hc0)≠k):getR hs k=(0,false):=by
 have:hs.find? (fun c=>decide (hkey c=k))=none:=List.find?_eq_none.2 fun c hc=>by
  obtain⟨i,hi,rfl⟩:=List.getElem_of_mem hc
  have:=h i hi
  rw[List.getD_eq_getElem?_getD,List.getElem?_eq_getElem hi]at this
  simpa using this
 unfold getR
 rw[this]
theorem getR_yes:∀ {hs:List HC} {k:Key} {i:Nat},Stand hs→i<hs.length→hkey (hs.getD i hc0)=k→getR hs k=((hs.getD i hc0).v,true):=by
 intro hs k i hst hi hk
 unfold getR
 have e:hs.find? (fun c=>decide (hkey c=k))=some (hs.getD i hc0):=by
  rw[List.find?_eq_some_iff_getElem]
  refine⟨by simpa using hk,i,hi,by rw[List.getD_eq_getElem?_getD,List.getElem?_eq_getElem hi];rfl,fun j hj=> ?_⟩
  have hlt:=hst.lt hj hi
  rw[hk]at hlt
  have hj2:j<hs.length:=by omega
  have:hs.getD j hc0=hs[j]:=by rw[List.getD_eq_getElem?_getD,List.getElem?_eq_getElem hj2];rfl
  rw[this]at hlt
  have hne:=kl_ne hlt
  simpa using hne
 rw[e]
theorem hget_any (hs:List HC)(ad:Option Addr)(n cap:Nat)(a:Int)(f:ByteArray)(w:World)(hn:hs.length=n)(hnm:n≤1000000)(hl:HLies w.heap.size w ad hs)(hst:Stand hs):
 ValAll 60 #[.slice ad n cap,.int .i64 a,.string f] (.tuple #[.int .i64 (getR hs (a,f.toList)).1,getE (getR hs (a,f.toList)).2]) w:=fun W hW=>
 (get_any hs ad n cap a f W hn hnm ((hl.below hW).mono hW.size) hst).mono fun e w' ⟨x,er,he,hi,hb⟩=>by
   refine⟨?_,hb⟩
   rw[he]
   cases hi with
   | yes i hi hk=>rw[getR_yes hst hi hk];rfl
   | no hno=>rw[getR_no hno];rfl
end
section
open Go.RowKit
structure TkO (g:Nat)(vv cv:Value)(ys:List HC)(hb:Bool)(ob:Option Nat)(w:World):Prop where
 c0:w.cell? ⟨g,0,none⟩=some vv
 c1:w.cell? ⟨g,1,none⟩=some cv
 row:∃v,w.cell? ⟨g,2,none⟩=some v∧SRow (g+1) ys v w∧v.ownBlock=ob
 c3:w.cell? ⟨g,3,none⟩=some (.bool hb)
 fz:∀o,w.frozen? ⟨g,o,none⟩=false
theorem TkO.lt {g:Nat}{vv cv:Value}{ys:List HC}{hb:Bool}{ob:Option Nat}{w:World}(h:TkO g vv cv ys hb ob w):g<w.heap.size:=block_lt_of_cell (a:=⟨g,0,none⟩) h.c0
theorem TkO.ob_lt {g:Nat}{vv cv:Value}{ys:List HC}{hb:Bool}{ob:Option Nat}{w:World}(h:TkO g vv cv ys hb ob w):∀k,ob=some k→g<k∧k<w.heap.size:=by
 obtain⟨v,_,hr,rfl⟩:=h.row
 intro k hk
 have:=World.ownsRow.lt hr k hk
 omega
theorem TkO.below {g:Nat}{vv cv:Value}{ys:List HC}{hb:Bool}{ob:Option Nat}{w w':World}(h:TkO g vv cv ys hb ob w)(hB:Below w.heap.size w w'):TkO g vv cv ys hb ob w':=by
 obtain⟨v,h2,hr,ho⟩:=h.row
 have hg:=h.lt
 exact⟨(hB.cell (p:=⟨g,0,none⟩) hg).trans h.c0,(hB.cell (p:=⟨g,1,none⟩) hg).trans h.c1,⟨v,(hB.cell (p:=⟨g,2,none⟩) hg).trans h2,hr.below hB,ho⟩,(hB.cell (p:=⟨g,3,none⟩) hg).trans h.c3,fun o=>(hB.frozen (p:=⟨g,o,none⟩) hg).trans (h.fz o)⟩
theorem TkO.hold {g:Nat}{vv cv:Value}{ys:List HC}{hb:Bool}{ob:Option Nat}{w:World}(h:TkO g vv cv ys hb ob w)(b:Bool):TkO g vv cv ys b ob (w.setCell ⟨g,3,none⟩ (.bool b)):=by
 obtain⟨v,h2,hr,ho⟩:=h.row
 refine⟨?_, ?_,⟨v, ?_, ?_,ho⟩,World.cell?_setCell_same _ _ _ h.c3,fun o=>by rw[World.frozen?_setCell];exact h.fz o⟩
 ·rw[World.cell?_setCell_other _ _ _ _ (by simp)];exact h.c0
 ·rw[World.cell?_setCell_other _ _ _ _ (by simp)];exact h.c1
 ·rw[World.cell?_setCell_other _ _ _ _ (by simp)];exact h2
 ·exact ownsRow_setCell_below hr (by simp) _
structure Kp (g:Nat)(ob:Option Nat)(w w':World):Prop where
 low:Below g w w'
 cell:∀p:Addr,p.block<w.heap.size→p.block≠g→some p.block≠ob→w'.cell? p=w.cell? p
theorem Kp.of {g:Nat}{ob:Option Nat}{w w':World}(h:Below w.heap.size w w')(hg:g<w.heap.size):Kp g ob w w':=
 ⟨h.mono (Nat.le_of_lt hg),fun p hp _ _=>h.cell hp⟩
def New (ob ob':Option Nat)(n:Nat):Prop:=ob'=ob∨∃k,ob'=some k∧n≤k
theorem New.trans {a b c:Option Nat}{n m:Nat}(h:New a b n)(h2:New b c m)(hm:n≤m):New a c n:=by
 rcases h2 with rfl | ⟨k,rfl,hk⟩
 ·exact h
 ·exact .inr ⟨k,rfl,Nat.le_trans hm hk⟩
theorem Kp.trans {g:Nat}{ob ob1:Option Nat}{w w1 w2:World}(h:Kp g ob w w1)(h2:Kp g ob1 w1 w2)(hn:New ob ob1 w.heap.size):Kp g ob w w2:=
 ⟨h.low.trans h2.low,fun p hp hg ho=>(h2.cell p (Nat.lt_of_lt_of_le hp h.low.size) hg (by
   rcases hn with rfl | ⟨k,rfl,hk⟩
   ·exact ho
   ·intro e
    have:=Option.some.inj e
    omega)).trans (h.cell p hp hg ho)⟩
theorem Kp.below {g:Nat}{ob:Option Nat}{w w1 w2:World}(h:Kp g ob w w1)(h2:Below w1.heap.size w1 w2)(hg:g<w.heap.size):Kp g ob w w2:=
 h.trans (Kp.of h2 (Nat.lt_of_lt_of_le hg h.low.size)) (.inl rfl)
theorem Kp.set {g:Nat}{ob:Option Nat}{w w1:World}(h:Kp g ob w w1)(o:Nat)(u:Value):Kp g ob w (w1.setCell ⟨g,o,none⟩ u):=
 ⟨h.low.setCell (Nat.le_refl _) u,fun p hp hg ho=>by
   have hne:p≠⟨g,o,none⟩:=fun e=>hg (by rw[e])
   have hb:(w1.setCell ⟨g,o,none⟩ u).cell? p=w1.cell? p:=World.cell?_of_block (Below.heap_setCell _ _ _ _ hg)
   exact hb.trans (h.cell p hp hg ho)⟩
def TkEnd (g:Nat)(vv cv:Value)(ys:List HC)(hb:Bool)(ob:Option Nat)(z:Bool)(w:World)(r:Ending)(w':World):Prop:=
 r= .returned (.bool z)∧Kp g ob w w'∧∃ob',TkO g vv cv ys hb ob' w'∧New ob ob' w.heap.size
theorem TkO.push {g:Nat}{vv cv:Value}{ys:List HC}{hb:Bool}{ob:Option Nat}{w:World}(h:TkO g vv cv ys hb ob w)(c:HC)(hsz:ys.length≤1000000):
 ∃v gg cap w',w.cell? ⟨g,2,none⟩=some v∧(∀ty,(Builtin.append_ #[52,52] ty #[v,.slice (some ⟨w.heap.size,0,none⟩) 1 1]).run Tryz.prog (w.alloc (.cells #[.int .i64 c.a,.string c.f,.int .i64 c.v] 62))= .ok (.slice (some ⟨gg,0,none⟩) (ys.length+1) cap) w')∧
  w'.cell? ⟨g,2,none⟩=some v∧w'.frozen? ⟨g,2,none⟩=false∧Kp g ob w w'∧∃ob',TkO g vv cv (ys ++ [c]) hb ob' (w'.setCell ⟨g,2,none⟩ (.slice (some ⟨gg,0,none⟩) (ys.length+1) cap))∧New ob ob' w.heap.size:=by
 obtain⟨v,h2,hown,ho⟩:=h.row
 obtain⟨i0,hi,hz0,hz1,hz2⟩:=info_parts Tryz.infoShare
 have hg:=h.lt
 have hol:=h.ob_lt
 have hA:Below w.heap.size w (w.alloc (.cells #[.int .i64 c.a,.string c.f,.int .i64 c.v] 62)):=box_low
 have hown2:=hown.below hA
 have hl:HLies (w.alloc (.cells #[.int .i64 c.a,.string c.f,.int .i64 c.v] 62)).heap.size (w.alloc (.cells #[.int .i64 c.a,.string c.f,.int .i64 c.v] 62)) (some ⟨w.heap.size,0,none⟩) [c]:=(hlies_new w [c] 62).mono (by simp)
 obtain⟨b,off,hadr,_,hc⟩:=hl.cells (by simp)
 obtain⟨rfl,rfl⟩:w.heap.size=b∧0=off:=by simpa using hadr
 have hH:(w.alloc (.cells #[.int .i64 c.a,.string c.f,.int .i64 c.v] 62)).heap.size=w.heap.size+1:=by simp
 obtain⟨gg,cap,w',hr,h1,hgr,hat,hlt⟩:=run_append_lies (P:=Tryz.prog) (w:=w.alloc (.cells #[.int .i64 c.a,.string c.f,.int .i64 c.v] 62)) 52 0 (g+1) 62 i0 _ 3 32 Tryz.underlying52 hi hz0 hz1 hz2 rfl (by decide) v ys.length (hcells ys) hown2 ⟨w.heap.size,0,none⟩ 1 1 (hcells [c]) (by rw[hcells_len];simp)
  (fun j u hu=>by rw[show(⟨w.heap.size,0,none⟩:Addr).add j=⟨w.heap.size,0+j,none⟩ by unfold Addr.add;split<;>simp_all];exact hc j u hu) (hcells_one [c]) (by omega) (by unfold maxLen;omega) (by omega) (by omega) _ hH
 have hgo:some g≠ob:=fun e=>by have:=hol g e.symm;omega
 rw[ho]at hgr hat
 have hblk:∀k,k<w.heap.size→some k≠ob→w'.heap[k]? =w.heap[k]? :=fun k hk hko=>(hgr.block k (by omega) hko).trans (hA.block k hk)
 have hcell:∀o,w'.cell? ⟨g,o,none⟩=w.cell? ⟨g,o,none⟩:=fun o=>World.cell?_of_block (hblk g hg hgo)
 have hfz:∀o,w'.frozen? ⟨g,o,none⟩=w.frozen? ⟨g,o,none⟩:=fun o=>World.frozen?_of_block (hblk g hg hgo)
 have hK:Kp g ob w w':=⟨(hA.mono (Nat.le_of_lt hg)).grown hgr (by omega) (fun k hk=>by have:=hol k hk;omega),fun p hp hpg hpo=>World.cell?_of_block (hblk p.block hp hpo)⟩
 have hgg:some gg=ob∨gg=w.heap.size+1:=by rcases hat with e | e;exact .inl e.symm;exact .inr e
 have hggn:gg≠g:=fun e=>by rcases hgg with h' | h';exact hgo (by rw[←e];exact h');omega
 refine⟨v,gg,cap,w',h2,fun ty=>hr,(hcell 2).trans h2,(hfz 2).trans (h.fz 2),hK,some gg,⟨?_, ?_,⟨_,World.cell?_setCell_same _ _ _ ((hcell 2).trans h2), ?_,rfl⟩, ?_,fun o=>by rw[World.frozen?_setCell];exact(hfz o).trans (h.fz o)⟩, ?_⟩
 ·rw[World.cell?_setCell_other _ _ _ _ (by simp)];exact(hcell 0).trans h.c0
 ·rw[World.cell?_setCell_other _ _ _ _ (by simp)];exact(hcell 1).trans h.c1
 ·refine ownsRow_setCell_below ?_ (by simp) _
  rw[List.length_append,hcells_append]
  exact h1
 ·rw[World.cell?_setCell_other _ _ _ _ (by simp)];exact(hcell 3).trans h.c3
 ·rcases hgg with e | e
  ·exact .inl e
  ·exact .inr ⟨gg,rfl,by omega⟩
end
section
open Go.RowKit
theorem share_box (g:Nat)(av ah:Option Addr)(nv nh c1 c2:Nat)(ys:List HC)(hb:Bool)(ob:Option Nat)(k N addr val gv:Int)(f:ByteArray)(z0 z1 gb:Bool)(ca ce cx:List Value)(w:World)
 (ht:TkO g (.slice av nv c1) (.slice ah nh c2) ys hb ob w) (hsz:ys.length≤1000000) (hlen:ca.length=15) (q0:ca[0]? =some (.int .i64 k)) (p1:Part ca 4 ce) (p2:Part ca 8 cx) (q12:ca[12]? =some (.string f)) (q13:ca[13]? =some (.int .i64 N)) (l1:ce.length=4) (l2:cx.length=4)
 (x0:∀W,Below g w W→ValAll 22 #[.agg ce.toArray,.slice av nv c1] (.tuple #[.int .i64 addr,.bool z0]) W)
 (x1:∀W,Below g w W→ValAll 22 #[.agg cx.toArray,.slice av nv c1] (.tuple #[.int .i64 val,.bool z1]) W)
 (x2:∀W,Below g w W→ValAll 60 #[.slice ah nh c2,.int .i64 addr,.string f] (.tuple #[.int .i64 gv,getE gb]) W):
 Calls Tryz.prog 41 #[.pointer (some ⟨g,0,none⟩),.agg ca.toArray] w (TkEnd g (.slice av nv c1) (.slice ah nh c2) (ys ++ [⟨addr,f,N⟩]) (hb && (gb && (k == 2 || gv == val))) ob (z0 && z1) w):=by
 generalize hx:(hb && (gb && (k == 2 || gv == val)))=hbb
 have HRB:=Lib.hid hx
 clear hx
 have hg:=ht.lt
 have hol:=ht.ob_lt
 have HA:Hid (Below w.heap.size w (w.alloc (.cells ca.toArray 33))):=box_low
 have HB0:Hid (Below (w.alloc (.cells ca.toArray 33)).heap.size (w.alloc (.cells ca.toArray 33)) (w.alloc (.cells ca.toArray 33))):=Below.refl _ _
 have HT0:=Lib.hid (ht.below HA.out)
 have HK0:=Lib.hid (Kp.of HA.out hg (ob:=ob))
 have HGA:Hid (Below g w (w.alloc (.cells ca.toArray 33))):=Lib.hid (HA.out.mono (Nat.le_of_lt hg))
 have HG:=Lib.hid hg
 have HSZ:=Lib.hid hsz
 have HNE:Hid (¬w.heap.size=g):=Lib.hid (by omega)
 have HNO:Hid (some w.heap.size≠ob):=Lib.hid (fun e=>by have:=hol _ e.symm;omega)
 have HLT:Hid (w.heap.size<(w.alloc (.cells ca.toArray 33)).heap.size):=Lib.hid (by simp)
 have P1:=Lib.hid (fun W (hb:Below (w.alloc (.cells ca.toArray 33)).heap.size (w.alloc (.cells ca.toArray 33)) W)=>box_part p1 hb)
 have P2:=Lib.hid (fun W (hb:Below (w.alloc (.cells ca.toArray 33)).heap.size (w.alloc (.cells ca.toArray 33)) W)=>box_part p2 hb)
 have Q0:=Lib.hid (fun W (hb:Below (w.alloc (.cells ca.toArray 33)).heap.size (w.alloc (.cells ca.toArray 33)) W)=>box_at q0 hb)
 have Q12:=Lib.hid (fun W (hb:Below (w.alloc (.cells ca.toArray 33)).heap.size (w.alloc (.cells ca.toArray 33)) W)=>box_at q12 hb)
 have Q13:=Lib.hid (fun W (hb:Below (w.alloc (.cells ca.toArray 33)).heap.size (w.alloc (.cells ca.toArray 33)) W)=>box_at q13 hb)
 have L0:=Lib.hid hlen
 have L1:=Lib.hid l1
 have L2:=Lib.hid l2
 have X0:=Lib.hid x0
 have X1:=Lib.hid x1
 have X2:=Lib.hid x2
 clear ht hsz hlen q0 p1 p2 q12 q13 l1 l2 x0 x1 x2 hg hol
 have r0:=(X0.out _ HGA.out).reg
 have k0:=cell_regrown HT0.out.c0
 go_enter Tryz.func41,Tryz.ntmps41
 go_wp2_with fail
 refine wp_region_quiet_below (by kernel_rfl) (by kernel_rfl) ?_
 repeat (first | (go_big_quiet_step (with_reducible exact r0 _ _)) | (refine wpQuiet_load_c 24 _ rfl ⟨w.heap.size,4,none⟩ rfl ce _ P1.out rfl Tryz.underlying24 rfl (by rw[L1.out];kernel_rfl) _ (by simp only[Act.put,List.setIfInBounds_toArray,List.set_cons_succ,List.set_cons_zero];rfl) ?_))
 refine wpQuiet_nil ?_
 intro w9 hw'
 obtain⟨⟨dq,osq⟩,hw''⟩:=hw'
 have H1:Hid (Below (w.alloc (.cells ca.toArray 33)).heap.size (w.alloc (.cells ca.toArray 33)) w9):=Lib.hid (by rw[hw''];exact below_regrown _ dq osq)
 clear hw'' r0 k0
 have HT1:=Lib.hid (HT0.out.below H1.out)
 have HG1:=Lib.hid (HGA.out.trans (H1.out.mono (Nat.le_trans (Nat.le_of_lt HG.out) HA.out.size)))
 have r1:=(X1.out _ HG1.out).reg
 have k1:=cell_regrown HT1.out.c0
 go_wp2_with fail
 refine wp_region_quiet_below (by kernel_rfl) (by kernel_rfl) ?_
 repeat (first | (go_big_quiet_step (with_reducible exact r1 _ _)) | (refine wpQuiet_load_c 24 _ rfl ⟨w.heap.size,8,none⟩ rfl cx _ (fun W hW=>P2.out W (H1.out.trans (hW.mono H1.out.size))) rfl Tryz.underlying24 rfl (by rw[L2.out];kernel_rfl) _ (by simp only[Act.put,List.setIfInBounds_toArray,List.set_cons_succ,List.set_cons_zero];rfl) ?_))
 refine wpQuiet_nil ?_
 intro w8 hw'
 obtain⟨⟨dq,osq⟩,hw''⟩:=hw'
 have H2:Hid (Below (w.alloc (.cells ca.toArray 33)).heap.size (w.alloc (.cells ca.toArray 33)) w8):=Lib.hid (by rw[hw''];exact H1.out.trans ((below_regrown _ dq osq).mono H1.out.size))
 have HT2:Hid (TkO g (.slice av nv c1) (.slice ah nh c2) ys hb ob w8):=Lib.hid (by rw[hw''];exact HT1.out.below (below_regrown _ dq osq))
 clear hw'' r1 k1
 have HD:Hid (Below (w.alloc (.cells ca.toArray 33)).heap.size (w.alloc (.cells ca.toArray 33)) w8.drew):=Lib.hid H2.out.drew
 have HK2:Hid (Kp g ob w w8.drew):=Lib.hid (HK0.out.below HD.out (HG.out))
 obtain⟨v5,gg,cp6,w6,hc5,hrun,hc6,hf6,hk6,ob6,ht6,hn6⟩:=(HT2.out.below (Below.refl _ w8).drew).push ⟨addr,f,N⟩ HSZ.out
 have HRUN:Hid (∀ty,(Builtin.append_ #[52,52] ty #[v5,.slice (some ⟨w8.heap.size,0,none⟩) 1 1]).run Tryz.prog (w8.alloc (.cells #[.int .i64 addr,.string f,.int .i64 N] 62)).drew= .ok (.slice (some ⟨gg,0,none⟩) (ys.length+1) cp6) w6):=fun ty=>hrun ty
 have HK6:=Lib.hid ((HK2.out.trans hk6 (.inl rfl)).set 2 (.slice (some ⟨gg,0,none⟩) (ys.length+1) cp6))
 have HK6D:=Lib.hid (hk6.set 2 (.slice (some ⟨gg,0,none⟩) (ys.length+1) cp6))
 have HT6:=Lib.hid ht6
 have HN6:Hid (New ob ob6 w.heap.size):=Lib.hid (by
  have hs:w.heap.size≤w8.drew.heap.size:=Nat.le_trans HA.out.size HD.out.size
  rcases hn6 with e | ⟨k,e,h⟩
  ·exact .inl e
  ·exact .inr ⟨k,e,Nat.le_trans hs h⟩)
 have q12:w8.cell? ⟨w.heap.size,12,none⟩=some (.string f):=Q12.out _ H2.out
 have q13:w8.cell? ⟨w.heap.size,13,none⟩=some (.int .i64 N):=Q13.out _ H2.out
 have q2:w8.cell? ⟨g,2,none⟩=some v5:=hc5
 have q2a:(w8.alloc (.cells #[.int .i64 addr,.string f,.int .i64 N] 62)).cell? ⟨g,2,none⟩=some v5:=((box_low (w:=w8)).cell (p:=⟨g,2,none⟩) HT2.out.lt).trans q2
 have q2b:(w8.alloc (.cells #[.int .i64 addr,.string f,.int .i64 N] 62)).drew.cell? ⟨g,2,none⟩=some v5:=q2a
 have HB12:=Lib.hid (fun o (v:Value) (h:w8.drew.cell? ⟨w.heap.size,o,none⟩=some v)=>(HK6D.out.cell ⟨w.heap.size,o,none⟩ (Nat.lt_of_lt_of_le HLT.out HD.out.size) HNE.out HNO.out).trans h)
 have HB6:Hid (w6.cell? ⟨w.heap.size,12,none⟩=some (.string f)∧w6.cell? ⟨w.heap.size,13,none⟩=some (.int .i64 N)):=Lib.hid ⟨(hk6.cell ⟨w.heap.size,12,none⟩ (Nat.lt_of_lt_of_le HLT.out HD.out.size) HNE.out HNO.out).trans q12,(hk6.cell ⟨w.heap.size,13,none⟩ (Nat.lt_of_lt_of_le HLT.out HD.out.size) HNE.out HNO.out).trans q13⟩
 have HQ12:=Lib.hid q12
 have HQ0:=Lib.hid (Q0.out _ HD.out)
 have hg2:¬w.heap.size=g:=HNE.out
 have hg3:¬g=w.heap.size:=fun e=>HNE.out e.symm
 clear hrun hk6 ht6 hn6 hc5
 go_wp2_with fail
 go_region_law ((refine step_append_run (by rfl) _ _ _ (by rfl) _ _ _ w6 (by rfl) (by rfl) HRUN.out ?_))
 all_goals (
  clear q12 q13 q2 q2a q2b hg2 hg3 hc6 hf6 HRUN HB6
  generalize w6.setCell ⟨g,2,none⟩ (.slice (some ⟨gg,0,none⟩) (ys.length+1) cp6)=w5 at*
  have r4:=(X2.out _ HK6.out.low).reg
  have k4:=cell_regrown HT6.out.c1
  have k5:=cell_regrown (HB12.out 12 _ HQ12.out)
  go_wp2_with fail
  refine wp_region_quiet_below (by kernel_rfl) (by kernel_rfl) ?_
  repeat (go_big_quiet_step (with_reducible exact r4 _ _))
  refine wpQuiet_nil ?_
  intro w4 hw'
  obtain⟨⟨dq,osq⟩,hw''⟩:=hw'
  have H4:Hid (Below w5.heap.size w5 w4):=Lib.hid (by rw[hw''];exact below_regrown _ dq osq)
  clear hw'' r4 k4 k5
  have HT4:=Lib.hid (HT6.out.below H4.out)
  have HK4:=Lib.hid (HK6.out.below H4.out HG.out)
  have q0:w4.cell? ⟨w.heap.size,0,none⟩=some (.int .i64 k):=(H4.out.cell (p:=⟨w.heap.size,0,none⟩) (Nat.lt_of_lt_of_le HLT.out (Nat.le_trans HD.out.size HK6D.out.low.size))).trans (HB12.out 0 _ HQ0.out)
  have q3:=HT4.out.c3
  have f3:=HT4.out.fz 3
  have HE:Hid (∀b,b=hbb→Kp g ob w (w4.setCell ⟨g,3,none⟩ (.bool b))∧TkO g (.slice av nv c1) (.slice ah nh c2) (ys ++ [⟨addr,f,N⟩]) hbb ob6 (w4.setCell ⟨g,3,none⟩ (.bool b))):=Lib.hid fun b e=>by rw[e];exact⟨HK4.out.set 3 _,HT4.out.hold hbb⟩
  have hg2:¬w.heap.size=g:=HNE.out
  have hg3:¬g=w.heap.size:=fun e=>HNE.out e.symm
  clear HK4 HT4
  generalize hgv:(gv == val)=b3
  generalize hkk:(k == 2)=b4
  have HGV:=Lib.hid hgv
  have HKK:=Lib.hid hkk
  cases hb with
  | false=>
    have e0:false=hbb:=by rw[←HRB.out];rfl
    have HE2:=Lib.hid (HE.out _ e0)
    clear hgv hkk HE HRB e0
    cases gb<;>cases b4<;>(
     cases z0<;>(
      go_wp2_with fail
      go_ret
      exact⟨rfl,HE2.out.1,ob6,HE2.out.2,HN6.out⟩))
  | true=>
  cases gb with
  | false=>
    have e0:false=hbb:=by rw[←HRB.out];rfl
    have HE2:=Lib.hid (HE.out _ e0)
    clear hgv hkk HE HRB e0
    simp only[show getE false= .iface 72 (.int .i64 15) from rfl]
    cases b4<;>(
     cases z0<;>(
      go_wp2_with fail
      go_ret
      exact⟨rfl,HE2.out.1,ob6,HE2.out.2,HN6.out⟩))
  | true=>
  simp only[show getE true= .nilIface from rfl]
  cases b4 with
  | true=>
    have e0:true=hbb:=by rw[←HRB.out,HKK.out];rfl
    have HE2:=Lib.hid (HE.out _ e0)
    clear hgv HE HRB e0
    cases z0<;>(
     go_wp2_with fail
     go_ret
     exact⟨rfl,HE2.out.1,ob6,HE2.out.2,HN6.out⟩)
  | false=>
    have e0:b3=hbb:=by rw[←HRB.out,HKK.out,HGV.out];rfl
    have HE2:=Lib.hid (HE.out _ e0)
    clear HE HRB e0
    cases z0<;>(
     go_wp2_with fail
     go_ret
     exact⟨rfl,HE2.out.1,ob6,HE2.out.2,HN6.out⟩))
end
section
open Go.RowKit
theorem chk_parts {nm:ByteArray→Bool}{n:Nat}{q:QT}(h:chkQ nm n [q]=0):snQ nm n q=true:=by
 unfold chkQ at h
 cases h1:([q]:List QT).any dpQ with
 | true=>rw[h1]at h;cases h
 | false=>
   rw[h1]at h
   cases h2:([q]:List QT).all (snQ nm n)with
   | false=>rw[h2]at h;cases h
   | true=>simpa using h2
theorem chk_set {nm:ByteArray→Bool}{n:Nat}{e:ET}(h:chkQ nm (n+3) [pOf zA [sSet e]]=0):snE nm (n+2) e=true:=by
 have h1:=chk_parts h
 unfold snQ pOf at h1
 simp only[Bool.and_eq_true,List.all_cons,List.all_nil,Bool.and_true]at h1
 have h2:=h1.2
 unfold snS at h2
 rw[if_pos (show 0≤(sSet e).p.kind∧(sSet e).p.kind<10 from⟨by show(0:Int)≤1;decide,by show(1:Int)<10;decide⟩)]at h2
 simp only[Bool.and_eq_true]at h2
 have h3:=h2.1.1.1.1.1.1.1.2
 rw[show hasB (sSet e).p.kind.toNat 8=true from by show hasB 1 8=true;decide]at h3
 exact h3
theorem chk_ast {nm:ByteArray→Bool}{n:Nat}{c:CT}(h:chkQ nm (n+3) [pOf zA [sAst c]]=0):snC nm (n+2) c=true:=by
 have h1:=chk_parts h
 unfold snQ pOf at h1
 simp only[Bool.and_eq_true,List.all_cons,List.all_nil,Bool.and_true]at h1
 have h2:=h1.2
 unfold snS at h2
 rw[if_pos (show 0≤(sAst c).p.kind∧(sAst c).p.kind<10 from⟨by show(0:Int)≤8;decide,by show(8:Int)<10;decide⟩)]at h2
 simp only[Bool.and_eq_true]at h2
 have h3:=h2.1.1.1.1.1.2
 rw[show hasB (sAst c).p.kind.toNat 32=true from by show hasB 8 32=true;decide]at h3
 exact h3
theorem chk_pre {nm:ByteArray→Bool}{n:Nat}{a:AT}(h:chkQ nm n [pOf a []]=0):snA nm n a=true:=by
 have h1:=chk_parts h
 unfold snQ pOf at h1
 simp only[Bool.and_eq_true]at h1
 exact h1.1.1.2
theorem proc_rel {n:Nat}{W:World}{ca:List Value}{a:AT}{v:Value}{l:List ST}(x:ByteArray)(hx:x.size≤maxLen)(ha:(assnSh (n+3)).rel (Pak.Lo W.heap.size) W ca a)(hl:Pak.Slot (stmtSh (n+3)) (Pak.Lo W.heap.size) W v l):(procSh (n+3)).rel (Pak.Lo W.heap.size) W ([.string x,.slice none 0 0,.slice none 0 0] ++ (ca ++ (zAc ++ [v]))) ⟨x,[],[],a,zA,l⟩:=
 ⟨_,_,ca,zAc,v,rfl,hx,slot_nil _ _ _,slot_nil _ _ _,ha,zA_rel (n+1) _ _,hl⟩
theorem refused_any (n:Nat)(a:AT)(ca:List Value)(v:Value)(l:List ST)(x0:Value)(w:World)(ha:(assnSh (n+3)).rel (Pak.Lo w.heap.size) w ca a)(hl:Pak.Slot (stmtSh (n+3)) (Pak.Lo w.heap.size) w v l)(hL:Laid w):
 Calls Tryz.prog 21 #[.agg (x0 :: (.slice none 0 0 :: .slice none 0 0 :: (ca ++ (zAc ++ [v])))).toArray] w (SoundEnd (!(chkQ nmB (n+3) [pOf a l] == 0)) w):=by
 have hla:=((assnSh (n+3)).len ha).trans (assnSh_k _)
 refine refused_box x0 _ _ w (by simp[hla,zAc]) (fun u hu=> ?_) (fun W g hW hg=> ?_)
 ·simp only[List.mem_cons,List.mem_append,List.not_mem_nil,or_false]at hu
  rcases hu with rfl | rfl | hu | hu | rfl
  ·rfl
  ·rfl
  ·exact(assnSh (n+3)).one ha u hu
  ·exact(assnSh (n+3)).one (zA_rel (n+1) (fun _=>True) w) u hu
  ·exact hl.one
 ·have hp:(procSh (n+3)).rel (Pak.Lo W.heap.size) W (.string ⟨#[112]⟩ :: .slice none 0 0 :: .slice none 0 0 :: (ca ++ (zAc ++ [v]))) (pOf a l):=proc_rel ⟨#[112]⟩ (by decide) (rel_low ha hW) (hl.keep (fun b (h:b<w.heap.size)=>Nat.lt_of_lt_of_le h hW.size) (fun b o (h:b<w.heap.size)=>hW.cell (p:=⟨b,o,none⟩) h))
  exact check_prog nmLaw (n+3) [pOf a l] (some ⟨g,0,none⟩) 1 W (sits_block hg (show g<W.heap.size from(Array.getElem?_eq_some_iff.1 hg).1) hp) (hL.up hW)
def exR (k:Int)(x:Int×Bool):Int×Int:=if k=0 then(if x.2=true then(x.1,0) else(0,3)) else(0,5)
def coR (k:Int)(x:Bool×Bool):Bool×Int:=if k=0 then(if x.2=true then(x.1,0) else(false,3)) else(false,5)
theorem expr_box (k0 m0:Int)(s0:ByteArray)(a0:Option Addr)(l0 c0:Nat)(vs:Value)(k:Int)(v:Int)(b:Bool)(w:World)
 (hr:Calls Tryz.prog 21 #[.agg #[.string ⟨#[]⟩,.slice none 0 0,.slice none 0 0,.int .i64 0,.int .i64 0,.slice none 0 0,.slice none 0 0,.int .i64 0,.int .i64 0,.string ⟨#[]⟩,.slice none 0 0,.int .i64 0,.int .i64 0,.string ⟨#[]⟩,.slice none 0 0,.string ⟨#[]⟩,.int .i64 0,.slice none 0 0,.int .i64 0,.int .i64 0,.slice none 0 0,.slice none 0 0,.int .i64 0,.int .i64 0,.string ⟨#[]⟩,.slice none 0 0,.int .i64 0,.int .i64 0,.string ⟨#[]⟩,.slice none 0 0,.string ⟨#[]⟩,.int .i64 0,.slice none 0 0,.slice (some ⟨w.heap.size+1,0,none⟩) 1 1]] ((w.alloc (.cells #[.int .i64 k0,.int .i64 m0,.string s0,.slice a0 l0 c0] 24)).alloc (.cells #[.int .i64 1,.string ⟨#[120]⟩,.string ⟨#[]⟩,.string ⟨#[]⟩,.int .i64 k0,.int .i64 m0,.string s0,.slice a0 l0 c0,.int .i64 0,.int .i64 0,.string ⟨#[]⟩,.slice none 0 0,.int .i64 0,.slice none 0 0,.slice none 0 0,.int .i64 0,.int .i64 0,.slice none 0 0,.slice none 0 0,.int .i64 0,.int .i64 0,.string ⟨#[]⟩,.slice none 0 0,.int .i64 0,.int .i64 0,.string ⟨#[]⟩,.slice none 0 0,.string ⟨#[]⟩,.int .i64 0,.slice none 0 0,.slice none 0 0,.slice none 0 0,.slice none 0 0,.slice none 0 0,.slice none 0 0] 37)) (SoundEnd (!(k == 0)) ((w.alloc (.cells #[.int .i64 k0,.int .i64 m0,.string s0,.slice a0 l0 c0] 24)).alloc (.cells #[.int .i64 1,.string ⟨#[120]⟩,.string ⟨#[]⟩,.string ⟨#[]⟩,.int .i64 k0,.int .i64 m0,.string s0,.slice a0 l0 c0,.int .i64 0,.int .i64 0,.string ⟨#[]⟩,.slice none 0 0,.int .i64 0,.slice none 0 0,.slice none 0 0,.int .i64 0,.int .i64 0,.slice none 0 0,.slice none 0 0,.int .i64 0,.int .i64 0,.string ⟨#[]⟩,.slice none 0 0,.int .i64 0,.int .i64 0,.string ⟨#[]⟩,.slice none 0 0,.string ⟨#[]⟩,.int .i64 0,.slice none 0 0,.slice none 0 0,.slice none 0 0,.slice none 0 0,.slice none 0 0,.slice none 0 0] 37))))
 (hv:k=0→ValAll 22 #[.agg #[.int .i64 k0,.int .i64 m0,.string s0,.slice a0 l0 c0],vs] (.tuple #[.int .i64 v,.bool b]) w):
 Calls Tryz.prog 8 #[.agg #[.int .i64 k0,.int .i64 m0,.string s0,.slice a0 l0 c0],vs] w fun r w'=>r= .returned (.tuple #[.int .i64 (exR k (v,b)).1,erV (exR k (v,b)).2])∧Below w.heap.size w w':=by
 have HA:Hid (Below w.heap.size w (w.alloc (.cells #[.int .i64 k0,.int .i64 m0,.string s0,.slice a0 l0 c0] 24))):=box_low
 have HA1:Hid (Below w.heap.size w ((w.alloc (.cells #[.int .i64 k0,.int .i64 m0,.string s0,.slice a0 l0 c0] 24)).alloc (.cells #[.int .i64 1,.string ⟨#[120]⟩,.string ⟨#[]⟩,.string ⟨#[]⟩,.int .i64 k0,.int .i64 m0,.string s0,.slice a0 l0 c0,.int .i64 0,.int .i64 0,.string ⟨#[]⟩,.slice none 0 0,.int .i64 0,.slice none 0 0,.slice none 0 0,.int .i64 0,.int .i64 0,.slice none 0 0,.slice none 0 0,.int .i64 0,.int .i64 0,.string ⟨#[]⟩,.slice none 0 0,.int .i64 0,.int .i64 0,.string ⟨#[]⟩,.slice none 0 0,.string ⟨#[]⟩,.int .i64 0,.slice none 0 0,.slice none 0 0,.slice none 0 0,.slice none 0 0,.slice none 0 0,.slice none 0 0] 37))):=Lib.hid (HA.out.alloc (by simp) _)
 have HB1:Hid (Below (w.alloc (.cells #[.int .i64 k0,.int .i64 m0,.string s0,.slice a0 l0 c0] 24)).heap.size (w.alloc (.cells #[.int .i64 k0,.int .i64 m0,.string s0,.slice a0 l0 c0] 24)) ((w.alloc (.cells #[.int .i64 k0,.int .i64 m0,.string s0,.slice a0 l0 c0] 24)).alloc (.cells #[.int .i64 1,.string ⟨#[120]⟩,.string ⟨#[]⟩,.string ⟨#[]⟩,.int .i64 k0,.int .i64 m0,.string s0,.slice a0 l0 c0,.int .i64 0,.int .i64 0,.string ⟨#[]⟩,.slice none 0 0,.int .i64 0,.slice none 0 0,.slice none 0 0,.int .i64 0,.int .i64 0,.slice none 0 0,.slice none 0 0,.int .i64 0,.int .i64 0,.string ⟨#[]⟩,.slice none 0 0,.int .i64 0,.int .i64 0,.string ⟨#[]⟩,.slice none 0 0,.string ⟨#[]⟩,.int .i64 0,.slice none 0 0,.slice none 0 0,.slice none 0 0,.slice none 0 0,.slice none 0 0,.slice none 0 0] 37))):=box_low
 have HC:=Lib.hid hr
 have HV:=Lib.hid hv
 have Q:=Lib.hid (fun W (hb:Below (w.alloc (.cells #[.int .i64 k0,.int .i64 m0,.string s0,.slice a0 l0 c0] 24)).heap.size (w.alloc (.cells #[.int .i64 k0,.int .i64 m0,.string s0,.slice a0 l0 c0] 24)) W)=>And.intro (box_at (cs:=[.int .i64 k0,.int .i64 m0,.string s0,.slice a0 l0 c0]) (o:=0) rfl hb) (And.intro (box_at (cs:=[.int .i64 k0,.int .i64 m0,.string s0,.slice a0 l0 c0]) (o:=1) rfl hb) (And.intro (box_at (cs:=[.int .i64 k0,.int .i64 m0,.string s0,.slice a0 l0 c0]) (o:=2) rfl hb) (box_at (cs:=[.int .i64 k0,.int .i64 m0,.string s0,.slice a0 l0 c0]) (o:=3) rfl hb))))
 clear hr hv
 go_enter Tryz.func8,Tryz.ntmps8
 go_wp2_with fail
 refine HC.out.mono ?_
 rintro r w2 ⟨rfl,hb⟩
 have HB:=Lib.hid (HA1.out.trans (hb.mono HA1.out.size))
 have HBB:=Lib.hid (HB1.out.trans (hb.mono HB1.out.size))
 clear hb HC
 by_cases hk:k=0
 ·have HV2:=Lib.hid ((HV.out hk).at HB.out)
  have HR:Hid (exR k (v,b)=if b=true then(v,0) else(0,3)):=if_pos hk
  have hz:(!(k == 0))=false:=by rw[hk];rfl
  rw[hz]
  obtain⟨q0,q1,q2,q3⟩:=Q.out _ HBB.out
  clear HV hz hk Q
  go_wp2_with fail
  refine HV2.out.mono ?_
  rintro r w3 ⟨rfl,hb⟩
  have HB3:=Lib.hid (HB.out.trans (hb.mono HB.out.size))
  clear hb HV2 q0 q1 q2 q3
  cases b with
  | true=>
    go_wp2_with fail
    go_ret2
    exact⟨by rw[HR.out];rfl,HB3.out⟩
  | false=>
    go_wp2_with fail
    go_ret2
    exact⟨by rw[HR.out];rfl,HB3.out⟩
 ·have HR:Hid (exR k (v,b)=(0,5)):=if_neg hk
  have hz:(!(k == 0))=true:=by rw[beq_eq_false_iff_ne.2 hk];rfl
  rw[hz]
  clear HV hz hk Q
  go_wp2_with fail
  go_ret2
  exact⟨by rw[HR.out];rfl,HB.out⟩
theorem cond_box (k0:Int)(a0:Option Addr)(l0 c0:Nat)(b0:Option Addr)(h0 d0:Nat)(vs:Value)(k:Int)(v:Bool)(b:Bool)(w:World)
 (hr:Calls Tryz.prog 21 #[.agg #[.string ⟨#[]⟩,.slice none 0 0,.slice none 0 0,.int .i64 0,.int .i64 0,.slice none 0 0,.slice none 0 0,.int .i64 0,.int .i64 0,.string ⟨#[]⟩,.slice none 0 0,.int .i64 0,.int .i64 0,.string ⟨#[]⟩,.slice none 0 0,.string ⟨#[]⟩,.int .i64 0,.slice none 0 0,.int .i64 0,.int .i64 0,.slice none 0 0,.slice none 0 0,.int .i64 0,.int .i64 0,.string ⟨#[]⟩,.slice none 0 0,.int .i64 0,.int .i64 0,.string ⟨#[]⟩,.slice none 0 0,.string ⟨#[]⟩,.int .i64 0,.slice none 0 0,.slice (some ⟨w.heap.size+1,0,none⟩) 1 1]] ((w.alloc (.cells #[.int .i64 k0,.slice a0 l0 c0,.slice b0 h0 d0] 27)).alloc (.cells #[.int .i64 8,.string ⟨#[]⟩,.string ⟨#[]⟩,.string ⟨#[]⟩,.int .i64 0,.int .i64 0,.string ⟨#[]⟩,.slice none 0 0,.int .i64 0,.int .i64 0,.string ⟨#[]⟩,.slice none 0 0,.int .i64 k0,.slice a0 l0 c0,.slice b0 h0 d0,.int .i64 0,.int .i64 0,.slice none 0 0,.slice none 0 0,.int .i64 0,.int .i64 0,.string ⟨#[]⟩,.slice none 0 0,.int .i64 0,.int .i64 0,.string ⟨#[]⟩,.slice none 0 0,.string ⟨#[]⟩,.int .i64 0,.slice none 0 0,.slice none 0 0,.slice none 0 0,.slice none 0 0,.slice none 0 0,.slice none 0 0] 37)) (SoundEnd (!(k == 0)) ((w.alloc (.cells #[.int .i64 k0,.slice a0 l0 c0,.slice b0 h0 d0] 27)).alloc (.cells #[.int .i64 8,.string ⟨#[]⟩,.string ⟨#[]⟩,.string ⟨#[]⟩,.int .i64 0,.int .i64 0,.string ⟨#[]⟩,.slice none 0 0,.int .i64 0,.int .i64 0,.string ⟨#[]⟩,.slice none 0 0,.int .i64 k0,.slice a0 l0 c0,.slice b0 h0 d0,.int .i64 0,.int .i64 0,.slice none 0 0,.slice none 0 0,.int .i64 0,.int .i64 0,.string ⟨#[]⟩,.slice none 0 0,.int .i64 0,.int .i64 0,.string ⟨#[]⟩,.slice none 0 0,.string ⟨#[]⟩,.int .i64 0,.slice none 0 0,.slice none 0 0,.slice none 0 0,.slice none 0 0,.slice none 0 0,.slice none 0 0] 37))))
 (hv:k=0→ValAll 23 #[.agg #[.int .i64 k0,.slice a0 l0 c0,.slice b0 h0 d0],vs] (.tuple #[.bool v,.bool b]) w):
 Calls Tryz.prog 9 #[.agg #[.int .i64 k0,.slice a0 l0 c0,.slice b0 h0 d0],vs] w fun r w'=>r= .returned (.tuple #[.bool (coR k (v,b)).1,erV (coR k (v,b)).2])∧Below w.heap.size w w':=by
 have HA:Hid (Below w.heap.size w (w.alloc (.cells #[.int .i64 k0,.slice a0 l0 c0,.slice b0 h0 d0] 27))):=box_low
 have HA1:Hid (Below w.heap.size w ((w.alloc (.cells #[.int .i64 k0,.slice a0 l0 c0,.slice b0 h0 d0] 27)).alloc (.cells #[.int .i64 8,.string ⟨#[]⟩,.string ⟨#[]⟩,.string ⟨#[]⟩,.int .i64 0,.int .i64 0,.string ⟨#[]⟩,.slice none 0 0,.int .i64 0,.int .i64 0,.string ⟨#[]⟩,.slice none 0 0,.int .i64 k0,.slice a0 l0 c0,.slice b0 h0 d0,.int .i64 0,.int .i64 0,.slice none 0 0,.slice none 0 0,.int .i64 0,.int .i64 0,.string ⟨#[]⟩,.slice none 0 0,.int .i64 0,.int .i64 0,.string ⟨#[]⟩,.slice none 0 0,.string ⟨#[]⟩,.int .i64 0,.slice none 0 0,.slice none 0 0,.slice none 0 0,.slice none 0 0,.slice none 0 0,.slice none 0 0] 37))):=Lib.hid (HA.out.alloc (by simp) _)
 have HB1:Hid (Below (w.alloc (.cells #[.int .i64 k0,.slice a0 l0 c0,.slice b0 h0 d0] 27)).heap.size (w.alloc (.cells #[.int .i64 k0,.slice a0 l0 c0,.slice b0 h0 d0] 27)) ((w.alloc (.cells #[.int .i64 k0,.slice a0 l0 c0,.slice b0 h0 d0] 27)).alloc (.cells #[.int .i64 8,.string ⟨#[]⟩,.string ⟨#[]⟩,.string ⟨#[]⟩,.int .i64 0,.int .i64 0,.string ⟨#[]⟩,.slice none 0 0,.int .i64 0,.int .i64 0,.string ⟨#[]⟩,.slice none 0 0,.int .i64 k0,.slice a0 l0 c0,.slice b0 h0 d0,.int .i64 0,.int .i64 0,.slice none 0 0,.slice none 0 0,.int .i64 0,.int .i64 0,.string ⟨#[]⟩,.slice none 0 0,.int .i64 0,.int .i64 0,.string ⟨#[]⟩,.slice none 0 0,.string ⟨#[]⟩,.int .i64 0,.slice none 0 0,.slice none 0 0,.slice none 0 0,.slice none 0 0,.slice none 0 0,.slice none 0 0] 37))):=box_low
 have HC:=Lib.hid hr
 have HV:=Lib.hid hv
 have Q:=Lib.hid (fun W (hb:Below (w.alloc (.cells #[.int .i64 k0,.slice a0 l0 c0,.slice b0 h0 d0] 27)).heap.size (w.alloc (.cells #[.int .i64 k0,.slice a0 l0 c0,.slice b0 h0 d0] 27)) W)=>And.intro (box_at (cs:=[.int .i64 k0,.slice a0 l0 c0,.slice b0 h0 d0]) (o:=0) rfl hb) (And.intro (box_at (cs:=[.int .i64 k0,.slice a0 l0 c0,.slice b0 h0 d0]) (o:=1) rfl hb) (box_at (cs:=[.int .i64 k0,.slice a0 l0 c0,.slice b0 h0 d0]) (o:=2) rfl hb)))
 clear hr hv
 go_enter Tryz.func9,Tryz.ntmps9
 go_wp2_with fail
 refine HC.out.mono ?_
 rintro r w2 ⟨rfl,hb⟩
 have HB:=Lib.hid (HA1.out.trans (hb.mono HA1.out.size))
 have HBB:=Lib.hid (HB1.out.trans (hb.mono HB1.out.size))
 clear hb HC
 by_cases hk:k=0
 ·have HV2:=Lib.hid ((HV.out hk).at HB.out)
  have HR:Hid (coR k (v,b)=if b=true then(v,0) else(false,3)):=if_pos hk
  have hz:(!(k == 0))=false:=by rw[hk];rfl
  rw[hz]
  obtain⟨q0,q1,q2⟩:=Q.out _ HBB.out
  clear HV hz hk Q
  go_wp2_with fail
  refine HV2.out.mono ?_
  rintro r w3 ⟨rfl,hb⟩
  have HB3:=Lib.hid (HB.out.trans (hb.mono HB.out.size))
  clear hb HV2 q0 q1 q2
  cases b with
  | true=>
    go_wp2_with fail
    go_ret2
    exact⟨by rw[HR.out];rfl,HB3.out⟩
  | false=>
    go_wp2_with fail
    go_ret2
    exact⟨by rw[HR.out];rfl,HB3.out⟩
 ·have HR:Hid (coR k (v,b)=(false,5)):=if_neg hk
  have hz:(!(k == 0))=true:=by rw[beq_eq_false_iff_ne.2 hk];rfl
  rw[hz]
  clear HV hz hk Q
  go_wp2_with fail
  go_ret2
  exact⟨by rw[HR.out];rfl,HB.out⟩
end
end Go.Proofs.YtfinhpfjokpcfaaGreatDoor
